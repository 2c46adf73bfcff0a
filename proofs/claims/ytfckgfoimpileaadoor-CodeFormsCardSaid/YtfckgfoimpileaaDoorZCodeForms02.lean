/- Parts of one proof, in their order. -/
import Derived.Test.YtfckgfoimpileaaDoorZCodeForms01
import Derived.Test.YtfckgfoimpileaaDoorRows
import Derived.Shelf.Spec.TrailingZeros
import Derived.Lib.LaidU8
import Derived.Lib.LaidTab
import Derived.Lib.ItoaNum
import Derived.Deep.Strs
import Derived.OpenShut
import Derived.BigGuardPart
import Derived.Lib.TrailingZeros
import Derived.Lib.Join
import Derived.RangeFuncNested
import Derived.RangeFuncBound
import Derived.RangeFuncCalls
import Derived.RangeFuncLeaves
import Derived.RangeFuncFrom
import Derived.RangeFuncBox
import Derived.Shelf.Abstract
import Derived.Shelf.RegionOpen
import Derived.WalkKit
import Derived.OwnWalkIn
import Derived.TacticsInMore
import Derived.LoopNIn
import Derived.LoopIn
import Derived.Shelf.Strings.OnBuilder
import Derived.Shelf.Strconv.Itoa3
import Derived.Shelf.LaysM
import Derived.Test.YtfckgfoimpileaaDoorProg
import Derived.RegionIn
/- math/bits.TrailingZeros32 over its table. Condition: the table is as the library lays it. -/
namespace Go.Proofs.YtfckgfoimpileaaDoor
open Go.RowKit

set_option maxHeartbeats 1000000 in
set_option maxRecDepth 20000 in
theorem Tz_core (x k idx : Nat) (w : World) (hx0 : ((x : Int) == 0) = false)
    (key : bits BinOp.and IntKind.u32 (x : Int) (-(x : Int) % 4294967296) * 125613361 % 4294967296 / 134217728 = (idx : Int))
    (hi : idx < 32) (hk : k < 32) (hcell : w.cell? ⟨1, idx, none⟩ = some (.int .u8 k)) :
    Calls Tryd.prog 81 #[.int .u32 x] w fun e w' => e = .returned (.int .i64 k) ∧ w' = w := by
  go_enter Tryd.func81, Tryd.ntmps81
  go_wp2_with (simp only [key])
  go_ret
  exact ⟨rfl, rfl⟩
set_option maxHeartbeats 1000000 in
set_option maxRecDepth 20000 in
theorem Tz_zero (w : World) : Calls Tryd.prog 81 #[.int .u32 0] w fun e w' => e = .returned (.int .i64 32) ∧ w' = w := by
  go_enter Tryd.func81, Tryd.ntmps81
  go_wp2
  go_ret
  exact ⟨rfl, rfl⟩
/-- The table lies as the library lays it. -/
abbrev Tab (w : World) : Prop := TabAt 1 Lib.deBruijn32tab w
theorem Tz_calls (x : Nat) (hx : x < 4294967296) (w : World) (hT : Tab w) :
    Calls Tryd.prog 81 #[.int .u32 x] w fun e w' => e = .returned (.int .i64 (Lib.ctz 32 x)) ∧ w' = w := by
  by_cases hx0 : x = 0
  · subst hx0
    exact Tz_zero w
  · obtain ⟨hlow, hk⟩ := Lib.lowest_bit 32 x hx0 hx
    obtain ⟨hi, htab⟩ := Lib.deBruijn32_at _ hk
    have hcell := hT _ hi
    rw [htab] at hcell
    exact Tz_core x _ _ w (by simp; omega) (tz32_key x _ hx hx0 hlow) hi hk hcell
theorem Tab.ext {w w' : World} (h : Tab w) (hb : Below w.heap.size w w') : Tab w' := fun j hj => by
  have h1 := h j hj
  exact (hb.cell (World.block_lt_of_cell? w _ h1)).trans h1
end Go.Proofs.YtfckgfoimpileaaDoor
/- The table of the operations, as the row lays it: what the walks want of it. No condition. -/
namespace Go.Proofs.YtfckgfoimpileaaDoor
open Go.RowKit

/-- Each operation: its word, what it uses, what N is. -/
def shapeT : List (List UInt8 × Nat × Nat) := [([115, 116, 111, 112], 0, 0), ([115, 101, 116], 1, 1), ([108, 111, 97, 100], 1, 3), ([115, 116, 111, 114, 101], 1, 3), ([108, 111, 97, 100, 97, 116], 3, 3), ([115, 116, 111, 114, 101, 97, 116], 3, 3), ([97, 100, 100], 7, 0), ([115, 117, 98], 7, 0), ([109, 117, 108], 7, 0), ([100, 105, 118], 7, 0), ([109, 111, 100], 7, 0), ([97, 110, 100], 7, 0), ([111, 114], 7, 0), ([120, 111, 114], 7, 0), ([115, 104, 108], 7, 0), ([115, 104, 114], 7, 0), ([108, 101, 115, 115], 7, 0), ([101, 113, 117, 97, 108], 7, 0), ([115, 101, 108, 101, 99, 116], 7, 0), ([98, 114, 97, 110, 99, 104], 1, 4), ([106, 117, 109, 112], 0, 4), ([109, 111, 118, 101], 1, 5), ([114, 101, 118, 101, 97, 108], 18, 3), ([114, 111, 108, 108], 1, 2), ([115, 104, 117, 102, 102, 108, 101], 8, 3), ([99, 108, 111, 99, 107], 1, 0)]
def wordAt (j : Nat) : List UInt8 := (shapeT.getD j ([], 0, 0)).1
def useAt (j : Nat) : Nat := (shapeT.getD j ([], 0, 0)).2.1
def numAt (j : Nat) : Nat := (shapeT.getD j ([], 0, 0)).2.2
/-- The table lies. -/
def CTab (w : World) : Prop := ∀ j, j < 26 → w.cell? ⟨0, j * 3, none⟩ = some (.string ⟨(wordAt j).toArray⟩) ∧ w.cell? ⟨0, j * 3 + 1, none⟩ = some (.int .u8 (useAt j : Int)) ∧ w.cell? ⟨0, j * 3 + 2, none⟩ = some (.int .u8 (numAt j : Int))
theorem CTab.ext {w w' : World} (h : CTab w) (hb : Below w.heap.size w w') : CTab w' := fun j hj => by
  obtain ⟨h0, h1, h2⟩ := h j hj
  exact ⟨(hb.cell (World.block_lt_of_cell? w _ h0)).trans h0, (hb.cell (World.block_lt_of_cell? w _ h1)).trans h1, (hb.cell (World.block_lt_of_cell? w _ h2)).trans h2⟩
theorem CTab.drew {w : World} (h : CTab w) : CTab w.drew := h
theorem trod_str {H : Type} {enc : TypeId × Value → H} {P : Program} {w : World} {base : Nat} {spare : Nat → Bool} {held : Bool} {fuel : Nat} {t : TypeId} {cs : List Value} {x : DataW H × List MemPlace}
    (ht : P.underlying t = some .string) (h : DataW.trod enc P w base spare held fuel t cs = some x) : ∃ s : ByteArray, cs = [.string s] ∧ x = (.lit (.string s.data.toList), []) := by
  cases fuel with
  | zero => simp [DataW.trod] at h
  | succ n =>
    unfold DataW.trod at h
    rw [ht] at h
    split at h <;> simp_all
theorem one_at {cs : List Value} {k o c : Nat} {v : Value} (h : (((cs.drop k).take c).drop o).take 1 = [v]) : cs[k + o]? = some v := by
  have h1 := congrArg (·[0]?) h
  simp only [List.getElem?_take, List.getElem?_drop, List.getElem?_cons_zero] at h1
  split at h1
  · split at h1
    · simpa using h1
    · simp at h1
  · simp at h1
theorem shape_under : ∃ f0 f1 f2 : Field, Tryd.prog.underlying 100 = some (.struct #[f0, f1, f2]) ∧ Tryd.prog.underlying f0.type = some .string ∧ Tryd.prog.underlying f1.type = some (.int .u8) ∧ Tryd.prog.underlying f2.type = some (.int .u8) ∧ f0.offset = 0 ∧ f1.offset = 1 ∧ f2.offset = 2 ∧ Tryd.prog.cellsOf f0.type = 1 ∧ Tryd.prog.cellsOf f1.type = 1 ∧ Tryd.prog.cellsOf f2.type = 1 :=
  ⟨_, _, _, Tryd.underlying100, by kernel_rfl, by kernel_rfl, by kernel_rfl, rfl, rfl, rfl, by kernel_rfl, by kernel_rfl, by kernel_rfl⟩
theorem shapes_data : (Rows.laid_hoodwink_code_shapes : DataW Unit) = .agg (shapeT.map fun r => .agg [.lit (.string r.1), .lit (.int .u8 (r.2.1 : Int)), .lit (.int .u8 (r.2.2 : Int))]) := rfl
theorem ctab_of_reads {W : World} (h : Lib.VarReads Tryd.prog W "hoodwink/code.shapes" Rows.laid_hoodwink_code_shapes) : CTab W := by
  obtain ⟨g, t, cs, fuel, p, hg, ht, hv, hd⟩ := h
  obtain rfl := Option.some.inj ((show Tryd.prog.globalNamed "hoodwink/code.shapes" = some 0 by kernel_rfl).symm.trans hg)
  obtain rfl := Option.some.inj ((show (Tryd.prog.globals[0]?).map (·.type) = some 101 by kernel_rfl).symm.trans ht)
  obtain ⟨xs, m, rfl, hx, hl, hxl, hall⟩ := DataW.trod_array Tryd.underlying101 hd
  have hxs : xs.map (·.1) = shapeT.map fun r => (.agg [.lit (.string r.1), .lit (.int .u8 (r.2.1 : Int)), .lit (.int .u8 (r.2.2 : Int))] : DataW Unit) := by
    have h1 : (DataW.agg (shapeT.map fun r => .agg [.lit (.string r.1), .lit (.int .u8 (r.2.1 : Int)), .lit (.int .u8 (r.2.2 : Int))]) : DataW Unit) = .agg (xs.map (·.1)) := shapes_data.symm.trans (congrArg Prod.fst hx)
    exact (DataW.agg.inj h1).symm
  have hc : Tryd.prog.cellsOf 100 = 3 := by kernel_rfl
  rw [hc] at hall
  obtain ⟨f0, f1, f2, hu, u0, u1, u2, o0, o1, o2, c0, c1, c2⟩ := shape_under
  intro j hj
  have hjs : j < shapeT.length := hj
  have hj1 := hall j hj
  obtain ⟨y, hy⟩ : ∃ y, xs[j]? = some y := ⟨_, List.getElem?_eq_getElem (by omega)⟩
  rw [hy] at hj1
  obtain ⟨y0, y1, y2, n, rfl, _, h0, h1, h2⟩ := Go.Deep.trod_struct3 hu hj1
  rw [o0, c0] at h0
  rw [o1, c1] at h1
  rw [o2, c2] at h2
  obtain ⟨s, e0, rfl⟩ := trod_str u0 h0
  obtain ⟨n1, e1, rfl, _⟩ := DataW.trod_int u1 h1
  obtain ⟨n2, e2, rfl, _⟩ := DataW.trod_int u2 h2
  have hr := congrArg (·[j]?) hxs
  simp only [List.getElem?_map, hy, Option.map_some, List.getElem?_eq_getElem hjs, Option.some.injEq, DataW.agg.injEq, List.cons.injEq, DataW.lit.injEq, Lit.string.injEq, Lit.int.injEq, true_and, and_true] at hr
  obtain ⟨r0, r1, r2⟩ := hr
  have hw : wordAt j = s.data.toList := by rw [r0]; simp [wordAt, List.getD, hjs]
  have hu' : (useAt j : Int) = n1 := by rw [r1]; simp [useAt, List.getD, hjs]
  have hn' : (numAt j : Int) = n2 := by rw [r2]; simp [numAt, List.getD, hjs]
  have at_ : ∀ k v, cs.toList[k]? = some v → W.cell? ⟨0, k, none⟩ = some v := fun k v hk => by
    have := World.var?_cell (show Tryd.prog.globalNamed "hoodwink/code.shapes" = some 0 by kernel_rfl) hv k
    rw [this, ← hk]
    simp
  refine ⟨?_, ?_, ?_⟩
  · rw [hw, Array.toArray_toList]; exact at_ (j * 3) _ (one_at (k := j * 3) (o := 0) e0)
  · rw [hu']; exact at_ _ _ (one_at (k := j * 3) (o := 1) e1)
  · rw [hn']; exact at_ _ _ (one_at (k := j * 3) (o := 2) e2)
end Go.Proofs.YtfckgfoimpileaaDoor
/- A variable that lies in a block of one cell: what it reads as, and how that stays. No condition. -/
namespace Go.Proofs.YtfckgfoimpileaaDoor
open Go.RowKit

/-- Block g is one cell, v. -/
def Box (w : World) (g : Nat) (v : Value) (t : TypeId) : Prop := w.heap[g]? = some (.cells #[v] t (0, 0))
namespace Box
variable {w w' : World} {g : Nat} {v : Value} {t : TypeId}
theorem new_ (w : World) (v : Value) (t : TypeId) : Box (w.alloc (.cells #[v] t)) w.heap.size v t := heap_alloc_new w _
theorem lt (h : Box w g v t) : g < w.heap.size := (Array.getElem?_eq_some_iff.1 h).1
theorem cell (h : Box w g v t) : w.cell? ⟨g, 0, none⟩ = some v := by
  have := cell_of_row w g 0 _ _ _ h
  simpa using this
theorem frozen (h : Box w g v t) : w.frozen? ⟨g, 0, none⟩ = false := frozen_of_row w g 0 _ _ h
theorem below {B : Nat} (h : Box w g v t) (hb : Below B w w') (hg : g < B) : Box w' g v t := (hb.block g hg).trans h
theorem ext (h : Box w g v t) (hb : Below w.heap.size w w') : Box w' g v t := (hb.block g h.lt).trans h
theorem alloc (h : Box w g v t) (o : Obj) : Box (w.alloc o) g v t := (Below.heap_alloc w o g h.lt).trans h
theorem set_ (h : Box w g v t) (u : Value) : Box (w.setCell ⟨g, 0, none⟩ u) g u t := heap_setCell_same w g 0 _ _ u h
theorem other (h : Box w g v t) {p : Addr} (hp : g ≠ p.block) (u : Value) : Box (w.setCell p u) g v t := (heap_setCell_other w p g u hp).trans h
theorem drew (h : Box w g v t) : Box w.drew g v t := h
theorem drewN (h : Box w g v t) (n : Nat) : Box (w.drewN n) g v t := h
theorem mod {S : Nat → Prop} (h : Box w g v t) (hm : Mod S w w') (hs : ¬ S g) : Box w' g v t := (hm.block g h.lt hs).trans h
end Box
end Go.Proofs.YtfckgfoimpileaaDoor
/- What an instruction may be: the small calls of Check. Conditions: the numbers fit. -/
namespace Go.Proofs.YtfckgfoimpileaaDoor
open Go.RowKit

/-- An instruction. -/
structure Cd where
  op : Nat
  a : Nat
  b : Nat
  c : Nat
  n : Int
  m : Nat
structure Cd.Ok (x : Cd) : Prop where
  ho : x.op ≤ 255
  ha : x.a ≤ 255
  hb : x.b ≤ 255
  hc : x.c ≤ 255
  n0 : -2147483648 ≤ x.n
  n1 : x.n ≤ 2147483647
  hm : x.m ≤ 4294967295
def cdA (c : Cd) : Array Value := #[.int .u8 (c.op : Int), .int .u8 (c.a : Int), .int .u8 (c.b : Int), .int .u8 (c.c : Int), .int .i32 c.n, .int .u32 (c.m : Int)]
def regB (b : Nat) (u : Bool) : Bool := b == 0 || (u && decide (b < 8))
def belowB (n many : Int) : Bool := decide (0 ≤ n) && decide (n < many)
def holdsB (cells places players : Int) (k : Nat) (n : Int) : Bool :=
  if k = 1 then true else if k = 2 then decide (1 ≤ n) else if k = 3 then belowB n cells else if k = 4 then belowB n places else if k = 5 then belowB n players else n == 0
def rowB (c : Nat) (cells n : Int) : Bool := decide (1 ≤ c) && (decide (c ≤ 48) && decide ((c : Int) ≤ cells - n))
def uB (j k : Nat) : Bool := (useAt j).testBit k
def fitsB (c : Cd) (cells places players : Int) : Bool :=
  decide (c.op < 26) && (regB c.a (uB c.op 0) && (regB c.b (uB c.op 1) && (holdsB cells places players (numAt c.op) c.n && ((if uB c.op 3 then rowB c.c cells c.n else regB c.c (uB c.op 2)) && (c.m == 0 || uB c.op 4)))))
theorem register_calls (b : Nat) (u : Bool) (w : World) : Calls Tryd.prog 58 #[.int .u8 (b : Int), .bool u] w fun e w' => e = .returned (.bool (regB b u)) ∧ w' = w := by
  by_cases h0 : b = 0
  · subst h0
    go_enter Tryd.func58, Tryd.ntmps58
    go_wp2
    go_ret
    exact ⟨by simp [regB], rfl⟩
  · have e0 : ((b : Int) == 0) = false := by rw [beq_eq_false_iff_ne]; omega
    have hr : regB b u = (u && decide (b < 8)) := by
      unfold regB
      rw [show (b == 0) = false by rw [beq_eq_false_iff_ne]; exact h0, Bool.false_or]
    rw [hr]
    clear hr h0
    cases u with
    | false =>
      go_enter Tryd.func58, Tryd.ntmps58
      go_wp2
      go_ret
      exact ⟨rfl, rfl⟩
    | true =>
      obtain ⟨d, hd⟩ : ∃ d, d = decide (b < 8) := ⟨_, rfl⟩
      have e1 : decide ((b : Int) < 8) = d := by rw [hd]; simp; omega
      rw [← hd]
      clear hd
      go_enter Tryd.func58, Tryd.ntmps58
      go_wp2
      go_ret
      exact ⟨by simp, rfl⟩
theorem below_calls (n many : Int) (w : World) (_h0 : -2147483648 ≤ n) (_h1 : n ≤ 2147483647) : Calls Tryd.prog 76 #[.int .i32 n, .int .i64 many] w fun e w' => e = .returned (.bool (belowB n many)) ∧ w' = w := by
  have hw := IntWalk.i64_in n (by omega)
  by_cases h0 : 0 ≤ n
  · have e0 : decide (n ≥ 0) = true := by simp; omega
    obtain ⟨d, hd⟩ : ∃ d, d = decide (n < many) := ⟨_, rfl⟩
    have e1 := hd.symm
    have hr : belowB n many = d := by rw [hd]; simp [belowB, h0]
    rw [hr]
    clear hr hd h0
    go_enter Tryd.func76, Tryd.ntmps76
    go_wp2
    go_ret
    exact ⟨by simp, rfl⟩
  · have e0 : decide (n ≥ 0) = false := by simp; omega
    have hr : belowB n many = false := by simp [belowB, h0]
    rw [hr]
    clear hr h0
    go_enter Tryd.func76, Tryd.ntmps76
    go_wp2
    go_ret
    exact ⟨by simp, rfl⟩
theorem holds_calls (cells places players : Int) (k : Nat) (n : Int) (w : World) (h0 : -2147483648 ≤ n) (h1 : n ≤ 2147483647) :
    Calls Tryd.prog 59 #[.agg #[.int .i64 cells, .int .i64 places, .int .i64 players], .int .u8 (k : Int), .int .i32 n] w fun e w' => e = .returned (.bool (holdsB cells places players k n)) ∧ Below w.heap.size w w' := by
  have hb := below_alloc1 w (.cells #[.int .i64 cells, .int .i64 places, .int .i64 players] 70)
  have c0 := fun W => below_calls n cells W h0 h1
  have c1 := fun W => below_calls n places W h0 h1
  have c2 := fun W => below_calls n players W h0 h1
  unfold holdsB
  by_cases k1 : k = 1
  · subst k1
    rw [if_pos rfl]
    go_enter Tryd.func59, Tryd.ntmps59
    go_wp2
    go_ret
    exact ⟨by simp, hb⟩
  rw [if_neg k1]
  have e1 : ((k : Int) == 1) = false := by rw [beq_eq_false_iff_ne]; omega
  by_cases k2 : k = 2
  · subst k2
    rw [if_pos rfl]
    obtain ⟨d, hd⟩ : ∃ d, d = decide (1 ≤ n) := ⟨_, rfl⟩
    have ed : decide (n ≥ 1) = d := hd.symm
    rw [← hd]
    clear hd
    go_enter Tryd.func59, Tryd.ntmps59
    go_wp2
    go_ret
    exact ⟨by simp, hb⟩
  rw [if_neg k2]
  have e2 : ((k : Int) == 2) = false := by rw [beq_eq_false_iff_ne]; omega
  by_cases k3 : k = 3
  · subst k3
    rw [if_pos rfl]
    obtain ⟨d, hd⟩ : ∃ d, d = belowB n cells := ⟨_, rfl⟩
    rw [← hd] at c0 ⊢
    clear hd c1 c2 e1 e2
    go_enter Tryd.func59, Tryd.ntmps59
    go_wp2_with fail
    refine (c0 _).mono ?_
    rintro e w' ⟨rfl, hw⟩
    have hw := hw.symm
    subst hw
    go_wp2
    go_ret
    exact ⟨rfl, hb⟩
  rw [if_neg k3]
  have e3 : ((k : Int) == 3) = false := by rw [beq_eq_false_iff_ne]; omega
  by_cases k4 : k = 4
  · subst k4
    rw [if_pos rfl]
    obtain ⟨d, hd⟩ : ∃ d, d = belowB n places := ⟨_, rfl⟩
    rw [← hd] at c1 ⊢
    clear hd c0 c2 e1 e2 e3
    go_enter Tryd.func59, Tryd.ntmps59
    go_wp2_with fail
    refine (c1 _).mono ?_
    rintro e w' ⟨rfl, hw⟩
    have hw := hw.symm
    subst hw
    go_wp2
    go_ret
    exact ⟨rfl, hb⟩
  rw [if_neg k4]
  have e4 : ((k : Int) == 4) = false := by rw [beq_eq_false_iff_ne]; omega
  by_cases k5 : k = 5
  · subst k5
    rw [if_pos rfl]
    obtain ⟨d, hd⟩ : ∃ d, d = belowB n players := ⟨_, rfl⟩
    rw [← hd] at c2 ⊢
    clear hd c0 c1 e1 e2 e3 e4
    go_enter Tryd.func59, Tryd.ntmps59
    go_wp2_with fail
    refine (c2 _).mono ?_
    rintro e w' ⟨rfl, hw⟩
    have hw := hw.symm
    subst hw
    go_wp2
    go_ret
    exact ⟨rfl, hb⟩
  rw [if_neg k5]
  have e5 : ((k : Int) == 5) = false := by rw [beq_eq_false_iff_ne]; omega
  obtain ⟨d, hd⟩ : ∃ d, d = (n == 0) := ⟨_, rfl⟩
  have ed := hd.symm
  rw [← hd]
  clear hd c0 c1 c2
  go_enter Tryd.func59, Tryd.ntmps59
  go_wp2
  go_ret
  exact ⟨by simp, hb⟩
/-- What the bits of an operation's use are. -/
theorem use_bits : ∀ j : Fin 26, (bits .and .u8 (useAt j.val : Int) 1 != 0) = uB j.val 0 ∧ (bits .and .u8 (useAt j.val : Int) 2 != 0) = uB j.val 1 ∧ (bits .and .u8 (useAt j.val : Int) 4 != 0) = uB j.val 2 ∧ (bits .and .u8 (useAt j.val : Int) 8 == 0) = !(uB j.val 3) ∧ (bits .and .u8 (useAt j.val : Int) 16 != 0) = uB j.val 4 := by decide +kernel
/-- Where C counts cells, N is a cell. -/
theorem use_row : ∀ j : Fin 26, uB j.val 3 = true → numAt j.val = 3 := by decide +kernel
end Go.Proofs.YtfckgfoimpileaaDoor
/- Fits: whether an instruction may be. Conditions: the numbers fit; the table of the operations lies. -/
namespace Go.Proofs.YtfckgfoimpileaaDoor
open Go.RowKit

theorem rightC_calls (c : Cd) (hc : c.Ok) (j : Nat) (hj : j < 26) (cells : Int) (_h0 : -9223372036854775808 ≤ cells) (_h1 : cells ≤ 9223372036854775807) (hrow : uB j 3 = true → 0 ≤ c.n ∧ c.n < cells) (w : World) :
    Calls Tryd.prog 60 #[.agg (cdA c), .int .u8 (useAt j : Int), .int .i64 cells] w fun e w' => e = .returned (.bool (if uB j 3 then rowB c.c cells c.n else regB c.c (uB j 2))) ∧ Below w.heap.size w w' := by
  obtain ⟨-, -, b2, b3, -⟩ := use_bits ⟨j, hj⟩
  simp only at b2 b3
  obtain ⟨u, hu⟩ : ∃ u, u = useAt j := ⟨_, rfl⟩
  rw [← hu] at b2 b3 ⊢
  obtain ⟨r3, hr3⟩ : ∃ r3, r3 = uB j 3 := ⟨_, rfl⟩
  obtain ⟨r2, hr2⟩ : ∃ r2, r2 = uB j 2 := ⟨_, rfl⟩
  rw [← hr3] at b3 hrow ⊢
  rw [← hr2] at b2 ⊢
  obtain ⟨-, -, -, hcc, n0, n1, -⟩ := hc
  obtain ⟨op, a, b, cc, n, m⟩ := c
  simp only at hcc n0 n1 hrow ⊢
  unfold cdA
  simp only
  have hb := below_alloc1 w (.cells #[.int .u8 (op : Int), .int .u8 (a : Int), .int .u8 (b : Int), .int .u8 (cc : Int), .int .i32 n, .int .u32 (m : Int)] 33)
  clear hu hr3 hr2 hj
  cases r3 with
  | false =>
    have hR := fun W => register_calls cc r2 W
    simp only [Bool.false_eq_true, if_false]
    obtain ⟨d, hd⟩ : ∃ d, d = regB cc r2 := ⟨_, rfl⟩
    rw [← hd] at hR ⊢
    clear hd
    simp only [Bool.not_false] at b3
    go_enter Tryd.func60, Tryd.ntmps60
    go_wp2_with fail
    refine (hR _).mono ?_
    rintro e w' ⟨rfl, hw⟩
    have hw := hw.symm
    subst hw
    go_wp2
    go_ret
    exact ⟨rfl, hb⟩
  | true =>
    simp only [if_true]
    simp only [Bool.not_true] at b3
    obtain ⟨k0, k1⟩ := hrow rfl
    clear hrow
    have hw := IntWalk.i64_in n (by omega)
    have hw2 := IntWalk.i64_in (cells - n) (by omega)
    have hw3 := IntWalk.i64_in (cc : Int) (by omega)
    unfold rowB
    by_cases c1 : 1 ≤ cc
    · have e1 : decide ((cc : Int) ≥ 1) = true := by simp; omega
      rw [decide_eq_true c1, Bool.true_and]
      by_cases c2 : cc ≤ 48
      · have e2 : decide ((cc : Int) ≤ 48) = true := by simp; omega
        rw [decide_eq_true c2, Bool.true_and]
        obtain ⟨d, hd⟩ : ∃ d, d = decide ((cc : Int) ≤ cells - n) := ⟨_, rfl⟩
        have ed := hd.symm
        rw [← hd]
        clear hd
        go_enter Tryd.func60, Tryd.ntmps60
        go_wp2
        go_ret
        exact ⟨by simp, hb⟩
      · have e2 : decide ((cc : Int) ≤ 48) = false := by simp; omega
        rw [decide_eq_false c2, Bool.false_and]
        go_enter Tryd.func60, Tryd.ntmps60
        go_wp2
        go_ret
        exact ⟨by simp, hb⟩
    · have e1 : decide ((cc : Int) ≥ 1) = false := by simp; omega
      rw [decide_eq_false c1, Bool.false_and]
      go_enter Tryd.func60, Tryd.ntmps60
      go_wp2
      go_ret
      exact ⟨by simp, hb⟩
/-- The table's row, as Fits and Word read it. -/
theorem ctab_at {w : World} (h : CTab w) {j : Nat} (hj : j < 26) : w.cell? ⟨0, j * 3, none⟩ = some (.string ⟨(wordAt j).toArray⟩) ∧ w.cell? ⟨0, j * 3 + 1, none⟩ = some (.int .u8 (useAt j : Int)) ∧ w.cell? ⟨0, j * 3 + 2, none⟩ = some (.int .u8 (numAt j : Int)) := h j hj
set_option maxRecDepth 20000 in
theorem Word_in (j : Nat) (hj : j < 26) (w : World) (hT : CTab w) : Calls Tryd.prog 29 #[.int .u8 (j : Int)] w fun e w' => e = .returned (.string ⟨(wordAt j).toArray⟩) ∧ w' = w := by
  obtain ⟨h0, -, -⟩ := ctab_at hT hj
  have e0 : decide ((j : Int) ≥ 26) = false := by simp; omega
  have e1 : (j : Int) < 26 := by omega
  go_enter Tryd.func29, Tryd.ntmps29
  go_wp2
  go_ret
  exact ⟨rfl, rfl⟩
theorem Word_out (j : Nat) (hj : 26 ≤ j) (w : World) : Calls Tryd.prog 29 #[.int .u8 (j : Int)] w fun e w' => e = .returned (.string ⟨#[]⟩) ∧ w' = w := by
  have e0 : decide ((j : Int) ≥ 26) = true := by simp; omega
  go_enter Tryd.func29, Tryd.ntmps29
  go_wp2
  go_ret
  exact ⟨rfl, rfl⟩
end Go.Proofs.YtfckgfoimpileaaDoor
/- Fits, Check, Right: what a list of instructions may be. Conditions: the numbers fit; the table of the operations lies. -/
namespace Go.Proofs.YtfckgfoimpileaaDoor
open Go.RowKit

theorem alloc3_at (w : World) (A B C : Obj) : (((w.alloc A).alloc B).alloc C).heap[w.heap.size]? = some A ∧ (((w.alloc A).alloc B).alloc C).heap[w.heap.size + 1]? = some B ∧ (((w.alloc A).alloc B).alloc C).heap[w.heap.size + 2]? = some C := by
  have h1 := heap_alloc_new w A
  have h2 := heap_alloc_new (w.alloc A) B
  have h3 := heap_alloc_new ((w.alloc A).alloc B) C
  rw [World.size_alloc, World.size_alloc] at h3
  rw [World.size_alloc] at h2
  refine ⟨?_, ?_, h3⟩
  · rw [Below.heap_alloc _ C _ (by simp; omega), Below.heap_alloc _ B _ (by simp)]; exact h1
  · rw [Below.heap_alloc _ C _ (by simp)]; exact h2
set_option maxHeartbeats 4000000 in
set_option maxRecDepth 20000 in
theorem fits_in (op a b cc : Nat) (n : Int) (m : Nat) (hc : (Cd.mk op a b cc n m).Ok) (h26 : op < 26) (cells places players : Int) (hl0 : -9223372036854775808 ≤ cells) (hl1 : cells ≤ 9223372036854775807) (w : World) (hT : CTab w) :
    Calls Tryd.prog 32 #[.agg #[.int .u8 (op : Int), .int .u8 (a : Int), .int .u8 (b : Int), .int .u8 (cc : Int), .int .i32 n, .int .u32 (m : Int)], .agg #[.int .i64 cells, .int .i64 places, .int .i64 players]] w fun e w' => e = .returned (.bool (fitsB ⟨op, a, b, cc, n, m⟩ cells places players)) ∧ Below w.heap.size w w' := by
  obtain ⟨b0, b1, -, -, b4⟩ := use_bits ⟨op, h26⟩
  have hrw := use_row ⟨op, h26⟩
  simp only at b0 b1 b4 hrw
  obtain ⟨q0, hq0⟩ : ∃ q, q = uB op 0 := ⟨_, rfl⟩
  obtain ⟨q1, hq1⟩ : ∃ q, q = uB op 1 := ⟨_, rfl⟩
  obtain ⟨q4, hq4⟩ : ∃ q, q = uB op 4 := ⟨_, rfl⟩
  have hR1 := fun W => register_calls a q0 W
  have hR2 := fun W => register_calls b q1 W
  have hH := fun W => holds_calls cells places players (numAt op) n W hc.n0 hc.n1
  have hC : holdsB cells places players (numAt op) n = true → ∀ W, _ := fun h W => rightC_calls ⟨op, a, b, cc, n, m⟩ hc op h26 cells hl0 hl1 (fun h3 => by
    rw [hrw h3] at h
    simp only [holdsB, belowB] at h
    simp at h
    exact h) W
  unfold cdA at hC
  simp only at hC
  have hfb : fitsB ⟨op, a, b, cc, n, m⟩ cells places players = (regB a q0 && (regB b q1 && (holdsB cells places players (numAt op) n && ((if uB op 3 = true then rowB cc cells n else regB cc (uB op 2)) && (m == 0 || q4))))) := by
    rw [hq0, hq1, hq4]
    simp only [fitsB]
    rw [decide_eq_true h26, Bool.true_and]
  rw [hfb]
  obtain ⟨p1, hp1⟩ : ∃ p, p = regB a q0 := ⟨_, rfl⟩
  obtain ⟨p2, hp2⟩ : ∃ p, p = regB b q1 := ⟨_, rfl⟩
  obtain ⟨p3, hp3⟩ : ∃ p, p = holdsB cells places players (numAt op) n := ⟨_, rfl⟩
  obtain ⟨p4, hp4⟩ : ∃ p, p = (if uB op 3 = true then rowB cc cells n else regB cc (uB op 2)) := ⟨_, rfl⟩
  obtain ⟨p5, hp5⟩ : ∃ p, p = (m == 0) := ⟨_, rfl⟩
  have e5 : ((m : Int) == 0) = p5 := by rw [hp5, Bool.eq_iff_iff]; simp
  rw [← hp1] at hR1 ⊢
  rw [← hp2] at hR2 ⊢
  rw [← hp3] at hH hC ⊢
  rw [← hp4] at hC ⊢
  rw [← hp5]
  rw [← hq0] at b0
  rw [← hq1] at b1
  rw [← hq4] at b4
  have HC := Lib.hid hC
  clear hfb hp1 hp2 hp3 hp4 hp5 hq0 hq1 hq4 hrw hc hC
  have hT2 := hT.ext (below_alloc2 w (.cells #[.int .u8 (op : Int), .int .u8 (a : Int), .int .u8 (b : Int), .int .u8 (cc : Int), .int .i32 n, .int .u32 (m : Int)] 33) (.cells #[.int .i64 cells, .int .i64 places, .int .i64 players] 70))
  obtain ⟨z0, z1, z2⟩ := ctab_at hT2 h26
  have e0 : decide ((op : Int) ≥ 26) = false := by simp; omega
  have e1 : (op : Int) < 26 := by omega
  have hb := below_alloc3 w (.cells #[.int .u8 (op : Int), .int .u8 (a : Int), .int .u8 (b : Int), .int .u8 (cc : Int), .int .i32 n, .int .u32 (m : Int)] 33) (.cells #[.int .i64 cells, .int .i64 places, .int .i64 players] 70) (.cells #[.string ⟨(wordAt op).toArray⟩, .int .u8 (useAt op : Int), .int .u8 (numAt op : Int)] 100)
  obtain ⟨kA, kR, kS⟩ := alloc3_at w (.cells #[.int .u8 (op : Int), .int .u8 (a : Int), .int .u8 (b : Int), .int .u8 (cc : Int), .int .i32 n, .int .u32 (m : Int)] 33) (.cells #[.int .i64 cells, .int .i64 places, .int .i64 players] 70) (.cells #[.string ⟨(wordAt op).toArray⟩, .int .u8 (useAt op : Int), .int .u8 (numAt op : Int)] 100)
  go_enter Tryd.func32, Tryd.ntmps32
  go_wp2_with fail
  have kS : _ := show (((w.alloc (.cells #[.int .u8 (op : Int), .int .u8 (a : Int), .int .u8 (b : Int), .int .u8 (cc : Int), .int .i32 n, .int .u32 (m : Int)] 33)).alloc (.cells #[.int .i64 cells, .int .i64 places, .int .i64 players] 70)).alloc (.cells #[.string ⟨(wordAt op).toArray⟩, .int .u8 (useAt op : Int), .int .u8 (numAt op : Int)] 100)).heap[w.heap.size + 1 + 1]? = _ from kS
  obtain ⟨wz, hwz⟩ : ∃ wz, wz = ((w.alloc (.cells #[.int .u8 (op : Int), .int .u8 (a : Int), .int .u8 (b : Int), .int .u8 (cc : Int), .int .i32 n, .int .u32 (m : Int)] 33)).alloc (.cells #[.int .i64 cells, .int .i64 places, .int .i64 players] 70)).alloc (.cells #[.string ⟨(wordAt op).toArray⟩, .int .u8 (useAt op : Int), .int .u8 (numAt op : Int)] 100) := ⟨_, rfl⟩
  rw [← hwz] at hb kA kR kS ⊢
  clear hwz z0 z1 z2 e0 e1 hT hT2
  refine (hR1 _).mono ?_
  rintro e w' ⟨rfl, hw⟩
  have hw := hw.symm
  subst hw
  clear hR1 b0
  have a0 := (cell_of_row wz (w.heap.size) 0 _ _ _ kA).trans (show _ = some _ from rfl)
  have a1 := (cell_of_row wz (w.heap.size) 1 _ _ _ kA).trans (show _ = some _ from rfl)
  have a2 := (cell_of_row wz (w.heap.size) 2 _ _ _ kA).trans (show _ = some _ from rfl)
  have a3 := (cell_of_row wz (w.heap.size) 3 _ _ _ kA).trans (show _ = some _ from rfl)
  have a4 := (cell_of_row wz (w.heap.size) 4 _ _ _ kA).trans (show _ = some _ from rfl)
  have a5 := (cell_of_row wz (w.heap.size) 5 _ _ _ kA).trans (show _ = some _ from rfl)
  have r0 := (cell_of_row wz (w.heap.size + 1) 0 _ _ _ kR).trans (show _ = some _ from rfl)
  have r1 := (cell_of_row wz (w.heap.size + 1) 1 _ _ _ kR).trans (show _ = some _ from rfl)
  have r2 := (cell_of_row wz (w.heap.size + 1) 2 _ _ _ kR).trans (show _ = some _ from rfl)
  have s0 := (cell_of_row wz (w.heap.size + 1 + 1) 0 _ _ _ kS).trans (show _ = some _ from rfl)
  have s1 := (cell_of_row wz (w.heap.size + 1 + 1) 1 _ _ _ kS).trans (show _ = some _ from rfl)
  have s2 := (cell_of_row wz (w.heap.size + 1 + 1) 2 _ _ _ kS).trans (show _ = some _ from rfl)
  cases p1 with
  | false =>
    go_wp2
    go_ret
    exact ⟨by simp, hb⟩
  | true =>
    go_wp2_with fail
    refine (hR2 _).mono ?_
    rintro e w' ⟨rfl, hw⟩
    have hw := hw.symm
    subst hw
    clear hR2 b1
    cases p2 with
    | false =>
      go_wp2
      go_ret
      exact ⟨by simp, hb⟩
    | true =>
      go_wp2_with fail
      clear a0 a1 a2 a3 a4 a5 r0 r1 r2 s0 s1 s2
      refine (hH _).mono ?_
      rintro e w5 ⟨rfl, h9⟩
      replace kA := (h9.block _ (Array.getElem?_eq_some_iff.1 kA).1).trans kA
      replace kR := (h9.block _ (Array.getElem?_eq_some_iff.1 kR).1).trans kR
      replace kS := (h9.block _ (Array.getElem?_eq_some_iff.1 kS).1).trans kS
      replace hb := hb.trans (h9.mono hb.size)
      clear h9
      clear hH
      have a0 := (cell_of_row w5 (w.heap.size) 0 _ _ _ kA).trans (show _ = some _ from rfl)
      have a1 := (cell_of_row w5 (w.heap.size) 1 _ _ _ kA).trans (show _ = some _ from rfl)
      have a2 := (cell_of_row w5 (w.heap.size) 2 _ _ _ kA).trans (show _ = some _ from rfl)
      have a3 := (cell_of_row w5 (w.heap.size) 3 _ _ _ kA).trans (show _ = some _ from rfl)
      have a4 := (cell_of_row w5 (w.heap.size) 4 _ _ _ kA).trans (show _ = some _ from rfl)
      have a5 := (cell_of_row w5 (w.heap.size) 5 _ _ _ kA).trans (show _ = some _ from rfl)
      have r0 := (cell_of_row w5 (w.heap.size + 1) 0 _ _ _ kR).trans (show _ = some _ from rfl)
      have r1 := (cell_of_row w5 (w.heap.size + 1) 1 _ _ _ kR).trans (show _ = some _ from rfl)
      have r2 := (cell_of_row w5 (w.heap.size + 1) 2 _ _ _ kR).trans (show _ = some _ from rfl)
      have s0 := (cell_of_row w5 (w.heap.size + 1 + 1) 0 _ _ _ kS).trans (show _ = some _ from rfl)
      have s1 := (cell_of_row w5 (w.heap.size + 1 + 1) 1 _ _ _ kS).trans (show _ = some _ from rfl)
      have s2 := (cell_of_row w5 (w.heap.size + 1 + 1) 2 _ _ _ kS).trans (show _ = some _ from rfl)
      cases p3 with
      | false =>
        go_wp2
        go_ret
        exact ⟨by simp, hb⟩
      | true =>
        have hC := HC.out (by trivial)
        clear HC
        go_wp2_with fail
        clear a0 a1 a2 a3 a4 a5 r0 r1 r2 s0 s1 s2
        refine (hC _).mono ?_
        rintro e w6 ⟨rfl, h9⟩
        replace kA := (h9.block _ (Array.getElem?_eq_some_iff.1 kA).1).trans kA
        replace kR := (h9.block _ (Array.getElem?_eq_some_iff.1 kR).1).trans kR
        replace kS := (h9.block _ (Array.getElem?_eq_some_iff.1 kS).1).trans kS
        replace hb := hb.trans (h9.mono hb.size)
        clear h9
        clear hC
        have a0 := (cell_of_row w6 (w.heap.size) 0 _ _ _ kA).trans (show _ = some _ from rfl)
        have a1 := (cell_of_row w6 (w.heap.size) 1 _ _ _ kA).trans (show _ = some _ from rfl)
        have a2 := (cell_of_row w6 (w.heap.size) 2 _ _ _ kA).trans (show _ = some _ from rfl)
        have a3 := (cell_of_row w6 (w.heap.size) 3 _ _ _ kA).trans (show _ = some _ from rfl)
        have a4 := (cell_of_row w6 (w.heap.size) 4 _ _ _ kA).trans (show _ = some _ from rfl)
        have a5 := (cell_of_row w6 (w.heap.size) 5 _ _ _ kA).trans (show _ = some _ from rfl)
        have r0 := (cell_of_row w6 (w.heap.size + 1) 0 _ _ _ kR).trans (show _ = some _ from rfl)
        have r1 := (cell_of_row w6 (w.heap.size + 1) 1 _ _ _ kR).trans (show _ = some _ from rfl)
        have r2 := (cell_of_row w6 (w.heap.size + 1) 2 _ _ _ kR).trans (show _ = some _ from rfl)
        have s0 := (cell_of_row w6 (w.heap.size + 1 + 1) 0 _ _ _ kS).trans (show _ = some _ from rfl)
        have s1 := (cell_of_row w6 (w.heap.size + 1 + 1) 1 _ _ _ kS).trans (show _ = some _ from rfl)
        have s2 := (cell_of_row w6 (w.heap.size + 1 + 1) 2 _ _ _ kS).trans (show _ = some _ from rfl)
        cases p4 with
        | false =>
          go_wp2
          go_ret
          exact ⟨by simp, hb⟩
        | true =>
          cases p5 with
          | true =>
            go_wp2
            go_ret
            exact ⟨by simp, hb⟩
          | false =>
            go_wp2
            go_ret
            exact ⟨by simp, hb⟩
end Go.Proofs.YtfckgfoimpileaaDoor
/- Numbers that go round, and what of them has come, in plain numbers. No condition beyond those said. -/
namespace Go.Proofs.YtfckgfoimpileaaDoor

open Go in
/-- How many of the lowest bits (of 32) are set in a row. -/
def come (bits : Nat) : Nat := Lib.ctz 32 (4294967295 - bits)
theorem not_testBit {bits : Nat} (h : bits < 4294967296) (i : Nat) : (4294967295 - bits).testBit i = (decide (i < 32) && !bits.testBit i) := by
  have := Nat.testBit_two_pow_sub_succ (n := 32) (x := bits) h i
  rw [show (2 : Nat) ^ 32 - (bits + 1) = 4294967295 - bits by omega] at this
  exact this
open Go in
theorem come_spec {bits : Nat} (h : bits < 4294967296) : come bits ≤ 32 ∧ (∀ i, i < come bits → bits.testBit i = true) ∧ (come bits < 32 → bits.testBit (come bits) = false) := by
  unfold come
  by_cases h0 : 4294967295 - bits = 0
  · have hb : bits = 4294967295 := by omega
    subst hb
    refine ⟨by simp [Lib.ctz], fun i hi => ?_, by simp [Lib.ctz]⟩
    have hi : i < 32 := by simpa [Lib.ctz] using hi
    have := Nat.testBit_two_pow_sub_one 32 i
    simpa [hi] using this
  · have e : Lib.ctz 32 (4294967295 - bits) = Lib.ctzFrom 32 (4294967295 - bits) := by simp [Lib.ctz, h0]
    rw [e]
    obtain ⟨m, hm, hk⟩ := Lib.ctzFrom_spec 32 (4294967295 - bits) (by omega) (by omega)
    obtain ⟨c, hc⟩ : ∃ c, c = Lib.ctzFrom 32 (4294967295 - bits) := ⟨_, rfl⟩
    rw [← hc] at hm hk ⊢
    refine ⟨by omega, fun i hi => ?_, fun _ => ?_⟩
    · have h1 := not_testBit h i
      rw [hm, Nat.testBit_two_pow_mul] at h1
      simp [show ¬ i ≥ c by omega, show i < 32 by omega] at h1
      exact h1
    · have h1 := not_testBit h c
      rw [hm, Nat.testBit_two_pow_mul] at h1
      simp [hk] at h1
      exact h1

/-- How much further on b is than a, all the way round. -/
def toI (a b : Nat) : Int := if (b + 65536 - a) % 65536 < 32768 then (((b + 65536 - a) % 65536 : Nat) : Int) else (((b + 65536 - a) % 65536 : Nat) : Int) - 65536
theorem toI_bounds (a b : Nat) : -32768 ≤ toI a b ∧ toI a b ≤ 32767 := by unfold toI; split <;> omega
theorem toI_eq {a b : Nat} (_ha : a < 65536) (hb : b < 65536) (d : Int) (h1 : -32768 ≤ d) (h2 : d ≤ 32767) : toI a b = d ↔ (b : Int) = (a + d) % 65536 := by
  unfold toI
  split <;> omega
theorem toI_add {a : Nat} (ha : a < 65536) (d : Int) (h1 : -32768 ≤ d) (h2 : d ≤ 32767) : toI a (((a + d) % 65536).toNat) = d := by
  rw [toI_eq ha (by omega) d h1 h2]
  omega
theorem toI_self (a : Nat) (_ha : a < 65536) : toI a a = 0 := by unfold toI; rw [if_pos (by omega)]; omega
theorem toI_zero {a b : Nat} (ha : a < 65536) (hb : b < 65536) : toI a b = 0 ↔ a = b := by
  rw [toI_eq ha hb 0 (by omega) (by omega)]
  omega

/-- Has it come? -/
def hasN (next bits s : Nat) : Bool := decide (toI next s < 0) || (decide (0 < toI next s) && decide (toI next s ≤ 32) && bits.testBit (toI next s - 1).toNat)
/-- It has come: the acks behind it; none, if it had already, or is too far on. -/
def noteN (next bits s : Nat) : Option (Nat × Nat) :=
  if hasN next bits s = true ∨ 32 < toI next s then none
  else if toI next s = 0 then some ((s + 1 + come bits) % 65536, bits / 2 ^ (1 + come bits))
  else some (next, bits ||| 2 ^ (toI next s - 1).toNat)
theorem noteN_lt {next bits s x y : Nat} (hn : next < 65536) (hb : bits < 4294967296) (h : noteN next bits s = some (x, y)) : x < 65536 ∧ y < 4294967296 := by
  unfold noteN at h
  split at h
  · cases h
  · rename_i h0
    split at h
    · injection h with h
      injection h with h1 h2
      exact ⟨by omega, by rw [← h2]; exact Nat.lt_of_le_of_lt (Nat.div_le_self _ _) hb⟩
    · injection h with h
      injection h with h1 h2
      subst h1 h2
      refine ⟨hn, ?_⟩
      have hle : ¬ 32 < toI next s := fun h => h0 (.inr h)
      have h3 : (2 : Nat) ^ (toI next s - 1).toNat < 2 ^ 32 := Nat.pow_lt_pow_right (by omega) (by omega)
      exact Nat.or_lt_two_pow (n := 32) hb h3
theorem hasN_next (next bits : Nat) (hn : next < 65536) : hasN next bits next = false := by
  unfold hasN
  rw [toI_self next hn]
  simp
/-- What was noted is had. -/
theorem hasN_noteN {next bits s x y : Nat} (_hn : next < 65536) (hs : s < 65536) (h : noteN next bits s = some (x, y)) : hasN x y s = true := by
  unfold noteN at h
  split at h
  · cases h
  · rename_i h0
    have hle : ¬ 32 < toI next s := fun h => h0 (.inr h)
    have hnot : ¬ hasN next bits s = true := fun h => h0 (.inl h)
    have hge : ¬ toI next s < 0 := by
      intro h1
      exact hnot (by unfold hasN; simp [h1])
    split at h
    · injection h with h
      injection h with h1 h2
      subst h1
      have hc : come bits ≤ 32 ∨ 32 < come bits := by omega
      have hlt : come bits ≤ 32 := by
        unfold come Go.Lib.ctz
        split
        · omega
        · have : ∀ f x, Go.Lib.ctzFrom f x ≤ f := by
            intro f
            induction f with
            | zero => intro x; simp [Go.Lib.ctzFrom]
            | succ f ih => intro x; unfold Go.Lib.ctzFrom; split; omega; have := ih (x / 2); omega
          exact this 32 _
      have h3 : toI ((s + 1 + come bits) % 65536) s = -1 - (come bits : Int) := by
        rw [toI_eq (by omega) hs _ (by omega) (by omega)]
        omega
      unfold hasN
      rw [h3]
      simp only [Bool.or_eq_true, decide_eq_true_eq]
      left
      omega
    · injection h with h
      injection h with h1 h2
      subst h1 h2
      unfold hasN
      rename_i hne
      rw [Nat.testBit_or, Nat.testBit_two_pow_self]
      simp only [Bool.or_true, Bool.and_true, Bool.or_eq_true, Bool.and_eq_true, decide_eq_true_eq]
      right
      omega
theorem come_le (bits : Nat) (h : bits < 4294967296) : come bits ≤ 32 := (come_spec h).1
/-- What was had is had behind it: half the way round. -/
theorem hasN_old {next bits s x y d : Nat} (hn : next < 65536) (hb : bits < 4294967296) (hs : s < 65536) (hd : d < 32000) (h : noteN next bits s = some (x, y)) :
    hasN x y ((next + 65536 - 1 - d) % 65536) = true := by
  unfold noteN at h
  split at h
  · cases h
  · rename_i h0
    have hle : ¬ 32 < toI next s := fun h => h0 (.inr h)
    have hnot : ¬ hasN next bits s = true := fun h => h0 (.inl h)
    have hge : ¬ toI next s < 0 := by
      intro h1
      exact hnot (by unfold hasN; simp [h1])
    have hc := come_le bits hb
    split at h
    · rename_i he
      rw [toI_zero hn hs] at he
      subst he
      injection h with h
      injection h with h1 h2
      subst h1
      have h3 : toI ((next + 1 + come bits) % 65536) ((next + 65536 - 1 - d) % 65536) = -2 - (come bits : Int) - d := by
        rw [toI_eq (by omega) (by omega) _ (by omega) (by omega)]
        omega
      unfold hasN
      rw [h3]
      simp only [Bool.or_eq_true, decide_eq_true_eq]
      left
      omega
    · injection h with h
      injection h with h1 h2
      subst h1
      have h3 : toI next ((next + 65536 - 1 - d) % 65536) = -1 - (d : Int) := by
        rw [toI_eq (by omega) (by omega) _ (by omega) (by omega)]
        omega
      unfold hasN
      rw [h3]
      simp only [Bool.or_eq_true, decide_eq_true_eq]
      left
      omega
theorem hasN_back {next bits d : Nat} (hn : next < 65536) (hd : d < 32000) : hasN next bits ((next + 65536 - 1 - d) % 65536) = true := by
  have h3 : toI next ((next + 65536 - 1 - d) % 65536) = -1 - (d : Int) := by
    rw [toI_eq (by omega) (by omega) _ (by omega) (by omega)]
    omega
  unfold hasN
  rw [h3]
  simp only [Bool.or_eq_true, decide_eq_true_eq]
  left
  omega
theorem toI_far {next d : Nat} (hn : next < 65536) (hd : d < 32000) : toI next ((next + 33 + d) % 65536) = 33 + d := by
  rw [toI_eq (by omega) (by omega) _ (by omega) (by omega)]
  omega
theorem hasN_far {next bits d : Nat} (hn : next < 65536) (hd : d < 32000) : hasN next bits ((next + 33 + d) % 65536) = false := by
  unfold hasN
  rw [toI_far hn hd]
  simp only [Bool.or_eq_false_iff, Bool.and_eq_false_iff, decide_eq_false_iff_not]
  exact ⟨by omega, .inl (.inr (by omega))⟩
theorem noteN_far {next bits d : Nat} (hn : next < 65536) (hd : d < 32000) : noteN next bits ((next + 33 + d) % 65536) = none := by
  unfold noteN
  rw [if_pos (.inr (by rw [toI_far hn hd]; omega))]
theorem noteN_had {next bits s : Nat} (h : hasN next bits s = true) : noteN next bits s = none := by
  unfold noteN
  rw [if_pos (.inl h)]

/-- The bits in a row of flags, and back. -/
def flags (bits : Nat) : List Bool := (List.range 32).map bits.testBit
@[simp] theorem flags_length (bits : Nat) : (flags bits).length = 32 := by simp [flags]
theorem flags_get (bits k : Nat) (h : k < 32) : (flags bits)[k]? = some (bits.testBit k) := by simp [flags, h]
theorem half_bit (bits k : Nat) : bits / 2 ^ k = 2 * (bits / 2 ^ (k + 1)) + (if bits.testBit k = true then 1 else 0) := by
  rw [Nat.testBit_eq_decide_div_mod_eq, Nat.pow_succ, ← Nat.div_div_eq_div_mul]
  simp only [decide_eq_true_eq]
  split <;> omega
theorem testBit_half (bits j k : Nat) : (bits / 2 ^ j).testBit k = bits.testBit (j + k) := by
  rw [Nat.testBit_div_two_pow, Nat.add_comm]

/-- How many of the first k bits are set. -/
def cnt (bits : Nat) : Nat → Nat
  | 0 => 0
  | k + 1 => cnt bits k + (if bits.testBit k = true then 1 else 0)
theorem cnt_le (bits k : Nat) : cnt bits k ≤ k := by
  induction k with
  | zero => simp [cnt]
  | succ k ih => unfold cnt; split <;> omega
theorem cnt_add (bits a b : Nat) : cnt bits (a + b) = cnt bits a + cnt (bits / 2 ^ a) b := by
  induction b with
  | zero => simp [cnt]
  | succ b ih => rw [← Nat.add_assoc, cnt, cnt, ih, testBit_half]; omega
theorem cnt_mod (bits k : Nat) : ∀ j, j ≤ k → cnt (bits % 2 ^ k) j = cnt bits j := by
  intro j
  induction j with
  | zero => intro _; rfl
  | succ j ih =>
    intro h
    rw [cnt, cnt, ih (by omega), Nat.testBit_mod_two_pow]
    simp [show j < k by omega]
theorem cnt_bytes (x : Nat) (_h : x < 4294967296) : cnt x 32 = cnt (x / 16777216) 8 + cnt (x / 65536 % 256) 8 + cnt (x / 256 % 256) 8 + cnt (x % 256) 8 := by
  rw [show (32 : Nat) = 8 + (8 + (8 + 8)) from rfl, cnt_add, cnt_add, cnt_add, show (256 : Nat) = 2 ^ 8 from rfl, cnt_mod _ 8 8 (by omega), cnt_mod _ 8 8 (by omega), cnt_mod _ 8 8 (by omega)]
  rw [Nat.div_div_eq_div_mul, Nat.div_div_eq_div_mul]
  simp only [← Nat.pow_add]
  simp only [show (16777216 : Nat) = 2 ^ 24 from rfl, show (65536 : Nat) = 2 ^ 16 from rfl]
  simp only [show 8 + 8 = 16 from rfl, show 8 + 16 = 24 from rfl]
  omega

/-- Of numbers from first on, those of L have come. -/
def Came (first : Nat) (L : List Nat) (x y : Nat) : Prop :=
  ∃ m, m ≤ 33 ∧ x = (first + m) % 65536 ∧ y < 4294967296 ∧ (∀ k, k < m → k ∈ L) ∧ m ∉ L ∧ ∀ j, y.testBit j = decide (m + 1 + j ∈ L)
theorem Came.none (first : Nat) (h : first < 65536) : Came first [] first 0 := ⟨0, by omega, by omega, by omega, fun k h => by omega, by simp, fun j => by simp⟩
theorem Came.note {first : Nat} {L : List Nat} {x y : Nat} (_hf : first < 65536) (h : Came first L x y) (hL : ∀ k ∈ L, k < 33) {k : Nat} (hk : k < 33) (hn : k ∉ L) :
    ∃ x' y', noteN x y ((first + k) % 65536) = some (x', y') ∧ Came first (k :: L) x' y' := by
  obtain ⟨m, hm, rfl, hy, hall, hmn, hbit⟩ := h
  have hmk : m ≤ k := by
    rcases Nat.lt_or_ge k m with h | h
    · exact absurd (hall k h) hn
    · exact h
  have hto : toI ((first + m) % 65536) ((first + k) % 65536) = (k : Int) - m := by
    rw [toI_eq (by omega) (by omega) _ (by omega) (by omega)]
    omega
  obtain ⟨c1, c2, c3⟩ := come_spec hy
  by_cases he : m = k
  · subst he
    refine ⟨((first + m) % 65536 + 1 + come y) % 65536, y / 2 ^ (1 + come y), ?_, ?_⟩
    · unfold noteN
      have hno : hasN ((first + m) % 65536) y ((first + m) % 65536) = false := hasN_next _ _ (by omega)
      rw [if_neg (by rw [hno, hto]; rintro (h | h); cases h; omega), if_pos (by omega)]
    · have hpre : ∀ i, i < come y → m + 1 + i ∈ L := fun i hi => by
        have := hbit i
        rw [c2 i hi] at this
        simpa using this.symm
      have hend : m + 1 + come y ∉ L := by
        intro hin
        have h33 := hL _ hin
        have := hbit (come y)
        rw [c3 (by omega)] at this
        simp [hin] at this
      refine ⟨m + 1 + come y, ?_, by omega, ?_, ?_, ?_, ?_⟩
      · rcases Nat.eq_zero_or_pos (come y) with h0 | h0
        · omega
        · have := hL _ (hpre (come y - 1) (by omega))
          omega
      · exact Nat.lt_of_le_of_lt (Nat.div_le_self _ _) hy
      · intro i hi
        rcases Nat.lt_or_ge i m with h1 | h1
        · exact List.mem_cons_of_mem _ (hall i h1)
        · rcases Nat.lt_or_ge m i with h2 | h2
          · have := hpre (i - (m + 1)) (by omega)
            rw [show m + 1 + (i - (m + 1)) = i by omega] at this
            exact List.mem_cons_of_mem _ this
          · have : i = m := by omega
            subst this
            simp
      · intro hin
        rcases List.mem_cons.1 hin with h1 | h1
        · omega
        · exact hend h1
      · intro j
        rw [testBit_half, hbit]
        rw [show m + 1 + (1 + come y + j) = m + 1 + come y + 1 + j by omega]
        simp only [List.mem_cons]
        rw [decide_eq_decide]
        constructor
        · exact fun h => .inr h
        · rintro (h | h)
          · omega
          · exact h
  · refine ⟨(first + m) % 65536, y ||| 2 ^ (toI ((first + m) % 65536) ((first + k) % 65536) - 1).toNat, ?_, ?_⟩
    · unfold noteN
      have hno : hasN ((first + m) % 65536) y ((first + k) % 65536) = false := by
        unfold hasN
        rw [hto]
        have hb := hbit (k - m - 1)
        rw [show m + 1 + (k - m - 1) = k by omega] at hb
        simp only [hn, decide_false] at hb
        rw [show ((k : Int) - m - 1).toNat = k - m - 1 by omega, hb]
        simp
        omega
      rw [if_neg (by rw [hno, hto]; rintro (h | h); cases h; omega), if_neg (by omega)]
    · refine ⟨m, hm, rfl, ?_, fun i hi => List.mem_cons_of_mem _ (hall i hi), ?_, ?_⟩
      · refine Nat.or_lt_two_pow (n := 32) hy (Nat.pow_lt_pow_right (by omega) ?_)
        rw [hto]
        omega
      · intro hin
        rcases List.mem_cons.1 hin with h1 | h1
        · exact he h1
        · exact hmn h1
      · intro j
        rw [hto, Nat.testBit_or, hbit, Nat.testBit_two_pow, Bool.eq_iff_iff]
        simp only [Bool.or_eq_true, decide_eq_true_eq, List.mem_cons]
        constructor
        · rintro (h | h)
          · exact .inr h
          · left; omega
        · rintro (h | h)
          · right; omega
          · exact .inl h
theorem Came.all {first : Nat} {L : List Nat} {x y : Nat} (h : Came first L x y) (hL : ∀ k ∈ L, k < 33) (hall : ∀ k, k < 33 → k ∈ L) : x = (first + 33) % 65536 ∧ y = 0 := by
  obtain ⟨m, hm, rfl, hy, _, hmn, hbit⟩ := h
  have hm33 : m = 33 := by
    rcases Nat.lt_or_ge m 33 with h | h
    · exact absurd (hall m h) hmn
    · omega
  subst hm33
  refine ⟨rfl, Nat.eq_of_testBit_eq fun i => ?_⟩
  rw [hbit, Nat.zero_testBit]
  simp only [decide_eq_false_iff_not]
  intro hin
  have := hL _ hin
  omega
end Go.Proofs.YtfckgfoimpileaaDoor
/- Masks in plain numbers: who is in one, what is left of it, in words. No condition beyond those said. -/
namespace Go.Proofs.YtfckgfoimpileaaDoor

/-- The mask of one observer; of one that no mask has: none. -/
def aloneN (o : Int) : Nat := if 0 ≤ o ∧ o < 32 then 2 ^ o.toNat else 0
theorem aloneN_lt (o : Int) : aloneN o < 4294967296 := by
  unfold aloneN
  split
  · have : (2 : Nat) ^ o.toNat < 2 ^ 32 := Nat.pow_lt_pow_right (by omega) (by omega)
    omega
  · omega
theorem aloneN_nat {k : Nat} (h : k < 32) : aloneN (k : Int) = 2 ^ k := by
  unfold aloneN
  rw [if_pos (by omega)]
  simp
theorem aloneN_bit (o : Int) (i : Nat) (hi : i < 32) : (aloneN o).testBit i = decide (o = (i : Int)) := by
  unfold aloneN
  split
  · rw [Nat.testBit_two_pow, decide_eq_decide]; omega
  · rw [Nat.zero_testBit]; symm; simp; omega
/-- It without those of n. -/
def lessN (m n : Nat) : Nat := m &&& (4294967295 - n)
theorem lessN_lt {m : Nat} (n : Nat) (h : m < 4294967296) : lessN m n < 4294967296 := Nat.lt_of_le_of_lt Nat.and_le_left h
theorem lessN_bit {n : Nat} (m : Nat) (hn : n < 4294967296) (i : Nat) (hi : i < 32) : (lessN m n).testBit i = (m.testBit i && !n.testBit i) := by
  unfold lessN
  rw [Nat.testBit_and, not_testBit hn]
  simp [hi]
/-- With these. -/
def withN (m : Nat) (l : List Int) : Nat := l.foldl (fun m o => m ||| aloneN o) m
theorem withN_nil (m : Nat) : withN m [] = m := rfl
theorem withN_snoc (m : Nat) (l : List Int) (o : Int) : withN m (l ++ [o]) = withN m l ||| aloneN o := by simp [withN]
theorem withN_lt {m : Nat} (h : m < 4294967296) (l : List Int) : withN m l < 4294967296 := by
  induction l generalizing m with
  | nil => exact h
  | cons o l ih => exact ih (Nat.or_lt_two_pow (n := 32) h (aloneN_lt o))
theorem withN_bit (m : Nat) (l : List Int) (i : Nat) (hi : i < 32) : (withN m l).testBit i = (m.testBit i || decide ((i : Int) ∈ l)) := by
  induction l generalizing m with
  | nil => simp [withN]
  | cons o l ih =>
    have := ih (m ||| aloneN o)
    simp only [withN, List.foldl_cons] at this ⊢
    rw [this, Nat.testBit_or, aloneN_bit o i hi]
    by_cases h : o = (i : Int)
    · simp [h]
    · simp [h, Ne.symm h]
theorem ext32 {a b : Nat} (ha : a < 4294967296) (hb : b < 4294967296) (h : ∀ i, i < 32 → a.testBit i = b.testBit i) : a = b := by
  apply Nat.eq_of_testBit_eq
  intro i
  by_cases hi : i < 32
  · exact h i hi
  · rw [Nat.testBit_lt_two_pow (Nat.lt_of_lt_of_le ha (by rw [show (4294967296 : Nat) = 2 ^ 32 from rfl]; exact Nat.pow_le_pow_right (by omega) (by omega))),
      Nat.testBit_lt_two_pow (Nat.lt_of_lt_of_le hb (by rw [show (4294967296 : Nat) = 2 ^ 32 from rfl]; exact Nat.pow_le_pow_right (by omega) (by omega)))]

/-- The observers of a mask, rising. -/
def obs (m : Nat) : List Nat := (List.range 32).filter fun i => m.testBit i
theorem obs_mem {m i : Nat} : i ∈ obs m ↔ i < 32 ∧ m.testBit i = true := by simp [obs]
theorem obs_length (m : Nat) : (obs m).length ≤ 32 := by
  have := List.length_filter_le (fun i => m.testBit i) (List.range 32)
  simpa [obs] using this
theorem obs_zero : obs 0 = [] := by simp [obs]
theorem filter_first {p q : Nat → Bool} {k : Nat} (hk : p k = true) (hlow : ∀ i, i < k → p i = false) (hq : ∀ i, q i = (p i && decide (i ≠ k))) : ∀ n, k < n → (List.range n).filter p = k :: (List.range n).filter q := by
  have hnil : ∀ n, n ≤ k → (List.range n).filter p = [] := fun n hn => by
    rw [List.filter_eq_nil_iff]
    intro i hi
    rw [hlow i (by have := List.mem_range.1 hi; omega)]
    simp
  have hnilq : ∀ n, n ≤ k → (List.range n).filter q = [] := fun n hn => by
    rw [List.filter_eq_nil_iff]
    intro i hi
    rw [hq, hlow i (by have := List.mem_range.1 hi; omega)]
    simp
  intro n
  induction n with
  | zero => intro h; omega
  | succ n ih =>
    intro h
    rw [List.range_succ, List.filter_append, List.filter_append]
    by_cases hkn : k < n
    · rw [ih hkn, List.cons_append]
      congr 2
      have : q n = p n := by rw [hq]; simp; intro _; omega
      simp [List.filter, this]
    · obtain rfl : k = n := by omega
      rw [hnil k (Nat.le_refl _), hnilq k (Nat.le_refl _)]
      simp [List.filter, hk, hq]
open Go in
theorem obs_next {m : Nat} (h0 : m ≠ 0) (h : m < 4294967296) : Lib.ctz 32 m < 32 ∧ obs m = Lib.ctz 32 m :: obs (lessN m (2 ^ Lib.ctz 32 m)) := by
  have hk := (Lib.lowest_bit 32 m h0 h).2
  have hc := come_spec (bits := 4294967295 - m) (by omega)
  have he : come (4294967295 - m) = Lib.ctz 32 m := by unfold come; rw [show 4294967295 - (4294967295 - m) = m by omega]
  rw [he] at hc
  obtain ⟨k, hkk⟩ : ∃ k, k = Lib.ctz 32 m := ⟨_, rfl⟩
  rw [← hkk] at hk hc ⊢
  refine ⟨hk, ?_⟩
  have hp : (2 : Nat) ^ k < 4294967296 := by
    have : (2 : Nat) ^ k < 2 ^ 32 := Nat.pow_lt_pow_right (by omega) hk
    omega
  have hb : m.testBit k = true := by
    have := hc.2.2 hk
    rw [not_testBit h] at this
    simpa [hk] using this
  have hl : ∀ i, i < k → m.testBit i = false := fun i hi => by
    have := hc.2.1 i hi
    rw [not_testBit h] at this
    simp at this
    exact this.2
  have hq : (List.range 32).filter (fun i => (lessN m (2 ^ k)).testBit i) = (List.range 32).filter (fun i => m.testBit i && decide (i ≠ k)) := by
    apply List.filter_congr
    intro i hi
    rw [lessN_bit m hp i (List.mem_range.1 hi), Nat.testBit_two_pow]
    congr 1
    by_cases e : i = k
    · subst e; simp
    · simp [e, Ne.symm e]
  unfold obs
  rw [hq]
  exact filter_first hb hl (fun _ => rfl) 32 hk
open Go in
/-- Its observers, with a comma between; none: '-'. -/
def textN (m : Nat) : List UInt8 := if m = 0 then [45] else Lib.join ((obs m).map Lib.decDigits) [44]
end Go.Proofs.YtfckgfoimpileaaDoor
/- Slices of int, and a row of the call's own of which an element is written. No condition. -/
namespace Go.Proofs.YtfckgfoimpileaaDoor
open Go.RowKit

theorem own_set {w : World} {B n : Nat} {e : TypeId} {v : Value} {xs : List Value} (h : w.ownsRow B e 1 v n xs) (hn : 0 < n) :
    ∃ g cap, v = .slice (some ⟨g, 0, none⟩) n cap ∧ B ≤ g ∧ g < w.heap.size ∧ n ≤ cap ∧ (∀ j u, xs[j]? = some u → w.cell? ⟨g, j, none⟩ = some u) ∧ (∀ j, w.frozen? ⟨g, j, none⟩ = false) ∧
      ∀ (j : Nat) (u : Value) (w' : World), w'.heap[g]? = (w.setCell ⟨g, j, none⟩ u).heap[g]? → w'.ownsRow B e 1 v n (xs.set j u) := by
  rcases h.2 with ⟨_, h0⟩ | ⟨g, cap, cur, hv, hg, hh, hnc, hcm, hcs, hct⟩
  · omega
  · refine ⟨g, cap, hv, hg, (Array.getElem?_eq_some_iff.1 hh).1, hnc, fun j u hu => ?_, fun j => frozen_of_row w g j _ _ hh, fun j u w' hw => ?_⟩
    · rw [cell_of_row w g j _ _ _ hh]
      rw [← hct, List.getElem?_take] at hu
      split at hu
      · simpa using hu
      · cases hu
    · rw [heap_setCell_same w g j cur _ _ hh] at hw
      refine ⟨by rw [List.length_set]; exact h.1, .inr ⟨g, cap, _, hv, hg, hw, hnc, hcm, by simpa using hcs, ?_⟩⟩
      rw [← hct]
      simp [List.take_set]
theorem own_set2 {w : World} {B n g c : Nat} {e : TypeId} {xs : List Value} (hn : 0 < n) (h : w.ownsRow B e 1 (.slice (some ⟨g, 0, none⟩) n c) n xs) (j : Nat) (u : Value) : (w.setCell ⟨g, j, none⟩ u).ownsRow B e 1 (.slice (some ⟨g, 0, none⟩) n c) n (xs.set j u) := by
  obtain ⟨g', cap', hv, _, _, _, _, _, hset⟩ := own_set h hn
  injection hv with h1 _ _
  injection h1 with h1
  injection h1 with h1 _ _
  subst h1
  exact hset j u _ rfl
/-- Numbers as values. -/
def ints (l : List Nat) : List Value := l.map fun (x : Nat) => Value.int .i64 (x : Int)
@[simp] theorem ints_length (l : List Nat) : (ints l).length = l.length := by simp [ints]
@[simp] theorem ints_nil : ints [] = [] := rfl
theorem ints_get? {l : List Nat} {k x : Nat} (h : l[k]? = some x) : (ints l)[k]? = some (.int .i64 (x : Int)) := by simp [ints, h]
theorem ints_set (l : List Nat) (k x : Nat) : (ints l).set k (.int .i64 (x : Int)) = ints (l.set k x) := by simp [ints, List.map_set]
theorem own_mod {w w' : World} {B n : Nat} {e : TypeId} {v : Value} {xs : List Value} (h : w.ownsRow B e 1 v n xs) {S : Nat → Prop} (hm : Mod S w w') (hs : ∀ k, v.ownBlock = some k → ¬ S k) : w'.ownsRow B e 1 v n xs := by
  refine ⟨h.1, ?_⟩
  rcases h.2 with h2 | ⟨g, cap, cur, rfl, hg, hh, r⟩
  · exact .inl h2
  · exact .inr ⟨g, cap, cur, rfl, hg, by rw [hm.block g (Array.getElem?_eq_some_iff.1 hh).1 (hs g rfl)]; exact hh, r⟩
theorem own_ext {w w' : World} {B n : Nat} {e : TypeId} {v : Value} {xs : List Value} (h : w.ownsRow B e 1 v n xs) (hm : Below w.heap.size w w') : w'.ownsRow B e 1 v n xs :=
  own_mod h (Mod.of_below hm) fun k hk => by have := (World.ownsRow.lt h k hk).2; omega
end Go.Proofs.YtfckgfoimpileaaDoor
/- alone, Has, Less, Within, Count, With, Of, All, Meet, Join: the plain numbers. Conditions: the numbers fit 32 bits, the lists are short. -/
namespace Go.Proofs.YtfckgfoimpileaaDoor
open Go.RowKit

set_option maxHeartbeats 1000000 in
set_option maxRecDepth 20000 in
theorem alone_calls (o : Int) (w : World) :
    Calls Tryd.prog 83 #[.int .i64 o] w fun e w' => e = .returned (.int .u32 (aloneN o : Nat)) ∧ w' = w := by
  have hB := Lib.hid (show aloneN o = if 0 ≤ o ∧ o < 32 then 2 ^ o.toNat else 0 from rfl)
  obtain ⟨t, ht⟩ : ∃ t, t = aloneN o := ⟨_, rfl⟩
  rw [← ht] at hB ⊢
  clear ht
  by_cases h0 : o < 0
  · go_enter Tryd.func83, Tryd.ntmps83
    go_wp2_with fail
    go_ret
    exact ⟨by rw [hB.out, if_neg (by omega)]; rfl, rfl⟩
  · by_cases h1 : o < 32
    · obtain ⟨k, rfl⟩ : ∃ k : Nat, o = (k : Int) := ⟨o.toNat, by omega⟩
      obtain ⟨P, hP⟩ : ∃ P : Nat, P = 2 ^ k := ⟨_, rfl⟩
      have hPl : P < 4294967296 := by
        have : (2 : Nat) ^ k < 2 ^ 32 := Nat.pow_lt_pow_right (by omega) (by omega)
        omega
      have hPi : (2 : Int) ^ k = (P : Int) := by rw [hP]; simp
      have HP := Lib.hid hP
      have hw : IntKind.u32.wrap (P : Int) = (P : Int) := IntWalk.u32_in _ (by omega)
      have hk2 : (k : Int) < 32 := h1
      clear hP h0 h1
      go_enter Tryd.func83, Tryd.ntmps83
      go_wp2_with fail
      go_ret
      exact ⟨by rw [hB.out, if_pos (by omega), show (k : Int).toNat = k by omega, ← HP.out]; rfl, rfl⟩
    · go_enter Tryd.func83, Tryd.ntmps83
      go_wp2_with fail
      go_ret
      exact ⟨by rw [hB.out, if_neg (by omega)]; rfl, rfl⟩
set_option maxHeartbeats 1000000 in
set_option maxRecDepth 20000 in
theorem MLess_calls (m n : Nat) (w : World) (hm : m < 4294967296) (hn : n < 4294967296) :
    Calls Tryd.prog 82 #[.int .u32 m, .int .u32 n] w fun e w' => e = .returned (.int .u32 (lessN m n : Nat)) ∧ w' = w := by
  have h := u32_andNot_nat m n hm hn
  go_enter Tryd.func82, Tryd.ntmps82
  go_wp2_with fail
  go_ret
  exact ⟨rfl, rfl⟩
/-- Observers as values. -/
def iz (l : List Int) : List Value := l.map fun x => Value.int .i64 x
@[simp] theorem iz_length (l : List Int) : (iz l).length = l.length := by simp [iz]
theorem iz_get? {l : List Int} {k : Nat} {x : Int} (h : l[k]? = some x) : (iz l)[k]? = some (.int .i64 x) := by simp [iz, h]
set_option maxHeartbeats 2000000 in
set_option maxRecDepth 20000 in
theorem With_calls (m : Nat) (A : Option Addr) (l : List Int) (n c b : Nat) (w : World) (hm : m < 4294967296) (hs : Sl w b A (iz l)) (hn : l.length = n) (hnm : n ≤ 1000000000000) :
    Calls Tryd.prog 75 #[.int .u32 m, .slice A n c] w fun e w' => e = .returned (.int .u32 (withN m l : Nat)) ∧ w' = w := by
  have HN := Lib.hid hn
  clear hn
  go_enter Tryd.func75, Tryd.ntmps75
  go_wp2_with fail
  go_loopw [0, 9] (fun mm i wr => ∃ j : Nat, j ≤ n ∧ i = .int .i64 j ∧ mm = .int .u32 (withN m (l.take j) : Nat) ∧ wr = w) (fun _ i _ => n - (intOf i).toNat)
  case atStart => exact ⟨0, Nat.zero_le _, rfl, rfl, rfl⟩
  case round =>
    obtain ⟨j, hj, rfl, rfl, rfl⟩ := hrel
    by_cases hlt : j < n
    · obtain ⟨o, ho⟩ : ∃ o, l[j]? = some o := ⟨_, List.getElem?_eq_getElem (by rw [HN.out]; exact hlt)⟩
      obtain ⟨off, rfl, hcl⟩ := hs (by intro h0; have := congrArg List.length h0; simp at this; rw [this] at ho; simp at ho)
      have hcj := hcl j _ (iz_get? ho)
      have hA := alone_calls o
      have hl := aloneN_lt o
      have hwl := withN_lt hm (l.take j)
      have hor := u32_or_nat (withN m (l.take j)) (aloneN o) hwl hl
      have hsn : withN m (l.take (j + 1)) = withN m (l.take j) ||| aloneN o := by rw [List.take_add_one, ho, ← withN_snoc]; rfl
      obtain ⟨t, ht⟩ : ∃ t, t = aloneN o := ⟨_, rfl⟩
      obtain ⟨u, hu⟩ : ∃ u, u = withN m (l.take j) := ⟨_, rfl⟩
      rw [← ht] at hA hor hl hsn
      rw [← hu] at hor hsn hwl ⊢
      obtain ⟨v, hv⟩ : ∃ v, v = u ||| t := ⟨_, rfl⟩
      rw [← hv] at hor hsn
      have HS := Lib.hid hsn
      have ej : (j : Int) < (n : Int) := by omega
      clear ht hu hv hsn hcl ho hs
      go_wp2_with fail
      refine (hA _).mono ?_
      rintro e w' ⟨rfl, rfl⟩
      go_wp2_with fail
      go_roundw
      case rel => exact ⟨j + 1, by omega, by go_num, by rw [HS.out], trivial⟩
      case measure => simp [intOf]; omega
    · obtain rfl : n = j := by omega
      rw [List.take_of_length_le (by rw [HN.out]; omega)]
      obtain ⟨u, hu⟩ : ∃ u, u = withN m l := ⟨_, rfl⟩
      rw [← hu]
      have HU := Lib.hid hu
      clear hu
      go_wp2_with fail
      go_ret
      exact ⟨by rw [← HU.out]; rfl, rfl⟩
end Go.Proofs.YtfckgfoimpileaaDoor
/- Each: the observers of a mask, rising, one by one. Conditions: the number fits 32 bits; the library's table lies as it lays it. -/
namespace Go.Proofs.YtfckgfoimpileaaDoor
open Go.RowKit Go.Shelf
attribute [local go_sem] Oper.semAt_some

set_option maxRecDepth 100000 in
set_option maxHeartbeats 2000000 in
theorem each1_in (n l Bn n₀ m : Nat) (hm : m < 4294967296) (J Jx : List Nat → World → Prop) (hn : 1 ≤ n) (hTn : ∀ A B : World, Tab A → Below n₀ A B → Tab B)
    (hY : ∀ pre x W, J pre W → pre.length < (obs m).length → YieldAt Fence.wide (n - 1) Tryd.prog l #[.int .i64 ((x % 32 : Nat) : Int)] W fun e W' =>
      (e = .returned (.bool true) ∧ J (pre ++ [x]) W' ∧ Below n₀ W W') ∨ (e = .returned (.bool false) ∧ Jx (pre ++ [x]) W'))
    (W : World) (hBn : W.cell? ⟨Bn, 0, none⟩ = some (.int .u32 (m : Int))) (hT : Tab W) (h0 : J [] W) :
    CallsIn Fence.wide n Tryd.prog 80 #[.func (.yield l) #[] #[], .pointer (some ⟨Bn, 0, none⟩)] W fun e W' => (∃ v, e = .returned v) ∧
      ((∃ ys, ys = obs m ∧ J ys W') ∨ (∃ pre, pre <+: obs m ∧ Jx pre W')) := by
  refine callsIn_of_wp Tryd.func80 rfl trivial ?_ rfl
  simp only [Tryd.ntmps80, List.size_toArray, List.length_cons, List.length_nil, Nat.reduceAdd, Nat.reduceSub, Array.replicate_succ, Array.replicate_zero, List.push_toArray, List.append_toArray, List.nil_append, List.cons_append]
  gi_wp2
  gi_loopw [3] (fun p wr => ∃ (pre : List Nat) (left : Nat), p = .int .u32 (left : Int) ∧ left < 4294967296 ∧ obs m = pre ++ obs left ∧ Tab wr ∧ J pre wr)
    (fun p _ => (obs (intOf p).toNat).length)
  case atStart =>
    exact ⟨[], m, rfl, hm, rfl, hT, h0⟩
  case round =>
    obtain ⟨pre, left, rfl, hl, hx, hT, hJ⟩ := hrel
    by_cases hz : left = 0
    · subst hz
      gi_wp2
      go_end0
      exact ⟨⟨_, rfl⟩, .inl ⟨pre, by rw [hx, obs_zero, List.append_nil], hJ⟩⟩
    · obtain ⟨hk, hobs⟩ := obs_next hz hl
      have hTz := Tz_calls left hl
      obtain ⟨k, hkk⟩ : ∃ k, k = Lib.ctz 32 left := ⟨_, rfl⟩
      rw [← hkk] at hTz hk hobs
      have hA := alone_calls (k : Int)
      rw [aloneN_nat hk] at hA
      have hp : (2 : Nat) ^ k < 4294967296 := by
        have : (2 : Nat) ^ k < 2 ^ 32 := Nat.pow_lt_pow_right (by omega) hk
        omega
      have hLe := fun W => MLess_calls left (2 ^ k) W hl hp
      have hll := lessN_lt (2 ^ k) hl
      obtain ⟨P, hP⟩ : ∃ P, P = 2 ^ k := ⟨_, rfl⟩
      rw [← hP] at hA hLe hobs hll
      obtain ⟨nx, hnx⟩ : ∃ nx, nx = lessN left P := ⟨_, rfl⟩
      rw [← hnx] at hLe hobs hll
      have hY1 := hY pre k wr hJ (by rw [hx, hobs]; simp)
      rw [Nat.mod_eq_of_lt hk] at hY1
      obtain ⟨fn, tmps, assign, body, hy, hR⟩ := hY1
      have hzi : ¬ ((left : Int) = 0) := by omega
      clear hkk hP hnx hz hp
      gi_wp2_with fail
      refine ⟨trivial, ?_⟩
      refine (callsIn_wide.2 (hTz _ hT)).mono ?_
      rintro e w1 ⟨rfl, rfl⟩
      gi_wp2
      refine hR.mono ?_
      rintro e W3 (⟨rfl, hJ3, hk3⟩ | ⟨rfl, hJx3⟩)
      · have hT3 := hTn _ _ hT hk3
        gi_wp2_with fail
        refine ⟨trivial, ?_⟩
        refine (callsIn_wide.2 (hA _)).mono ?_
        rintro e w4 ⟨rfl, rfl⟩
        gi_wp2_with fail
        refine ⟨trivial, ?_⟩
        refine (callsIn_wide.2 (hLe _)).mono ?_
        rintro e w5 ⟨rfl, rfl⟩
        gi_wp2_with fail
        go_roundw
        case rel => exact ⟨pre ++ [k], nx, rfl, hll, by rw [hx, hobs]; simp, hT3, hJ3⟩
        case measure => simp [intOf, hobs]
      · gi_wp2
        refine bodyPost_ret (results_none rfl _ _ _) rfl ?_
        exact ⟨⟨_, rfl⟩, .inr ⟨pre ++ [k], ⟨obs nx, by rw [hx, hobs]; simp⟩, hJx3⟩⟩
set_option maxHeartbeats 1000000 in
/-- m.Each(): the mask is boxed; the function value captures the box. -/
theorem each_in (n m : Nat) (w : World) :
    CallsIn Fence.wide n Tryd.prog 69 #[.int .u32 m] w fun e w' => e = .returned (.func (.func 80) #[] #[.pointer (some ⟨w.heap.size, 0, none⟩)]) ∧ w' = w.alloc (.cells #[.int .u32 (m : Int)] 31) := by
  refine callsIn_of_wp Tryd.func69 rfl trivial ?_ rfl
  simp only [Tryd.ntmps69, List.size_toArray, List.length_cons, List.length_nil, Nat.reduceAdd, Nat.reduceSub, Array.replicate_succ, Array.replicate_zero, List.push_toArray, List.append_toArray, List.nil_append, List.cons_append]
  gi_wp2
  go_ret
  exact ⟨rfl, rfl⟩
theorem each_stops (n Bn n₀ m : Nat) (hm : m < 4294967296) (hn : 1 ≤ n) (w : World) (hBn : Bn < w.heap.size) (hc : w.cell? ⟨Bn, 0, none⟩ = some (.int .u32 (m : Int))) (hT : ∀ W, Below w.heap.size w W → Tab W) (hTn : ∀ A B : World, Tab A → Below n₀ A B → Tab B) :
    SeqStopsK Fence.wide n Tryd.prog 80 #[.pointer (some ⟨Bn, 0, none⟩)] (fun x : Nat => #[Value.int .i64 ((x % 32 : Nat) : Int)]) (Below n₀) (fun ys => ys = obs m) (fun pre => pre <+: obs m) (obs m).length w := fun l J Jx W hW _ _ hY h0 =>
  each1_in n l Bn n₀ m hm J Jx hn hTn hY W ((hW.cell (p := ⟨Bn, 0, none⟩) hBn).trans hc) (hT W hW) h0
end Go.Proofs.YtfckgfoimpileaaDoor
/- What the library's functions answer, laid over this program (the shelf's contracts, in plain words). Conditions: those that each says. -/
namespace Go.Proofs
open Go.Shelf
def Tryd.lays156_ren : Go.Shelf.Ren := ⟨fun | 156 => 45 | 165 => 65 | 166 => 66 | 169 => 67 | 240 => 77 | 241 => 78 | 276 => 91 | 277 => 92 | n => n, fun | 31 => 92 | 9 => 9 | 3 => 3 | 4 => 4 | 0 => 0 | 20 => 20 | 72 => 118 | 76 => 122 | 70 => 116 | 37 => 36 | 75 => 121 | 127 => 63 | 164 => 144 | 5 => 5 | 80 => 91 | n => n, fun | n => n⟩
theorem Tryd.lays156 : Go.Proofs.Lays.n156 Tryd.prog Tryd.lays156_ren := {
  mixed := by kernel_rfl
  f156 := Tryd.func45.trans (congrArg some (by kernel_rfl))
  f165 := Tryd.func65.trans (congrArg some (by kernel_rfl))
  f166 := Tryd.func66.trans (congrArg some (by kernel_rfl))
  f169 := Tryd.func67.trans (congrArg some (by kernel_rfl))
  f240 := Tryd.func77.trans (congrArg some (by kernel_rfl))
  f241 := Tryd.func78.trans (congrArg some (by kernel_rfl))
  f276 := Tryd.func91.trans (congrArg some (by kernel_rfl))
  f277 := Tryd.func92.trans (congrArg some (by kernel_rfl))
  t0 := Tryd.underlying0
  a0 := Tryd.isAgg0
  z0 := Tryd.sizeOf0
  v0 := Tryd.zeroValue0
  t3 := Tryd.underlying3
  a3 := Tryd.isAgg3
  z3 := Tryd.sizeOf3
  v3 := Tryd.zeroValue3
  t4 := Tryd.underlying4
  a4 := Tryd.isAgg4
  z4 := Tryd.sizeOf4
  v4 := Tryd.zeroValue4
  t9 := Tryd.underlying9
  a9 := Tryd.isAgg9
  z9 := Tryd.sizeOf9
  v9 := Tryd.zeroValue9
  t20 := Tryd.underlying20
  a20 := Tryd.isAgg20
  z20 := Tryd.sizeOf20
  v20 := Tryd.zeroValue20
  t31 := Tryd.underlying92
  a31 := Tryd.isAgg92
  z31 := Tryd.sizeOf92
  v31 := Tryd.zeroValue92
  t37 := Tryd.underlying36
  a37 := Tryd.isAgg36
  z37 := Tryd.sizeOf36
  v37 := Tryd.zeroValue36
  t70 := Tryd.underlying116
  a70 := Tryd.isAgg116
  z70 := Tryd.sizeOf116
  v70 := Tryd.zeroValue116
  t72 := Tryd.underlying118
  a72 := Tryd.isAgg118
  z72 := Tryd.sizeOf118
  v72 := Tryd.zeroValue118
  t75 := Tryd.underlying121
  a75 := Tryd.isAgg121
  z75 := Tryd.sizeOf121
  v75 := Tryd.zeroValue121
  t76 := Tryd.underlying122
  a76 := Tryd.isAgg122
  z76 := Tryd.sizeOf122
  v76 := Tryd.zeroValue122
  t127 := Tryd.underlying63
  a127 := Tryd.isAgg63
  z127 := Tryd.sizeOf63
  v127 := Tryd.zeroValue63
  t164 := Tryd.underlying144
  a164 := Tryd.isAgg144
  z164 := Tryd.sizeOf144
  v164 := Tryd.zeroValue144 }
theorem Tryd.Builder_Extra_156 : Builder.Extra Tryd.prog Tryd.lays156_ren := {
  sizeBuilder := by kernel_rfl
  liesBuilder := by kernel_rfl
  t5 := Tryd.underlying5
  a5 := Tryd.isAgg5
  z5 := Tryd.sizeOf5
  v5 := Tryd.zeroValue5
  infoByte := by kernel_rfl
  cellsByte := by kernel_rfl
  sizeByte := by kernel_rfl
  neB5 := by decide }
open Go.RowKit in
theorem Tryd.strings_Join_none (a : Option Addr) (c : Nat) (sep : ByteArray) (w : World) :
    Calls Tryd.prog 45 #[.slice a 0 c, .string sep] w fun e w' => e = .returned (.string ⟨#[]⟩) ∧ w' = w := Any.strings_Join_none Tryd.lays156 Tryd.Builder_Extra_156 a c sep w
open Go.RowKit in
theorem Tryd.strings_Join (bk o c : Nat) (xs : List ByteArray) (sep : ByteArray) (w : World) (hcells : ∀ (j : Nat) x, xs[j]? = some x → w.cell? ⟨bk, o + j, none⟩ = some (.string x)) (hbk : bk < w.heap.size) (hN : xs.length ≤ 140737488355328) (hcap : xs.length ≤ c) (hlen : (Lib.join (xs.map (·.data.toList)) sep.data.toList).length ≤ 140737488355328) :
    Calls Tryd.prog 45 #[.slice (some ⟨bk, o, none⟩) xs.length c, .string sep] w fun e w' => e = .returned (.string ⟨(Lib.join (xs.map (·.data.toList)) sep.data.toList).toArray⟩) ∧ Below w.heap.size w w' := Any.strings_Join Tryd.lays156 Tryd.Builder_Extra_156 bk o c xs sep w hcells hbk hN hcap hlen
def Tryd.laysM171_ren : Go.Shelf.Ren := ⟨fun | 171 => 46 | 243 => 68 | 246 => 79 | 283 => 93 | 284 => 94 | 285 => 95 | 286 => 96 | 129 => 108 | 317 => 107 | 318 => 109 | 319 => 110 | 320 => 111 | 337 => 81 | 338 => 119 | n => n, fun | 3 => 3 | 9 => 9 | 2 => 2 | 4 => 4 | 171 => 146 | 0 => 0 | 53 => 76 | 37 => 36 | 5 => 5 | 173 => 149 | 212 => 164 | 51 => 30 | 20 => 20 | 213 => 165 | 46 => 111 | 232 => 151 | 233 => 180 | n => n, fun | 17 => 3 | 18 => 1 | 19 => 8 | n => n⟩
theorem Tryd.laysM171 : Go.Proofs.LaysM.n171 Tryd.prog Tryd.laysM171_ren := {
  mixed := by kernel_rfl
  f129 := Tryd.func108.trans (congrArg some (by kernel_rfl))
  f171 := Tryd.func46.trans (congrArg some (by kernel_rfl))
  f243 := Tryd.func68.trans (congrArg some (by kernel_rfl))
  f246 := Tryd.func79.trans (congrArg some (by kernel_rfl))
  f283 := Tryd.func93.trans (congrArg some (by kernel_rfl))
  f284 := Tryd.func94.trans (congrArg some (by kernel_rfl))
  f285 := Tryd.func95.trans (congrArg some (by kernel_rfl))
  f286 := Tryd.func96.trans (congrArg some (by kernel_rfl))
  f317 := Tryd.func107.trans (congrArg some (by kernel_rfl))
  f318 := Tryd.func109.trans (congrArg some (by kernel_rfl))
  f319 := Tryd.func110.trans (congrArg some (by kernel_rfl))
  f320 := Tryd.func111.trans (congrArg some (by kernel_rfl))
  f337 := Tryd.func81.trans (congrArg some (by kernel_rfl))
  f338 := Tryd.func119.trans (congrArg some (by kernel_rfl))
  t0 := Tryd.underlying0
  a0 := Tryd.isAgg0
  z0 := Tryd.sizeOf0
  v0 := Tryd.zeroValue0
  t2 := Tryd.underlying2
  a2 := Tryd.isAgg2
  z2 := Tryd.sizeOf2
  v2 := Tryd.zeroValue2
  t3 := Tryd.underlying3
  a3 := Tryd.isAgg3
  z3 := Tryd.sizeOf3
  v3 := Tryd.zeroValue3
  t4 := Tryd.underlying4
  a4 := Tryd.isAgg4
  z4 := Tryd.sizeOf4
  v4 := Tryd.zeroValue4
  t5 := Tryd.underlying5
  a5 := Tryd.isAgg5
  z5 := Tryd.sizeOf5
  v5 := Tryd.zeroValue5
  t9 := Tryd.underlying9
  a9 := Tryd.isAgg9
  z9 := Tryd.sizeOf9
  v9 := Tryd.zeroValue9
  t20 := Tryd.underlying20
  a20 := Tryd.isAgg20
  z20 := Tryd.sizeOf20
  v20 := Tryd.zeroValue20
  t37 := Tryd.underlying36
  a37 := Tryd.isAgg36
  z37 := Tryd.sizeOf36
  v37 := Tryd.zeroValue36
  t46 := Tryd.underlying111
  a46 := Tryd.isAgg111
  z46 := Tryd.sizeOf111
  v46 := Tryd.zeroValue111
  t51 := Tryd.underlying30
  a51 := Tryd.isAgg30
  z51 := Tryd.sizeOf30
  v51 := Tryd.zeroValue30
  t53 := Tryd.underlying76
  a53 := Tryd.isAgg76
  z53 := Tryd.sizeOf76
  v53 := Tryd.zeroValue76
  t171 := Tryd.underlying146
  a171 := Tryd.isAgg146
  z171 := Tryd.sizeOf146
  v171 := Tryd.zeroValue146
  t173 := Tryd.underlying149
  a173 := Tryd.isAgg149
  z173 := Tryd.sizeOf149
  v173 := Tryd.zeroValue149
  t212 := Tryd.underlying164
  a212 := Tryd.isAgg164
  z212 := Tryd.sizeOf164
  v212 := Tryd.zeroValue164
  t213 := Tryd.underlying165
  a213 := Tryd.isAgg165
  z213 := Tryd.sizeOf165
  t232 := Tryd.underlying151
  a232 := Tryd.isAgg151
  z232 := Tryd.sizeOf151
  v232 := Tryd.zeroValue151
  t233 := Tryd.underlying180
  a233 := Tryd.isAgg180
  z233 := Tryd.sizeOf180
  v233 := Tryd.zeroValue180
  g17 := by kernel_rfl
  g18 := by kernel_rfl
  g19 := by kernel_rfl
  i0 := by kernel_rfl
  i2 := by kernel_rfl
  i3 := by kernel_rfl
  i4 := by kernel_rfl
  i5 := by kernel_rfl
  i9 := by kernel_rfl
  i20 := by kernel_rfl
  i37 := by kernel_rfl
  i46 := by kernel_rfl
  i51 := by kernel_rfl
  i53 := by kernel_rfl
  i171 := by kernel_rfl
  i173 := by kernel_rfl
  i212 := by kernel_rfl
  i232 := by kernel_rfl
  i233 := by kernel_rfl
  m17 := by kernel_rfl
  m18 := by kernel_rfl
  m19 := by kernel_rfl }
open Go.RowKit Go.Sort Go.Lib in
theorem Tryd.strconv_Itoa (n : Int) (h0 : -9223372036854775808 ≤ n) (h1 : n ≤ 9223372036854775807) (w : World) (htab : Lib.TabIs Tryd.prog w "internal/strconv.uint64pow10" .u64 Lib.pow10Tab) :
    Calls Tryd.prog 46 #[.int .i64 n] w fun e w' => e = .returned (.string ⟨(Lib.itoa n).toArray⟩) ∧ ∃ k os, w' = grow (w.drewN k) os := Any.strconv_Itoa Tryd.laysM171 n h0 h1 w htab
def Tryd.lays171_ren : Go.Shelf.Ren := ⟨fun | 171 => 46 | 243 => 68 | 246 => 79 | 283 => 93 | 284 => 94 | 285 => 95 | 286 => 96 | 129 => 108 | 317 => 107 | 318 => 109 | 319 => 110 | 320 => 111 | 337 => 81 | 338 => 119 | n => n, fun | 3 => 3 | 9 => 9 | 2 => 2 | 4 => 4 | 171 => 146 | 0 => 0 | 53 => 76 | 37 => 36 | 5 => 5 | 173 => 149 | 212 => 164 | 51 => 30 | 20 => 20 | 213 => 165 | 46 => 111 | 232 => 151 | 233 => 180 | n => n, fun | 17 => 3 | 18 => 1 | 19 => 8 | n => n⟩
theorem Tryd.lays171 : Go.Proofs.Lays.n171 Tryd.prog Tryd.lays171_ren := {
  mixed := by kernel_rfl
  f129 := Tryd.func108.trans (congrArg some (by kernel_rfl))
  f171 := Tryd.func46.trans (congrArg some (by kernel_rfl))
  f243 := Tryd.func68.trans (congrArg some (by kernel_rfl))
  f246 := Tryd.func79.trans (congrArg some (by kernel_rfl))
  f283 := Tryd.func93.trans (congrArg some (by kernel_rfl))
  f284 := Tryd.func94.trans (congrArg some (by kernel_rfl))
  f285 := Tryd.func95.trans (congrArg some (by kernel_rfl))
  f286 := Tryd.func96.trans (congrArg some (by kernel_rfl))
  f317 := Tryd.func107.trans (congrArg some (by kernel_rfl))
  f318 := Tryd.func109.trans (congrArg some (by kernel_rfl))
  f319 := Tryd.func110.trans (congrArg some (by kernel_rfl))
  f320 := Tryd.func111.trans (congrArg some (by kernel_rfl))
  f337 := Tryd.func81.trans (congrArg some (by kernel_rfl))
  f338 := Tryd.func119.trans (congrArg some (by kernel_rfl))
  t0 := Tryd.underlying0
  a0 := Tryd.isAgg0
  z0 := Tryd.sizeOf0
  v0 := Tryd.zeroValue0
  t2 := Tryd.underlying2
  a2 := Tryd.isAgg2
  z2 := Tryd.sizeOf2
  v2 := Tryd.zeroValue2
  t3 := Tryd.underlying3
  a3 := Tryd.isAgg3
  z3 := Tryd.sizeOf3
  v3 := Tryd.zeroValue3
  t4 := Tryd.underlying4
  a4 := Tryd.isAgg4
  z4 := Tryd.sizeOf4
  v4 := Tryd.zeroValue4
  t5 := Tryd.underlying5
  a5 := Tryd.isAgg5
  z5 := Tryd.sizeOf5
  v5 := Tryd.zeroValue5
  t9 := Tryd.underlying9
  a9 := Tryd.isAgg9
  z9 := Tryd.sizeOf9
  v9 := Tryd.zeroValue9
  t20 := Tryd.underlying20
  a20 := Tryd.isAgg20
  z20 := Tryd.sizeOf20
  v20 := Tryd.zeroValue20
  t37 := Tryd.underlying36
  a37 := Tryd.isAgg36
  z37 := Tryd.sizeOf36
  v37 := Tryd.zeroValue36
  t46 := Tryd.underlying111
  a46 := Tryd.isAgg111
  z46 := Tryd.sizeOf111
  v46 := Tryd.zeroValue111
  t51 := Tryd.underlying30
  a51 := Tryd.isAgg30
  z51 := Tryd.sizeOf30
  v51 := Tryd.zeroValue30
  t53 := Tryd.underlying76
  a53 := Tryd.isAgg76
  z53 := Tryd.sizeOf76
  v53 := Tryd.zeroValue76
  t171 := Tryd.underlying146
  a171 := Tryd.isAgg146
  z171 := Tryd.sizeOf146
  v171 := Tryd.zeroValue146
  t173 := Tryd.underlying149
  a173 := Tryd.isAgg149
  z173 := Tryd.sizeOf149
  v173 := Tryd.zeroValue149
  t212 := Tryd.underlying164
  a212 := Tryd.isAgg164
  z212 := Tryd.sizeOf164
  v212 := Tryd.zeroValue164
  t213 := Tryd.underlying165
  a213 := Tryd.isAgg165
  z213 := Tryd.sizeOf165
  t232 := Tryd.underlying151
  a232 := Tryd.isAgg151
  z232 := Tryd.sizeOf151
  v232 := Tryd.zeroValue151
  t233 := Tryd.underlying180
  a233 := Tryd.isAgg180
  z233 := Tryd.sizeOf180
  v233 := Tryd.zeroValue180
  g17 := by kernel_rfl
  g18 := by kernel_rfl
  g19 := by kernel_rfl }
open Go.RowKit Go.Sort Go.Lib in
theorem Tryd.strconv_Itoa_small (i : Nat) (hi : i < 100) (w : World) :
    Calls Tryd.prog 46 #[.int .i64 i] w fun e w' => e = .returned (.string ⟨(Lib.decDigits i).toArray⟩) ∧ w' = w := Any.strconv_Itoa_small Tryd.lays171 i hi w
end Go.Proofs
/- Text: a mask in words. Conditions: the number fits 32 bits; the library's table lies as it lays it. -/
namespace Go.Proofs.YtfckgfoimpileaaDoor
open Go.RowKit Go.Shelf
attribute [local go_sem] Oper.semAt_some

theorem Tab.below1 {w1 w w' : World} (h : Tab w1) (hw : Tab w) (hb : Below w1.heap.size w w') : Tab w' := fun j hj => by
  exact (hb.cell (World.block_lt_of_cell? w1 _ (h j hj))).trans (hw j hj)
theorem str_info : (Tryd.prog.info? 9).map (fun i => (i.zero, i.size, i.bytes)) = some (some (.string ⟨#[]⟩), 1, 16) := by kernel_rfl
/-- Words as values. -/
def sv (l : List (List UInt8)) : List Value := l.map fun x => Value.string ⟨x.toArray⟩
theorem sv_snoc (l : List (List UInt8)) (x : List UInt8) : sv (l ++ [x]) = sv l ++ [.string ⟨x.toArray⟩] := by simp [sv]
@[simp] theorem sv_length (l : List (List UInt8)) : (sv l).length = l.length := by simp [sv]
def decs (pre : List Nat) : List (List UInt8) := pre.map fun k => Lib.decDigits (k % 32)
theorem decs_snoc (pre : List Nat) (x : Nat) : decs (pre ++ [x]) = decs pre ++ [Lib.decDigits (x % 32)] := by simp [decs]
theorem decs_obs (m : Nat) : decs (obs m) = (obs m).map Lib.decDigits := by
  unfold decs
  apply List.map_congr_left
  intro k hk
  rw [Nat.mod_eq_of_lt (obs_mem.1 hk).1]
theorem wpIn_app_str {F : Fence} {nf : Nat} (w : World) {o : Oper} {a : Act} {K : Act → World → Prop} {Q : Exit → Act → World → Prop} (s x : Operand)
    (ho : o.op = .call { callee := .builtin .append, args := #[s, x], argTypes := #[92, 92] })
    (B : Nat) (v : Value) (l : List (List UInt8)) (hs : a.eval s = v) (hown : w.ownsRow B 9 1 v l.length (sv l))
    (b : Nat) (A : Option Addr) (c : Nat) (y : List UInt8) (hx : a.eval x = .slice A 1 c) (hr : Sl w b A (sv [y]))
    (hlen : l.length ≤ 1000000) (hbase : B ≤ w.heap.size)
    (h : ∀ v' w', w'.ownsRow B 9 1 v' (l.length + 1) (sv (l ++ [y])) → w.grownBy w' v.ownBlock → K (a.put o.dst v') w') : Oper.wpIn F nf Tryd.prog o a w K Q := by
  obtain ⟨i0, hi, hz0, hz1, hz2⟩ := info_parts str_info
  obtain ⟨v', w', hrun, h2, h3, _⟩ := run_append_sl (P := Tryd.prog) w B 92 o.type 9 i0 _ 1 16 Tryd.underlying92 hi hz0 hz1 hz2 rfl (by omega) v l.length (sv l) hown b A 1 c (sv [y]) hr (by simp) (Sl.none_len hr (by simp)) (by simp [sv, Value.oneCell']) (by simp only [maxLen]; omega) (by omega) hbase
  unfold Oper.wpIn
  refine ⟨by simp [Oper.about, ho, resolve, Target.leads, Sem.run_pure], ?_⟩
  rw [Oper.semAt_plain F _ _ (by rw [ho]; intro c hc'; cases hc')]
  simp [execOp, ho, resolve, invoke, builtin, hs, hx, hrun, Result.andThen]
  exact h v' w' (by rw [sv_snoc]; exact h2) h3
theorem grown_drew {a b : World} {r : Option Nat} (h : a.drew.grownBy b r) : a.grownBy b r := ⟨h.os, h.tape, h.output, h.size, h.block⟩
theorem dec_len : ∀ k : Fin 32, (Lib.decDigits k.val).length ≤ 2 := by decide +kernel
theorem tail_len (sep : List UInt8) (r : List (List UInt8)) (h1 : sep.length = 1) (h : ∀ x ∈ r, x.length ≤ 2) : (Lib.joinTail sep r).length ≤ 3 * r.length := by
  induction r with
  | nil => simp [Lib.joinTail]
  | cons x r ih =>
    have h2 := h x (by simp)
    have h3 := ih (fun y hy => h y (by simp [hy]))
    simp only [Lib.joinTail, List.map_cons, List.flatten_cons, List.length_append, List.length_cons] at h3 ⊢
    omega
theorem join_len (l : List (List UInt8)) (h : ∀ x ∈ l, x.length ≤ 2) : (Lib.join l [44]).length ≤ 3 * l.length := by
  cases l with
  | nil => simp [Lib.join_nil]
  | cons x r =>
    have h2 := h x (by simp)
    have h3 := tail_len [44] r rfl (fun y hy => h y (by simp [hy]))
    rw [Lib.join_cons, List.length_append, List.length_cons]
    omega
set_option maxRecDepth 20000 in
theorem Text_zero (w : World) : Calls Tryd.prog 47 #[.int .u32 0] w fun e W' => e = .returned (.string ⟨#[45]⟩) ∧ Below w.heap.size w W' := by
  go_enter Tryd.func47, Tryd.ntmps47
  go_wp2
  go_ret
  exact ⟨rfl, Below.refl _ _⟩
set_option maxRecDepth 100000 in
set_option maxHeartbeats 4000000 in
theorem Text_some (m : Nat) (hm : m < 4294967296) (hz : m ≠ 0) (w : World) (hTab : Tab w) :
    Calls Tryd.prog 47 #[.int .u32 m] w fun e W' => e = .returned (.string ⟨(textN m).toArray⟩) ∧ Below w.heap.size w W' := by
  refine (callsIn_wide (n := 8)).1 ?_
  have hzi : ((m : Int) == 0) = false := by simp; omega
  have h1 : 1 ≤ 8 := by omega
  obtain ⟨i0, hi, hz0, hz1, hz2⟩ := info_parts str_info
  have htx : textN m = Lib.join (decs (obs m)) [44] := by unfold textN; rw [if_neg hz, decs_obs]
  have hol := obs_length m
  have hpos : 0 < (obs m).length := by rw [(obs_next hz hm).2]; simp
  clear hz
  refine callsIn_of_wp_marks Tryd.func47 rfl trivial ?_ rfl
  simp only [Tryd.ntmps47, List.size_toArray, List.length_cons, List.length_nil, Nat.reduceAdd, Nat.reduceSub, Array.replicate_succ, Array.replicate_zero, List.push_toArray, List.append_toArray, List.nil_append, List.cons_append]
  gi_wp2_with fail
  refine ⟨trivial, ?_⟩
  refine (each_in 7 m _).mono ?_
  rintro e w' ⟨rfl, rfl⟩
  gi_wp2_with fail
  have bO := Boxed.new w 92 (.slice none 0 0)
  have bN := Boxed.new (w.alloc (.cells #[.slice none 0 0] 92)) 31 (.int .u32 (m : Int))
  rw [World.size_alloc] at bN
  have hB0 : Below w.heap.size w ((w.alloc (.cells #[.slice none 0 0] 92)).alloc (.cells #[.int .u32 (m : Int)] 31)) := ((Below.refl _ w).alloc (Nat.le_refl _) _).alloc (by simp) _
  refine wpIn_rangeFunc_ownF rfl h1 (gf := 80) (lb := #[.pointer (some ⟨w.heap.size + 1, 0, none⟩)]) rfl trivial (enters_of Tryd.func80 (by kernel_rfl) rfl)
    (each_stops 7 (w.heap.size + 1) w.heap.size m hm (by omega) _ (by simp) bN.cell (fun W hW => Tab.ext hTab (hB0.trans (hW.mono hB0.size))) (fun A B hA hAB => Tab.below1 hTab hA hAB)) belowK_t (belowK_b (by simp; omega)) (Below.refl _ _) (fun _ => rfl)
    (fun pre W => (∃ v, Boxed W w.heap.size 92 v ∧ W.ownsRow w.heap.size 9 1 v (decs pre).length (sv (decs pre)) ∧ True) ∧ Below w.heap.size w W)
    (fun _ _ _ => False)
    (OwnFrom.and (Own.from (holdsRow_own w.heap.size w.heap.size 92 9 1 (fun pre => (decs pre).length) (fun pre => sv (decs pre)) (fun _ _ => True)) _) (ownFrom_below (Nat.le_refl _) (by simp; omega)))
    (fun _ _ _ _ _ hs _ _ => hs)
    ⟨⟨_, bO.alloc _, World.ownsRow_nil _ _ _ _, trivial⟩, hB0⟩
    (fun x => { tmps := #[.int .u32 (m : Int), undef, .string ⟨#[]⟩, .pointer (some ⟨w.heap.size, 0, none⟩), .int .i64 ((x % 32 : Nat) : Int), .int .u32 (m : Int), .bool false, .int .u32 (m : Int), .func (.func 80) #[] #[.pointer (some ⟨w.heap.size + 1, 0, none⟩)], .int .i64 ((x % 32 : Nat) : Int), undef, undef, undef, undef, undef, undef, undef], defers := [] }) ?assign ?body ?done ?stop
  case assign =>
    intro l x W K hK
    gi_wp2
    exact hK
  case body =>
    rintro l pre x W ⟨⟨v, hv, hrow, _⟩, hB⟩ hlt
    have hc := hv.cell
    have hmx : Tryd.prog.follows .mixedOrders = true := by kernel_rfl
    have hds := decs_snoc pre x
    obtain ⟨y, hy⟩ : ∃ y, y = x % 32 := ⟨_, rfl⟩
    rw [← hy] at hds ⊢
    have hx100 : y < 100 := by omega
    have HDS := Lib.hid hds
    have hpl : (decs pre).length < 33 := by rw [decs, List.length_map]; omega
    clear hy hds
    have hrow1 : (W.alloc (.cells #[.string ⟨(Lib.decDigits y).toArray⟩] 9)).drew.ownsRow w.heap.size 9 1 v (decs pre).length (sv (decs pre)) := hrow.alloc _
    have hcA : (W.alloc (.cells #[.string ⟨(Lib.decDigits y).toArray⟩] 9)).cell? ⟨w.heap.size, 0, none⟩ = some v := (hv.alloc _).cell
    have hone : Sl (W.alloc (.cells #[.string ⟨(Lib.decDigits y).toArray⟩] 9)).drew W.heap.size (some ⟨W.heap.size, 0, none⟩) (sv [Lib.decDigits y]) := Sl.one_new W _ _
    gi_wp2_with fail
    refine wpIn_region_any hmx ?_
    change wpAnyIn _ _ _ _ _ _ _ _ _ (World.drew _)
    refine wpAnyIn_ready (rs := [0, 1]) (by kernel_rfl) (by simp) ?_
    refine AllReadyIn.cons rfl (fun K hK => ?_) ?_
    · go_simp
      refine hK _ _ ?_
      clear hK K
      try simp only [Act.put, List.setIfInBounds_toArray, List.set_cons_zero, List.set_cons_succ]
      refine wpAnyIn_ready (rs := [1]) (by kernel_rfl) (by simp) ?_
      refine AllReadyIn.cons rfl (fun K hK => ?_) AllReadyIn.nil
      go_simp
      refine hK _ _ ?_
      clear hK K
      try simp only [Act.put, List.setIfInBounds_toArray, List.set_cons_zero, List.set_cons_succ]
      refine wpAnyIn_ready (rs := [2]) (by kernel_rfl) (by simp) ?_
      refine AllReadyIn.cons rfl (fun K hK => ?_) AllReadyIn.nil
      go_simp
      refine ⟨trivial, ?_⟩
      refine (CallsIn.inRound l (callsIn_wide.2 (Tryd.strconv_Itoa_small y hx100 _))).mono ?_
      rintro e w' ⟨rfl, rfl⟩
      gi_wp2_with fail
      try simp only [Act.put, List.setIfInBounds_toArray]
      refine wpAnyIn_ready (rs := [3]) (by kernel_rfl) (by simp) ?_
      refine AllReadyIn.cons rfl (fun K hK => ?_) AllReadyIn.nil
      go_simp
      refine hK _ _ ?_
      clear hK K
      try simp only [Act.put, List.setIfInBounds_toArray, List.set_cons_zero, List.set_cons_succ]
      refine wpAnyIn_ready (rs := [4]) (by kernel_rfl) (by simp) ?_
      refine AllReadyIn.cons rfl (fun K hK => ?_) AllReadyIn.nil
      rw [if_pos (by rfl)]
      refine wpIn_app_str _ (.tmp 10) (.tmp 13) rfl w.heap.size v (decs pre) rfl hrow1 W.heap.size (some ⟨W.heap.size, 0, none⟩) 1 (Lib.decDigits y) rfl hone (by omega) (by have := hB.size; simp; omega) ?_
      intro v' w1 hown' hgrow
      obtain ⟨g', cap', rfl⟩ := ownsRow_succ hown'
      obtain ⟨hv1, hv2, hr2, hk2, hb2⟩ := hv.appended (by decide) hrow hB.size (Nat.le_refl _) hown' (grown_drew hgrow)
      have hc1 := hv1.cell
      have hf1 := hv1.frozen
      refine hK _ _ ?_
      clear hK K
      try simp only [Act.put, List.setIfInBounds_toArray]
      refine wpAnyIn_ready (rs := [5]) (by kernel_rfl) (by simp) ?_
      refine AllReadyIn.cons rfl (fun K hK => ?_) AllReadyIn.nil
      go_simp
      refine hK _ _ ?_
      clear hK K
      refine wpAnyIn_done (by kernel_rfl) ?_ _
      gi_wp2
      exact ⟨hk2, hb2, ⟨_, hv2, by rw [HDS.out, List.length_append]; exact hr2, trivial⟩, hB.trans hb2⟩
    refine AllReadyIn.cons rfl (fun K hK => ?_) AllReadyIn.nil
    go_simp
    refine hK _ _ ?_
    clear hK K
    try simp only [Act.put, List.setIfInBounds_toArray, List.set_cons_zero, List.set_cons_succ]
    refine wpAnyIn_ready (rs := [0, 2]) (by kernel_rfl) (by simp) ?_
    refine AllReadyIn.cons rfl (fun K hK => ?_) ?_
    · go_simp
      refine hK _ _ ?_
      clear hK K
      try simp only [Act.put, List.setIfInBounds_toArray, List.set_cons_zero, List.set_cons_succ]
      refine wpAnyIn_ready (rs := [2]) (by kernel_rfl) (by simp) ?_
      refine AllReadyIn.cons rfl (fun K hK => ?_) AllReadyIn.nil
      go_simp
      refine ⟨trivial, ?_⟩
      refine (CallsIn.inRound l (callsIn_wide.2 (Tryd.strconv_Itoa_small y hx100 _))).mono ?_
      rintro e w' ⟨rfl, rfl⟩
      gi_wp2_with fail
      try simp only [Act.put, List.setIfInBounds_toArray]
      refine wpAnyIn_ready (rs := [3]) (by kernel_rfl) (by simp) ?_
      refine AllReadyIn.cons rfl (fun K hK => ?_) AllReadyIn.nil
      go_simp
      refine hK _ _ ?_
      clear hK K
      try simp only [Act.put, List.setIfInBounds_toArray, List.set_cons_zero, List.set_cons_succ]
      refine wpAnyIn_ready (rs := [4]) (by kernel_rfl) (by simp) ?_
      refine AllReadyIn.cons rfl (fun K hK => ?_) AllReadyIn.nil
      rw [if_pos (by rfl)]
      refine wpIn_app_str _ (.tmp 10) (.tmp 13) rfl w.heap.size v (decs pre) rfl hrow1 W.heap.size (some ⟨W.heap.size, 0, none⟩) 1 (Lib.decDigits y) rfl hone (by omega) (by have := hB.size; simp; omega) ?_
      intro v' w1 hown' hgrow
      obtain ⟨g', cap', rfl⟩ := ownsRow_succ hown'
      obtain ⟨hv1, hv2, hr2, hk2, hb2⟩ := hv.appended (by decide) hrow hB.size (Nat.le_refl _) hown' (grown_drew hgrow)
      have hc1 := hv1.cell
      have hf1 := hv1.frozen
      refine hK _ _ ?_
      clear hK K
      try simp only [Act.put, List.setIfInBounds_toArray]
      refine wpAnyIn_ready (rs := [5]) (by kernel_rfl) (by simp) ?_
      refine AllReadyIn.cons rfl (fun K hK => ?_) AllReadyIn.nil
      go_simp
      refine hK _ _ ?_
      clear hK K
      refine wpAnyIn_done (by kernel_rfl) ?_ _
      gi_wp2
      exact ⟨hk2, hb2, ⟨_, hv2, by rw [HDS.out, List.length_append]; exact hr2, trivial⟩, hB.trans hb2⟩
    refine AllReadyIn.cons rfl (fun K hK => ?_) AllReadyIn.nil
    go_simp
    refine ⟨trivial, ?_⟩
    refine (CallsIn.inRound l (callsIn_wide.2 (Tryd.strconv_Itoa_small y hx100 _))).mono ?_
    rintro e w' ⟨rfl, rfl⟩
    gi_wp2_with fail
    try simp only [Act.put, List.setIfInBounds_toArray]
    refine wpAnyIn_ready (rs := [0, 3]) (by kernel_rfl) (by simp) ?_
    refine AllReadyIn.cons rfl (fun K hK => ?_) ?_
    · go_simp
      refine hK _ _ ?_
      clear hK K
      try simp only [Act.put, List.setIfInBounds_toArray, List.set_cons_zero, List.set_cons_succ]
      refine wpAnyIn_ready (rs := [3]) (by kernel_rfl) (by simp) ?_
      refine AllReadyIn.cons rfl (fun K hK => ?_) AllReadyIn.nil
      go_simp
      refine hK _ _ ?_
      clear hK K
      try simp only [Act.put, List.setIfInBounds_toArray, List.set_cons_zero, List.set_cons_succ]
      refine wpAnyIn_ready (rs := [4]) (by kernel_rfl) (by simp) ?_
      refine AllReadyIn.cons rfl (fun K hK => ?_) AllReadyIn.nil
      rw [if_pos (by rfl)]
      refine wpIn_app_str _ (.tmp 10) (.tmp 13) rfl w.heap.size v (decs pre) rfl hrow1 W.heap.size (some ⟨W.heap.size, 0, none⟩) 1 (Lib.decDigits y) rfl hone (by omega) (by have := hB.size; simp; omega) ?_
      intro v' w1 hown' hgrow
      obtain ⟨g', cap', rfl⟩ := ownsRow_succ hown'
      obtain ⟨hv1, hv2, hr2, hk2, hb2⟩ := hv.appended (by decide) hrow hB.size (Nat.le_refl _) hown' (grown_drew hgrow)
      have hc1 := hv1.cell
      have hf1 := hv1.frozen
      refine hK _ _ ?_
      clear hK K
      try simp only [Act.put, List.setIfInBounds_toArray]
      refine wpAnyIn_ready (rs := [5]) (by kernel_rfl) (by simp) ?_
      refine AllReadyIn.cons rfl (fun K hK => ?_) AllReadyIn.nil
      go_simp
      refine hK _ _ ?_
      clear hK K
      refine wpAnyIn_done (by kernel_rfl) ?_ _
      gi_wp2
      exact ⟨hk2, hb2, ⟨_, hv2, by rw [HDS.out, List.length_append]; exact hr2, trivial⟩, hB.trans hb2⟩
    refine AllReadyIn.cons rfl (fun K hK => ?_) AllReadyIn.nil
    go_simp
    refine hK _ _ ?_
    clear hK K
    try simp only [Act.put, List.setIfInBounds_toArray, List.set_cons_zero, List.set_cons_succ]
    refine wpAnyIn_ready (rs := [0]) (by kernel_rfl) (by simp) ?_
    refine AllReadyIn.cons rfl (fun K hK => ?_) AllReadyIn.nil
    go_simp
    refine hK _ _ ?_
    clear hK K
    try simp only [Act.put, List.setIfInBounds_toArray, List.set_cons_zero, List.set_cons_succ]
    refine wpAnyIn_ready (rs := [4]) (by kernel_rfl) (by simp) ?_
    refine AllReadyIn.cons rfl (fun K hK => ?_) AllReadyIn.nil
    rw [if_pos (by rfl)]
    refine wpIn_app_str _ (.tmp 10) (.tmp 13) rfl w.heap.size v (decs pre) rfl hrow1 W.heap.size (some ⟨W.heap.size, 0, none⟩) 1 (Lib.decDigits y) rfl hone (by omega) (by have := hB.size; simp; omega) ?_
    intro v' w1 hown' hgrow
    obtain ⟨g', cap', rfl⟩ := ownsRow_succ hown'
    obtain ⟨hv1, hv2, hr2, hk2, hb2⟩ := hv.appended (by decide) hrow hB.size (Nat.le_refl _) hown' (grown_drew hgrow)
    have hc1 := hv1.cell
    have hf1 := hv1.frozen
    refine hK _ _ ?_
    clear hK K
    try simp only [Act.put, List.setIfInBounds_toArray]
    refine wpAnyIn_ready (rs := [5]) (by kernel_rfl) (by simp) ?_
    refine AllReadyIn.cons rfl (fun K hK => ?_) AllReadyIn.nil
    go_simp
    refine hK _ _ ?_
    clear hK K
    refine wpAnyIn_done (by kernel_rfl) ?_ _
    gi_wp2
    exact ⟨hk2, hb2, ⟨_, hv2, by rw [HDS.out, List.length_append]; exact hr2, trivial⟩, hB.trans hb2⟩
  case done =>
    rintro D ys W hD rfl ⟨⟨v, hv, hrow, _⟩, hB⟩ hK
    have hc := hv.cell
    have hne : 0 < (decs (obs m)).length := by rw [decs, List.length_map]; exact hpos
    obtain ⟨g, cap, hvv, hg1, hg2, hcap, hcell, _, _⟩ := own_set hrow hne
    subst hvv
    have hxl : ((decs (obs m)).map fun x => (⟨x.toArray⟩ : ByteArray)).length = (decs (obs m)).length := by simp
    have hJ := Tryd.strings_Join g 0 cap ((decs (obs m)).map fun x => (⟨x.toArray⟩ : ByteArray)) ⟨#[44]⟩ W (fun j x hx => by
        rw [Nat.zero_add]
        refine hcell j _ ?_
        rw [List.getElem?_map] at hx
        obtain ⟨y, hy, rfl⟩ := Option.map_eq_some_iff.1 hx
        simp [sv, hy]) hg2 (by rw [hxl, decs, List.length_map]; omega) (by rw [hxl]; exact hcap) (by
        have e1 : (((decs (obs m)).map fun x => (⟨x.toArray⟩ : ByteArray)).map (·.data.toList)) = decs (obs m) := by simp [Function.comp_def]
        rw [e1]
        have h2 := join_len (decs (obs m)) (fun x hx => by
          obtain ⟨k, _, rfl⟩ := List.mem_map.1 hx
          exact dec_len ⟨k % 32, Nat.mod_lt _ (by omega)⟩)
        have h3 : (decs (obs m)).length ≤ 32 := by rw [decs, List.length_map]; exact hol
        show (Lib.join (decs (obs m)) [44]).length ≤ _
        omega)
    rw [hxl] at hJ
    have e1 : (((decs (obs m)).map fun x => (⟨x.toArray⟩ : ByteArray)).map (·.data.toList)) = decs (obs m) := by simp [Function.comp_def]
    rw [e1] at hJ
    have hJ2 : Calls Tryd.prog 45 #[.slice (some ⟨g, 0, none⟩) (decs (obs m)).length cap, .string ⟨#[44]⟩] W fun e w' => e = .returned (.string ⟨(textN m).toArray⟩) ∧ Below W.heap.size W w' := by rw [htx]; exact hJ
    have hwD : D < W.heap.size := (Array.getElem?_eq_some_iff.1 hK).1
    clear hJ e1 hxl hcell htx
    gi_wp2_with fail
    refine ⟨trivial, ?_⟩
    refine (callsIn_wide.2 hJ2).mono ?_
    rintro e w9 ⟨rfl, hb9⟩
    gi_wp2_with fail
    have hK9 := (hb9.block D hwD).trans hK
    have hB9 := hB.trans (hb9.mono hB.size)
    refine ⟨by simp, .inl ⟨_, _, rfl, run_takeDeferred hK9, ?_⟩⟩
    exact ⟨_, results_tmp rfl _ _ _, rfl, hB9.trans (belowK_b (w := w) (Nat.le_refl _) w9 D _ _ (by simp at hD; omega) hK9 rfl rfl)⟩
  case stop =>
    rintro D c pre W _ _ h _
    exact h.elim
theorem Text_calls (m : Nat) (hm : m < 4294967296) (w : World) (hTab : Tab w) :
    Calls Tryd.prog 47 #[.int .u32 m] w fun e W' => e = .returned (.string ⟨(textN m).toArray⟩) ∧ Below w.heap.size w W' := by
  by_cases hz : m = 0
  · subst hz
    exact Text_zero w
  · exact Text_some m hm hz w hTab
end Go.Proofs.YtfckgfoimpileaaDoor
