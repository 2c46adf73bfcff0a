/- (Acks).Note: the plain word. Conditions: the numbers fit; the library's table lies as it lays it. -/
import Derived.Test.YtdkfmgadipfipaaDoorTz
import Derived.BigRegion
import Derived.Outline
namespace Go.Proofs.YtdkfmgadipfipaaDoor
open Go.RowKit

theorem results_ct {P : Program} {fn : Func} {p t : Tmp} {ty : TypeId} (h : fn.results = #[.cell p ty, .tmp t]) (tmps : Array Value) (w : World) (g : Nat) (tt : TypeId) (cs : Array Value) (fr : Nat × Nat) (d : TypeDesc)
    (hp : tmps.getD p undef = .pointer (some ⟨g, 0, none⟩)) (hg : w.heap[g]? = some (.cells cs tt fr))
    (hu : P.underlying ty = some d) (hd : (match d with | .struct _ | .array _ _ => true | _ => false) = true) (hi : (P.info? ty).map (·.size) = some cs.size) :
    (results fn tmps).run P w = .ok (.tuple #[.agg cs, tmps.getD t undef]) w := by
  have hp' : tmps[p]?.getD undef = .pointer (some ⟨g, 0, none⟩) := by simpa using hp
  simp [results, h, hp', asAddr, run_loadVar_row w g tt ty cs fr d hg hu hd hi]
/-- A variable of two cells. -/
def Box2 (w : World) (g : Nat) (a b : Value) : Prop := w.heap[g]? = some (.cells #[a, b] 34 (0, 0))
namespace Box2
variable {w w' : World} {g : Nat} {a b : Value}
theorem new_ (w : World) (a b : Value) : Box2 (w.alloc (.cells #[a, b] 34)) w.heap.size a b := heap_alloc_new w _
theorem lt (h : Box2 w g a b) : g < w.heap.size := (Array.getElem?_eq_some_iff.1 h).1
theorem c0 (h : Box2 w g a b) : w.cell? ⟨g, 0, none⟩ = some a := by rw [cell_of_row w g 0 _ _ _ h]; rfl
theorem c1 (h : Box2 w g a b) : w.cell? ⟨g, 1, none⟩ = some b := by rw [cell_of_row w g 1 _ _ _ h]; rfl
theorem f (h : Box2 w g a b) (j : Nat) : w.frozen? ⟨g, j, none⟩ = false := frozen_of_row w g j _ _ h
theorem ext (h : Box2 w g a b) (hb : Below w.heap.size w w') : Box2 w' g a b := (hb.block g h.lt).trans h
theorem alloc (h : Box2 w g a b) (o : Obj) : Box2 (w.alloc o) g a b := (Below.heap_alloc w o g h.lt).trans h
theorem set0 (h : Box2 w g a b) (u : Value) : Box2 (w.setCell ⟨g, 0, none⟩ u) g u b := heap_setCell_same w g 0 _ _ u h
theorem set1 (h : Box2 w g a b) (u : Value) : Box2 (w.setCell ⟨g, 1, none⟩ u) g a u := heap_setCell_same w g 1 _ _ u h
theorem other (h : Box2 w g a b) {p : Addr} (hp : g ≠ p.block) (u : Value) : Box2 (w.setCell p u) g a b := (heap_setCell_other w p g u hp).trans h
theorem drew (h : Box2 w g a b) : Box2 w.drew g a b := h
end Box2
theorem Tab.ext {w w' : World} (h : Tab w) (hb : Below w.heap.size w w') : Tab w' := fun j hj => by
  have h1 := h j hj
  exact (hb.cell (World.block_lt_of_cell? w _ h1)).trans h1
/-- What Note answers. -/
def noteV (x y : Nat) : Option (Nat × Nat) → Value
  | none => .tuple #[acksV x y, .bool false]
  | some (a, b) => .tuple #[acksV a b, .bool true]
set_option maxHeartbeats 4000000 in
set_option maxRecDepth 20000 in
theorem Note_none (x y s : Nat) (w : World) (hx : x < 65536) (hy : y < 4294967296) (hs : s < 65536) (h : noteN x y s = none) :
    Calls Tryd.prog 16 #[acksV x y, .int .u16 s] w fun e w' => e = .returned (.tuple #[acksV x y, .bool false]) ∧ Below w.heap.size w w' := by
  have hH := Has_calls x y s
  have hT := To_calls x s
  have hbt := toI_bounds x s
  have hcase : hasN x y s = true ∨ (hasN x y s = false ∧ 32 < toI x s) := by
    unfold noteN at h
    split at h
    · rename_i h1
      cases hh : hasN x y s
      · right
        exact ⟨rfl, by rcases h1 with h2 | h2; rw [hh] at h2; cases h2; exact h2⟩
      · left; rfl
    · split at h <;> cases h
  clear h
  have k0 := (Box2.new_ w (.int .u16 (x : Int)) (.int .u32 (y : Int))).alloc (.cells #[.int .u16 0, .int .u32 0] 34)
  have k1 := Box2.new_ (w.alloc (.cells #[.int .u16 (x : Int), .int .u32 (y : Int)] 34)) (.int .u16 0) (.int .u32 0)
  rw [show (w.alloc (.cells #[.int .u16 (x : Int), .int .u32 (y : Int)] 34)).heap.size = w.heap.size + 1 by simp] at k1
  have kb := below_alloc2 w (.cells #[.int .u16 (x : Int), .int .u32 (y : Int)] 34) (.cells #[.int .u16 0, .int .u32 0] 34)
  rcases hcase with hc | ⟨hc, hgt⟩
  · rw [hc] at hH
    clear hc hT hbt
    go_enter Tryd.func16, Tryd.ntmps16
    go_wp2_with fail
    refine (hH _ hx hy hs).mono ?_
    rintro e w1 ⟨rfl, hb⟩
    have m0 := k0.ext hb
    have m1 := k1.ext hb
    have mb := kb.trans (hb.mono kb.size)
    have a0 := m0.c0
    have a1 := m0.c1
    have b0 := m1.c0
    have b1 := m1.c1
    have f0 := m1.f 0
    have f1 := m1.f 1
    clear hH hb k0 k1 kb
    go_wp2_with fail
    have hE := (m1.set0 (.int .u16 (x : Int))).set1 (.int .u32 (y : Int))
    refine bodyPost_ret (results_ct (P := Tryd.prog) rfl _ _ (w.heap.size + 1) _ _ (0, 0) _ rfl hE Tryd.underlying34 rfl (by kernel_rfl)) rfl ⟨rfl, ?_⟩
    exact (mb.setCell (by simp) _).setCell (by simp) _
  · rw [hc] at hH
    obtain ⟨r, hr⟩ : ∃ r, r = toI x s := ⟨_, rfl⟩
    rw [← hr] at hT hbt hgt
    obtain ⟨hb1, hb2⟩ := hbt
    clear hc hr
    go_enter Tryd.func16, Tryd.ntmps16
    go_wp2_with fail
    refine (hH _ hx hy hs).mono ?_
    rintro e w1 ⟨rfl, hb⟩
    have m0 := k0.ext hb
    have m1 := k1.ext hb
    have mb := kb.trans (hb.mono kb.size)
    have a0 := m0.c0
    have a1 := m0.c1
    have b0 := m1.c0
    have b1 := m1.c1
    have f0 := m1.f 0
    have f1 := m1.f 1
    clear hH hb k0 k1 kb
    go_wp2_with fail
    refine (hT _ hx hs).mono ?_
    rintro e w2 ⟨rfl, rfl⟩
    go_wp2_with fail
    have hE := (m1.set0 (.int .u16 (x : Int))).set1 (.int .u32 (y : Int))
    refine bodyPost_ret (results_ct (P := Tryd.prog) rfl _ _ (w.heap.size + 1) _ _ (0, 0) _ rfl hE Tryd.underlying34 rfl (by kernel_rfl)) rfl ⟨rfl, ?_⟩
    exact (mb.setCell (by simp) _).setCell (by simp) _
end Go.Proofs.YtdkfmgadipfipaaDoor
