/- Open: what it tells of any bytes. Condition: the table is Make's, the length fits. -/
import Derived.Test.YtgpedkdebifooaaDoorSeal
import Derived.Test.YtgpedkdebifooaaDoorEq4
import Derived.Deep.RegionHeld3
import Derived.Deep.RegionLaw
import Derived.Deep.MidRow
import Derived.Laws.CopyOwn
import Derived.Outline
namespace Go.Proofs.YtgpedkdebifooaaDoor
open Go.RowKit

/-- The table, as a list. -/
def tabL : List Value := (List.range 256).map fun i => Value.int .u32 ((if i < 256 then step8 0 i else 0 : Nat) : Int)
theorem tabL_eq : tabTo 256 = tabL.toArray := rfl
theorem tabL_length : tabL.length = 256 := by simp [tabL]
theorem tabL_range {w : World} {g : Nat} {t : TypeId} (h : w.heap[g]? = some (.cells (tabTo 256) t (0, 0))) : w.rangeAt g 0 tabL := fun j v hv => by
  rw [cell_of_row _ _ _ _ _ _ h, tabL_eq, Nat.zero_add]
  simpa using hv
theorem range_below {B : Nat} {w w' : World} {g o : Nat} {cs : List Value} (h : w.rangeAt g o cs) (hb : Below B w w') (hg : g < B) : w'.rangeAt g o cs := fun j v hv =>
  (hb.cell (p := ⟨g, o + j, none⟩) hg).trans (h j v hv)
theorem tab_info : (Tryd.prog.info? 114).map (·.size) = some tabL.length := by rw [tabL_length]; kernel_rfl

set_option maxHeartbeats 1000000 in
set_option maxRecDepth 20000 in
theorem Open_short (A : Option Addr) (n c : Nat) (w : World) (h4 : n < 4) :
    Calls Tryd.prog 58 #[.agg (tabTo 256), .slice A n c] w fun e w' => e = .returned (.tuple #[.slice none 0 0, .int .i64 2]) ∧ Below w.heap.size w w' := by
  go_enter Tryd.func58, Tryd.ntmps58
  go_wp2_with fail
  go_ret2
  exact ⟨rfl, below_alloc2 _ _ _⟩

theorem TailOf_is (A : Option Addr) (l : List UInt8) (n c b : Nat) (t0 t1 t2 t3 : Nat) (hn : l.length = n) (h2 : n ≤ 140737488355328) (hq : bv (low (sumN l) 4) = [.int .u8 t0, .int .u8 t1, .int .u8 t2, .int .u8 t3]) (w : World) (hs : Bs w b A l) :
    Calls Tryd.prog 77 #[.agg tabL.toArray, .slice A n c] w fun e w' => e = .returned (.agg #[.int .u8 t0, .int .u8 t1, .int .u8 t2, .int .u8 t3]) ∧ Below w.heap.size w w' := by
  have h := TailOf_calls A l n c b w hs hn h2
  rw [hq, tabL_eq] at h
  exact h
theorem bv_inj {a b : List UInt8} (h : bv a = bv b) : a = b := by
  have h2 : a.map (fun x => x.toNat) = b.map (fun x => x.toNat) := by
    have := congrArg (List.map fun v : Value => match v with | .int _ n => n.toNat | _ => 0) h
    simpa [bv, Function.comp_def] using this
  exact (List.map_inj_right (fun x y h => UInt8.toNat_inj.1 h)).1 h2
/-- Whether a text ends in the sum of what is ahead. -/
def opensB (l : List UInt8) (k : Nat) : Bool := decide (l.drop k = low (sumN (l.take k)) 4)
theorem opens_four {l : List UInt8} {k : Nat} {q0 q1 q2 q3 : UInt8} {t0 t1 t2 t3 : Nat} (hq : l.drop k = [q0, q1, q2, q3]) (ht : bv (low (sumN (l.take k)) 4) = [.int .u8 t0, .int .u8 t1, .int .u8 t2, .int .u8 t3]) :
    ((q0.toNat : Int) == (t0 : Int) && ((q1.toNat : Int) == (t1 : Int) && ((q2.toNat : Int) == (t2 : Int) && (q3.toNat : Int) == (t3 : Int)))) = opensB l k := by
  unfold opensB
  rw [Bool.eq_iff_iff]
  simp only [Bool.and_eq_true, beq_iff_eq, decide_eq_true_eq]
  rw [hq]
  constructor
  · rintro ⟨h0, h1, h2, h3⟩
    apply bv_inj
    rw [ht, ← h0, ← h1, ← h2, ← h3]
    rfl
  · intro h
    rw [← h] at ht
    simp [bv] at ht
    omega
theorem open_held {w w' : World} {g : Nat} {cs : List Value} {a b c d : Value} (hb : Below w.heap.size w w') (h : w.rangeAt g 0 cs ∧ w.cell? ⟨g + 1, 0, none⟩ = some a ∧ w.cell? ⟨g + 1, 1, none⟩ = some b ∧ w.cell? ⟨g + 1, 2, none⟩ = some c ∧ w.cell? ⟨g + 1, 3, none⟩ = some d) (hl : g + 1 < w.heap.size) :
    w'.rangeAt g 0 cs ∧ w'.cell? ⟨g + 1, 0, none⟩ = some a ∧ w'.cell? ⟨g + 1, 1, none⟩ = some b ∧ w'.cell? ⟨g + 1, 2, none⟩ = some c ∧ w'.cell? ⟨g + 1, 3, none⟩ = some d :=
  ⟨range_below h.1 hb (by omega), (hb.cell (p := ⟨g + 1, 0, none⟩) hl).trans h.2.1, (hb.cell (p := ⟨g + 1, 1, none⟩) hl).trans h.2.2.1, (hb.cell (p := ⟨g + 1, 2, none⟩) hl).trans h.2.2.2.1, (hb.cell (p := ⟨g + 1, 3, none⟩) hl).trans h.2.2.2.2⟩
theorem drop4 {l : List UInt8} {k : Nat} (h : l.length = k + 4) : ∃ a b c d : UInt8, l.drop k = [a, b, c, d] := by
  have h1 : (l.drop k).length = 4 := by simp; omega
  match hl : l.drop k, h1 with
  | [a, b, c, d], _ => exact ⟨a, b, c, d, rfl⟩
set_option maxHeartbeats 1000000 in
set_option maxRecDepth 20000 in
theorem Open_bad (A : Option Addr) (l : List UInt8) (k c b : Nat) (w : World) (hs : Bs w b A l) (hn : l.length = k + 4) (hc : k + 4 ≤ c) (h2 : k ≤ 140737488355000) (heq : opensB l k = false) :
    Calls Tryd.prog 58 #[.agg (tabTo 256), .slice A (k + 4) c] w fun e w' => e = .returned (.tuple #[.slice none 0 0, .int .i64 5]) ∧ Below w.heap.size w w' := by
  have HN := Lib.hid hn
  obtain ⟨q0, q1, q2, q3, hq⟩ := drop4 hn
  obtain ⟨t0, t1, t2, t3, hl4⟩ : ∃ t0 t1 t2 t3 : Nat, bv (low (sumN (l.take k)) 4) = [.int .u8 t0, .int .u8 t1, .int .u8 t2, .int .u8 t3] := by
    have h := congrArg Array.toList (low4_int (sumN (l.take k)) (sumN_lt _))
    exact ⟨sumN (l.take k) % 256, sumN (l.take k) / 256 % 256, sumN (l.take k) / 65536 % 256, sumN (l.take k) / 16777216, by simpa using h⟩
  have hT := TailOf_is A (l.take k) k k b t0 t1 t2 t3 (by simp; omega) (by omega) hl4
  have hE4 : ∀ w, (Op.equalIn 10000 155 (.agg #[.int .u8 (q0.toNat : Int), .int .u8 (q1.toNat : Int), .int .u8 (q2.toNat : Int), .int .u8 (q3.toNat : Int)]) (.agg #[.int .u8 t0, .int .u8 t1, .int .u8 t2, .int .u8 t3])).run Tryd.prog w = .ok false w := fun w => by
    rw [run_eq4, opens_four hq hl4, heq]
  clear heq hl4
  have hkc : (if c = k then A else A.map (·.add k)) = A.map (·.add k) := by rw [if_neg (by omega)]
  have hsd := Sl.drop hs (k := k) (cap := c) (by simp; omega)
  rw [hkc, bv_drop, hq] at hsd
  have hst := Sl.take hs k
  rw [bv_take] at hst
  have hlt : l.take k ≠ [] → b < w.heap.size := Bs.lt hst
  clear hn
  go_enter Tryd.func58, Tryd.ntmps58
  go_wp2_with fail
  have hb1 := below_alloc2 w (.cells (tabTo 256) 114) (.cells #[.int .u8 0, .int .u8 0, .int .u8 0, .int .u8 0] 155)
  have hg : ((w.alloc (.cells (tabTo 256) 114)).alloc (.cells #[.int .u8 0, .int .u8 0, .int .u8 0, .int .u8 0] 155)).heap[w.heap.size]? = some (.cells (tabTo 256) 114 (0, 0)) := (Below.heap_alloc _ _ _ (by simp)).trans (heap_alloc_new w _)
  have hz := heap_alloc2_new w (.cells (tabTo 256) 114) (.cells #[.int .u8 0, .int .u8 0, .int .u8 0, .int .u8 0] 155)
  have hsz : w.heap.size + 2 ≤ ((w.alloc (.cells (tabTo 256) 114)).alloc (.cells #[.int .u8 0, .int .u8 0, .int .u8 0, .int .u8 0] 155)).heap.size := by simp
  obtain ⟨W, hW⟩ : ∃ W, W = (w.alloc (.cells (tabTo 256) 114)).alloc (.cells #[.int .u8 0, .int .u8 0, .int .u8 0, .int .u8 0] 155) := ⟨_, rfl⟩
  rw [← hW] at hb1 hg hz hsz ⊢
  clear hW
  have hsd1 := Sl.ext hsd hb1
  have hst1 := Sl.ext hst hb1
  clear hsd hst
  have HG := Lib.hid hg
  have HZ := Lib.hid hz
  have e1 : (0 : Int) ≤ (k : Int) := by omega
  have e2 : (k : Int) ≤ (k : Int) + 4 := by omega
  obtain ⟨o2, ho2, hc2⟩ := hsd1 (by simp [bv])
  have HO := Lib.hid ho2
  have HC := Lib.hid (show ∀ j v, (bv [q0, q1, q2, q3])[j]? = some v → W.drew.cell? ((⟨b, o2, none⟩ : Addr).add j) = some v from fun j v hv => by rw [Addr.add_lit]; exact hc2 j v hv)
  clear hg hz hsd1 ho2 hc2
  go_region_law (first | (refine step_copy_splice rfl (.tmp 18) (.tmp 21) 31 31 rfl 5 Tryd.underlying31 (by kernel_rfl) _ _ _ _ _ _ rfl rfl (w.heap.size + 1) 0 [.int .u8 0, .int .u8 0, .int .u8 0, .int .u8 0] 155 HZ.out (bv [q0, q1, q2, q3]) rfl (fun _ => ⟨rfl, _, HO.out, HC.out⟩) (by simp) (bv_one _) (w.heap.size + 1) _ (Below.refl _ _) (Nat.le_refl _) ?_; intro w4 hg4 hb4))
  have HG4 := Lib.hid (show w4.heap[w.heap.size + 1]? = some (.cells (bv [q0, q1, q2, q3]).toArray 155 (0, 0)) from by rw [hg4.out]; simp [splice, bv])
  have ht4 := (hb4.block w.heap.size (by omega)).trans HG.out
  have hst4 : Bs w4 b A (l.take k) := Bs.modne (w := W.drew) hst1 (Mod.of_below hb4) (fun hne h => by have := hlt hne; omega)
  have hb5 := (below_drew hb1).trans (hb4.mono (by omega))
  have hsz4 := hb4.size
  have hS : w4.rangeAt w.heap.size 0 tabL ∧ w4.cell? ⟨w.heap.size + 1, 0, none⟩ = some (.int .u8 (q0.toNat : Int)) ∧ w4.cell? ⟨w.heap.size + 1, 1, none⟩ = some (.int .u8 (q1.toNat : Int)) ∧ w4.cell? ⟨w.heap.size + 1, 2, none⟩ = some (.int .u8 (q2.toNat : Int)) ∧ w4.cell? ⟨w.heap.size + 1, 3, none⟩ = some (.int .u8 (q3.toNat : Int)) := by
    refine ⟨tabL_range ht4, ?_, ?_, ?_, ?_⟩ <;> (rw [cell_of_row _ _ _ _ _ _ HG4.out]; rfl)
  have hu := table_under
  have hi := tab_info
  have hb6 := below_drew hb5
  have hsz5 : w.heap.size + 1 < w4.drew.heap.size := Nat.lt_of_lt_of_le hsz hsz4
  clear hg4 hb4 hst1 hb1 hsz ht4 HG4 HG HZ HO HC hlt hs
  go_wp2_with fail
  go_region_held3 (fun w' => w'.rangeAt w.heap.size 0 tabL ∧ w'.cell? ⟨w.heap.size + 1, 0, none⟩ = some (.int .u8 (q0.toNat : Int)) ∧ w'.cell? ⟨w.heap.size + 1, 1, none⟩ = some (.int .u8 (q1.toNat : Int)) ∧ w'.cell? ⟨w.heap.size + 1, 2, none⟩ = some (.int .u8 (q2.toNat : Int)) ∧ w'.cell? ⟨w.heap.size + 1, 3, none⟩ = some (.int .u8 (q3.toNat : Int))) (first | exact hS | exact hS5)
    (first
      | (go_at_call 77; ((refine (hT w4.drew hst4).mono ?_); rintro e w5 ⟨rfl, hb⟩; have hS5 := open_held (w := w4.drew) hb hS hsz5; have hst5 := Sl.ext (w := w4.drew) hst4 hb; have hb7 := hb6.trans (hb.mono hb6.size); clear hb)))
  go_wp2_with fail
  go_ret2
  exact ⟨rfl, hb7⟩
set_option maxHeartbeats 1000000 in
set_option maxRecDepth 20000 in
theorem Open_good (A : Option Addr) (l : List UInt8) (k c b : Nat) (w : World) (hs : Bs w b A l) (hn : l.length = k + 4) (hc : k + 4 ≤ c) (h2 : k ≤ 140737488355000) (heq : opensB l k = true) :
    Calls Tryd.prog 58 #[.agg (tabTo 256), .slice A (k + 4) c] w fun e w' => ∃ v, e = .returned (.tuple #[v, .int .i64 0]) ∧ Row w' w.heap.size v (l.take k) ∧ Below w.heap.size w w' := by
  have HN := Lib.hid hn
  obtain ⟨q0, q1, q2, q3, hq⟩ := drop4 hn
  obtain ⟨t0, t1, t2, t3, hl4⟩ : ∃ t0 t1 t2 t3 : Nat, bv (low (sumN (l.take k)) 4) = [.int .u8 t0, .int .u8 t1, .int .u8 t2, .int .u8 t3] := by
    have h := congrArg Array.toList (low4_int (sumN (l.take k)) (sumN_lt _))
    exact ⟨sumN (l.take k) % 256, sumN (l.take k) / 256 % 256, sumN (l.take k) / 65536 % 256, sumN (l.take k) / 16777216, by simpa using h⟩
  have hT := TailOf_is A (l.take k) k k b t0 t1 t2 t3 (by simp; omega) (by omega) hl4
  have hE4 : ∀ w, (Op.equalIn 10000 155 (.agg #[.int .u8 (q0.toNat : Int), .int .u8 (q1.toNat : Int), .int .u8 (q2.toNat : Int), .int .u8 (q3.toNat : Int)]) (.agg #[.int .u8 t0, .int .u8 t1, .int .u8 t2, .int .u8 t3])).run Tryd.prog w = .ok true w := fun w => by
    rw [run_eq4, opens_four hq hl4, heq]
  clear heq hl4
  have hkc : (if c = k then A else A.map (·.add k)) = A.map (·.add k) := by rw [if_neg (by omega)]
  have hsd := Sl.drop hs (k := k) (cap := c) (by simp; omega)
  rw [hkc, bv_drop, hq] at hsd
  have hst := Sl.take hs k
  rw [bv_take] at hst
  have hlt : l.take k ≠ [] → b < w.heap.size := Bs.lt hst
  clear hn
  go_enter Tryd.func58, Tryd.ntmps58
  go_wp2_with fail
  have hb1 := below_alloc2 w (.cells (tabTo 256) 114) (.cells #[.int .u8 0, .int .u8 0, .int .u8 0, .int .u8 0] 155)
  have hg : ((w.alloc (.cells (tabTo 256) 114)).alloc (.cells #[.int .u8 0, .int .u8 0, .int .u8 0, .int .u8 0] 155)).heap[w.heap.size]? = some (.cells (tabTo 256) 114 (0, 0)) := (Below.heap_alloc _ _ _ (by simp)).trans (heap_alloc_new w _)
  have hz := heap_alloc2_new w (.cells (tabTo 256) 114) (.cells #[.int .u8 0, .int .u8 0, .int .u8 0, .int .u8 0] 155)
  have hsz : w.heap.size + 2 ≤ ((w.alloc (.cells (tabTo 256) 114)).alloc (.cells #[.int .u8 0, .int .u8 0, .int .u8 0, .int .u8 0] 155)).heap.size := by simp
  obtain ⟨W, hW⟩ : ∃ W, W = (w.alloc (.cells (tabTo 256) 114)).alloc (.cells #[.int .u8 0, .int .u8 0, .int .u8 0, .int .u8 0] 155) := ⟨_, rfl⟩
  rw [← hW] at hb1 hg hz hsz ⊢
  clear hW
  have hsd1 := Sl.ext hsd hb1
  have hst1 := Sl.ext hst hb1
  clear hsd hst
  have HG := Lib.hid hg
  have HZ := Lib.hid hz
  have e1 : (0 : Int) ≤ (k : Int) := by omega
  have e2 : (k : Int) ≤ (k : Int) + 4 := by omega
  obtain ⟨o2, ho2, hc2⟩ := hsd1 (by simp [bv])
  have HO := Lib.hid ho2
  have HC := Lib.hid (show ∀ j v, (bv [q0, q1, q2, q3])[j]? = some v → W.drew.cell? ((⟨b, o2, none⟩ : Addr).add j) = some v from fun j v hv => by rw [Addr.add_lit]; exact hc2 j v hv)
  clear hg hz hsd1 ho2 hc2
  go_region_law (first | (refine step_copy_splice rfl (.tmp 18) (.tmp 21) 31 31 rfl 5 Tryd.underlying31 (by kernel_rfl) _ _ _ _ _ _ rfl rfl (w.heap.size + 1) 0 [.int .u8 0, .int .u8 0, .int .u8 0, .int .u8 0] 155 HZ.out (bv [q0, q1, q2, q3]) rfl (fun _ => ⟨rfl, _, HO.out, HC.out⟩) (by simp) (bv_one _) (w.heap.size + 1) _ (Below.refl _ _) (Nat.le_refl _) ?_; intro w4 hg4 hb4))
  have HG4 := Lib.hid (show w4.heap[w.heap.size + 1]? = some (.cells (bv [q0, q1, q2, q3]).toArray 155 (0, 0)) from by rw [hg4.out]; simp [splice, bv])
  have ht4 := (hb4.block w.heap.size (by omega)).trans HG.out
  have hst4 : Bs w4 b A (l.take k) := Bs.modne (w := W.drew) hst1 (Mod.of_below hb4) (fun hne h => by have := hlt hne; omega)
  have hb5 := (below_drew hb1).trans (hb4.mono (by omega))
  have hsz4 := hb4.size
  have hS : w4.rangeAt w.heap.size 0 tabL ∧ w4.cell? ⟨w.heap.size + 1, 0, none⟩ = some (.int .u8 (q0.toNat : Int)) ∧ w4.cell? ⟨w.heap.size + 1, 1, none⟩ = some (.int .u8 (q1.toNat : Int)) ∧ w4.cell? ⟨w.heap.size + 1, 2, none⟩ = some (.int .u8 (q2.toNat : Int)) ∧ w4.cell? ⟨w.heap.size + 1, 3, none⟩ = some (.int .u8 (q3.toNat : Int)) := by
    refine ⟨tabL_range ht4, ?_, ?_, ?_, ?_⟩ <;> (rw [cell_of_row _ _ _ _ _ _ HG4.out]; rfl)
  have hu := table_under
  have hi := tab_info
  have hb6 := below_drew hb5
  have hsz5 : w.heap.size + 1 < w4.drew.heap.size := Nat.lt_of_lt_of_le hsz hsz4
  clear hg4 hb4 hst1 hb1 hsz ht4 HG4 HG HZ HO HC hlt hs
  go_wp2_with fail
  go_region_held3 (fun w' => w'.rangeAt w.heap.size 0 tabL ∧ w'.cell? ⟨w.heap.size + 1, 0, none⟩ = some (.int .u8 (q0.toNat : Int)) ∧ w'.cell? ⟨w.heap.size + 1, 1, none⟩ = some (.int .u8 (q1.toNat : Int)) ∧ w'.cell? ⟨w.heap.size + 1, 2, none⟩ = some (.int .u8 (q2.toNat : Int)) ∧ w'.cell? ⟨w.heap.size + 1, 3, none⟩ = some (.int .u8 (q3.toNat : Int))) (first | exact hS | exact hS5)
    (first
      | (go_at_call 77; ((refine (hT w4.drew hst4).mono ?_); rintro e w5 ⟨rfl, hb⟩; have hS5 := open_held (w := w4.drew) hb hS hsz5; have hst5 := Sl.ext (w := w4.drew) hst4 hb; have hb7 := hb6.trans (hb.mono hb6.size); clear hb)))
  have hlen : (l.take k).length = k := by simp; have := HN.out; omega
  have HL := Lib.hid hlen
  clear hlen
  go_wp2_with (at_builtin; refine wpList_app w5 rfl (.const (.slice none 0 0)) (.tmp 28) rfl w.heap.size _ [] rfl (Row.nil_ _ _) b A k k (l.take k) rfl hst5 HL.out (by simp; omega) hb7.size ?_; intro v6 w6 hrow6 hmod6 hown6)
  go_ret2
  exact ⟨_, rfl, hrow6.cast (by simp), hb7.trans (hmod6.below hb7.size (fun i _ h => by cases h))⟩
end Go.Proofs.YtgpedkdebifooaaDoor
