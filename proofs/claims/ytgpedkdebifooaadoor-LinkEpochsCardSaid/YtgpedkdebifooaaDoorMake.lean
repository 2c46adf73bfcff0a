/- Make: the table of the plain steps. No condition. -/
import Derived.Test.YtgpedkdebifooaaDoorRefSum
namespace Go.Proofs.YtgpedkdebifooaaDoor
open Go.RowKit

/-- A table with its first k made. -/
def tabTo (k : Nat) : Array Value := ((List.range 256).map fun i => Value.int .u32 ((if i < k then step8 0 i else 0 : Nat) : Int)).toArray
theorem tabTo_size (k : Nat) : (tabTo k).size = 256 := by simp [tabTo]
theorem tabTo_get {k i : Nat} (h : i < 256) : (tabTo k)[i]? = some (Value.int .u32 ((if i < k then step8 0 i else 0 : Nat) : Int)) := by
  simp [tabTo, List.getElem?_range h]
theorem tabTo_set {k : Nat} : (tabTo k).set! k (Value.int .u32 ((step8 0 k : Nat) : Int)) = tabTo (k + 1) := by
  apply Array.ext_getElem?
  intro i
  rcases Nat.lt_or_ge i 256 with h | h
  · rw [Array.set!_eq_setIfInBounds, Array.getElem?_setIfInBounds, tabTo_get h, tabTo_get h, tabTo_size]
    by_cases hik : k = i
    · subst hik
      rw [if_pos rfl, if_pos h, if_pos (by omega)]
    · rw [if_neg hik]
      by_cases h1 : i < k
      · rw [if_pos h1, if_pos (by omega)]
      · rw [if_neg h1, if_neg (by omega)]
  · rw [Array.getElem?_eq_none (by rw [Array.set!_eq_setIfInBounds, Array.size_setIfInBounds, tabTo_size]; exact h), Array.getElem?_eq_none (by rw [tabTo_size]; exact h)]
theorem tabTo_all (k : Nat) : (tabTo k).all (·.oneCell') = true := by simp [tabTo, Value.oneCell']
theorem table_under : Tryd.prog.underlying 114 = some (.array 256 43) := by kernel_rfl
theorem table_size (k : Nat) : (Tryd.prog.info? 114).map (·.size) = some (tabTo k).size := by rw [tabTo_size]; kernel_rfl
theorem below_setRow {B : Nat} {a w : World} (h : Below B a w) (g : Nat) (cs : Array Value) (hg : B ≤ g) : Below B a (w.setRow g cs) :=
  h.trans ⟨rfl, rfl, rfl, by simp, fun k hk => setRow_other w g k cs (by omega)⟩
theorem zeroTable (w : World) : (zeroValue 114).run Tryd.prog w = .ok (.agg (tabTo 0)) w := by kernel_rfl
set_option maxHeartbeats 1000000 in
set_option maxRecDepth 20000 in
theorem Make_calls (w : World) :
    Calls Tryd.prog 47 #[] w fun e w' => e = .returned (.agg (tabTo 256)) ∧ Below w.heap.size w w' := by
  go_enter Tryd.func47, Tryd.ntmps47
  go_wp2_with fail
  rw [show Tryd.zeroCells114 = tabTo 0 by kernel_rfl]
  have hg0 := heap_alloc2_new w (.cells (tabTo 0) 114) (.cells (tabTo 0) 114)
  have hr0 : ((w.alloc (.cells (tabTo 0) 114)).alloc (.cells (tabTo 0) 114)).heap[w.heap.size]? = some (.cells (tabTo 0) 114 (0, 0)) := (Below.heap_alloc _ _ _ (by simp)).trans (heap_alloc_new w _)
  have hb0 : Below w.heap.size w ((w.alloc (.cells (tabTo 0) 114)).alloc (.cells (tabTo 0) 114)) := ((Below.refl _ _).alloc (Nat.le_refl _) _).alloc (by simp) _
  go_wp2_with fail
  go_loopw [3] (fun i wr => ∃ k : Nat, k ≤ 256 ∧ i = .int .i64 k ∧ wr.heap[w.heap.size + 1]? = some (.cells (tabTo k) 114 (0, 0)) ∧ wr.heap[w.heap.size]? = some (.cells (tabTo 0) 114 (0, 0)) ∧ Below w.heap.size w wr) (fun i _ => 256 - (intOf i).toNat)
  case atStart => exact ⟨0, by omega, rfl, hg0, hr0, hb0⟩
  case round =>
    obtain ⟨k, hk, rfl, hg, hr, hb⟩ := hrel
    by_cases hlt : k < 256
    · have hc := cell_of_row wr (w.heap.size + 1) k _ _ _ hg
      rw [tabTo_get hlt] at hc
      have hfz := frozen_of_row wr (w.heap.size + 1) k _ _ hg
      go_wp2_with fail
      refine (Step_calls 0 k _ (by omega) hlt).mono ?_
      rintro e w1 ⟨rfl, rfl⟩
      go_wp2_with fail
      go_roundw
      case rel =>
        refine ⟨k + 1, by omega, by go_num, ?_, (heap_setCell_other _ _ _ _ (by simp)).trans hr, hb.setCell (by simp) _⟩
        have h1 := heap_setCell_same wr (w.heap.size + 1) k _ _ (.int .u32 (step8 0 k : Nat)) hg
        rwa [← Array.set!_eq_setIfInBounds, tabTo_set] at h1
      case measure => simp [intOf]; omega
    · have hk2 : k = 256 := by omega
      subst hk2
      go_wp2_with fail
      refine wp_load_row 114 _ rfl (w.heap.size + 1) rfl _ _ _ _ hg table_under rfl (table_size 256) ?_
      go_wp2_with fail
      have hst := run_storeCells_from (P := Tryd.prog) w.heap.size _ (tabTo 256).toList 0 _ wr hr (by simp [tabTo_size]) (fun v hv => (Array.all_eq_true_iff_forall_mem.1 (tabTo_all 256)) v (by simpa using hv))
      rw [List.take_zero, List.nil_append, Array.toArray_toList] at hst
      rw [hst]
      simp only [Result.andThen_ok]
      have hr2 := setRow_heap wr w.heap.size _ (tabTo 256) _ _ hr
      have hb2 := below_setRow hb w.heap.size (tabTo 256) (Nat.le_refl _)
      go_wp2_with fail
      refine bodyPost_ret (results_cell_row (P := Tryd.prog) rfl _ _ w.heap.size _ _ (0, 0) _ rfl hr2 table_under rfl (table_size 256)) rfl ?_
      exact ⟨rfl, hb2⟩
end Go.Proofs.YtgpedkdebifooaaDoor
