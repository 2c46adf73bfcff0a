/- A flight of the row, read and stamped. No condition: plain lemmas. -/
import Derived.Test.YtgpedkdebifooaaDoorLkF
namespace Go.Proofs.YtgpedkdebifooaaDoor
open Go.RowKit
set_option linter.unusedVariables false

/-- A flight that is sent now. -/
def Fl.stamp (x : Fl) (now : Int) : Fl := { x with sent := true, at_ := now }
theorem fvs_stamp : ∀ (xs : List Fl) (k : Nat) (hk : k < xs.length) (now : Int), fvs (xs.set k (xs[k].stamp now)) = ((fvs xs).set (k * 6 + 4) (.bool true)).set (k * 6 + 5) (.int .i64 now)
  | x :: l, 0, _, now => by
    rw [List.set_cons_zero, fvs_cons, fvs_cons]
    rfl
  | x :: l, k + 1, hk, now => by
    have ih := fvs_stamp l k (by simpa using hk) now
    have e1 : (k + 1) * 6 + 4 - x.cells.length = k * 6 + 4 := by simp; omega
    have e2 : (k + 1) * 6 + 5 - x.cells.length = k * 6 + 5 := by simp; omega
    rw [List.set_cons_succ, fvs_cons, fvs_cons, List.set_append_right _ _ (by simp; omega), List.set_append_right _ _ (by simp; omega), e1, e2, List.getElem_cons_succ, ih]
theorem RowF.at_ {w : World} {B : Nat} {v : Value} {xs : List Fl} (h : RowF w B v xs) {k : Nat} (hk : k < xs.length) : ∃ g cap, v = .slice (some ⟨g, 0, none⟩) xs.length cap ∧ xs.length ≤ cap ∧ B ≤ g ∧ g < w.heap.size ∧ v.ownBlock = some g ∧ (∀ j u, j < 6 → xs[k].cells[j]? = some u → w.cell? ⟨g, k * 6 + j, none⟩ = some u) ∧ (∀ j, w.frozen? ⟨g, j, none⟩ = false) := by
  have h0 := h
  rcases h.2 with ⟨_, hn⟩ | ⟨g, cap, cur, rfl, hg, hh, hnc, hcm, hcs, hct⟩
  · omega
  · refine ⟨g, cap, rfl, hnc, hg, (Array.getElem?_eq_some_iff.1 hh).1, rfl, fun j u hj hu => ?_, fun j => frozen_of_row w g j _ _ hh⟩
    have := h0.cells (g := g) rfl (k * 6 + j) u (by rw [fvs_at xs k hk j hj]; exact hu)
    simpa [Addr.add_lit] using this
theorem RowF.stamp {w : World} {B g n cap : Nat} {xs : List Fl} (h : w.ownsRow B 98 6 (.slice (some ⟨g, 0, none⟩) n cap) xs.length (fvs xs)) {k : Nat} (hk : k < xs.length) (now : Int) :
    RowF ((w.setCell ⟨g, k * 6 + 4, none⟩ (.bool true)).setCell ⟨g, k * 6 + 5, none⟩ (.int .i64 now)) B (.slice (some ⟨g, 0, none⟩) n cap) (xs.set k (xs[k].stamp now)) := by
  rcases h.2 with ⟨hv, _⟩ | ⟨g', cap', cur, hv, hg, hh, hnc, hcm, hcs, hct⟩
  · cases hv
  · injection hv with hv e1 e2
    injection hv with hv
    injection hv with hv
    subst hv e1 e2
    have hw := heap_setCell_same _ g (k * 6 + 5) _ _ (.int .i64 now) (heap_setCell_same w g (k * 6 + 4) cur _ (.bool true) hh)
    refine ⟨by rw [fvs_length], .inr ⟨g, cap, _, by rw [List.length_set], hg, hw, by simp; exact hnc, hcm, by simpa using hcs, ?_⟩⟩
    rw [Array.toList_setIfInBounds, Array.toList_setIfInBounds, List.length_set, List.take_set, List.take_set, hct, fvs_stamp xs k hk now]
section
variable {ops : Array Oper} {op : Oper} {a : Act} {w : World} {K : Act → World → Prop} {Q : Exit → Act → World → Prop}
theorem fl_size (x : Fl) : (Tryd.prog.info? 98).map (·.size) = some x.cells.toArray.size := by
  show _ = some 6
  kernel_rfl
end
end Go.Proofs.YtgpedkdebifooaaDoor
