/- A byte of a row of the call's own, written. No condition. -/
import Derived.Test.YtgpedkdebifooaaDoorBytes
namespace Go.Proofs.YtgpedkdebifooaaDoor
open Go.RowKit

theorem Row.set_ {w : World} {B k : Nat} {v : Value} {l : List UInt8} (h : Row w B v l) (hk : k < l.length) :
    ∃ g cap, v = .slice (some ⟨g, 0, none⟩) l.length cap ∧ B ≤ g ∧ g < w.heap.size ∧ w.cell? ⟨g, k, none⟩ = some (.int .u8 (l[k].toNat : Int)) ∧ w.frozen? ⟨g, k, none⟩ = false ∧
      ∀ (q : UInt8) (m : Nat) w', m = q.toNat → w'.heap[g]? = (w.setCell ⟨g, k, none⟩ (.int .u8 (m : Int))).heap[g]? → Row w' B v (l.set k q) := by
  rcases h.2 with ⟨_, hn⟩ | ⟨g, cap, cur, hv, hg, hh, hnc, hcm, hcs, hct⟩
  · omega
  · have hlt : k < cur.size := by omega
    have hct' : cur.toList.take l.length = bv l := by simpa using hct
    refine ⟨g, cap, hv, hg, (Array.getElem?_eq_some_iff.1 hh).1, ?_, frozen_of_row w g k _ _ hh, fun q m w' hm hw => ?_⟩
    · rw [cell_of_row w g k _ _ _ hh]
      have h1 : (cur.toList.take l.length)[k]? = some (.int .u8 (l[k].toNat : Int)) := by
        rw [hct', List.getElem?_eq_getElem (by simpa using hk), bv_get]
      rw [List.getElem?_take, if_pos hk] at h1
      simpa using h1
    · subst hm
      rw [heap_setCell_same w g k cur _ _ hh] at hw
      refine ⟨by simp, .inr ⟨g, cap, _, by rw [hv]; simp, hg, hw, by simpa using hnc, hcm, by simpa using hcs, ?_⟩⟩
      have h2 : (cur.setIfInBounds k (.int .u8 (q.toNat : Int))).toList = cur.toList.set k (.int .u8 (q.toNat : Int)) := by simp
      rw [h2]
      simp only [Nat.mul_one, List.length_set]
      rw [List.take_set, hct']
      simp [bv, List.map_set]
theorem Row.bs_ {w : World} {B g n cap : Nat} {l : List UInt8} (h : Row w B (.slice (some ⟨g, 0, none⟩) n cap) l) : l.length = n ∧ n ≤ cap ∧ Bs w g (some ⟨g, 0, none⟩) l := by
  rcases h.2 with ⟨hv, _⟩ | ⟨g', cap', cur, hv, hb, _, hnc, hcm, _⟩
  · cases hv
  · injection hv with h1 h2 h3
    injection h1 with h1
    injection h1 with h1 _ _
    subst h1 h2 h3
    refine ⟨rfl, hnc, fun _ => ⟨0, rfl, fun j u hu => ?_⟩⟩
    have := h.cells (g := g) rfl j u hu
    simpa [Addr.add_lit] using this
end Go.Proofs.YtgpedkdebifooaaDoor
