/- What comes of the pieces of a message that are put one by one. No condition: plain lemmas. -/
import Derived.Test.YtgkflgnlodhelaaClipCounts
import Derived.Test.YtgkflgnlodhelaaClipK
namespace Go.Proofs.Ytgkflgnlodhelaa
open Go.RowKit

/-- What a basket holds when so many pieces of l have been put. -/
def heldAt (l : List UInt8) (k : Nat) : List UInt8 := if k = cnt l.length then [] else l.take (64 * k)
theorem heldAt_zero (l : List UInt8) : heldAt l 0 = [] := by
  unfold heldAt
  split
  · rfl
  · simp
theorem heldAt_cnt (l : List UInt8) : heldAt l (cnt l.length) = [] := by unfold heldAt; rw [if_pos rfl]
theorem heldAt_le (l : List UInt8) (k : Nat) : (heldAt l k).length ≤ l.length := by
  unfold heldAt
  split
  · simp
  · simp; omega
theorem put_at (l : List UInt8) (k : Nat) (lv : Bool) (hk : k < cnt l.length) (hl : l.length ≤ 1024) (hlv : lv = false ∨ k = 0) :
    putB ⟨heldAt l k, lv⟩ (pieceAt l k) = (⟨heldAt l (k + 1), false⟩, if k + 1 = cnt l.length then l else [], decide (k + 1 = cnt l.length), 0) := by
  have hh : heldAt l k = l.take (64 * k) := by unfold heldAt; rw [if_neg (by omega)]
  have hp := take_piece l k
  obtain ⟨hl1, hl2⟩ := piece_len l k hk
  have hlen := congrArg List.length hp
  have hlen2 : (l.take (64 * (k + 1))).length ≤ 1024 := by rw [List.length_take]; omega
  rw [← hp, List.length_append] at hlen2
  have hop : decide (0 < (l.take (64 * k)).length) = !decide (k = 0) := by
    rw [Bool.eq_iff_iff]
    simp only [decide_eq_true_eq, List.length_take, Bool.not_eq_true', decide_eq_false_iff_not]
    unfold cnt at hk
    split at hk <;> omega
  have hr : refuseN ⟨heldAt l k, lv⟩ (pieceAt l k) = 0 := by
    unfold refuseN
    simp only [hh]
    rw [hop, if_neg (by show decide (k = 0) ≠ _; simp), if_neg (by omega), if_neg (by rintro ⟨h1, h2⟩; have := hl2 h1; omega), if_neg (by omega)]
  have hc : ¬ ((⟨heldAt l k, lv⟩ : Bk).leaving = true ∧ (pieceAt l k).first = false) := by
    rintro ⟨h1, h2⟩
    rcases hlv with h | h
    · simp only [h] at h1; cases h1
    · have h2 : decide (k = 0) = false := h2
      simp [h] at h2
  by_cases hla : k + 1 = cnt l.length
  · rw [putB_last hc hr (by show decide (k + 1 = cnt l.length) = true; simpa using hla), if_pos hla, hla, heldAt_cnt]
    simp only [hh, hp, decide_true]
    rw [hla, take_cnt]
  · rw [putB_more hc hr (by show decide (k + 1 = cnt l.length) = false; simpa using hla), if_neg hla]
    simp only [hh, hp, decide_eq_false hla]
    unfold heldAt
    rw [if_neg hla]
end Go.Proofs.Ytgkflgnlodhelaa
