/- A list of cells whose hidden values are other ones, in plain words. Conditions: those said. -/
import Derived.Test.YtpppjlcfhijdgaaViewND
namespace Go.Proofs.Ytpppjlcfhijdgaa
open Go.RowKit

/-- The cell at j, with another value if there is one and o doesn't see it. -/
def altAt (vals : List Int) (o : Int) (c : Int × Nat) (j : Nat) : Int × Nat := if j < vals.length ∧ sees c.2 o = false then (vals.getD j 0, c.2) else c
/-- The first k cells so. -/
def alt (vals : List Int) (o : Int) (M : List (Int × Nat)) (k : Nat) : List (Int × Nat) := M.mapIdx fun j c => if j < k then altAt vals o c j else c
@[simp] theorem alt_length (vals : List Int) (o : Int) (M : List (Int × Nat)) (k : Nat) : (alt vals o M k).length = M.length := by simp [alt]
theorem alt_zero (vals : List Int) (o : Int) (M : List (Int × Nat)) : alt vals o M 0 = M := by
  apply List.ext_getElem (by simp)
  intro j h1 h2
  simp [alt]
theorem alt_at {vals : List Int} {o : Int} {M : List (Int × Nat)} {k j : Nat} (h : j < M.length) (hk : k ≤ j) : (alt vals o M k)[j]'(by simpa using h) = M[j] := by
  simp [alt, Nat.not_lt.2 hk]
theorem alt_set {vals : List Int} {o : Int} {M : List (Int × Nat)} {k : Nat} (h : k < M.length) : (alt vals o M k).set k (altAt vals o M[k] k) = alt vals o M (k + 1) := by
  apply List.ext_getElem (by simp)
  intro j h1 h2
  rw [List.getElem_set]
  by_cases e : k = j
  · subst e
    simp [alt]
  · rw [if_neg e]
    simp only [alt, List.getElem_mapIdx]
    have : j < k + 1 ↔ j < k := by omega
    simp only [this]
theorem alt_same {vals : List Int} {o : Int} {M : List (Int × Nat)} {k : Nat} (h : k < M.length) (hc : ¬(k < vals.length ∧ sees M[k].2 o = false)) : alt vals o M k = alt vals o M (k + 1) := by
  rw [← alt_set h]
  have : altAt vals o M[k] k = (alt vals o M k)[k]'(by simpa using h) := by
    rw [alt_at h (Nat.le_refl _)]
    unfold altAt
    rw [if_neg hc]
  rw [this, List.set_getElem_self]
theorem altAt_lab (vals : List Int) (o : Int) (c : Int × Nat) (j : Nat) : (altAt vals o c j).2 = c.2 := by unfold altAt; split <;> rfl
theorem alt_lab (vals : List Int) (o : Int) (M : List (Int × Nat)) (k j : Nat) (h : j < M.length) : ((alt vals o M k)[j]'(by simpa using h)).2 = M[j].2 := by
  simp only [alt, List.getElem_mapIdx]
  split
  · exact altAt_lab _ _ _ _
  · rfl
theorem alt_view (vals : List Int) (o : Int) (M : List (Int × Nat)) (k : Nat) : viewL o (alt vals o M k) = viewL o M := by
  apply List.ext_getElem (by simp)
  intro j h1 h2
  have hj : j < M.length := by simpa using h2
  simp only [viewL, List.getElem_map]
  simp only [alt, List.getElem_mapIdx]
  split
  · unfold altAt
    split
    · rename_i h
      unfold seeC
      rw [if_neg (by rw [h.2]; simp), if_neg (by rw [h.2]; simp)]
    · rfl
  · rfl
theorem alt_ok {vals : List Int} {o : Int} {M : List (Int × Nat)} (k : Nat) (hok : okC M) (hv : ∀ x ∈ vals, -2147483648 ≤ x ∧ x ≤ 2147483647) : okC (alt vals o M k) := by
  intro c hc
  obtain ⟨j, hj, rfl⟩ := List.getElem_of_mem hc
  have hj' : j < M.length := by simpa using hj
  refine ⟨?_, by rw [alt_lab vals o M k j hj']; exact (okC_get hok hj').2⟩
  simp only [alt, List.getElem_mapIdx]
  split
  · unfold altAt
    split
    · rename_i h
      have : vals.getD j 0 = vals[j]'h.1 := by simp [List.getD, h.1]
      simp only [this]
      exact hv _ (List.getElem_mem _)
    · exact (okC_get hok hj').1
  · exact (okC_get hok hj').1
end Go.Proofs.Ytpppjlcfhijdgaa
