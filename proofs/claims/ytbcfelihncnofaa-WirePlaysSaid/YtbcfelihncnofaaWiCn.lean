/- How many frames come, plainly. No condition. -/
import Derived.Test.YtbcfelihncnofaaWiH
namespace Go.Proofs.Ytbcfelihncnofaa
open Go.RowKit
set_option linter.unusedVariables false

def adjF (f : Ft) : Int := if f.how = 1 then -1 else if f.how = 2 then 1 else 0
theorem adjF_bnd (f : Ft) : -1 ≤ adjF f ∧ adjF f ≤ 1 := by unfold adjF; split <;> (try split) <;> omega
theorem putN_len (l : List UInt8) (f : Ft) : ((putN l f).length : Int) = 1 + adjF f := by
  unfold putN adjF
  by_cases h1 : f.how = 1
  · simp [h1]
  · by_cases h2 : f.how = 2
    · simp [h2]
    · rw [if_neg h1, if_neg h2, if_neg h1, if_neg h2]
      repeat' split
      all_goals simp
/-- What the law counts: m frames, and what the first k faults make of it. -/
def wantN (m : Nat) (fs : List Ft) : Nat → Int
  | 0 => m
  | k + 1 => wantN m fs k + (if k < m then adjF (fs.getD k fz) else 0)
theorem wantN_bnd (m : Nat) (fs : List Ft) (k : Nat) : (m : Int) - k ≤ wantN m fs k ∧ wantN m fs k ≤ m + k := by
  induction k with
  | zero => simp [wantN]
  | succ k ih =>
    have := adjF_bnd (fs.getD k fz)
    rw [wantN]
    split <;> omega
theorem wantN_past (m : Nat) (fs : List Ft) (k j : Nat) (h : ∀ i, k ≤ i → (if i < m then adjF (fs.getD i fz) else 0) = 0) : wantN m fs (k + j) = wantN m fs k := by
  induction j with
  | zero => rfl
  | succ j ih => rw [← Nat.add_assoc, wantN, h (k + j) (by omega), ih]; omega
theorem putsN_len (ls : List (List UInt8)) (fs : List Ft) (m k : Nat) (hk : k ≤ m) : ((putsN ls fs k).length : Int) + (m - k) = wantN m fs k := by
  induction k with
  | zero => simp [putsN, wantN]
  | succ k ih =>
    have h1 := ih (by omega)
    have h2 := putN_len (ls.getD k []) (fs.getD k fz)
    rw [putsN_next, List.length_append, wantN, if_pos (by omega), ← h1]
    omega
theorem wantN_all (ls : List (List UInt8)) (fs : List Ft) (m : Nat) : wantN m fs fs.length = ((putsN ls fs m).length : Int) := by
  have h1 := putsN_len ls fs m m (Nat.le_refl _)
  rcases Nat.le_total m fs.length with h | h
  · have h2 := wantN_past m fs m (fs.length - m) (fun i hi => if_neg (by omega))
    rw [show m + (fs.length - m) = fs.length by omega] at h2
    omega
  · have h2 := wantN_past m fs fs.length (m - fs.length) (fun i hi => by
      rw [List.getD_eq_getElem?_getD, List.getElem?_eq_none hi]
      simp [adjF, fz])
    rw [show fs.length + (m - fs.length) = m by omega] at h2
    omega
theorem putN_t (l : List UInt8) (f : Ft) : ∀ x ∈ putN l f, x.2 = 1 ∨ x.2 = 2 ∨ x.2 = 3 := by
  unfold putN
  repeat' split
  all_goals simp
theorem putsN_t (ls : List (List UInt8)) (fs : List Ft) (k : Nat) : ∀ x ∈ putsN ls fs k, x.2 = 1 ∨ x.2 = 2 ∨ x.2 = 3 := by
  intro x hx
  obtain ⟨i, _, h⟩ := List.mem_flatMap.1 hx
  exact putN_t _ _ x h
theorem three (ks : List (List UInt8 × Int)) (h : ∀ x ∈ ks, x.2 = 1 ∨ x.2 = 2 ∨ x.2 = 3) : (nowK ks).length + (nowK (laterK ks)).length + (nowK (laterK (laterK ks))).length = ks.length ∧ laterK (laterK (laterK ks)) = [] := by
  induction ks with
  | nil => exact ⟨rfl, rfl⟩
  | cons x l ih =>
    obtain ⟨i1, i2⟩ := ih (fun y hy => h y (List.mem_cons_of_mem _ hy))
    have e : x :: l = [x] ++ l := rfl
    rw [e, nowK_append, laterK_append, nowK_append, laterK_append, nowK_append, laterK_append, i2]
    obtain ⟨a, t⟩ := x
    have ht := h (a, t) (by simp)
    simp only at ht
    rcases ht with rfl | rfl | rfl <;> (simp [nowK, laterK] at i1 ⊢; omega)
theorem later_t {ks : List (List UInt8 × Int)} (h : ∀ x ∈ ks, 0 ≤ x.2 ∧ x.2 ≤ 1000) : ∀ x ∈ laterK ks, -1 ≤ x.2 ∧ x.2 ≤ 1000 := by
  intro x hx
  obtain ⟨y, hy, rfl⟩ := List.mem_map.1 (List.mem_filter.1 hx).1
  have := h y hy
  simp only
  omega
theorem later_le (ks : List (List UInt8 × Int)) : (laterK ks).length ≤ ks.length := by
  unfold laterK
  exact Nat.le_trans (List.length_filter_le _ _) (by simp)
theorem now_le (ks : List (List UInt8 × Int)) : (nowK ks).length ≤ ks.length := by
  unfold nowK
  rw [List.length_map]
  exact List.length_filter_le _ _
theorem later_small {ks : List (List UInt8 × Int)} {n : Int} (h : ∀ x ∈ ks, 1 ≤ x.2 ∧ x.2 ≤ n) : ∀ x ∈ laterK ks, 1 ≤ x.2 ∧ x.2 ≤ n - 1 := by
  intro x hx
  have hf := List.mem_filter.1 hx
  obtain ⟨y, hy, rfl⟩ := List.mem_map.1 hf.1
  have := h y hy
  have h2 := hf.2
  simp at h2
  simp only
  omega
end Go.Proofs.Ytbcfelihncnofaa
