/- Plain facts on what is read: what was told, laid again, and what is left, are the bytes; how long it is. -/
import Derived.Test.YtokjkbbijfiloaaTake
namespace Go.Proofs.Ytokjkbbijfiloaa
open Go.RowKit

theorem low_cons (n k : Nat) : low n (k + 1) = UInt8.ofNat n :: low (n / 256) k := by
  simp only [low, List.range_succ_eq_map, List.map_cons, List.map_map, Nat.pow_zero, Nat.div_one, List.cons.injEq, true_and]
  apply List.map_congr_left
  intro i _
  simp only [Function.comp, Nat.pow_succ]
  rw [Nat.div_div_eq_div_mul, Nat.mul_comm (256 ^ i)]
theorem low_valN (l : List UInt8) : low (valN l) l.length = l := by
  induction l with
  | nil => rfl
  | cons x l ih =>
    have hx := x.toNat_lt
    rw [List.length_cons, low_cons, valN_cons, show (256 * valN l + x.toNat) / 256 = valN l by omega, ih]
    congr 1
    apply UInt8.toNat_inj.1
    rw [UInt8.toNat_ofNat']
    omega
theorem low_take (l : List UInt8) (k : Nat) (h : k ≤ l.length) : low (valN (l.take k)) k = l.take k := by
  have h1 := low_valN (l.take k)
  rwa [List.length_take, Nat.min_eq_left h] at h1

theorem rd_inv (f : Nat) : ∀ (i : Nat) (l : List UInt8) (v k : Nat), i + f = 9 → rd i l = some (v, k) → numF (f + 1) v ++ l.drop k = l ∧ (0 < i → 0 < v) ∧ k ≤ l.length := by
  induction f with
  | zero =>
    intro i l v k hi h
    obtain rfl : i = 9 := by omega
    cases l with
    | nil => cases h
    | cons x t =>
      rw [rd] at h
      by_cases hx : x.toNat < 128
      · rw [if_pos hx] at h
        by_cases hc : (0 < 9 ∧ x.toNat = 0) ∨ (9 = 9 ∧ 1 < x.toNat)
        · rw [if_pos hc] at h; cases h
        · rw [if_neg hc] at h
          injection h with h
          injection h with h1 h2
          subst h1; subst h2
          refine ⟨?_, fun _ => by omega, by simp⟩
          rw [numF_small _ _ hx]
          simp
      · rw [if_neg hx, if_pos rfl] at h; cases h
  | succ f ih =>
    intro i l v k hi h
    cases l with
    | nil => cases h
    | cons x t =>
      have hx8 := x.toNat_lt
      rw [rd] at h
      by_cases hx : x.toNat < 128
      · rw [if_pos hx] at h
        by_cases hc : (0 < i ∧ x.toNat = 0) ∨ (i = 9 ∧ 1 < x.toNat)
        · rw [if_pos hc] at h; cases h
        · rw [if_neg hc] at h
          injection h with h
          injection h with h1 h2
          subst h1; subst h2
          refine ⟨?_, fun h0 => by omega, by simp⟩
          rw [numF_small _ _ hx]
          simp
      · rw [if_neg hx, if_neg (by omega)] at h
        obtain ⟨⟨v', k'⟩, hr, he⟩ := Option.map_eq_some_iff.1 h
        simp only [Prod.mk.injEq] at he
        obtain ⟨e1, e2⟩ := he
        obtain ⟨h1, h2, h3⟩ := ih (i + 1) t v' k' (by omega) hr
        have hv' := h2 (by omega)
        subst e1; subst e2
        refine ⟨?_, fun _ => by omega, by simp; omega⟩
        rw [numF_big _ _ (by omega), show (x.toNat % 128 + 128 * v') / 128 = v' by omega, List.drop_succ_cons, List.cons_append, h1]
        congr 1
        apply UInt8.toNat_inj.1
        rw [UInt8.toNat_ofNat']
        omega

theorem rdBlob_inv {l x r : List UInt8} {most : Nat} (h : rdBlob l most = some (x, r)) : num x.length ++ x ++ r = l ∧ x.length ≤ most := by
  unfold rdBlob at h
  split at h
  · rename_i v k hr
    obtain ⟨h1, _, _⟩ := rd_inv 9 0 l v k rfl hr
    split at h
    · rename_i hc
      injection h with h
      injection h with e1 e2
      subst e1; subst e2
      have hl : ((l.drop k).take v).length = v := by rw [List.length_take]; exact Nat.min_eq_left hc.2
      rw [hl, List.append_assoc, List.take_append_drop]
      exact ⟨h1, hc.1⟩
    · cases h
  · cases h

/-- What was told, laid again, and what is left. -/
theorem take_lay {l r : List UInt8} {f y : Fld} (h : takeF l f = some (y, r)) : layF y ++ r = l := by
  obtain ⟨k, n, bl, most⟩ := f
  have hk5 : k % 5 = 0 ∨ k % 5 = 1 ∨ k % 5 = 2 ∨ k % 5 = 3 ∨ k % 5 = 4 := by omega
  unfold takeF at h
  simp only at h
  rcases hk5 with hk | hk | hk | hk | hk
  · rw [if_pos hk] at h
    split at h
    · cases h
    · injection h with h
      injection h with e1 e2
      subst e1; subst e2
      rw [show layF ⟨k, valN (l.take 1), [], most⟩ = low (valN (l.take 1)) 1 by simp [layF, hk], low_take _ _ (by omega), List.take_append_drop]
  · rw [if_neg (by omega), if_pos hk] at h
    split at h
    · cases h
    · injection h with h
      injection h with e1 e2
      subst e1; subst e2
      rw [show layF ⟨k, valN (l.take 2), [], most⟩ = low (valN (l.take 2)) 2 by simp [layF, hk], low_take _ _ (by omega), List.take_append_drop]
  · rw [if_neg (by omega), if_neg (by omega), if_pos hk] at h
    split at h
    · cases h
    · injection h with h
      injection h with e1 e2
      subst e1; subst e2
      rw [show layF ⟨k, valN (l.take 4), [], most⟩ = low (valN (l.take 4)) 4 by simp [layF, hk], low_take _ _ (by omega), List.take_append_drop]
  · rw [if_neg (by omega), if_neg (by omega), if_neg (by omega), if_pos hk] at h
    split at h
    · rename_i v kk hr
      split at h
      · injection h with h
        injection h with e1 e2
        subst e1; subst e2
        rw [show layF ⟨k, v, [], most⟩ = num v by simp [layF, hk]]
        exact (rd_inv 9 0 l v kk rfl hr).1
      · cases h
    · cases h
  · rw [if_neg (by omega), if_neg (by omega), if_neg (by omega), if_neg (by omega)] at h
    obtain ⟨⟨x, r'⟩, hr, he⟩ := Option.map_eq_some_iff.1 h
    injection he with e1 e2
    subst e1; subst e2
    rw [show layF ⟨k, 0, x, most⟩ = num x.length ++ x by simp [layF, hk]]
    exact (rdBlob_inv hr).1

theorem take_len {l r : List UInt8} {f y : Fld} (h : takeF l f = some (y, r)) : r.length ≤ l.length := by
  have := congrArg List.length (take_lay h)
  rw [List.length_append] at this
  omega
theorem leftF_len (l : List UInt8) (f : Fld) : (leftF l f).length ≤ l.length := by
  unfold leftF
  split
  · rename_i h; exact take_len h
  · simp
theorem take_ok {l r : List UInt8} {f y : Fld} (hf : f.Ok) (h : takeF l f = some (y, r)) : y.Ok ∧ y.kind = f.kind ∧ y.most = f.most ∧ y.b.length ≤ l.length := by
  obtain ⟨k, n, bl, most⟩ := f
  obtain ⟨hk8, hn, hmo⟩ := hf
  simp only at hk8 hmo
  have hk5 : k % 5 = 0 ∨ k % 5 = 1 ∨ k % 5 = 2 ∨ k % 5 = 3 ∨ k % 5 = 4 := by omega
  have hv : ∀ j, j ≤ 4 → valN (l.take j) ≤ 18446744073709551615 := by
    intro j hj
    have h1 := valN_lt (l.take j)
    have h2 : (256 : Nat) ^ (l.take j).length ≤ 256 ^ 4 := Nat.pow_le_pow_right (by omega) (by rw [List.length_take]; omega)
    have h3 : (256 : Nat) ^ 4 = 4294967296 := by decide
    omega
  unfold takeF at h
  simp only at h
  rcases hk5 with hk | hk | hk | hk | hk
  · rw [if_pos hk] at h
    split at h
    · cases h
    · injection h with h
      injection h with e1 e2
      subst e1; subst e2
      exact ⟨⟨hk8, hv 1 (by omega), hmo⟩, rfl, rfl, by simp⟩
  · rw [if_neg (by omega), if_pos hk] at h
    split at h
    · cases h
    · injection h with h
      injection h with e1 e2
      subst e1; subst e2
      exact ⟨⟨hk8, hv 2 (by omega), hmo⟩, rfl, rfl, by simp⟩
  · rw [if_neg (by omega), if_neg (by omega), if_pos hk] at h
    split at h
    · cases h
    · injection h with h
      injection h with e1 e2
      subst e1; subst e2
      exact ⟨⟨hk8, hv 4 (by omega), hmo⟩, rfl, rfl, by simp⟩
  · rw [if_neg (by omega), if_neg (by omega), if_neg (by omega), if_pos hk] at h
    split at h
    · rename_i v kk hr
      split at h
      · rename_i hle
        injection h with h
        injection h with e1 e2
        subst e1; subst e2
        exact ⟨⟨hk8, by simp only; omega, hmo⟩, rfl, rfl, by simp⟩
      · cases h
    · cases h
  · rw [if_neg (by omega), if_neg (by omega), if_neg (by omega), if_neg (by omega)] at h
    obtain ⟨⟨x, r'⟩, hr, he⟩ := Option.map_eq_some_iff.1 h
    injection he with e1 e2
    subst e1; subst e2
    have h1 := congrArg List.length (rdBlob_inv hr).1
    simp only [List.length_append] at h1
    exact ⟨⟨hk8, by simp, hmo⟩, rfl, rfl, by simp only; omega⟩
theorem told_ok (l : List UInt8) {f : Fld} (hf : f.Ok) : (toldF l f).Ok ∧ (toldF l f).kind = f.kind ∧ (toldF l f).most = f.most ∧ (toldF l f).b.length ≤ l.length := by
  unfold toldF
  split
  · rename_i y r h
    exact take_ok hf h
  · exact ⟨⟨hf.1, by simp, hf.2.2⟩, rfl, rfl, by simp⟩
theorem few_most {ys : List FV} {fs : List Fld} (hm : ys.map FV.f = fewF fs) : ∀ y ∈ ys, y.f.kind % 5 = 4 → y.f.most ≤ 1000 := by
  intro y hy hk
  have h1 : y.f ∈ ys.map FV.f := List.mem_map_of_mem hy
  rw [hm] at h1
  unfold fewF at h1
  obtain ⟨f, _, hf⟩ := List.mem_map.1 h1
  rw [← hf] at hk ⊢
  show (if f.kind % 5 = 4 then f.most % 1000 else f.most) ≤ 1000
  have hk' : f.kind % 5 = 4 := hk
  rw [if_pos hk']
  omega
theorem layF_len2 (f : Fld) (m : Nat) (h : f.b.length ≤ m) : (layF f).length ≤ 10 + m := by
  have h1 := numF_length 10 f.n
  have h2 := numF_length 10 f.b.length
  unfold layF num
  split
  · simp; omega
  · split
    · simp; omega
    · split
      · simp; omega
      · split
        · omega
        · simp only [List.length_append]; omega
theorem badF_lay {l : List UInt8} {bad : Bool} {f : Fld} (h : badF l bad f = false) : bad = false ∧ layF (toldF l f) ++ leftF l f = l := by
  unfold badF at h
  unfold toldF leftF
  cases ht : takeF l f with
  | none => rw [ht] at h; cases h
  | some y =>
    obtain ⟨y, r⟩ := y
    rw [ht] at h
    exact ⟨h, take_lay ht⟩
end Go.Proofs.Ytokjkbbijfiloaa
