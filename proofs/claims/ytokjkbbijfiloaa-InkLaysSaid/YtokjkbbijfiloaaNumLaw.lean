/- Plain facts on numbers in as few bytes as may be: what was laid is read, and how long it is. -/
import Derived.Test.YtokjkbbijfiloaaEyeNum
namespace Go.Proofs.Ytokjkbbijfiloaa
open Go.RowKit

theorem rd_numF (f : Nat) : ∀ (i n : Nat) (rest : List UInt8), i + f = 9 → n < 128 ^ (f + 1) → n * 128 ^ i ≤ 18446744073709551615 → (0 < i → 0 < n) →
    rd i (numF (f + 1) n ++ rest) = some (n, (numF (f + 1) n).length) := by
  induction f with
  | zero =>
    intro i n rest hi hn hb h0
    obtain rfl : i = 9 := by omega
    have h9 : (128 : Nat) ^ 9 = 9223372036854775808 := by decide
    rw [h9] at hb
    have h0' := h0 (by omega)
    obtain rfl : n = 1 := by omega
    rfl
  | succ f ih =>
    intro i n rest hi hn hb h0
    by_cases hs : n < 128
    · rw [numF_small _ _ hs, List.cons_append, List.nil_append, rd]
      have hx : (UInt8.ofNat n).toNat = n := by rw [UInt8.toNat_ofNat']; omega
      rw [hx, if_pos hs, if_neg (by omega)]
      rfl
    · rw [numF_big _ _ (by omega), List.cons_append, rd]
      have hx : (UInt8.ofNat (n % 128 + 128)).toNat = n % 128 + 128 := by rw [UInt8.toNat_ofNat']; omega
      rw [hx, if_neg (by omega), if_neg (by omega)]
      have h1 : n / 128 < 128 ^ (f + 1) := by
        rw [Nat.pow_succ] at hn
        exact Nat.div_lt_of_lt_mul (by rw [Nat.mul_comm]; exact hn)
      have h2 : n / 128 * 128 ^ (i + 1) ≤ 18446744073709551615 := by
        refine Nat.le_trans ?_ hb
        rw [Nat.pow_succ, Nat.mul_comm (128 ^ i), ← Nat.mul_assoc]
        exact Nat.mul_le_mul_right _ (Nat.div_mul_le_self n 128)
      rw [ih (i + 1) (n / 128) rest (by omega) h1 h2 (fun _ => by omega)]
      simp only [Option.map_some, List.length_cons, Option.some.injEq, Prod.mk.injEq, and_true]
      omega

theorem rd_num (n : Nat) (rest : List UInt8) (hn : n ≤ 18446744073709551615) : rd 0 (num n ++ rest) = some (n, (num n).length) :=
  rd_numF 9 0 n rest rfl (by simp; omega) (by simpa using hn) (by omega)
theorem rd_num' (n : Nat) (hn : n ≤ 18446744073709551615) : rd 0 (num n) = some (n, (num n).length) := by
  have := rd_num n [] hn
  rwa [List.append_nil] at this

theorem num_ne (n : Nat) : num n ≠ [] := by
  unfold num
  by_cases h : n < 128
  · rw [numF_small _ _ h]; simp
  · rw [numF_big _ _ (by omega)]; simp

/-- How long a number is, told by dividing it again and again. -/
def Sevens (n k m : Nat) : Prop := ∃ f, m < 128 ^ f ∧ (num n).length = k + if m = 0 then 0 else (numF f m).length
theorem numF_len (f m : Nat) (h : 0 < m) (hf : m < 128 ^ f) : ∃ f', m / 128 < 128 ^ f' ∧ (numF f m).length = 1 + if m / 128 = 0 then 0 else (numF f' (m / 128)).length := by
  cases f with
  | zero => simp at hf; omega
  | succ f =>
    refine ⟨f, ?_, ?_⟩
    · rw [Nat.pow_succ] at hf
      exact Nat.div_lt_of_lt_mul (by rw [Nat.mul_comm]; exact hf)
    · by_cases hs : m < 128
      · rw [numF_small _ _ hs, if_pos (by omega)]; rfl
      · rw [numF_big _ _ (by omega), if_neg (by omega), List.length_cons, Nat.add_comm]
theorem Sevens.first (n : Nat) (hn : n ≤ 18446744073709551615) : Sevens n 1 (n / 128) := by
  by_cases h : 0 < n
  · obtain ⟨f, h1, h2⟩ := numF_len 10 n h (by simp; omega)
    exact ⟨f, h1, h2⟩
  · obtain rfl : n = 0 := by omega
    exact ⟨1, by simp, rfl⟩
theorem Sevens.next {n k m : Nat} (h : Sevens n k m) (hm : 0 < m) : Sevens n (k + 1) (m / 128) := by
  obtain ⟨f, h1, h2⟩ := h
  rw [if_neg (by omega)] at h2
  obtain ⟨f', h3, h4⟩ := numF_len f m hm h1
  exact ⟨f', h3, by rw [h2, h4]; omega⟩
theorem Sevens.last {n k : Nat} (h : Sevens n k 0) : (num n).length = k := by
  obtain ⟨f, _, h2⟩ := h
  simpa using h2
theorem Sevens.le {n k m : Nat} (h : Sevens n k m) : k ≤ 10 := by
  obtain ⟨f, _, h2⟩ := h
  have := numF_length 10 n
  unfold num at h2
  omega
end Go.Proofs.Ytokjkbbijfiloaa
