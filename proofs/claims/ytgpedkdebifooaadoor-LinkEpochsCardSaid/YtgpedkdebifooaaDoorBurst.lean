/- A text with bits turned, as a number: what is turned is a burst. No condition beyond those said. -/
import Derived.Test.YtgpedkdebifooaaDoorCrc
namespace Go.Proofs.YtgpedkdebifooaaDoor

theorem mul_xor (k a b : Nat) : 2 ^ k * (a ^^^ b) = (2 ^ k * a) ^^^ (2 ^ k * b) := by
  apply Nat.eq_of_testBit_eq
  intro i
  rw [Nat.testBit_xor, Nat.testBit_two_pow_mul, Nat.testBit_two_pow_mul, Nat.testBit_two_pow_mul, Nat.testBit_xor]
  by_cases h : i ≥ k <;> simp [h]
theorem valN_inj {l m : List UInt8} (hl : l.length = m.length) (h : valN l = valN m) : l = m := by
  induction l generalizing m with
  | nil => cases m with
    | nil => rfl
    | cons y m => simp at hl
  | cons x l ih => cases m with
    | nil => simp at hl
    | cons y m =>
      rw [valN_cons, valN_cons] at h
      have hx := x.toNat_lt
      have hy := y.toNat_lt
      have h1 : x.toNat = y.toNat := by omega
      have h2 : valN l = valN m := by omega
      rw [UInt8.toNat_inj.1 h1, ih (by simpa using hl) h2]
/-- A byte of a text, turned. -/
def turnAt (l : List UInt8) (i : Nat) (t : UInt8) : List UInt8 := l.set i (l.getD i 0 ^^^ t)
@[simp] theorem turnAt_length (l : List UInt8) (i : Nat) (t : UInt8) : (turnAt l i t).length = l.length := by simp [turnAt]
theorem valN_turnAt (l : List UInt8) (i : Nat) (t : UInt8) (h : i < l.length) : valN (turnAt l i t) = valN l ^^^ (2 ^ (8 * i) * t.toNat) := by
  induction l generalizing i with
  | nil => simp at h
  | cons x l ih =>
    cases i with
    | zero =>
      have hx := x.toNat_lt
      have ht := t.toNat_lt
      show valN ((x ^^^ t) :: l) = _
      rw [valN_cons, valN_cons, low_byte _ _ (UInt8.toNat_lt _), low_byte _ _ hx, UInt8.toNat_xor, Nat.xor_assoc]
      simp
    | succ i =>
      have hx := x.toNat_lt
      show valN (x :: turnAt l i t) = _
      rw [valN_cons, valN_cons, ih i (by simpa using h), low_byte _ _ hx, low_byte _ _ hx]
      rw [show (256 : Nat) = 2 ^ 8 from rfl, mul_xor, ← Nat.mul_assoc, ← Nat.pow_add, Nat.xor_assoc, Nat.xor_assoc, Nat.xor_comm x.toNat]
      rw [show 8 + 8 * i = 8 * (i + 1) by omega]
/-- Bits of a text, turned: the first k of the mask, from the bit j on, as far as there are. -/
def turned (l : List UInt8) (j mask : Nat) : Nat → List UInt8
  | 0 => l
  | k + 1 => if (j + k) / 8 < l.length ∧ mask / 2 ^ k % 2 = 1 then turnAt (turned l j mask k) ((j + k) / 8) (UInt8.ofNat (2 ^ ((j + k) % 8))) else turned l j mask k
@[simp] theorem turned_length (l : List UInt8) (j mask k : Nat) : (turned l j mask k).length = l.length := by
  induction k with
  | zero => rfl
  | succ k ih => unfold turned; split <;> simp [ih]
theorem mod_pow_succ_xor (m k : Nat) : m % 2 ^ (k + 1) = (m % 2 ^ k) ^^^ (2 ^ k * (m / 2 ^ k % 2)) := by
  apply Nat.eq_of_testBit_eq
  intro i
  rw [Nat.testBit_xor, Nat.testBit_mod_two_pow, Nat.testBit_mod_two_pow, Nat.testBit_two_pow_mul]
  by_cases h1 : i < k
  · simp [h1, show i < k + 1 by omega, show ¬ i ≥ k by omega]
  · by_cases h2 : i = k
    · subst h2
      have h3 : (m / 2 ^ i % 2).testBit 0 = m.testBit i := by
        rw [Nat.testBit_zero, Nat.testBit_eq_decide_div_mod_eq]
        simp
      simp [h3]
    · have h4 : (m / 2 ^ k % 2).testBit (i - k) = false := Nat.testBit_lt_two_pow (Nat.lt_of_lt_of_le (Nat.mod_lt _ (by omega)) (by have := Nat.pow_le_pow_right (n := 2) (by omega) (show 1 ≤ i - k by omega); simpa using this))
      simp [h1, h4, show ¬ i < k + 1 by omega]
theorem valN_turned (l : List UInt8) (j mask k : Nat) (hj : j ≤ 8 * l.length) : valN (turned l j mask k) = valN l ^^^ (2 ^ j * (mask % 2 ^ min k (8 * l.length - j))) := by
  induction k with
  | zero => simp [turned, Nat.mod_one]
  | succ k ih =>
    unfold turned
    by_cases h1 : (j + k) / 8 < l.length
    · rw [show min (k + 1) (8 * l.length - j) = k + 1 by omega, mod_pow_succ_xor, mul_xor, ← Nat.xor_assoc]
      rw [show min k (8 * l.length - j) = k by omega] at ih
      by_cases h2 : mask / 2 ^ k % 2 = 1
      · rw [if_pos ⟨h1, h2⟩, valN_turnAt _ _ _ (by simpa using h1), ih]
        congr 1
        have h3 : (j + k) % 8 < 8 := Nat.mod_lt _ (by omega)
        have h4 : 2 ^ ((j + k) % 8) ≤ 2 ^ 7 := Nat.pow_le_pow_right (by omega) (by omega)
        rw [UInt8.toNat_ofNat', Nat.mod_eq_of_lt (by omega), ← Nat.pow_add, h2, Nat.mul_one, ← Nat.pow_add]
        congr 1
        omega
      · rw [if_neg (fun h => h2 h.2), ih, show mask / 2 ^ k % 2 = 0 by omega]
        simp
    · rw [if_neg (fun h => h1 h.1), ih]
      rw [show min (k + 1) (8 * l.length - j) = min k (8 * l.length - j) by omega]
/-- What is turned in 32 bits in a row: a number below 2^32, from the bit j on. -/
theorem valN_turned_burst (l : List UInt8) (j mask : Nat) (hj : j ≤ 8 * l.length) (hm : mask < 2 ^ 32) : ∃ d, d < 2 ^ 32 ∧ valN l ^^^ valN (turned l j mask 32) = 2 ^ j * d :=
  ⟨mask % 2 ^ min 32 (8 * l.length - j), Nat.lt_of_le_of_lt (Nat.mod_le _ _) hm, by
    rw [valN_turned l j mask 32 hj, ← Nat.xor_assoc, Nat.xor_self, Nat.zero_xor]⟩
theorem valN_turnAt_burst (l : List UInt8) (i : Nat) (t : UInt8) (h : i < l.length) : valN l ^^^ valN (turnAt l i t) = 2 ^ (8 * i) * t.toNat := by
  rw [valN_turnAt l i t h, ← Nat.xor_assoc, Nat.xor_self, Nat.zero_xor]
end Go.Proofs.YtgpedkdebifooaaDoor
