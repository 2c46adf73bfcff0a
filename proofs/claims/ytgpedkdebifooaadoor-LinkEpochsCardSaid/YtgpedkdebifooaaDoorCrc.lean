/- Sums, in plain numbers: a sum's step is linear, whole bytes go in at once, and what is not nought and of at most 32 bits leaves a trace. No condition beyond the widths said. -/
import Derived.Test.YtgpedkdebifooaaDoorRefLow
namespace Go.Proofs.YtgpedkdebifooaaDoor

/-- One bit's step of a sum. -/
def bitStep (s : Nat) : Nat := s / 2 ^^^ (if s % 2 = 1 then 2197175160 else 0)
def crcBits : Nat → Nat → Nat
  | 0, s => s
  | k + 1, s => crcBits k (bitStep s)
theorem crcBits_add (j k s : Nat) : crcBits (j + k) s = crcBits k (crcBits j s) := by
  induction j generalizing s with
  | zero => simp [crcBits]
  | succ j ih => rw [Nat.succ_add]; exact ih _
theorem crcBits_succ (k s : Nat) : crcBits (k + 1) s = bitStep (crcBits k s) := by rw [crcBits_add k 1]; rfl
theorem xor_odd (a b : Nat) : (a ^^^ b) % 2 = (a + b) % 2 := by
  have h := Nat.xor_mod_two_pow (a := a) (b := b) (n := 1)
  rw [Nat.pow_one] at h
  rw [h]
  have ha : a % 2 = 0 ∨ a % 2 = 1 := by omega
  have hb : b % 2 = 0 ∨ b % 2 = 1 := by omega
  rcases ha with ha | ha <;> rcases hb with hb | hb <;> rw [ha, hb] <;> simp <;> omega
theorem bitStep_xor (a b : Nat) : bitStep (a ^^^ b) = bitStep a ^^^ bitStep b := by
  unfold bitStep
  rw [Nat.xor_div_two, xor_odd]
  have ha : a % 2 = 0 ∨ a % 2 = 1 := by omega
  have hb : b % 2 = 0 ∨ b % 2 = 1 := by omega
  have e : ∀ x y z : Nat, x ^^^ z ^^^ (y ^^^ z) = x ^^^ y := fun x y z => by
    rw [Nat.xor_assoc, ← Nat.xor_assoc z y z, Nat.xor_comm z y, Nat.xor_assoc y z z, Nat.xor_self, Nat.xor_zero]
  rcases ha with ha | ha <;> rcases hb with hb | hb
  · rw [if_neg (by omega), if_neg (by omega), if_neg (by omega)]; simp
  · rw [if_pos (by omega), if_neg (by omega), if_pos hb, Nat.xor_zero, Nat.xor_assoc]
  · rw [if_pos (by omega), if_pos ha, if_neg (by omega), Nat.xor_zero, Nat.xor_assoc, Nat.xor_assoc, Nat.xor_comm (b / 2)]
  · rw [if_neg (by omega), if_pos ha, if_pos hb, Nat.xor_zero, e]
theorem crcBits_xor (k a b : Nat) : crcBits k (a ^^^ b) = crcBits k a ^^^ crcBits k b := by
  induction k generalizing a b with
  | zero => rfl
  | succ k ih => show crcBits k (bitStep (a ^^^ b)) = crcBits k (bitStep a) ^^^ crcBits k (bitStep b); rw [bitStep_xor]; exact ih _ _
theorem crcBits_shift (k m : Nat) : crcBits k (2 ^ k * m) = m := by
  induction k with
  | zero => simp [crcBits]
  | succ k ih =>
    show crcBits k (bitStep (2 ^ (k + 1) * m)) = m
    have h : 2 ^ (k + 1) * m = 2 * (2 ^ k * m) := by rw [Nat.pow_succ, Nat.mul_comm (2 ^ k) 2, Nat.mul_assoc]
    have h2 : bitStep (2 ^ (k + 1) * m) = 2 ^ k * m := by
      unfold bitStep
      rw [h, if_neg (by omega), Nat.xor_zero, Nat.mul_div_cancel_left _ (by omega)]
    rw [h2, ih]
theorem bitStep_lt {s : Nat} (h : s < 2 ^ 32) : bitStep s < 2 ^ 32 := by
  unfold bitStep
  refine Nat.xor_lt_two_pow (by omega) ?_
  split <;> omega
theorem crcBits_lt {s : Nat} (k : Nat) (h : s < 2 ^ 32) : crcBits k s < 2 ^ 32 := by
  induction k generalizing s with
  | zero => exact h
  | succ k ih => exact ih (bitStep_lt h)
theorem bitStep_nought {s : Nat} (h : s < 2 ^ 32) (h0 : bitStep s = 0) : s = 0 := by
  unfold bitStep at h0
  by_cases ho : s % 2 = 1
  · exfalso
    rw [if_pos ho] at h0
    have h1 : (s / 2 ^^^ 2197175160).testBit 31 = true := by
      rw [Nat.testBit_xor, Nat.testBit_lt_two_pow (show s / 2 < 2 ^ 31 by omega)]
      decide
    rw [h0] at h1
    simp at h1
  · rw [if_neg ho, Nat.xor_zero] at h0
    omega
theorem crcBits_nought {s : Nat} (k : Nat) (h : s < 2 ^ 32) (h0 : crcBits k s = 0) : s = 0 := by
  induction k generalizing s with
  | zero => exact h0
  | succ k ih => exact bitStep_nought h (ih (bitStep_lt h) h0)
/-- What is not nought and of at most 32 bits leaves a trace. -/
theorem crcBits_burst {n j m : Nat} (hj : j ≤ n) (h : m < 2 ^ 32) (h0 : crcBits n (2 ^ j * m) = 0) : m = 0 := by
  obtain ⟨i, rfl⟩ : ∃ i, n = j + i := ⟨n - j, by omega⟩
  rw [crcBits_add, crcBits_shift] at h0
  exact crcBits_nought i h h0

/-- A sum's step by one byte, and by a text. -/
def step8 (s : Nat) (b : Nat) : Nat := crcBits 8 (s ^^^ b)
def crc (s : Nat) (l : List UInt8) : Nat := l.foldl (fun s b => step8 s b.toNat) s
theorem crc_append (s : Nat) (l m : List UInt8) : crc s (l ++ m) = crc (crc s l) m := by simp [crc, List.foldl_append]
theorem crc_cons (s : Nat) (b : UInt8) (l : List UInt8) : crc s (b :: l) = crc (step8 s b.toNat) l := rfl
theorem low_byte (a b : Nat) (h : b < 256) : 256 * a + b = (256 * a) ^^^ b := by
  apply Nat.eq_of_testBit_eq
  intro i
  have h1 := Nat.testBit_two_pow_mul_add a (b := b) (i := 8) h i
  have h2 := Nat.testBit_two_pow_mul (i := 8) (a := a) (j := i)
  rw [Nat.testBit_xor]
  rw [show (2 : Nat) ^ 8 = 256 by rfl] at h1 h2
  rw [h1, h2]
  by_cases hi : i < 8
  · rw [if_pos hi]; simp [show ¬ i ≥ 8 by omega]
  · rw [if_neg hi]
    have h3 : b.testBit i = false := Nat.testBit_lt_two_pow (Nat.lt_of_lt_of_le h (by have := Nat.pow_le_pow_right (n := 2) (by omega) (show 8 ≤ i by omega); simpa using this))
    simp [show i ≥ 8 by omega, h3]
/-- A text's sum is that of its number, as many bits on. -/
theorem crc_val (s : Nat) (l : List UInt8) : crc s l = crcBits (8 * l.length) (s ^^^ valN l) := by
  induction l generalizing s with
  | nil => simp [crc, valN, crcBits]
  | cons b l ih =>
    rw [crc_cons, ih, valN_cons, List.length_cons]
    rw [show 8 * (l.length + 1) = 8 + 8 * l.length by omega, crcBits_add]
    congr 1
    rw [low_byte _ _ (by have := b.toNat_lt; omega), step8, Nat.xor_comm (256 * valN l), ← Nat.xor_assoc, crcBits_xor 8 (s ^^^ b.toNat)]
    congr 1
    exact (crcBits_shift 8 (valN l)).symm
theorem step8_lt {s b : Nat} (h : s < 2 ^ 32) (hb : b < 256) : step8 s b < 2 ^ 32 := crcBits_lt 8 (Nat.xor_lt_two_pow h (by omega))
theorem crc_lt {s : Nat} (l : List UInt8) (h : s < 2 ^ 32) : crc s l < 2 ^ 32 := by
  induction l generalizing s with
  | nil => exact h
  | cons b l ih => exact ih (step8_lt h (by have := b.toNat_lt; omega))
/-- The step by a table. -/
theorem step8_table (s b : Nat) : step8 s b = s / 256 ^^^ step8 0 (s % 256 ^^^ b) := by
  have h1 : s = 256 * (s / 256) ^^^ s % 256 := by rw [← low_byte _ _ (by omega)]; omega
  unfold step8
  conv => lhs; rw [h1]
  rw [Nat.xor_assoc, crcBits_xor, Nat.zero_xor]
  congr 1
  exact crcBits_shift 8 _
theorem low_first (n k : Nat) : low n (k + 1) = UInt8.ofNat n :: low (n / 256) k := by
  simp only [low, List.range_succ_eq_map, List.map_cons, List.map_map, Nat.pow_zero, Nat.div_one]
  congr 1
  apply List.map_congr_left
  intro i _
  simp only [Function.comp, Nat.pow_succ]
  rw [Nat.mul_comm, Nat.div_div_eq_div_mul]
theorem valN_low (n k : Nat) : valN (low n k) = n % 256 ^ k := by
  induction k generalizing n with
  | zero => simp [low, valN, Nat.mod_one]
  | succ k ih =>
    rw [low_first, valN_cons, ih, Nat.pow_succ, Nat.mul_comm (256 ^ k), Nat.mod_mul]
    simp
    omega
/-- A number of four bytes, given in as a text, is given in at once. -/
theorem crc_low {s v : Nat} (hv : v < 2 ^ 32) : crc s (low v 4) = crcBits 32 (s ^^^ v) := by
  rw [crc_val, low_length, valN_low, Nat.mod_eq_of_lt (by simpa using hv)]
/-- Two texts of one length that differ by at most 32 bits in a row, from the bit j on, have unlike sums. -/
theorem crc_burst {s : Nat} {l m : List UInt8} {j d : Nat} (hl : l.length = m.length) (hj : j ≤ 8 * l.length) (hd : d < 2 ^ 32) (hx : valN l ^^^ valN m = 2 ^ j * d) (he : crc s l = crc s m) : d = 0 := by
  rw [crc_val, crc_val, ← hl, crcBits_xor, crcBits_xor _ _ (valN m)] at he
  refine crcBits_burst hj hd ?_
  rw [← hx, crcBits_xor]
  have h2 := congrArg (crcBits (8 * l.length) s ^^^ ·) he
  simp only [← Nat.xor_assoc, Nat.xor_self, Nat.zero_xor] at h2
  rw [h2, Nat.xor_self]
theorem xor_nought {a b : Nat} (h : a ^^^ b = 0) : a = b := by
  have h2 : a ^^^ b ^^^ b = 0 ^^^ b := by rw [h]
  rwa [Nat.xor_assoc, Nat.xor_self, Nat.xor_zero, Nat.zero_xor] at h2
theorem flip_xor {x : Nat} (h : x < 2 ^ 32) : 4294967295 - x = 4294967295 ^^^ x := by
  apply Nat.eq_of_testBit_eq
  intro i
  have h1 := Nat.testBit_two_pow_sub_succ h i
  have h2 : (4294967295 : Nat).testBit i = decide (i < 32) := Nat.testBit_two_pow_sub_one 32 i
  rw [Nat.testBit_xor, h2, show 4294967295 - x = 2 ^ 32 - (x + 1) by omega, h1]
  by_cases hi : i < 32
  · simp [hi]
  · have h3 : x.testBit i = false := Nat.testBit_lt_two_pow (Nat.lt_of_lt_of_le h (Nat.pow_le_pow_right (by omega) (by omega)))
    simp [hi, h3]
/-- A text's sum. -/
def sumN (l : List UInt8) : Nat := 4294967295 - crc 4294967295 l
theorem sumN_lt (l : List UInt8) : sumN l < 2 ^ 32 := by unfold sumN; omega
theorem sumN_inj {l m : List UInt8} : sumN l = sumN m ↔ crc 4294967295 l = crc 4294967295 m := by
  have h1 := crc_lt (s := 4294967295) l (by omega)
  have h2 := crc_lt (s := 4294967295) m (by omega)
  unfold sumN
  omega
/-- What ends in its sum: just what leaves the one rest. -/
theorem opens_iff {p t : List UInt8} (ht : t.length = 4) : valN t = sumN p ↔ crc 4294967295 (p ++ t) = crcBits 32 4294967295 := by
  have hc := crc_lt (s := 4294967295) p (by omega)
  have hv : valN t < 2 ^ 32 := by have := valN_lt t; rw [ht] at this; simpa using this
  rw [crc_append, crc_val _ t, ht]
  unfold sumN
  rw [flip_xor hc]
  obtain ⟨c, hcc⟩ : ∃ c, c = crc 4294967295 p := ⟨_, rfl⟩
  rw [← hcc] at hc ⊢
  constructor
  · intro h
    rw [h, Nat.xor_comm 4294967295 c, ← Nat.xor_assoc, Nat.xor_self, Nat.zero_xor]
  · intro h
    have h1 : crcBits 32 (c ^^^ valN t ^^^ 4294967295) = 0 := by rw [crcBits_xor, h, Nat.xor_self]
    have h2 := crcBits_nought 32 (Nat.xor_lt_two_pow (Nat.xor_lt_two_pow hc hv) (by omega)) h1
    have h3 := xor_nought h2
    rw [← h3, Nat.xor_comm c, Nat.xor_assoc, Nat.xor_self, Nat.xor_zero]
/-- What is sealed, with at most 32 bits in a row turned, opens just if none was. -/
theorem opens_burst {q m : List UInt8} {j d : Nat} (hq : crc 4294967295 q = crcBits 32 4294967295) (hl : q.length = m.length) (hj : j ≤ 8 * q.length) (hd : d < 2 ^ 32) (hx : valN q ^^^ valN m = 2 ^ j * d) : crc 4294967295 m = crcBits 32 4294967295 ↔ d = 0 := by
  constructor
  · intro h
    exact crc_burst hl hj hd hx (hq.trans h.symm)
  · intro h
    subst h
    have h1 := xor_nought (hx.trans (Nat.mul_zero _))
    rw [← hq, crc_val, crc_val, hl, h1]
end Go.Proofs.YtgpedkdebifooaaDoor
