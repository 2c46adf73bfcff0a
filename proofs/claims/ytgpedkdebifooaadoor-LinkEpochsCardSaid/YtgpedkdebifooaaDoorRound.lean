/- Numbers that go round, and what of them has come, in plain numbers. No condition beyond those said. -/
import Derived.Lib.TrailingZeros
namespace Go.Proofs.YtgpedkdebifooaaDoor

open Go in
/-- How many of the lowest bits (of 32) are set in a row. -/
def come (bits : Nat) : Nat := Lib.ctz 32 (4294967295 - bits)
theorem not_testBit {bits : Nat} (h : bits < 4294967296) (i : Nat) : (4294967295 - bits).testBit i = (decide (i < 32) && !bits.testBit i) := by
  have := Nat.testBit_two_pow_sub_succ (n := 32) (x := bits) h i
  rw [show (2 : Nat) ^ 32 - (bits + 1) = 4294967295 - bits by omega] at this
  exact this
open Go in
theorem come_spec {bits : Nat} (h : bits < 4294967296) : come bits ≤ 32 ∧ (∀ i, i < come bits → bits.testBit i = true) ∧ (come bits < 32 → bits.testBit (come bits) = false) := by
  unfold come
  by_cases h0 : 4294967295 - bits = 0
  · have hb : bits = 4294967295 := by omega
    subst hb
    refine ⟨by simp [Lib.ctz], fun i hi => ?_, by simp [Lib.ctz]⟩
    have hi : i < 32 := by simpa [Lib.ctz] using hi
    have := Nat.testBit_two_pow_sub_one 32 i
    simpa [hi] using this
  · have e : Lib.ctz 32 (4294967295 - bits) = Lib.ctzFrom 32 (4294967295 - bits) := by simp [Lib.ctz, h0]
    rw [e]
    obtain ⟨m, hm, hk⟩ := Lib.ctzFrom_spec 32 (4294967295 - bits) (by omega) (by omega)
    obtain ⟨c, hc⟩ : ∃ c, c = Lib.ctzFrom 32 (4294967295 - bits) := ⟨_, rfl⟩
    rw [← hc] at hm hk ⊢
    refine ⟨by omega, fun i hi => ?_, fun _ => ?_⟩
    · have h1 := not_testBit h i
      rw [hm, Nat.testBit_two_pow_mul] at h1
      simp [show ¬ i ≥ c by omega, show i < 32 by omega] at h1
      exact h1
    · have h1 := not_testBit h c
      rw [hm, Nat.testBit_two_pow_mul] at h1
      simp [hk] at h1
      exact h1

/-- How much further on b is than a, all the way round. -/
def toI (a b : Nat) : Int := if (b + 65536 - a) % 65536 < 32768 then (((b + 65536 - a) % 65536 : Nat) : Int) else (((b + 65536 - a) % 65536 : Nat) : Int) - 65536
theorem toI_bounds (a b : Nat) : -32768 ≤ toI a b ∧ toI a b ≤ 32767 := by unfold toI; split <;> omega
theorem toI_eq {a b : Nat} (_ha : a < 65536) (hb : b < 65536) (d : Int) (h1 : -32768 ≤ d) (h2 : d ≤ 32767) : toI a b = d ↔ (b : Int) = (a + d) % 65536 := by
  unfold toI
  split <;> omega
theorem toI_add {a : Nat} (ha : a < 65536) (d : Int) (h1 : -32768 ≤ d) (h2 : d ≤ 32767) : toI a (((a + d) % 65536).toNat) = d := by
  rw [toI_eq ha (by omega) d h1 h2]
  omega
theorem toI_self (a : Nat) (_ha : a < 65536) : toI a a = 0 := by unfold toI; rw [if_pos (by omega)]; omega
theorem toI_zero {a b : Nat} (ha : a < 65536) (hb : b < 65536) : toI a b = 0 ↔ a = b := by
  rw [toI_eq ha hb 0 (by omega) (by omega)]
  omega

/-- Has it come? -/
def hasN (next bits s : Nat) : Bool := decide (toI next s < 0) || (decide (0 < toI next s) && decide (toI next s ≤ 32) && bits.testBit (toI next s - 1).toNat)
/-- It has come: the acks behind it; none, if it had already, or is too far on. -/
def noteN (next bits s : Nat) : Option (Nat × Nat) :=
  if hasN next bits s = true ∨ 32 < toI next s then none
  else if toI next s = 0 then some ((s + 1 + come bits) % 65536, bits / 2 ^ (1 + come bits))
  else some (next, bits ||| 2 ^ (toI next s - 1).toNat)
theorem noteN_lt {next bits s x y : Nat} (hn : next < 65536) (hb : bits < 4294967296) (h : noteN next bits s = some (x, y)) : x < 65536 ∧ y < 4294967296 := by
  unfold noteN at h
  split at h
  · cases h
  · rename_i h0
    split at h
    · injection h with h
      injection h with h1 h2
      exact ⟨by omega, by rw [← h2]; exact Nat.lt_of_le_of_lt (Nat.div_le_self _ _) hb⟩
    · injection h with h
      injection h with h1 h2
      subst h1 h2
      refine ⟨hn, ?_⟩
      have hle : ¬ 32 < toI next s := fun h => h0 (.inr h)
      have h3 : (2 : Nat) ^ (toI next s - 1).toNat < 2 ^ 32 := Nat.pow_lt_pow_right (by omega) (by omega)
      exact Nat.or_lt_two_pow (n := 32) hb h3
theorem hasN_next (next bits : Nat) (hn : next < 65536) : hasN next bits next = false := by
  unfold hasN
  rw [toI_self next hn]
  simp
/-- What was noted is had. -/
theorem hasN_noteN {next bits s x y : Nat} (_hn : next < 65536) (hs : s < 65536) (h : noteN next bits s = some (x, y)) : hasN x y s = true := by
  unfold noteN at h
  split at h
  · cases h
  · rename_i h0
    have hle : ¬ 32 < toI next s := fun h => h0 (.inr h)
    have hnot : ¬ hasN next bits s = true := fun h => h0 (.inl h)
    have hge : ¬ toI next s < 0 := by
      intro h1
      exact hnot (by unfold hasN; simp [h1])
    split at h
    · injection h with h
      injection h with h1 h2
      subst h1
      have hc : come bits ≤ 32 ∨ 32 < come bits := by omega
      have hlt : come bits ≤ 32 := by
        unfold come Go.Lib.ctz
        split
        · omega
        · have : ∀ f x, Go.Lib.ctzFrom f x ≤ f := by
            intro f
            induction f with
            | zero => intro x; simp [Go.Lib.ctzFrom]
            | succ f ih => intro x; unfold Go.Lib.ctzFrom; split; omega; have := ih (x / 2); omega
          exact this 32 _
      have h3 : toI ((s + 1 + come bits) % 65536) s = -1 - (come bits : Int) := by
        rw [toI_eq (by omega) hs _ (by omega) (by omega)]
        omega
      unfold hasN
      rw [h3]
      simp only [Bool.or_eq_true, decide_eq_true_eq]
      left
      omega
    · injection h with h
      injection h with h1 h2
      subst h1 h2
      unfold hasN
      rename_i hne
      rw [Nat.testBit_or, Nat.testBit_two_pow_self]
      simp only [Bool.or_true, Bool.and_true, Bool.or_eq_true, Bool.and_eq_true, decide_eq_true_eq]
      right
      omega
theorem come_le (bits : Nat) (h : bits < 4294967296) : come bits ≤ 32 := (come_spec h).1
/-- What was had is had behind it: half the way round. -/
theorem hasN_old {next bits s x y d : Nat} (hn : next < 65536) (hb : bits < 4294967296) (hs : s < 65536) (hd : d < 32000) (h : noteN next bits s = some (x, y)) :
    hasN x y ((next + 65536 - 1 - d) % 65536) = true := by
  unfold noteN at h
  split at h
  · cases h
  · rename_i h0
    have hle : ¬ 32 < toI next s := fun h => h0 (.inr h)
    have hnot : ¬ hasN next bits s = true := fun h => h0 (.inl h)
    have hge : ¬ toI next s < 0 := by
      intro h1
      exact hnot (by unfold hasN; simp [h1])
    have hc := come_le bits hb
    split at h
    · rename_i he
      rw [toI_zero hn hs] at he
      subst he
      injection h with h
      injection h with h1 h2
      subst h1
      have h3 : toI ((next + 1 + come bits) % 65536) ((next + 65536 - 1 - d) % 65536) = -2 - (come bits : Int) - d := by
        rw [toI_eq (by omega) (by omega) _ (by omega) (by omega)]
        omega
      unfold hasN
      rw [h3]
      simp only [Bool.or_eq_true, decide_eq_true_eq]
      left
      omega
    · injection h with h
      injection h with h1 h2
      subst h1
      have h3 : toI next ((next + 65536 - 1 - d) % 65536) = -1 - (d : Int) := by
        rw [toI_eq (by omega) (by omega) _ (by omega) (by omega)]
        omega
      unfold hasN
      rw [h3]
      simp only [Bool.or_eq_true, decide_eq_true_eq]
      left
      omega
theorem hasN_back {next bits d : Nat} (hn : next < 65536) (hd : d < 32000) : hasN next bits ((next + 65536 - 1 - d) % 65536) = true := by
  have h3 : toI next ((next + 65536 - 1 - d) % 65536) = -1 - (d : Int) := by
    rw [toI_eq (by omega) (by omega) _ (by omega) (by omega)]
    omega
  unfold hasN
  rw [h3]
  simp only [Bool.or_eq_true, decide_eq_true_eq]
  left
  omega
theorem toI_far {next d : Nat} (hn : next < 65536) (hd : d < 32000) : toI next ((next + 33 + d) % 65536) = 33 + d := by
  rw [toI_eq (by omega) (by omega) _ (by omega) (by omega)]
  omega
theorem hasN_far {next bits d : Nat} (hn : next < 65536) (hd : d < 32000) : hasN next bits ((next + 33 + d) % 65536) = false := by
  unfold hasN
  rw [toI_far hn hd]
  simp only [Bool.or_eq_false_iff, Bool.and_eq_false_iff, decide_eq_false_iff_not]
  exact ⟨by omega, .inl (.inr (by omega))⟩
theorem noteN_far {next bits d : Nat} (hn : next < 65536) (hd : d < 32000) : noteN next bits ((next + 33 + d) % 65536) = none := by
  unfold noteN
  rw [if_pos (.inr (by rw [toI_far hn hd]; omega))]
theorem noteN_had {next bits s : Nat} (h : hasN next bits s = true) : noteN next bits s = none := by
  unfold noteN
  rw [if_pos (.inl h)]

/-- The bits in a row of flags, and back. -/
def flags (bits : Nat) : List Bool := (List.range 32).map bits.testBit
@[simp] theorem flags_length (bits : Nat) : (flags bits).length = 32 := by simp [flags]
theorem flags_get (bits k : Nat) (h : k < 32) : (flags bits)[k]? = some (bits.testBit k) := by simp [flags, h]
theorem half_bit (bits k : Nat) : bits / 2 ^ k = 2 * (bits / 2 ^ (k + 1)) + (if bits.testBit k = true then 1 else 0) := by
  rw [Nat.testBit_eq_decide_div_mod_eq, Nat.pow_succ, ← Nat.div_div_eq_div_mul]
  simp only [decide_eq_true_eq]
  split <;> omega
theorem testBit_half (bits j k : Nat) : (bits / 2 ^ j).testBit k = bits.testBit (j + k) := by
  rw [Nat.testBit_div_two_pow, Nat.add_comm]

/-- How many of the first k bits are set. -/
def cntR (bits : Nat) : Nat → Nat
  | 0 => 0
  | k + 1 => cntR bits k + (if bits.testBit k = true then 1 else 0)
theorem cntR_le (bits k : Nat) : cntR bits k ≤ k := by
  induction k with
  | zero => simp [cntR]
  | succ k ih => unfold cntR; split <;> omega
theorem cntR_add (bits a b : Nat) : cntR bits (a + b) = cntR bits a + cntR (bits / 2 ^ a) b := by
  induction b with
  | zero => simp [cntR]
  | succ b ih => rw [← Nat.add_assoc, cntR, cntR, ih, testBit_half]; omega
theorem cntR_mod (bits k : Nat) : ∀ j, j ≤ k → cntR (bits % 2 ^ k) j = cntR bits j := by
  intro j
  induction j with
  | zero => intro _; rfl
  | succ j ih =>
    intro h
    rw [cntR, cntR, ih (by omega), Nat.testBit_mod_two_pow]
    simp [show j < k by omega]
theorem cntR_bytes (x : Nat) (_h : x < 4294967296) : cntR x 32 = cntR (x / 16777216) 8 + cntR (x / 65536 % 256) 8 + cntR (x / 256 % 256) 8 + cntR (x % 256) 8 := by
  rw [show (32 : Nat) = 8 + (8 + (8 + 8)) from rfl, cntR_add, cntR_add, cntR_add, show (256 : Nat) = 2 ^ 8 from rfl, cntR_mod _ 8 8 (by omega), cntR_mod _ 8 8 (by omega), cntR_mod _ 8 8 (by omega)]
  rw [Nat.div_div_eq_div_mul, Nat.div_div_eq_div_mul]
  simp only [← Nat.pow_add]
  simp only [show (16777216 : Nat) = 2 ^ 24 from rfl, show (65536 : Nat) = 2 ^ 16 from rfl]
  simp only [show 8 + 8 = 16 from rfl, show 8 + 16 = 24 from rfl]
  omega

/-- Of numbers from first on, those of L have come. -/
def Came (first : Nat) (L : List Nat) (x y : Nat) : Prop :=
  ∃ m, m ≤ 33 ∧ x = (first + m) % 65536 ∧ y < 4294967296 ∧ (∀ k, k < m → k ∈ L) ∧ m ∉ L ∧ ∀ j, y.testBit j = decide (m + 1 + j ∈ L)
theorem Came.none (first : Nat) (h : first < 65536) : Came first [] first 0 := ⟨0, by omega, by omega, by omega, fun k h => by omega, by simp, fun j => by simp⟩
theorem Came.note {first : Nat} {L : List Nat} {x y : Nat} (_hf : first < 65536) (h : Came first L x y) (hL : ∀ k ∈ L, k < 33) {k : Nat} (hk : k < 33) (hn : k ∉ L) :
    ∃ x' y', noteN x y ((first + k) % 65536) = some (x', y') ∧ Came first (k :: L) x' y' := by
  obtain ⟨m, hm, rfl, hy, hall, hmn, hbit⟩ := h
  have hmk : m ≤ k := by
    rcases Nat.lt_or_ge k m with h | h
    · exact absurd (hall k h) hn
    · exact h
  have hto : toI ((first + m) % 65536) ((first + k) % 65536) = (k : Int) - m := by
    rw [toI_eq (by omega) (by omega) _ (by omega) (by omega)]
    omega
  obtain ⟨c1, c2, c3⟩ := come_spec hy
  by_cases he : m = k
  · subst he
    refine ⟨((first + m) % 65536 + 1 + come y) % 65536, y / 2 ^ (1 + come y), ?_, ?_⟩
    · unfold noteN
      have hno : hasN ((first + m) % 65536) y ((first + m) % 65536) = false := hasN_next _ _ (by omega)
      rw [if_neg (by rw [hno, hto]; rintro (h | h); cases h; omega), if_pos (by omega)]
    · have hpre : ∀ i, i < come y → m + 1 + i ∈ L := fun i hi => by
        have := hbit i
        rw [c2 i hi] at this
        simpa using this.symm
      have hend : m + 1 + come y ∉ L := by
        intro hin
        have h33 := hL _ hin
        have := hbit (come y)
        rw [c3 (by omega)] at this
        simp [hin] at this
      refine ⟨m + 1 + come y, ?_, by omega, ?_, ?_, ?_, ?_⟩
      · rcases Nat.eq_zero_or_pos (come y) with h0 | h0
        · omega
        · have := hL _ (hpre (come y - 1) (by omega))
          omega
      · exact Nat.lt_of_le_of_lt (Nat.div_le_self _ _) hy
      · intro i hi
        rcases Nat.lt_or_ge i m with h1 | h1
        · exact List.mem_cons_of_mem _ (hall i h1)
        · rcases Nat.lt_or_ge m i with h2 | h2
          · have := hpre (i - (m + 1)) (by omega)
            rw [show m + 1 + (i - (m + 1)) = i by omega] at this
            exact List.mem_cons_of_mem _ this
          · have : i = m := by omega
            subst this
            simp
      · intro hin
        rcases List.mem_cons.1 hin with h1 | h1
        · omega
        · exact hend h1
      · intro j
        rw [testBit_half, hbit]
        rw [show m + 1 + (1 + come y + j) = m + 1 + come y + 1 + j by omega]
        simp only [List.mem_cons]
        rw [decide_eq_decide]
        constructor
        · exact fun h => .inr h
        · rintro (h | h)
          · omega
          · exact h
  · refine ⟨(first + m) % 65536, y ||| 2 ^ (toI ((first + m) % 65536) ((first + k) % 65536) - 1).toNat, ?_, ?_⟩
    · unfold noteN
      have hno : hasN ((first + m) % 65536) y ((first + k) % 65536) = false := by
        unfold hasN
        rw [hto]
        have hb := hbit (k - m - 1)
        rw [show m + 1 + (k - m - 1) = k by omega] at hb
        simp only [hn, decide_false] at hb
        rw [show ((k : Int) - m - 1).toNat = k - m - 1 by omega, hb]
        simp
        omega
      rw [if_neg (by rw [hno, hto]; rintro (h | h); cases h; omega), if_neg (by omega)]
    · refine ⟨m, hm, rfl, ?_, fun i hi => List.mem_cons_of_mem _ (hall i hi), ?_, ?_⟩
      · refine Nat.or_lt_two_pow (n := 32) hy (Nat.pow_lt_pow_right (by omega) ?_)
        rw [hto]
        omega
      · intro hin
        rcases List.mem_cons.1 hin with h1 | h1
        · exact he h1
        · exact hmn h1
      · intro j
        rw [hto, Nat.testBit_or, hbit, Nat.testBit_two_pow, Bool.eq_iff_iff]
        simp only [Bool.or_eq_true, decide_eq_true_eq, List.mem_cons]
        constructor
        · rintro (h | h)
          · exact .inr h
          · left; omega
        · rintro (h | h)
          · right; omega
          · exact .inl h
theorem Came.all {first : Nat} {L : List Nat} {x y : Nat} (h : Came first L x y) (hL : ∀ k ∈ L, k < 33) (hall : ∀ k, k < 33 → k ∈ L) : x = (first + 33) % 65536 ∧ y = 0 := by
  obtain ⟨m, hm, rfl, hy, _, hmn, hbit⟩ := h
  have hm33 : m = 33 := by
    rcases Nat.lt_or_ge m 33 with h | h
    · exact absurd (hall m h) hmn
    · omega
  subst hm33
  refine ⟨rfl, Nat.eq_of_testBit_eq fun i => ?_⟩
  rw [hbit, Nat.zero_testBit]
  simp only [decide_eq_false_iff_not]
  intro hin
  have := hL _ hin
  omega
end Go.Proofs.YtgpedkdebifooaaDoor
