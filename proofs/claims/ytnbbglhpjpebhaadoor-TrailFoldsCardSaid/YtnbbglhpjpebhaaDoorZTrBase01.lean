/- Parts of one proof, in their order. -/
import Derived.Lib.TrailingZeros
import Derived.Lib.Join
import Derived.Lib.ItoaNum
import Derived.Test.YtnbbglhpjpebhaaDoorRows
import Derived.Lib.LaidU8
import Derived.Lib.LaidTab
import Derived.Deep.Strs
import Derived.OpenShut
import Derived.WalkKit
import Derived.WalkSpells
import Derived.WalkLawsBesides
import Derived.Deep.Draws
import Derived.Maps.AppendAt
import Derived.Deep.AppendLies
import Derived.Laws.Rows
import Derived.Lib.Hide
import Derived.Deep.QuietTactic
import Derived.BigQuiet
import Derived.IntWalk
import Derived.BigGuardPart
import Derived.Deep.MidRow
/- Numbers that go round, and what of them has come, in plain numbers. No condition beyond those said. -/
namespace Go.Proofs.YtnbbglhpjpebhaaDoor

open Go in
/-- How many of the lowest bits (of 32) are set in a row. -/
def come (bits : Nat) : Nat := Lib.ctz 32 (4294967295 - bits)
theorem not_testBit {bits : Nat} (h : bits < 4294967296) (i : Nat) : (4294967295 - bits).testBit i = (decide (i < 32) && !bits.testBit i) := by
  have := Nat.testBit_two_pow_sub_succ (n := 32) (x := bits) h i
  rw [show (2 : Nat) ^ 32 - (bits + 1) = 4294967295 - bits by omega] at this
  exact this
open Go in
theorem come_spec {bits : Nat} (h : bits < 4294967296) : come bits ≤ 32 ∧ (∀ i, i < come bits → bits.testBit i = true) ∧ (come bits < 32 → bits.testBit (come bits) = false) := by
  unfold come
  by_cases h0 : 4294967295 - bits = 0
  · have hb : bits = 4294967295 := by omega
    subst hb
    refine ⟨by simp [Lib.ctz], fun i hi => ?_, by simp [Lib.ctz]⟩
    have hi : i < 32 := by simpa [Lib.ctz] using hi
    have := Nat.testBit_two_pow_sub_one 32 i
    simpa [hi] using this
  · have e : Lib.ctz 32 (4294967295 - bits) = Lib.ctzFrom 32 (4294967295 - bits) := by simp [Lib.ctz, h0]
    rw [e]
    obtain ⟨m, hm, hk⟩ := Lib.ctzFrom_spec 32 (4294967295 - bits) (by omega) (by omega)
    obtain ⟨c, hc⟩ : ∃ c, c = Lib.ctzFrom 32 (4294967295 - bits) := ⟨_, rfl⟩
    rw [← hc] at hm hk ⊢
    refine ⟨by omega, fun i hi => ?_, fun _ => ?_⟩
    · have h1 := not_testBit h i
      rw [hm, Nat.testBit_two_pow_mul] at h1
      simp [show ¬ i ≥ c by omega, show i < 32 by omega] at h1
      exact h1
    · have h1 := not_testBit h c
      rw [hm, Nat.testBit_two_pow_mul] at h1
      simp [hk] at h1
      exact h1

/-- How much further on b is than a, all the way round. -/
def toI (a b : Nat) : Int := if (b + 65536 - a) % 65536 < 32768 then (((b + 65536 - a) % 65536 : Nat) : Int) else (((b + 65536 - a) % 65536 : Nat) : Int) - 65536
theorem toI_bounds (a b : Nat) : -32768 ≤ toI a b ∧ toI a b ≤ 32767 := by unfold toI; split <;> omega
theorem toI_eq {a b : Nat} (_ha : a < 65536) (hb : b < 65536) (d : Int) (h1 : -32768 ≤ d) (h2 : d ≤ 32767) : toI a b = d ↔ (b : Int) = (a + d) % 65536 := by
  unfold toI
  split <;> omega
theorem toI_add {a : Nat} (ha : a < 65536) (d : Int) (h1 : -32768 ≤ d) (h2 : d ≤ 32767) : toI a (((a + d) % 65536).toNat) = d := by
  rw [toI_eq ha (by omega) d h1 h2]
  omega
theorem toI_self (a : Nat) (_ha : a < 65536) : toI a a = 0 := by unfold toI; rw [if_pos (by omega)]; omega
theorem toI_zero {a b : Nat} (ha : a < 65536) (hb : b < 65536) : toI a b = 0 ↔ a = b := by
  rw [toI_eq ha hb 0 (by omega) (by omega)]
  omega

/-- Has it come? -/
def hasN (next bits s : Nat) : Bool := decide (toI next s < 0) || (decide (0 < toI next s) && decide (toI next s ≤ 32) && bits.testBit (toI next s - 1).toNat)
/-- It has come: the acks behind it; none, if it had already, or is too far on. -/
def noteN (next bits s : Nat) : Option (Nat × Nat) :=
  if hasN next bits s = true ∨ 32 < toI next s then none
  else if toI next s = 0 then some ((s + 1 + come bits) % 65536, bits / 2 ^ (1 + come bits))
  else some (next, bits ||| 2 ^ (toI next s - 1).toNat)
theorem noteN_lt {next bits s x y : Nat} (hn : next < 65536) (hb : bits < 4294967296) (h : noteN next bits s = some (x, y)) : x < 65536 ∧ y < 4294967296 := by
  unfold noteN at h
  split at h
  · cases h
  · rename_i h0
    split at h
    · injection h with h
      injection h with h1 h2
      exact ⟨by omega, by rw [← h2]; exact Nat.lt_of_le_of_lt (Nat.div_le_self _ _) hb⟩
    · injection h with h
      injection h with h1 h2
      subst h1 h2
      refine ⟨hn, ?_⟩
      have hle : ¬ 32 < toI next s := fun h => h0 (.inr h)
      have h3 : (2 : Nat) ^ (toI next s - 1).toNat < 2 ^ 32 := Nat.pow_lt_pow_right (by omega) (by omega)
      exact Nat.or_lt_two_pow (n := 32) hb h3
theorem hasN_next (next bits : Nat) (hn : next < 65536) : hasN next bits next = false := by
  unfold hasN
  rw [toI_self next hn]
  simp
/-- What was noted is had. -/
theorem hasN_noteN {next bits s x y : Nat} (_hn : next < 65536) (hs : s < 65536) (h : noteN next bits s = some (x, y)) : hasN x y s = true := by
  unfold noteN at h
  split at h
  · cases h
  · rename_i h0
    have hle : ¬ 32 < toI next s := fun h => h0 (.inr h)
    have hnot : ¬ hasN next bits s = true := fun h => h0 (.inl h)
    have hge : ¬ toI next s < 0 := by
      intro h1
      exact hnot (by unfold hasN; simp [h1])
    split at h
    · injection h with h
      injection h with h1 h2
      subst h1
      have hc : come bits ≤ 32 ∨ 32 < come bits := by omega
      have hlt : come bits ≤ 32 := by
        unfold come Go.Lib.ctz
        split
        · omega
        · have : ∀ f x, Go.Lib.ctzFrom f x ≤ f := by
            intro f
            induction f with
            | zero => intro x; simp [Go.Lib.ctzFrom]
            | succ f ih => intro x; unfold Go.Lib.ctzFrom; split; omega; have := ih (x / 2); omega
          exact this 32 _
      have h3 : toI ((s + 1 + come bits) % 65536) s = -1 - (come bits : Int) := by
        rw [toI_eq (by omega) hs _ (by omega) (by omega)]
        omega
      unfold hasN
      rw [h3]
      simp only [Bool.or_eq_true, decide_eq_true_eq]
      left
      omega
    · injection h with h
      injection h with h1 h2
      subst h1 h2
      unfold hasN
      rename_i hne
      rw [Nat.testBit_or, Nat.testBit_two_pow_self]
      simp only [Bool.or_true, Bool.and_true, Bool.or_eq_true, Bool.and_eq_true, decide_eq_true_eq]
      right
      omega
theorem come_le (bits : Nat) (h : bits < 4294967296) : come bits ≤ 32 := (come_spec h).1
/-- What was had is had behind it: half the way round. -/
theorem hasN_old {next bits s x y d : Nat} (hn : next < 65536) (hb : bits < 4294967296) (hs : s < 65536) (hd : d < 32000) (h : noteN next bits s = some (x, y)) :
    hasN x y ((next + 65536 - 1 - d) % 65536) = true := by
  unfold noteN at h
  split at h
  · cases h
  · rename_i h0
    have hle : ¬ 32 < toI next s := fun h => h0 (.inr h)
    have hnot : ¬ hasN next bits s = true := fun h => h0 (.inl h)
    have hge : ¬ toI next s < 0 := by
      intro h1
      exact hnot (by unfold hasN; simp [h1])
    have hc := come_le bits hb
    split at h
    · rename_i he
      rw [toI_zero hn hs] at he
      subst he
      injection h with h
      injection h with h1 h2
      subst h1
      have h3 : toI ((next + 1 + come bits) % 65536) ((next + 65536 - 1 - d) % 65536) = -2 - (come bits : Int) - d := by
        rw [toI_eq (by omega) (by omega) _ (by omega) (by omega)]
        omega
      unfold hasN
      rw [h3]
      simp only [Bool.or_eq_true, decide_eq_true_eq]
      left
      omega
    · injection h with h
      injection h with h1 h2
      subst h1
      have h3 : toI next ((next + 65536 - 1 - d) % 65536) = -1 - (d : Int) := by
        rw [toI_eq (by omega) (by omega) _ (by omega) (by omega)]
        omega
      unfold hasN
      rw [h3]
      simp only [Bool.or_eq_true, decide_eq_true_eq]
      left
      omega
theorem hasN_back {next bits d : Nat} (hn : next < 65536) (hd : d < 32000) : hasN next bits ((next + 65536 - 1 - d) % 65536) = true := by
  have h3 : toI next ((next + 65536 - 1 - d) % 65536) = -1 - (d : Int) := by
    rw [toI_eq (by omega) (by omega) _ (by omega) (by omega)]
    omega
  unfold hasN
  rw [h3]
  simp only [Bool.or_eq_true, decide_eq_true_eq]
  left
  omega
theorem toI_far {next d : Nat} (hn : next < 65536) (hd : d < 32000) : toI next ((next + 33 + d) % 65536) = 33 + d := by
  rw [toI_eq (by omega) (by omega) _ (by omega) (by omega)]
  omega
theorem hasN_far {next bits d : Nat} (hn : next < 65536) (hd : d < 32000) : hasN next bits ((next + 33 + d) % 65536) = false := by
  unfold hasN
  rw [toI_far hn hd]
  simp only [Bool.or_eq_false_iff, Bool.and_eq_false_iff, decide_eq_false_iff_not]
  exact ⟨by omega, .inl (.inr (by omega))⟩
theorem noteN_far {next bits d : Nat} (hn : next < 65536) (hd : d < 32000) : noteN next bits ((next + 33 + d) % 65536) = none := by
  unfold noteN
  rw [if_pos (.inr (by rw [toI_far hn hd]; omega))]
theorem noteN_had {next bits s : Nat} (h : hasN next bits s = true) : noteN next bits s = none := by
  unfold noteN
  rw [if_pos (.inl h)]

/-- The bits in a row of flags, and back. -/
def flags (bits : Nat) : List Bool := (List.range 32).map bits.testBit
@[simp] theorem flags_length (bits : Nat) : (flags bits).length = 32 := by simp [flags]
theorem flags_get (bits k : Nat) (h : k < 32) : (flags bits)[k]? = some (bits.testBit k) := by simp [flags, h]
theorem half_bit (bits k : Nat) : bits / 2 ^ k = 2 * (bits / 2 ^ (k + 1)) + (if bits.testBit k = true then 1 else 0) := by
  rw [Nat.testBit_eq_decide_div_mod_eq, Nat.pow_succ, ← Nat.div_div_eq_div_mul]
  simp only [decide_eq_true_eq]
  split <;> omega
theorem testBit_half (bits j k : Nat) : (bits / 2 ^ j).testBit k = bits.testBit (j + k) := by
  rw [Nat.testBit_div_two_pow, Nat.add_comm]

/-- How many of the first k bits are set. -/
def cnt (bits : Nat) : Nat → Nat
  | 0 => 0
  | k + 1 => cnt bits k + (if bits.testBit k = true then 1 else 0)
theorem cnt_le (bits k : Nat) : cnt bits k ≤ k := by
  induction k with
  | zero => simp [cnt]
  | succ k ih => unfold cnt; split <;> omega
theorem cnt_add (bits a b : Nat) : cnt bits (a + b) = cnt bits a + cnt (bits / 2 ^ a) b := by
  induction b with
  | zero => simp [cnt]
  | succ b ih => rw [← Nat.add_assoc, cnt, cnt, ih, testBit_half]; omega
theorem cnt_mod (bits k : Nat) : ∀ j, j ≤ k → cnt (bits % 2 ^ k) j = cnt bits j := by
  intro j
  induction j with
  | zero => intro _; rfl
  | succ j ih =>
    intro h
    rw [cnt, cnt, ih (by omega), Nat.testBit_mod_two_pow]
    simp [show j < k by omega]
theorem cnt_bytes (x : Nat) (_h : x < 4294967296) : cnt x 32 = cnt (x / 16777216) 8 + cnt (x / 65536 % 256) 8 + cnt (x / 256 % 256) 8 + cnt (x % 256) 8 := by
  rw [show (32 : Nat) = 8 + (8 + (8 + 8)) from rfl, cnt_add, cnt_add, cnt_add, show (256 : Nat) = 2 ^ 8 from rfl, cnt_mod _ 8 8 (by omega), cnt_mod _ 8 8 (by omega), cnt_mod _ 8 8 (by omega)]
  rw [Nat.div_div_eq_div_mul, Nat.div_div_eq_div_mul]
  simp only [← Nat.pow_add]
  simp only [show (16777216 : Nat) = 2 ^ 24 from rfl, show (65536 : Nat) = 2 ^ 16 from rfl]
  simp only [show 8 + 8 = 16 from rfl, show 8 + 16 = 24 from rfl]
  omega

/-- Of numbers from first on, those of L have come. -/
def Came (first : Nat) (L : List Nat) (x y : Nat) : Prop :=
  ∃ m, m ≤ 33 ∧ x = (first + m) % 65536 ∧ y < 4294967296 ∧ (∀ k, k < m → k ∈ L) ∧ m ∉ L ∧ ∀ j, y.testBit j = decide (m + 1 + j ∈ L)
theorem Came.none (first : Nat) (h : first < 65536) : Came first [] first 0 := ⟨0, by omega, by omega, by omega, fun k h => by omega, by simp, fun j => by simp⟩
theorem Came.note {first : Nat} {L : List Nat} {x y : Nat} (_hf : first < 65536) (h : Came first L x y) (hL : ∀ k ∈ L, k < 33) {k : Nat} (hk : k < 33) (hn : k ∉ L) :
    ∃ x' y', noteN x y ((first + k) % 65536) = some (x', y') ∧ Came first (k :: L) x' y' := by
  obtain ⟨m, hm, rfl, hy, hall, hmn, hbit⟩ := h
  have hmk : m ≤ k := by
    rcases Nat.lt_or_ge k m with h | h
    · exact absurd (hall k h) hn
    · exact h
  have hto : toI ((first + m) % 65536) ((first + k) % 65536) = (k : Int) - m := by
    rw [toI_eq (by omega) (by omega) _ (by omega) (by omega)]
    omega
  obtain ⟨c1, c2, c3⟩ := come_spec hy
  by_cases he : m = k
  · subst he
    refine ⟨((first + m) % 65536 + 1 + come y) % 65536, y / 2 ^ (1 + come y), ?_, ?_⟩
    · unfold noteN
      have hno : hasN ((first + m) % 65536) y ((first + m) % 65536) = false := hasN_next _ _ (by omega)
      rw [if_neg (by rw [hno, hto]; rintro (h | h); cases h; omega), if_pos (by omega)]
    · have hpre : ∀ i, i < come y → m + 1 + i ∈ L := fun i hi => by
        have := hbit i
        rw [c2 i hi] at this
        simpa using this.symm
      have hend : m + 1 + come y ∉ L := by
        intro hin
        have h33 := hL _ hin
        have := hbit (come y)
        rw [c3 (by omega)] at this
        simp [hin] at this
      refine ⟨m + 1 + come y, ?_, by omega, ?_, ?_, ?_, ?_⟩
      · rcases Nat.eq_zero_or_pos (come y) with h0 | h0
        · omega
        · have := hL _ (hpre (come y - 1) (by omega))
          omega
      · exact Nat.lt_of_le_of_lt (Nat.div_le_self _ _) hy
      · intro i hi
        rcases Nat.lt_or_ge i m with h1 | h1
        · exact List.mem_cons_of_mem _ (hall i h1)
        · rcases Nat.lt_or_ge m i with h2 | h2
          · have := hpre (i - (m + 1)) (by omega)
            rw [show m + 1 + (i - (m + 1)) = i by omega] at this
            exact List.mem_cons_of_mem _ this
          · have : i = m := by omega
            subst this
            simp
      · intro hin
        rcases List.mem_cons.1 hin with h1 | h1
        · omega
        · exact hend h1
      · intro j
        rw [testBit_half, hbit]
        rw [show m + 1 + (1 + come y + j) = m + 1 + come y + 1 + j by omega]
        simp only [List.mem_cons]
        rw [decide_eq_decide]
        constructor
        · exact fun h => .inr h
        · rintro (h | h)
          · omega
          · exact h
  · refine ⟨(first + m) % 65536, y ||| 2 ^ (toI ((first + m) % 65536) ((first + k) % 65536) - 1).toNat, ?_, ?_⟩
    · unfold noteN
      have hno : hasN ((first + m) % 65536) y ((first + k) % 65536) = false := by
        unfold hasN
        rw [hto]
        have hb := hbit (k - m - 1)
        rw [show m + 1 + (k - m - 1) = k by omega] at hb
        simp only [hn, decide_false] at hb
        rw [show ((k : Int) - m - 1).toNat = k - m - 1 by omega, hb]
        simp
        omega
      rw [if_neg (by rw [hno, hto]; rintro (h | h); cases h; omega), if_neg (by omega)]
    · refine ⟨m, hm, rfl, ?_, fun i hi => List.mem_cons_of_mem _ (hall i hi), ?_, ?_⟩
      · refine Nat.or_lt_two_pow (n := 32) hy (Nat.pow_lt_pow_right (by omega) ?_)
        rw [hto]
        omega
      · intro hin
        rcases List.mem_cons.1 hin with h1 | h1
        · exact he h1
        · exact hmn h1
      · intro j
        rw [hto, Nat.testBit_or, hbit, Nat.testBit_two_pow, Bool.eq_iff_iff]
        simp only [Bool.or_eq_true, decide_eq_true_eq, List.mem_cons]
        constructor
        · rintro (h | h)
          · exact .inr h
          · left; omega
        · rintro (h | h)
          · right; omega
          · exact .inl h
theorem Came.all {first : Nat} {L : List Nat} {x y : Nat} (h : Came first L x y) (hL : ∀ k ∈ L, k < 33) (hall : ∀ k, k < 33 → k ∈ L) : x = (first + 33) % 65536 ∧ y = 0 := by
  obtain ⟨m, hm, rfl, hy, _, hmn, hbit⟩ := h
  have hm33 : m = 33 := by
    rcases Nat.lt_or_ge m 33 with h | h
    · exact absurd (hall m h) hmn
    · omega
  subst hm33
  refine ⟨rfl, Nat.eq_of_testBit_eq fun i => ?_⟩
  rw [hbit, Nat.zero_testBit]
  simp only [decide_eq_false_iff_not]
  intro hin
  have := hL _ hin
  omega
end Go.Proofs.YtnbbglhpjpebhaaDoor
/- Masks in plain numbers: who is in one, what is left of it, in words. No condition beyond those said. -/
namespace Go.Proofs.YtnbbglhpjpebhaaDoor

/-- The mask of one observer; of one that no mask has: none. -/
def aloneN (o : Int) : Nat := if 0 ≤ o ∧ o < 32 then 2 ^ o.toNat else 0
theorem aloneN_lt (o : Int) : aloneN o < 4294967296 := by
  unfold aloneN
  split
  · have : (2 : Nat) ^ o.toNat < 2 ^ 32 := Nat.pow_lt_pow_right (by omega) (by omega)
    omega
  · omega
theorem aloneN_nat {k : Nat} (h : k < 32) : aloneN (k : Int) = 2 ^ k := by
  unfold aloneN
  rw [if_pos (by omega)]
  simp
theorem aloneN_bit (o : Int) (i : Nat) (hi : i < 32) : (aloneN o).testBit i = decide (o = (i : Int)) := by
  unfold aloneN
  split
  · rw [Nat.testBit_two_pow, decide_eq_decide]; omega
  · rw [Nat.zero_testBit]; symm; simp; omega
/-- It without those of n. -/
def lessN (m n : Nat) : Nat := m &&& (4294967295 - n)
theorem lessN_lt {m : Nat} (n : Nat) (h : m < 4294967296) : lessN m n < 4294967296 := Nat.lt_of_le_of_lt Nat.and_le_left h
theorem lessN_bit {n : Nat} (m : Nat) (hn : n < 4294967296) (i : Nat) (hi : i < 32) : (lessN m n).testBit i = (m.testBit i && !n.testBit i) := by
  unfold lessN
  rw [Nat.testBit_and, not_testBit hn]
  simp [hi]
/-- With these. -/
def withN (m : Nat) (l : List Int) : Nat := l.foldl (fun m o => m ||| aloneN o) m
theorem withN_nil (m : Nat) : withN m [] = m := rfl
theorem withN_snoc (m : Nat) (l : List Int) (o : Int) : withN m (l ++ [o]) = withN m l ||| aloneN o := by simp [withN]
theorem withN_lt {m : Nat} (h : m < 4294967296) (l : List Int) : withN m l < 4294967296 := by
  induction l generalizing m with
  | nil => exact h
  | cons o l ih => exact ih (Nat.or_lt_two_pow (n := 32) h (aloneN_lt o))
theorem withN_bit (m : Nat) (l : List Int) (i : Nat) (hi : i < 32) : (withN m l).testBit i = (m.testBit i || decide ((i : Int) ∈ l)) := by
  induction l generalizing m with
  | nil => simp [withN]
  | cons o l ih =>
    have := ih (m ||| aloneN o)
    simp only [withN, List.foldl_cons] at this ⊢
    rw [this, Nat.testBit_or, aloneN_bit o i hi]
    by_cases h : o = (i : Int)
    · simp [h]
    · simp [h, Ne.symm h]
theorem ext32 {a b : Nat} (ha : a < 4294967296) (hb : b < 4294967296) (h : ∀ i, i < 32 → a.testBit i = b.testBit i) : a = b := by
  apply Nat.eq_of_testBit_eq
  intro i
  by_cases hi : i < 32
  · exact h i hi
  · rw [Nat.testBit_lt_two_pow (Nat.lt_of_lt_of_le ha (by rw [show (4294967296 : Nat) = 2 ^ 32 from rfl]; exact Nat.pow_le_pow_right (by omega) (by omega))),
      Nat.testBit_lt_two_pow (Nat.lt_of_lt_of_le hb (by rw [show (4294967296 : Nat) = 2 ^ 32 from rfl]; exact Nat.pow_le_pow_right (by omega) (by omega)))]

/-- The observers of a mask, rising. -/
def obs (m : Nat) : List Nat := (List.range 32).filter fun i => m.testBit i
theorem obs_mem {m i : Nat} : i ∈ obs m ↔ i < 32 ∧ m.testBit i = true := by simp [obs]
theorem obs_length (m : Nat) : (obs m).length ≤ 32 := by
  have := List.length_filter_le (fun i => m.testBit i) (List.range 32)
  simpa [obs] using this
theorem obs_zero : obs 0 = [] := by simp [obs]
theorem filter_first {p q : Nat → Bool} {k : Nat} (hk : p k = true) (hlow : ∀ i, i < k → p i = false) (hq : ∀ i, q i = (p i && decide (i ≠ k))) : ∀ n, k < n → (List.range n).filter p = k :: (List.range n).filter q := by
  have hnil : ∀ n, n ≤ k → (List.range n).filter p = [] := fun n hn => by
    rw [List.filter_eq_nil_iff]
    intro i hi
    rw [hlow i (by have := List.mem_range.1 hi; omega)]
    simp
  have hnilq : ∀ n, n ≤ k → (List.range n).filter q = [] := fun n hn => by
    rw [List.filter_eq_nil_iff]
    intro i hi
    rw [hq, hlow i (by have := List.mem_range.1 hi; omega)]
    simp
  intro n
  induction n with
  | zero => intro h; omega
  | succ n ih =>
    intro h
    rw [List.range_succ, List.filter_append, List.filter_append]
    by_cases hkn : k < n
    · rw [ih hkn, List.cons_append]
      congr 2
      have : q n = p n := by rw [hq]; simp; intro _; omega
      simp [List.filter, this]
    · obtain rfl : k = n := by omega
      rw [hnil k (Nat.le_refl _), hnilq k (Nat.le_refl _)]
      simp [List.filter, hk, hq]
open Go in
theorem obs_next {m : Nat} (h0 : m ≠ 0) (h : m < 4294967296) : Lib.ctz 32 m < 32 ∧ obs m = Lib.ctz 32 m :: obs (lessN m (2 ^ Lib.ctz 32 m)) := by
  have hk := (Lib.lowest_bit 32 m h0 h).2
  have hc := come_spec (bits := 4294967295 - m) (by omega)
  have he : come (4294967295 - m) = Lib.ctz 32 m := by unfold come; rw [show 4294967295 - (4294967295 - m) = m by omega]
  rw [he] at hc
  obtain ⟨k, hkk⟩ : ∃ k, k = Lib.ctz 32 m := ⟨_, rfl⟩
  rw [← hkk] at hk hc ⊢
  refine ⟨hk, ?_⟩
  have hp : (2 : Nat) ^ k < 4294967296 := by
    have : (2 : Nat) ^ k < 2 ^ 32 := Nat.pow_lt_pow_right (by omega) hk
    omega
  have hb : m.testBit k = true := by
    have := hc.2.2 hk
    rw [not_testBit h] at this
    simpa [hk] using this
  have hl : ∀ i, i < k → m.testBit i = false := fun i hi => by
    have := hc.2.1 i hi
    rw [not_testBit h] at this
    simp at this
    exact this.2
  have hq : (List.range 32).filter (fun i => (lessN m (2 ^ k)).testBit i) = (List.range 32).filter (fun i => m.testBit i && decide (i ≠ k)) := by
    apply List.filter_congr
    intro i hi
    rw [lessN_bit m hp i (List.mem_range.1 hi), Nat.testBit_two_pow]
    congr 1
    by_cases e : i = k
    · subst e; simp
    · simp [e, Ne.symm e]
  unfold obs
  rw [hq]
  exact filter_first hb hl (fun _ => rfl) 32 hk
open Go in
/-- Its observers, with a comma between; none: '-'. -/
def textN (m : Nat) : List UInt8 := if m = 0 then [45] else Lib.join ((obs m).map Lib.decDigits) [44]
end Go.Proofs.YtnbbglhpjpebhaaDoor
/- The table of the operations, as the row lays it: what the walks want of it. No condition. -/
namespace Go.Proofs.YtnbbglhpjpebhaaDoor
open Go.RowKit

/-- Each operation: its word, what it uses, what N is. -/
def shapeT : List (List UInt8 × Nat × Nat) := [([115, 116, 111, 112], 0, 0), ([115, 101, 116], 1, 1), ([108, 111, 97, 100], 1, 3), ([115, 116, 111, 114, 101], 1, 3), ([108, 111, 97, 100, 97, 116], 3, 3), ([115, 116, 111, 114, 101, 97, 116], 3, 3), ([97, 100, 100], 7, 0), ([115, 117, 98], 7, 0), ([109, 117, 108], 7, 0), ([100, 105, 118], 7, 0), ([109, 111, 100], 7, 0), ([97, 110, 100], 7, 0), ([111, 114], 7, 0), ([120, 111, 114], 7, 0), ([115, 104, 108], 7, 0), ([115, 104, 114], 7, 0), ([108, 101, 115, 115], 7, 0), ([101, 113, 117, 97, 108], 7, 0), ([115, 101, 108, 101, 99, 116], 7, 0), ([98, 114, 97, 110, 99, 104], 1, 4), ([106, 117, 109, 112], 0, 4), ([109, 111, 118, 101], 1, 5), ([114, 101, 118, 101, 97, 108], 18, 3), ([114, 111, 108, 108], 1, 2), ([115, 104, 117, 102, 102, 108, 101], 8, 3), ([99, 108, 111, 99, 107], 1, 0)]
def wordAt (j : Nat) : List UInt8 := (shapeT.getD j ([], 0, 0)).1
def useAt (j : Nat) : Nat := (shapeT.getD j ([], 0, 0)).2.1
def numAt (j : Nat) : Nat := (shapeT.getD j ([], 0, 0)).2.2
/-- The table lies. -/
def CTab (w : World) : Prop := ∀ j, j < 26 → w.cell? ⟨0, j * 3, none⟩ = some (.string ⟨(wordAt j).toArray⟩) ∧ w.cell? ⟨0, j * 3 + 1, none⟩ = some (.int .u8 (useAt j : Int)) ∧ w.cell? ⟨0, j * 3 + 2, none⟩ = some (.int .u8 (numAt j : Int))
theorem CTab.ext {w w' : World} (h : CTab w) (hb : Below w.heap.size w w') : CTab w' := fun j hj => by
  obtain ⟨h0, h1, h2⟩ := h j hj
  exact ⟨(hb.cell (World.block_lt_of_cell? w _ h0)).trans h0, (hb.cell (World.block_lt_of_cell? w _ h1)).trans h1, (hb.cell (World.block_lt_of_cell? w _ h2)).trans h2⟩
theorem CTab.drew {w : World} (h : CTab w) : CTab w.drew := h
theorem trod_str {H : Type} {enc : TypeId × Value → H} {P : Program} {w : World} {base : Nat} {spare : Nat → Bool} {held : Bool} {fuel : Nat} {t : TypeId} {cs : List Value} {x : DataW H × List MemPlace}
    (ht : P.underlying t = some .string) (h : DataW.trod enc P w base spare held fuel t cs = some x) : ∃ s : ByteArray, cs = [.string s] ∧ x = (.lit (.string s.data.toList), []) := by
  cases fuel with
  | zero => simp [DataW.trod] at h
  | succ n =>
    unfold DataW.trod at h
    rw [ht] at h
    split at h <;> simp_all
theorem one_at {cs : List Value} {k o c : Nat} {v : Value} (h : (((cs.drop k).take c).drop o).take 1 = [v]) : cs[k + o]? = some v := by
  have h1 := congrArg (·[0]?) h
  simp only [List.getElem?_take, List.getElem?_drop, List.getElem?_cons_zero] at h1
  split at h1
  · split at h1
    · simpa using h1
    · simp at h1
  · simp at h1
theorem shape_under : ∃ f0 f1 f2 : Field, Tryd.prog.underlying 124 = some (.struct #[f0, f1, f2]) ∧ Tryd.prog.underlying f0.type = some .string ∧ Tryd.prog.underlying f1.type = some (.int .u8) ∧ Tryd.prog.underlying f2.type = some (.int .u8) ∧ f0.offset = 0 ∧ f1.offset = 1 ∧ f2.offset = 2 ∧ Tryd.prog.cellsOf f0.type = 1 ∧ Tryd.prog.cellsOf f1.type = 1 ∧ Tryd.prog.cellsOf f2.type = 1 :=
  ⟨_, _, _, Tryd.underlying124, by kernel_rfl, by kernel_rfl, by kernel_rfl, rfl, rfl, rfl, by kernel_rfl, by kernel_rfl, by kernel_rfl⟩
theorem shapes_data : (Rows.laid_hoodwink_code_shapes : DataW Unit) = .agg (shapeT.map fun r => .agg [.lit (.string r.1), .lit (.int .u8 (r.2.1 : Int)), .lit (.int .u8 (r.2.2 : Int))]) := rfl
theorem ctab_of_reads {W : World} (h : Lib.VarReads Tryd.prog W "hoodwink/code.shapes" Rows.laid_hoodwink_code_shapes) : CTab W := by
  obtain ⟨g, t, cs, fuel, p, hg, ht, hv, hd⟩ := h
  obtain rfl := Option.some.inj ((show Tryd.prog.globalNamed "hoodwink/code.shapes" = some 0 by kernel_rfl).symm.trans hg)
  obtain rfl := Option.some.inj ((show (Tryd.prog.globals[0]?).map (·.type) = some 125 by kernel_rfl).symm.trans ht)
  obtain ⟨xs, m, rfl, hx, hl, hxl, hall⟩ := DataW.trod_array Tryd.underlying125 hd
  have hxs : xs.map (·.1) = shapeT.map fun r => (.agg [.lit (.string r.1), .lit (.int .u8 (r.2.1 : Int)), .lit (.int .u8 (r.2.2 : Int))] : DataW Unit) := by
    have h1 : (DataW.agg (shapeT.map fun r => .agg [.lit (.string r.1), .lit (.int .u8 (r.2.1 : Int)), .lit (.int .u8 (r.2.2 : Int))]) : DataW Unit) = .agg (xs.map (·.1)) := shapes_data.symm.trans (congrArg Prod.fst hx)
    exact (DataW.agg.inj h1).symm
  have hc : Tryd.prog.cellsOf 124 = 3 := by kernel_rfl
  rw [hc] at hall
  obtain ⟨f0, f1, f2, hu, u0, u1, u2, o0, o1, o2, c0, c1, c2⟩ := shape_under
  intro j hj
  have hjs : j < shapeT.length := hj
  have hj1 := hall j hj
  obtain ⟨y, hy⟩ : ∃ y, xs[j]? = some y := ⟨_, List.getElem?_eq_getElem (by omega)⟩
  rw [hy] at hj1
  obtain ⟨y0, y1, y2, n, rfl, _, h0, h1, h2⟩ := Go.Deep.trod_struct3 hu hj1
  rw [o0, c0] at h0
  rw [o1, c1] at h1
  rw [o2, c2] at h2
  obtain ⟨s, e0, rfl⟩ := trod_str u0 h0
  obtain ⟨n1, e1, rfl, _⟩ := DataW.trod_int u1 h1
  obtain ⟨n2, e2, rfl, _⟩ := DataW.trod_int u2 h2
  have hr := congrArg (·[j]?) hxs
  simp only [List.getElem?_map, hy, Option.map_some, List.getElem?_eq_getElem hjs, Option.some.injEq, DataW.agg.injEq, List.cons.injEq, DataW.lit.injEq, Lit.string.injEq, Lit.int.injEq, true_and, and_true] at hr
  obtain ⟨r0, r1, r2⟩ := hr
  have hw : wordAt j = s.data.toList := by rw [r0]; simp [wordAt, List.getD, hjs]
  have hu' : (useAt j : Int) = n1 := by rw [r1]; simp [useAt, List.getD, hjs]
  have hn' : (numAt j : Int) = n2 := by rw [r2]; simp [numAt, List.getD, hjs]
  have at_ : ∀ k v, cs.toList[k]? = some v → W.cell? ⟨0, k, none⟩ = some v := fun k v hk => by
    have := World.var?_cell (show Tryd.prog.globalNamed "hoodwink/code.shapes" = some 0 by kernel_rfl) hv k
    rw [this, ← hk]
    simp
  refine ⟨?_, ?_, ?_⟩
  · rw [hw, Array.toArray_toList]; exact at_ (j * 3) _ (one_at (k := j * 3) (o := 0) e0)
  · rw [hu']; exact at_ _ _ (one_at (k := j * 3) (o := 1) e1)
  · rw [hn']; exact at_ _ _ (one_at (k := j * 3) (o := 2) e2)
end Go.Proofs.YtnbbglhpjpebhaaDoor
/- Words for memory that every proof of this seat uses: which blocks a call may have turned (Mod), a slice that reads as a list (Sl), bytes as values (bv). No condition: plain lemmas. -/
namespace Go.Proofs.YtnbbglhpjpebhaaDoor
open Go.RowKit

/-- Of what was there, only blocks of S may have turned. -/
structure Mod (S : Nat → Prop) (w w' : World) : Prop where
  os : w'.os = w.os
  tape : w'.tape = w.tape
  output : w'.output = w.output
  size : w.heap.size ≤ w'.heap.size
  block : ∀ k, k < w.heap.size → ¬ S k → w'.heap[k]? = w.heap[k]?

namespace Mod
theorem refl (S : Nat → Prop) (w : World) : Mod S w w := ⟨rfl, rfl, rfl, Nat.le_refl _, fun _ _ _ => rfl⟩
theorem trans {S S1 S2 : Nat → Prop} {a b c : World} (h : Mod S1 a b) (k : Mod S2 b c) (h1 : ∀ i, i < a.heap.size → S1 i → S i) (h2 : ∀ i, i < a.heap.size → S2 i → S i) : Mod S a c :=
  ⟨k.os.trans h.os, k.tape.trans h.tape, k.output.trans h.output, Nat.le_trans h.size k.size,
    fun i hi hn => (k.block i (Nat.lt_of_lt_of_le hi h.size) (fun e => hn (h2 i hi e))).trans (h.block i hi (fun e => hn (h1 i hi e)))⟩
theorem mono {S T : Nat → Prop} {a b : World} (h : Mod S a b) (hs : ∀ i, i < a.heap.size → S i → T i) : Mod T a b :=
  ⟨h.os, h.tape, h.output, h.size, fun i hi hn => h.block i hi (fun e => hn (hs i hi e))⟩
theorem of_below {B : Nat} {a b : World} (h : Below B a b) : Mod (fun i => B ≤ i) a b :=
  ⟨h.os, h.tape, h.output, h.size, fun i _ hn => h.block i (by omega)⟩
theorem below {S : Nat → Prop} {B : Nat} {a b : World} (h : Mod S a b) (hB : B ≤ a.heap.size) (hs : ∀ i, i < B → ¬ S i) : Below B a b :=
  ⟨h.os, h.tape, h.output, h.size, fun i hi => h.block i (by omega) (hs i hi)⟩
theorem of_grown {row : Option Nat} {a b : World} (h : a.grownBy b row) : Mod (fun i => row = some i) a b :=
  ⟨h.os, h.tape, h.output, h.size, fun i hi hn => h.block i hi (fun e => hn e.symm)⟩
theorem setCell (w : World) (p : Addr) (u : Value) : Mod (fun i => i = p.block) w (w.setCell p u) :=
  ⟨rfl, rfl, rfl, by simp [World.setCell], fun i _ hn => Below.heap_setCell w p u i hn⟩
theorem alloc (S : Nat → Prop) (w : World) (o : Obj) : Mod S w (w.alloc o) :=
  ⟨rfl, rfl, rfl, by simp, fun i hi _ => Below.heap_alloc w o i hi⟩
theorem drew (S : Nat → Prop) (w : World) : Mod S w w.drew := ⟨rfl, rfl, rfl, Nat.le_refl _, fun _ _ _ => rfl⟩
theorem drewN (S : Nat → Prop) (w : World) (n : Nat) : Mod S w (w.drewN n) := ⟨rfl, rfl, rfl, Nat.le_refl _, fun _ _ _ => rfl⟩
end Mod

theorem below_drew {B : Nat} {a w : World} (h : Below B a w) : Below B a w.drew := ⟨h.os, h.tape, h.output, h.size, h.block⟩
theorem below_alloc2 (w : World) (a b : Obj) : Below w.heap.size w ((w.alloc a).alloc b) := ((Below.refl _ _).alloc (Nat.le_refl _) _).alloc (by simp) _
theorem below_alloc1 (w : World) (a : Obj) : Below w.heap.size w (w.alloc a) := (Below.refl _ _).alloc (Nat.le_refl _) _
theorem below_alloc3 (w : World) (a b c : Obj) : Below w.heap.size w (((w.alloc a).alloc b).alloc c) := (((Below.refl _ _).alloc (Nat.le_refl _) _).alloc (by simp) _).alloc (by simp; omega) _
theorem below_drewN {B : Nat} {a w : World} (h : Below B a w) (n : Nat) : Below B a (w.drewN n) := ⟨h.os, h.tape, h.output, h.size, h.block⟩

/-- The slice's address A leads to the cells xs, all in block b (nothing is said of an empty one). -/
def Sl (w : World) (b : Nat) (A : Option Addr) (xs : List Value) : Prop :=
  xs ≠ [] → ∃ off, A = some ⟨b, off, none⟩ ∧ ∀ j u, xs[j]? = some u → w.cell? ⟨b, off + j, none⟩ = some u

namespace Sl
variable {w w' : World} {b : Nat} {A : Option Addr} {xs : List Value}
theorem nil_ (w : World) (b : Nat) (A : Option Addr) : Sl w b A [] := fun h => absurd rfl h
theorem lt (h : Sl w b A xs) (hx : xs ≠ []) : b < w.heap.size := by
  obtain ⟨off, _, hc⟩ := h hx
  obtain ⟨x, l, rfl⟩ := List.exists_cons_of_ne_nil hx
  exact World.block_lt_of_cell? w _ (hc 0 x (by simp))
theorem keep (h : Sl w b A xs) (hk : b < w.heap.size → w'.heap[b]? = w.heap[b]?) : Sl w' b A xs := fun hx => by
  have hlt := h.lt hx
  obtain ⟨off, e, hc⟩ := h hx
  exact ⟨off, e, fun j u hu => (World.cell?_of_block (hk hlt)).trans (hc j u hu)⟩
theorem mod {S : Nat → Prop} (h : Sl w b A xs) (hm : Mod S w w') (hs : ¬ S b) : Sl w' b A xs := h.keep fun hlt => hm.block b hlt hs
theorem below {B : Nat} (h : Sl w b A xs) (hm : Below B w w') (hs : b < B) : Sl w' b A xs := h.keep fun _ => hm.block b hs
theorem ext (h : Sl w b A xs) (hm : Below w.heap.size w w') : Sl w' b A xs := h.keep fun hlt => hm.block b hlt
theorem drew (h : Sl w b A xs) : Sl w.drew b A xs := h
theorem drewN (h : Sl w b A xs) (n : Nat) : Sl (w.drewN n) b A xs := h
theorem alloc (h : Sl w b A xs) (o : Obj) : Sl (w.alloc o) b A xs := h.keep fun hlt => Below.heap_alloc w o b hlt
theorem setCell (h : Sl w b A xs) {p : Addr} (hp : b ≠ p.block) (u : Value) : Sl (w.setCell p u) b A xs := h.keep fun _ => Below.heap_setCell w p u b hp
theorem at_ (h : Sl w b A xs) {k : Nat} (hk : k < xs.length) : ∃ off, A = some ⟨b, off, none⟩ ∧ w.cell? ⟨b, off + k, none⟩ = some xs[k] ∧ ∀ j (hj : j < xs.length), w.cell? ⟨b, off + j, none⟩ = some xs[j] := by
  obtain ⟨off, e, hc⟩ := h (by rintro rfl; simp at hk)
  exact ⟨off, e, hc k _ (List.getElem?_eq_getElem hk), fun j hj => hc j _ (List.getElem?_eq_getElem hj)⟩
/-- What 's[k:]' of it reads as, the model's 'if' kept. -/
theorem drop (h : Sl w b A xs) {k cap : Nat} (hc : xs.length ≤ cap) : Sl w b (if cap = k then A else A.map (·.add k)) (xs.drop k) := fun hx => by
  have hk : k < xs.length := by
    rcases Nat.lt_or_ge k xs.length with h1 | h1
    · exact h1
    · exact absurd (List.drop_eq_nil_of_le h1) hx
  obtain ⟨off, rfl, hcell⟩ := h (by rintro rfl; simp at hk)
  rw [if_neg (by omega)]
  refine ⟨off + k, ?_, fun j u hu => ?_⟩
  · simp [Addr.add_lit]
  · rw [Nat.add_assoc]
    exact hcell (k + j) u (by rw [← hu, List.getElem?_drop])
theorem take (h : Sl w b A xs) (k : Nat) : Sl w b A (xs.take k) := fun hx => by
  obtain ⟨off, e, hc⟩ := h (by rintro rfl; simp at hx)
  exact ⟨off, e, fun j u hu => hc j u (by rw [List.getElem?_take] at hu; split at hu <;> first | exact hu | cases hu)⟩
theorem of_own {base : Nat} {e : TypeId} {n c : Nat} (h : w.ownsRow base e 1 (.slice A n c) n xs) : ∃ g, Sl w g A xs ∧ ∀ k, (Value.slice A n c).ownBlock = some k → k = g := by
  rcases h.2 with ⟨hv, hn⟩ | ⟨g, cap, cur, hv, _⟩
  · have hx : xs = [] := List.eq_nil_of_length_eq_zero (by simpa [hn] using h.1)
    subst hx
    injection hv with hA
    subst hA
    exact ⟨0, nil_ _ _ _, by simp [Value.ownBlock]⟩
  · injection hv with hA hn hc
    subst hA
    refine ⟨g, fun _ => ⟨0, rfl, fun j u hu => ?_⟩, by simp [Value.ownBlock]⟩
    have := h.cells (g := g) rfl j u hu
    simpa [Addr.add_lit] using this
end Sl

/-- Bytes as values. -/
def bv (l : List UInt8) : List Value := l.map fun x => .int .u8 (x.toNat : Int)
@[simp] theorem bv_length (l : List UInt8) : (bv l).length = l.length := by simp [bv]
@[simp] theorem bv_nil : bv [] = [] := rfl
theorem bv_append (a b : List UInt8) : bv (a ++ b) = bv a ++ bv b := by simp [bv]
theorem bv_get (l : List UInt8) (k : Nat) (h : k < (bv l).length) : (bv l)[k] = .int .u8 ((l[k]'(by simpa using h)).toNat : Int) := by simp [bv]
theorem bv_take (l : List UInt8) (k : Nat) : (bv l).take k = bv (l.take k) := by simp [bv]
theorem bv_drop (l : List UInt8) (k : Nat) : (bv l).drop k = bv (l.drop k) := by simp [bv]
theorem bv_one (l : List UInt8) : ∀ u ∈ bv l, u.oneCell' = true := by
  intro u hu
  obtain ⟨_, _, rfl⟩ := List.mem_map.1 hu
  rfl
theorem bv_nil_iff (l : List UInt8) : bv l = [] ↔ l = [] := by simp [bv]

/-- A slice of bytes: its address, the block it lies in. -/
abbrev Bs (w : World) (b : Nat) (A : Option Addr) (l : List UInt8) : Prop := Sl w b A (bv l)

theorem Bs.at_ {w : World} {b : Nat} {A : Option Addr} {l : List UInt8} (h : Bs w b A l) {k : Nat} (hk : k < l.length) :
    ∃ off, A = some ⟨b, off, none⟩ ∧ ∀ j (hj : j < l.length), w.cell? ⟨b, off + j, none⟩ = some (.int .u8 (l[j].toNat : Int)) := by
  obtain ⟨off, e, _, hc⟩ := Sl.at_ h (k := k) (by simpa using hk)
  exact ⟨off, e, fun j hj => by rw [hc j (by simpa using hj), bv_get]⟩

/-- A new slice of bytes that a call hands back: its block is new. -/
def NewBs (B : Nat) (w' : World) (v : Value) (l : List UInt8) : Prop :=
  ∃ A c b, v = .slice A l.length c ∧ l.length ≤ c ∧ c ≤ maxLen ∧ B ≤ b ∧ Sl w' b A (bv l)

theorem NewBs.of_own {B : Nat} {w' : World} {v : Value} {l : List UInt8} {e : TypeId} (h : w'.ownsRow B e 1 v l.length (bv l)) : NewBs B w' v l := by
  rcases h.2 with ⟨rfl, hn⟩ | ⟨g, cap, cur, rfl, hb, _, hnc, hcm, _⟩
  · have hl : l = [] := List.eq_nil_of_length_eq_zero hn
    subst hl
    exact ⟨none, 0, B, rfl, Nat.le_refl _, by simp [maxLen], Nat.le_refl _, Sl.nil_ _ _ _⟩
  · refine ⟨_, cap, g, rfl, hnc, hcm, hb, fun _ => ⟨0, rfl, fun j u hu => ?_⟩⟩
    have := h.cells (g := g) rfl j u hu
    simpa [Addr.add_lit] using this

theorem u8_ofNat (n : Nat) : ((UInt8.ofNat n).toNat : Int) = (n : Int) % 256 := by
  simp [UInt8.toNat_ofNat']
end Go.Proofs.YtnbbglhpjpebhaaDoor
/- A variable that lies in a block of one cell: what it reads as, and how that stays. No condition. -/
namespace Go.Proofs.YtnbbglhpjpebhaaDoor
open Go.RowKit

/-- Block g is one cell, v. -/
def Box (w : World) (g : Nat) (v : Value) (t : TypeId) : Prop := w.heap[g]? = some (.cells #[v] t (0, 0))
namespace Box
variable {w w' : World} {g : Nat} {v : Value} {t : TypeId}
theorem new_ (w : World) (v : Value) (t : TypeId) : Box (w.alloc (.cells #[v] t)) w.heap.size v t := heap_alloc_new w _
theorem lt (h : Box w g v t) : g < w.heap.size := (Array.getElem?_eq_some_iff.1 h).1
theorem cell (h : Box w g v t) : w.cell? ⟨g, 0, none⟩ = some v := by
  have := cell_of_row w g 0 _ _ _ h
  simpa using this
theorem frozen (h : Box w g v t) : w.frozen? ⟨g, 0, none⟩ = false := frozen_of_row w g 0 _ _ h
theorem below {B : Nat} (h : Box w g v t) (hb : Below B w w') (hg : g < B) : Box w' g v t := (hb.block g hg).trans h
theorem ext (h : Box w g v t) (hb : Below w.heap.size w w') : Box w' g v t := (hb.block g h.lt).trans h
theorem alloc (h : Box w g v t) (o : Obj) : Box (w.alloc o) g v t := (Below.heap_alloc w o g h.lt).trans h
theorem set_ (h : Box w g v t) (u : Value) : Box (w.setCell ⟨g, 0, none⟩ u) g u t := heap_setCell_same w g 0 _ _ u h
theorem other (h : Box w g v t) {p : Addr} (hp : g ≠ p.block) (u : Value) : Box (w.setCell p u) g v t := (heap_setCell_other w p g u hp).trans h
theorem drew (h : Box w g v t) : Box w.drew g v t := h
theorem drewN (h : Box w g v t) (n : Nat) : Box (w.drewN n) g v t := h
theorem mod {S : Nat → Prop} (h : Box w g v t) (hm : Mod S w w') (hs : ¬ S g) : Box w' g v t := (hm.block g h.lt hs).trans h
end Box
end Go.Proofs.YtnbbglhpjpebhaaDoor
/- What an instruction may be: the small calls of Check. Conditions: the numbers fit. -/
namespace Go.Proofs.YtnbbglhpjpebhaaDoor
open Go.RowKit

/-- An instruction. -/
structure Cd where
  op : Nat
  a : Nat
  b : Nat
  c : Nat
  n : Int
  m : Nat
structure Cd.Ok (x : Cd) : Prop where
  ho : x.op ≤ 255
  ha : x.a ≤ 255
  hb : x.b ≤ 255
  hc : x.c ≤ 255
  n0 : -2147483648 ≤ x.n
  n1 : x.n ≤ 2147483647
  hm : x.m ≤ 4294967295
def cdA (c : Cd) : Array Value := #[.int .u8 (c.op : Int), .int .u8 (c.a : Int), .int .u8 (c.b : Int), .int .u8 (c.c : Int), .int .i32 c.n, .int .u32 (c.m : Int)]
def regB (b : Nat) (u : Bool) : Bool := b == 0 || (u && decide (b < 8))
def belowB (n many : Int) : Bool := decide (0 ≤ n) && decide (n < many)
def holdsB (cells places players : Int) (k : Nat) (n : Int) : Bool :=
  if k = 1 then true else if k = 2 then decide (1 ≤ n) else if k = 3 then belowB n cells else if k = 4 then belowB n places else if k = 5 then belowB n players else n == 0
def rowB (c : Nat) (cells n : Int) : Bool := decide (1 ≤ c) && (decide (c ≤ 48) && decide ((c : Int) ≤ cells - n))
def uB (j k : Nat) : Bool := (useAt j).testBit k
def fitsB (c : Cd) (cells places players : Int) : Bool :=
  decide (c.op < 26) && (regB c.a (uB c.op 0) && (regB c.b (uB c.op 1) && (holdsB cells places players (numAt c.op) c.n && ((if uB c.op 3 then rowB c.c cells c.n else regB c.c (uB c.op 2)) && (c.m == 0 || uB c.op 4)))))
theorem register_calls (b : Nat) (u : Bool) (w : World) : Calls Tryd.prog 62 #[.int .u8 (b : Int), .bool u] w fun e w' => e = .returned (.bool (regB b u)) ∧ w' = w := by
  by_cases h0 : b = 0
  · subst h0
    go_enter Tryd.func62, Tryd.ntmps62
    go_wp2
    go_ret
    exact ⟨by simp [regB], rfl⟩
  · have e0 : ((b : Int) == 0) = false := by rw [beq_eq_false_iff_ne]; omega
    have hr : regB b u = (u && decide (b < 8)) := by
      unfold regB
      rw [show (b == 0) = false by rw [beq_eq_false_iff_ne]; exact h0, Bool.false_or]
    rw [hr]
    clear hr h0
    cases u with
    | false =>
      go_enter Tryd.func62, Tryd.ntmps62
      go_wp2
      go_ret
      exact ⟨rfl, rfl⟩
    | true =>
      obtain ⟨d, hd⟩ : ∃ d, d = decide (b < 8) := ⟨_, rfl⟩
      have e1 : decide ((b : Int) < 8) = d := by rw [hd]; simp; omega
      rw [← hd]
      clear hd
      go_enter Tryd.func62, Tryd.ntmps62
      go_wp2
      go_ret
      exact ⟨by simp, rfl⟩
theorem below_calls (n many : Int) (w : World) (_h0 : -2147483648 ≤ n) (_h1 : n ≤ 2147483647) : Calls Tryd.prog 87 #[.int .i32 n, .int .i64 many] w fun e w' => e = .returned (.bool (belowB n many)) ∧ w' = w := by
  have hw := IntWalk.i64_in n (by omega)
  by_cases h0 : 0 ≤ n
  · have e0 : decide (n ≥ 0) = true := by simp; omega
    obtain ⟨d, hd⟩ : ∃ d, d = decide (n < many) := ⟨_, rfl⟩
    have e1 := hd.symm
    have hr : belowB n many = d := by rw [hd]; simp [belowB, h0]
    rw [hr]
    clear hr hd h0
    go_enter Tryd.func87, Tryd.ntmps87
    go_wp2
    go_ret
    exact ⟨by simp, rfl⟩
  · have e0 : decide (n ≥ 0) = false := by simp; omega
    have hr : belowB n many = false := by simp [belowB, h0]
    rw [hr]
    clear hr h0
    go_enter Tryd.func87, Tryd.ntmps87
    go_wp2
    go_ret
    exact ⟨by simp, rfl⟩
theorem holds_calls (cells places players : Int) (k : Nat) (n : Int) (w : World) (h0 : -2147483648 ≤ n) (h1 : n ≤ 2147483647) :
    Calls Tryd.prog 63 #[.agg #[.int .i64 cells, .int .i64 places, .int .i64 players], .int .u8 (k : Int), .int .i32 n] w fun e w' => e = .returned (.bool (holdsB cells places players k n)) ∧ Below w.heap.size w w' := by
  have hb := below_alloc1 w (.cells #[.int .i64 cells, .int .i64 places, .int .i64 players] 111)
  have c0 := fun W => below_calls n cells W h0 h1
  have c1 := fun W => below_calls n places W h0 h1
  have c2 := fun W => below_calls n players W h0 h1
  unfold holdsB
  by_cases k1 : k = 1
  · subst k1
    rw [if_pos rfl]
    go_enter Tryd.func63, Tryd.ntmps63
    go_wp2
    go_ret
    exact ⟨by simp, hb⟩
  rw [if_neg k1]
  have e1 : ((k : Int) == 1) = false := by rw [beq_eq_false_iff_ne]; omega
  by_cases k2 : k = 2
  · subst k2
    rw [if_pos rfl]
    obtain ⟨d, hd⟩ : ∃ d, d = decide (1 ≤ n) := ⟨_, rfl⟩
    have ed : decide (n ≥ 1) = d := hd.symm
    rw [← hd]
    clear hd
    go_enter Tryd.func63, Tryd.ntmps63
    go_wp2
    go_ret
    exact ⟨by simp, hb⟩
  rw [if_neg k2]
  have e2 : ((k : Int) == 2) = false := by rw [beq_eq_false_iff_ne]; omega
  by_cases k3 : k = 3
  · subst k3
    rw [if_pos rfl]
    obtain ⟨d, hd⟩ : ∃ d, d = belowB n cells := ⟨_, rfl⟩
    rw [← hd] at c0 ⊢
    clear hd c1 c2 e1 e2
    go_enter Tryd.func63, Tryd.ntmps63
    go_wp2_with fail
    refine (c0 _).mono ?_
    rintro e w' ⟨rfl, hw⟩
    have hw := hw.symm
    subst hw
    go_wp2
    go_ret
    exact ⟨rfl, hb⟩
  rw [if_neg k3]
  have e3 : ((k : Int) == 3) = false := by rw [beq_eq_false_iff_ne]; omega
  by_cases k4 : k = 4
  · subst k4
    rw [if_pos rfl]
    obtain ⟨d, hd⟩ : ∃ d, d = belowB n places := ⟨_, rfl⟩
    rw [← hd] at c1 ⊢
    clear hd c0 c2 e1 e2 e3
    go_enter Tryd.func63, Tryd.ntmps63
    go_wp2_with fail
    refine (c1 _).mono ?_
    rintro e w' ⟨rfl, hw⟩
    have hw := hw.symm
    subst hw
    go_wp2
    go_ret
    exact ⟨rfl, hb⟩
  rw [if_neg k4]
  have e4 : ((k : Int) == 4) = false := by rw [beq_eq_false_iff_ne]; omega
  by_cases k5 : k = 5
  · subst k5
    rw [if_pos rfl]
    obtain ⟨d, hd⟩ : ∃ d, d = belowB n players := ⟨_, rfl⟩
    rw [← hd] at c2 ⊢
    clear hd c0 c1 e1 e2 e3 e4
    go_enter Tryd.func63, Tryd.ntmps63
    go_wp2_with fail
    refine (c2 _).mono ?_
    rintro e w' ⟨rfl, hw⟩
    have hw := hw.symm
    subst hw
    go_wp2
    go_ret
    exact ⟨rfl, hb⟩
  rw [if_neg k5]
  have e5 : ((k : Int) == 5) = false := by rw [beq_eq_false_iff_ne]; omega
  obtain ⟨d, hd⟩ : ∃ d, d = (n == 0) := ⟨_, rfl⟩
  have ed := hd.symm
  rw [← hd]
  clear hd c0 c1 c2
  go_enter Tryd.func63, Tryd.ntmps63
  go_wp2
  go_ret
  exact ⟨by simp, hb⟩
/-- What the bits of an operation's use are. -/
theorem use_bits : ∀ j : Fin 26, (bits .and .u8 (useAt j.val : Int) 1 != 0) = uB j.val 0 ∧ (bits .and .u8 (useAt j.val : Int) 2 != 0) = uB j.val 1 ∧ (bits .and .u8 (useAt j.val : Int) 4 != 0) = uB j.val 2 ∧ (bits .and .u8 (useAt j.val : Int) 8 == 0) = !(uB j.val 3) ∧ (bits .and .u8 (useAt j.val : Int) 16 != 0) = uB j.val 4 := by decide +kernel
/-- Where C counts cells, N is a cell. -/
theorem use_row : ∀ j : Fin 26, uB j.val 3 = true → numAt j.val = 3 := by decide +kernel
end Go.Proofs.YtnbbglhpjpebhaaDoor
/- Fits: whether an instruction may be. Conditions: the numbers fit; the table of the operations lies. -/
namespace Go.Proofs.YtnbbglhpjpebhaaDoor
open Go.RowKit

theorem rightC_calls (c : Cd) (hc : c.Ok) (j : Nat) (hj : j < 26) (cells : Int) (_h0 : -9223372036854775808 ≤ cells) (_h1 : cells ≤ 9223372036854775807) (hrow : uB j 3 = true → 0 ≤ c.n ∧ c.n < cells) (w : World) :
    Calls Tryd.prog 64 #[.agg (cdA c), .int .u8 (useAt j : Int), .int .i64 cells] w fun e w' => e = .returned (.bool (if uB j 3 then rowB c.c cells c.n else regB c.c (uB j 2))) ∧ Below w.heap.size w w' := by
  obtain ⟨-, -, b2, b3, -⟩ := use_bits ⟨j, hj⟩
  simp only at b2 b3
  obtain ⟨u, hu⟩ : ∃ u, u = useAt j := ⟨_, rfl⟩
  rw [← hu] at b2 b3 ⊢
  obtain ⟨r3, hr3⟩ : ∃ r3, r3 = uB j 3 := ⟨_, rfl⟩
  obtain ⟨r2, hr2⟩ : ∃ r2, r2 = uB j 2 := ⟨_, rfl⟩
  rw [← hr3] at b3 hrow ⊢
  rw [← hr2] at b2 ⊢
  obtain ⟨-, -, -, hcc, n0, n1, -⟩ := hc
  obtain ⟨op, a, b, cc, n, m⟩ := c
  simp only at hcc n0 n1 hrow ⊢
  unfold cdA
  simp only
  have hb := below_alloc1 w (.cells #[.int .u8 (op : Int), .int .u8 (a : Int), .int .u8 (b : Int), .int .u8 (cc : Int), .int .i32 n, .int .u32 (m : Int)] 80)
  clear hu hr3 hr2 hj
  cases r3 with
  | false =>
    have hR := fun W => register_calls cc r2 W
    simp only [Bool.false_eq_true, if_false]
    obtain ⟨d, hd⟩ : ∃ d, d = regB cc r2 := ⟨_, rfl⟩
    rw [← hd] at hR ⊢
    clear hd
    simp only [Bool.not_false] at b3
    go_enter Tryd.func64, Tryd.ntmps64
    go_wp2_with fail
    refine (hR _).mono ?_
    rintro e w' ⟨rfl, hw⟩
    have hw := hw.symm
    subst hw
    go_wp2
    go_ret
    exact ⟨rfl, hb⟩
  | true =>
    simp only [if_true]
    simp only [Bool.not_true] at b3
    obtain ⟨k0, k1⟩ := hrow rfl
    clear hrow
    have hw := IntWalk.i64_in n (by omega)
    have hw2 := IntWalk.i64_in (cells - n) (by omega)
    have hw3 := IntWalk.i64_in (cc : Int) (by omega)
    unfold rowB
    by_cases c1 : 1 ≤ cc
    · have e1 : decide ((cc : Int) ≥ 1) = true := by simp; omega
      rw [decide_eq_true c1, Bool.true_and]
      by_cases c2 : cc ≤ 48
      · have e2 : decide ((cc : Int) ≤ 48) = true := by simp; omega
        rw [decide_eq_true c2, Bool.true_and]
        obtain ⟨d, hd⟩ : ∃ d, d = decide ((cc : Int) ≤ cells - n) := ⟨_, rfl⟩
        have ed := hd.symm
        rw [← hd]
        clear hd
        go_enter Tryd.func64, Tryd.ntmps64
        go_wp2
        go_ret
        exact ⟨by simp, hb⟩
      · have e2 : decide ((cc : Int) ≤ 48) = false := by simp; omega
        rw [decide_eq_false c2, Bool.false_and]
        go_enter Tryd.func64, Tryd.ntmps64
        go_wp2
        go_ret
        exact ⟨by simp, hb⟩
    · have e1 : decide ((cc : Int) ≥ 1) = false := by simp; omega
      rw [decide_eq_false c1, Bool.false_and]
      go_enter Tryd.func64, Tryd.ntmps64
      go_wp2
      go_ret
      exact ⟨by simp, hb⟩
/-- The table's row, as Fits and Word read it. -/
theorem ctab_at {w : World} (h : CTab w) {j : Nat} (hj : j < 26) : w.cell? ⟨0, j * 3, none⟩ = some (.string ⟨(wordAt j).toArray⟩) ∧ w.cell? ⟨0, j * 3 + 1, none⟩ = some (.int .u8 (useAt j : Int)) ∧ w.cell? ⟨0, j * 3 + 2, none⟩ = some (.int .u8 (numAt j : Int)) := h j hj
end Go.Proofs.YtnbbglhpjpebhaaDoor
/- Fits, Check, Right: what a list of instructions may be. Conditions: the numbers fit; the table of the operations lies. -/
namespace Go.Proofs.YtnbbglhpjpebhaaDoor
open Go.RowKit

theorem alloc3_at (w : World) (A B C : Obj) : (((w.alloc A).alloc B).alloc C).heap[w.heap.size]? = some A ∧ (((w.alloc A).alloc B).alloc C).heap[w.heap.size + 1]? = some B ∧ (((w.alloc A).alloc B).alloc C).heap[w.heap.size + 2]? = some C := by
  have h1 := heap_alloc_new w A
  have h2 := heap_alloc_new (w.alloc A) B
  have h3 := heap_alloc_new ((w.alloc A).alloc B) C
  rw [World.size_alloc, World.size_alloc] at h3
  rw [World.size_alloc] at h2
  refine ⟨?_, ?_, h3⟩
  · rw [Below.heap_alloc _ C _ (by simp; omega), Below.heap_alloc _ B _ (by simp)]; exact h1
  · rw [Below.heap_alloc _ C _ (by simp)]; exact h2
set_option maxHeartbeats 4000000 in
set_option maxRecDepth 20000 in
theorem fits_in (op a b cc : Nat) (n : Int) (m : Nat) (hc : (Cd.mk op a b cc n m).Ok) (h26 : op < 26) (cells places players : Int) (hl0 : -9223372036854775808 ≤ cells) (hl1 : cells ≤ 9223372036854775807) (w : World) (hT : CTab w) :
    Calls Tryd.prog 55 #[.agg #[.int .u8 (op : Int), .int .u8 (a : Int), .int .u8 (b : Int), .int .u8 (cc : Int), .int .i32 n, .int .u32 (m : Int)], .agg #[.int .i64 cells, .int .i64 places, .int .i64 players]] w fun e w' => e = .returned (.bool (fitsB ⟨op, a, b, cc, n, m⟩ cells places players)) ∧ Below w.heap.size w w' := by
  obtain ⟨b0, b1, -, -, b4⟩ := use_bits ⟨op, h26⟩
  have hrw := use_row ⟨op, h26⟩
  simp only at b0 b1 b4 hrw
  obtain ⟨q0, hq0⟩ : ∃ q, q = uB op 0 := ⟨_, rfl⟩
  obtain ⟨q1, hq1⟩ : ∃ q, q = uB op 1 := ⟨_, rfl⟩
  obtain ⟨q4, hq4⟩ : ∃ q, q = uB op 4 := ⟨_, rfl⟩
  have hR1 := fun W => register_calls a q0 W
  have hR2 := fun W => register_calls b q1 W
  have hH := fun W => holds_calls cells places players (numAt op) n W hc.n0 hc.n1
  have hC : holdsB cells places players (numAt op) n = true → ∀ W, _ := fun h W => rightC_calls ⟨op, a, b, cc, n, m⟩ hc op h26 cells hl0 hl1 (fun h3 => by
    rw [hrw h3] at h
    simp only [holdsB, belowB] at h
    simp at h
    exact h) W
  unfold cdA at hC
  simp only at hC
  have hfb : fitsB ⟨op, a, b, cc, n, m⟩ cells places players = (regB a q0 && (regB b q1 && (holdsB cells places players (numAt op) n && ((if uB op 3 = true then rowB cc cells n else regB cc (uB op 2)) && (m == 0 || q4))))) := by
    rw [hq0, hq1, hq4]
    simp only [fitsB]
    rw [decide_eq_true h26, Bool.true_and]
  rw [hfb]
  obtain ⟨p1, hp1⟩ : ∃ p, p = regB a q0 := ⟨_, rfl⟩
  obtain ⟨p2, hp2⟩ : ∃ p, p = regB b q1 := ⟨_, rfl⟩
  obtain ⟨p3, hp3⟩ : ∃ p, p = holdsB cells places players (numAt op) n := ⟨_, rfl⟩
  obtain ⟨p4, hp4⟩ : ∃ p, p = (if uB op 3 = true then rowB cc cells n else regB cc (uB op 2)) := ⟨_, rfl⟩
  obtain ⟨p5, hp5⟩ : ∃ p, p = (m == 0) := ⟨_, rfl⟩
  have e5 : ((m : Int) == 0) = p5 := by rw [hp5, Bool.eq_iff_iff]; simp
  rw [← hp1] at hR1 ⊢
  rw [← hp2] at hR2 ⊢
  rw [← hp3] at hH hC ⊢
  rw [← hp4] at hC ⊢
  rw [← hp5]
  rw [← hq0] at b0
  rw [← hq1] at b1
  rw [← hq4] at b4
  have HC := Lib.hid hC
  clear hfb hp1 hp2 hp3 hp4 hp5 hq0 hq1 hq4 hrw hc hC
  have hT2 := hT.ext (below_alloc2 w (.cells #[.int .u8 (op : Int), .int .u8 (a : Int), .int .u8 (b : Int), .int .u8 (cc : Int), .int .i32 n, .int .u32 (m : Int)] 80) (.cells #[.int .i64 cells, .int .i64 places, .int .i64 players] 111))
  obtain ⟨z0, z1, z2⟩ := ctab_at hT2 h26
  have e0 : decide ((op : Int) ≥ 26) = false := by simp; omega
  have e1 : (op : Int) < 26 := by omega
  have hb := below_alloc3 w (.cells #[.int .u8 (op : Int), .int .u8 (a : Int), .int .u8 (b : Int), .int .u8 (cc : Int), .int .i32 n, .int .u32 (m : Int)] 80) (.cells #[.int .i64 cells, .int .i64 places, .int .i64 players] 111) (.cells #[.string ⟨(wordAt op).toArray⟩, .int .u8 (useAt op : Int), .int .u8 (numAt op : Int)] 124)
  obtain ⟨kA, kR, kS⟩ := alloc3_at w (.cells #[.int .u8 (op : Int), .int .u8 (a : Int), .int .u8 (b : Int), .int .u8 (cc : Int), .int .i32 n, .int .u32 (m : Int)] 80) (.cells #[.int .i64 cells, .int .i64 places, .int .i64 players] 111) (.cells #[.string ⟨(wordAt op).toArray⟩, .int .u8 (useAt op : Int), .int .u8 (numAt op : Int)] 124)
  go_enter Tryd.func55, Tryd.ntmps55
  go_wp2_with fail
  have kS : _ := show (((w.alloc (.cells #[.int .u8 (op : Int), .int .u8 (a : Int), .int .u8 (b : Int), .int .u8 (cc : Int), .int .i32 n, .int .u32 (m : Int)] 80)).alloc (.cells #[.int .i64 cells, .int .i64 places, .int .i64 players] 111)).alloc (.cells #[.string ⟨(wordAt op).toArray⟩, .int .u8 (useAt op : Int), .int .u8 (numAt op : Int)] 124)).heap[w.heap.size + 1 + 1]? = _ from kS
  obtain ⟨wz, hwz⟩ : ∃ wz, wz = ((w.alloc (.cells #[.int .u8 (op : Int), .int .u8 (a : Int), .int .u8 (b : Int), .int .u8 (cc : Int), .int .i32 n, .int .u32 (m : Int)] 80)).alloc (.cells #[.int .i64 cells, .int .i64 places, .int .i64 players] 111)).alloc (.cells #[.string ⟨(wordAt op).toArray⟩, .int .u8 (useAt op : Int), .int .u8 (numAt op : Int)] 124) := ⟨_, rfl⟩
  rw [← hwz] at hb kA kR kS ⊢
  clear hwz z0 z1 z2 e0 e1 hT hT2
  refine (hR1 _).mono ?_
  rintro e w' ⟨rfl, hw⟩
  have hw := hw.symm
  subst hw
  clear hR1 b0
  have a0 := (cell_of_row wz (w.heap.size) 0 _ _ _ kA).trans (show _ = some _ from rfl)
  have a1 := (cell_of_row wz (w.heap.size) 1 _ _ _ kA).trans (show _ = some _ from rfl)
  have a2 := (cell_of_row wz (w.heap.size) 2 _ _ _ kA).trans (show _ = some _ from rfl)
  have a3 := (cell_of_row wz (w.heap.size) 3 _ _ _ kA).trans (show _ = some _ from rfl)
  have a4 := (cell_of_row wz (w.heap.size) 4 _ _ _ kA).trans (show _ = some _ from rfl)
  have a5 := (cell_of_row wz (w.heap.size) 5 _ _ _ kA).trans (show _ = some _ from rfl)
  have r0 := (cell_of_row wz (w.heap.size + 1) 0 _ _ _ kR).trans (show _ = some _ from rfl)
  have r1 := (cell_of_row wz (w.heap.size + 1) 1 _ _ _ kR).trans (show _ = some _ from rfl)
  have r2 := (cell_of_row wz (w.heap.size + 1) 2 _ _ _ kR).trans (show _ = some _ from rfl)
  have s0 := (cell_of_row wz (w.heap.size + 1 + 1) 0 _ _ _ kS).trans (show _ = some _ from rfl)
  have s1 := (cell_of_row wz (w.heap.size + 1 + 1) 1 _ _ _ kS).trans (show _ = some _ from rfl)
  have s2 := (cell_of_row wz (w.heap.size + 1 + 1) 2 _ _ _ kS).trans (show _ = some _ from rfl)
  cases p1 with
  | false =>
    go_wp2
    go_ret
    exact ⟨by simp, hb⟩
  | true =>
    go_wp2_with fail
    refine (hR2 _).mono ?_
    rintro e w' ⟨rfl, hw⟩
    have hw := hw.symm
    subst hw
    clear hR2 b1
    cases p2 with
    | false =>
      go_wp2
      go_ret
      exact ⟨by simp, hb⟩
    | true =>
      go_wp2_with fail
      clear a0 a1 a2 a3 a4 a5 r0 r1 r2 s0 s1 s2
      refine (hH _).mono ?_
      rintro e w5 ⟨rfl, h9⟩
      replace kA := (h9.block _ (Array.getElem?_eq_some_iff.1 kA).1).trans kA
      replace kR := (h9.block _ (Array.getElem?_eq_some_iff.1 kR).1).trans kR
      replace kS := (h9.block _ (Array.getElem?_eq_some_iff.1 kS).1).trans kS
      replace hb := hb.trans (h9.mono hb.size)
      clear h9
      clear hH
      have a0 := (cell_of_row w5 (w.heap.size) 0 _ _ _ kA).trans (show _ = some _ from rfl)
      have a1 := (cell_of_row w5 (w.heap.size) 1 _ _ _ kA).trans (show _ = some _ from rfl)
      have a2 := (cell_of_row w5 (w.heap.size) 2 _ _ _ kA).trans (show _ = some _ from rfl)
      have a3 := (cell_of_row w5 (w.heap.size) 3 _ _ _ kA).trans (show _ = some _ from rfl)
      have a4 := (cell_of_row w5 (w.heap.size) 4 _ _ _ kA).trans (show _ = some _ from rfl)
      have a5 := (cell_of_row w5 (w.heap.size) 5 _ _ _ kA).trans (show _ = some _ from rfl)
      have r0 := (cell_of_row w5 (w.heap.size + 1) 0 _ _ _ kR).trans (show _ = some _ from rfl)
      have r1 := (cell_of_row w5 (w.heap.size + 1) 1 _ _ _ kR).trans (show _ = some _ from rfl)
      have r2 := (cell_of_row w5 (w.heap.size + 1) 2 _ _ _ kR).trans (show _ = some _ from rfl)
      have s0 := (cell_of_row w5 (w.heap.size + 1 + 1) 0 _ _ _ kS).trans (show _ = some _ from rfl)
      have s1 := (cell_of_row w5 (w.heap.size + 1 + 1) 1 _ _ _ kS).trans (show _ = some _ from rfl)
      have s2 := (cell_of_row w5 (w.heap.size + 1 + 1) 2 _ _ _ kS).trans (show _ = some _ from rfl)
      cases p3 with
      | false =>
        go_wp2
        go_ret
        exact ⟨by simp, hb⟩
      | true =>
        have hC := HC.out (by trivial)
        clear HC
        go_wp2_with fail
        clear a0 a1 a2 a3 a4 a5 r0 r1 r2 s0 s1 s2
        refine (hC _).mono ?_
        rintro e w6 ⟨rfl, h9⟩
        replace kA := (h9.block _ (Array.getElem?_eq_some_iff.1 kA).1).trans kA
        replace kR := (h9.block _ (Array.getElem?_eq_some_iff.1 kR).1).trans kR
        replace kS := (h9.block _ (Array.getElem?_eq_some_iff.1 kS).1).trans kS
        replace hb := hb.trans (h9.mono hb.size)
        clear h9
        clear hC
        have a0 := (cell_of_row w6 (w.heap.size) 0 _ _ _ kA).trans (show _ = some _ from rfl)
        have a1 := (cell_of_row w6 (w.heap.size) 1 _ _ _ kA).trans (show _ = some _ from rfl)
        have a2 := (cell_of_row w6 (w.heap.size) 2 _ _ _ kA).trans (show _ = some _ from rfl)
        have a3 := (cell_of_row w6 (w.heap.size) 3 _ _ _ kA).trans (show _ = some _ from rfl)
        have a4 := (cell_of_row w6 (w.heap.size) 4 _ _ _ kA).trans (show _ = some _ from rfl)
        have a5 := (cell_of_row w6 (w.heap.size) 5 _ _ _ kA).trans (show _ = some _ from rfl)
        have r0 := (cell_of_row w6 (w.heap.size + 1) 0 _ _ _ kR).trans (show _ = some _ from rfl)
        have r1 := (cell_of_row w6 (w.heap.size + 1) 1 _ _ _ kR).trans (show _ = some _ from rfl)
        have r2 := (cell_of_row w6 (w.heap.size + 1) 2 _ _ _ kR).trans (show _ = some _ from rfl)
        have s0 := (cell_of_row w6 (w.heap.size + 1 + 1) 0 _ _ _ kS).trans (show _ = some _ from rfl)
        have s1 := (cell_of_row w6 (w.heap.size + 1 + 1) 1 _ _ _ kS).trans (show _ = some _ from rfl)
        have s2 := (cell_of_row w6 (w.heap.size + 1 + 1) 2 _ _ _ kS).trans (show _ = some _ from rfl)
        cases p4 with
        | false =>
          go_wp2
          go_ret
          exact ⟨by simp, hb⟩
        | true =>
          cases p5 with
          | true =>
            go_wp2
            go_ret
            exact ⟨by simp, hb⟩
          | false =>
            go_wp2
            go_ret
            exact ⟨by simp, hb⟩
end Go.Proofs.YtnbbglhpjpebhaaDoor
/- Check, Right: what a list of instructions may be. Conditions: the numbers fit; the tables lie. -/
namespace Go.Proofs.YtnbbglhpjpebhaaDoor
open Go.RowKit

/-- Instructions as cells. -/
def kv (l : List Cd) : List Value := l.flatMap fun c => (cdA c).toList
theorem kv_cons (c : Cd) (l : List Cd) : kv (c :: l) = (cdA c).toList ++ kv l := rfl
@[simp] theorem kv_nil : kv [] = [] := rfl
theorem cdA_len (c : Cd) : (cdA c).toList.length = 6 := rfl
@[simp] theorem kv_length (l : List Cd) : (kv l).length = l.length * 6 := by
  induction l with
  | nil => rfl
  | cons c l ih => rw [kv_cons, List.length_append, ih, cdA_len, List.length_cons]; omega
theorem kv_get : ∀ {l : List Cd} {i : Nat} (hi : i < l.length) {r : Nat} (_ : r < 6), (kv l)[i * 6 + r]? = (cdA l[i]).toList[r]? := by
  intro l
  induction l with
  | nil => intro i hi; simp at hi
  | cons c l ih =>
    intro i hi r hr
    rw [kv_cons]
    cases i with
    | zero => rw [List.getElem?_append_left (by rw [cdA_len]; omega)]; simp
    | succ i =>
      rw [List.getElem?_append_right (by rw [cdA_len]; omega), cdA_len, show (i + 1) * 6 + r - 6 = i * 6 + r by omega, ih (by simpa using hi) hr]
      simp
theorem kv_append (a b : List Cd) : kv (a ++ b) = kv a ++ kv b := by simp [kv]
def okK (l : List Cd) : Prop := ∀ c ∈ l, c.Ok
theorem sl_code {w : World} {b : Nat} {A : Option Addr} {l : List Cd} (h : Sl w b A (kv l)) {i : Nat} (hi : i < l.length) :
    ∃ off, A = some ⟨b, off, none⟩ ∧ w.cell? ⟨b, off + i * 6, none⟩ = some (.int .u8 (l[i].op : Int)) ∧ w.cell? ⟨b, off + i * 6 + 1, none⟩ = some (.int .u8 (l[i].a : Int)) ∧ w.cell? ⟨b, off + i * 6 + 2, none⟩ = some (.int .u8 (l[i].b : Int)) ∧
      w.cell? ⟨b, off + i * 6 + 3, none⟩ = some (.int .u8 (l[i].c : Int)) ∧ w.cell? ⟨b, off + i * 6 + 4, none⟩ = some (.int .i32 l[i].n) ∧ w.cell? ⟨b, off + i * 6 + 5, none⟩ = some (.int .u32 (l[i].m : Int)) := by
  obtain ⟨off, e, hc⟩ := h (by intro h0; have h1 := congrArg List.length h0; rw [kv_length, List.length_nil] at h1; omega)
  have at_ : ∀ r v, r < 6 → (cdA l[i]).toList[r]? = some v → w.cell? ⟨b, off + i * 6 + r, none⟩ = some v := fun r v hr hv => by
    have := hc (i * 6 + r) v (by rw [kv_get hi hr, hv])
    rw [← Nat.add_assoc] at this
    exact this
  exact ⟨off, e, at_ 0 _ (by omega) rfl, at_ 1 _ (by omega) rfl, at_ 2 _ (by omega) rfl, at_ 3 _ (by omega) rfl, at_ 4 _ (by omega) rfl, at_ 5 _ (by omega) rfl⟩
theorem fits_out (op a b cc : Nat) (n : Int) (m : Nat) (h26 : 26 ≤ op) (cells places players : Int) (w : World) :
    Calls Tryd.prog 55 #[.agg #[.int .u8 (op : Int), .int .u8 (a : Int), .int .u8 (b : Int), .int .u8 (cc : Int), .int .i32 n, .int .u32 (m : Int)], .agg #[.int .i64 cells, .int .i64 places, .int .i64 players]] w fun e w' => e = .returned (.bool (fitsB ⟨op, a, b, cc, n, m⟩ cells places players)) ∧ Below w.heap.size w w' := by
  have e0 : decide ((op : Int) ≥ 26) = true := by simp; omega
  have hf : fitsB ⟨op, a, b, cc, n, m⟩ cells places players = false := by simp only [fitsB]; rw [decide_eq_false (by omega), Bool.false_and]
  rw [hf]
  have hb := below_alloc2 w (.cells #[.int .u8 (op : Int), .int .u8 (a : Int), .int .u8 (b : Int), .int .u8 (cc : Int), .int .i32 n, .int .u32 (m : Int)] 80) (.cells #[.int .i64 cells, .int .i64 places, .int .i64 players] 111)
  clear hf
  go_enter Tryd.func55, Tryd.ntmps55
  go_wp2
  go_ret
  exact ⟨rfl, hb⟩
theorem fits_calls (op a b cc : Nat) (n : Int) (m : Nat) (hc : (Cd.mk op a b cc n m).Ok) (cells places players : Int) (hl0 : -9223372036854775808 ≤ cells) (hl1 : cells ≤ 9223372036854775807) (w : World) (hT : CTab w) :
    Calls Tryd.prog 55 #[.agg #[.int .u8 (op : Int), .int .u8 (a : Int), .int .u8 (b : Int), .int .u8 (cc : Int), .int .i32 n, .int .u32 (m : Int)], .agg #[.int .i64 cells, .int .i64 places, .int .i64 players]] w fun e w' => e = .returned (.bool (fitsB ⟨op, a, b, cc, n, m⟩ cells places players)) ∧ Below w.heap.size w w' := by
  by_cases h : op < 26
  · exact fits_in op a b cc n m hc h cells places players hl0 hl1 w hT
  · exact fits_out op a b cc n m (by omega) cells places players w
/-- What Check answers. -/
def checkP (l : List Cd) (cells players : Int) (c : Cd) : Bool := !(fitsB c cells ((l.length : Int) + 1) players)
def checkV (l : List Cd) (cells players : Int) : Nat × Bool :=
  if 96 < l.length then (96, false) else if l.findIdx (checkP l cells players) < l.length then (l.findIdx (checkP l cells players), false) else (0, true)
theorem checkV_bad {l : List Cd} {cells players : Int} {k : Nat} (hl : l.length ≤ 96) (hk : k < l.length) (h : fitsB l[k] cells ((l.length : Int) + 1) players = false) (hp : ∀ j (hj : j < k), fitsB (l[j]'(by omega)) cells ((l.length : Int) + 1) players = true) : checkV l cells players = (k, false) := by
  have h1 : l.findIdx (checkP l cells players) = k := (List.findIdx_eq hk).2 ⟨by simp [checkP, h], fun j hj => by simp [checkP, hp j hj]⟩
  unfold checkV
  rw [if_neg (by omega), h1, if_pos hk]
theorem checkV_good {l : List Cd} {cells players : Int} (hl : l.length ≤ 96) (hp : ∀ j (hj : j < l.length), fitsB l[j] cells ((l.length : Int) + 1) players = true) : checkV l cells players = (0, true) := by
  have h1 : l.findIdx (checkP l cells players) = l.length := List.findIdx_eq_length.2 fun x hx => by
    obtain ⟨j, hj, rfl⟩ := List.getElem_of_mem hx
    simp [checkP, hp j hj]
  unfold checkV
  rw [if_neg (by omega), h1, if_neg (by omega)]
set_option maxHeartbeats 4000000 in
set_option maxRecDepth 20000 in
theorem Check_calls (A : Option Addr) (l : List Cd) (n c b : Nat) (cells players : Int) (w : World) (hs : Sl w b A (kv l)) (hn : l.length = n) (hm : n ≤ maxLen) (hok : okK l) (hl0 : -9223372036854775808 ≤ cells) (hl1 : cells ≤ 9223372036854775807) (hT : CTab w) :
    Calls Tryd.prog 45 #[.slice A n c, .int .i64 cells, .int .i64 players] w fun e w' => e = .returned (.tuple #[.int .i64 ((checkV l cells players).1 : Nat), .bool (checkV l cells players).2]) ∧ Below w.heap.size w w' := by
  subst hn
  by_cases hbig : 96 < l.length
  · have e0 : decide ((l.length : Int) > 96) = true := by simp; omega
    have hv : checkV l cells players = (96, false) := by unfold checkV; rw [if_pos hbig]
    rw [hv]
    clear hv
    go_enter Tryd.func45, Tryd.ntmps45
    go_wp2
    go_ret2
    exact ⟨rfl, Below.refl _ _⟩
  have e0 : decide ((l.length : Int) > 96) = false := by simp; omega
  have hL : l.length ≤ 96 := by omega
  have hw := IntWalk.i64_in ((l.length : Int) + 1) (by omega)
  have hbad := fun k => checkV_bad (l := l) (cells := cells) (players := players) (k := k) hL
  have hgood := checkV_good (l := l) (cells := cells) (players := players) hL
  obtain ⟨V, hV⟩ : ∃ V, V = checkV l cells players := ⟨_, rfl⟩
  rw [← hV] at hgood ⊢
  simp only [← hV] at hbad
  have hF := fun op a b cc n m h W hT => fits_calls op a b cc n m h cells ((l.length : Int) + 1) players hl0 hl1 W hT
  have HB := Lib.hid hbad
  have HG := Lib.hid hgood
  clear hV hbad hgood
  have hb := below_alloc1 w (.cells #[.int .i64 cells, .int .i64 ((l.length : Int) + 1), .int .i64 players] 111)
  have kR := heap_alloc_new w (.cells #[.int .i64 cells, .int .i64 ((l.length : Int) + 1), .int .i64 players] 111)
  have hTz := hT.ext hb
  have hsz := Sl.ext hs hb
  obtain ⟨wz, hwz⟩ : ∃ wz, wz = w.alloc (.cells #[.int .i64 cells, .int .i64 ((l.length : Int) + 1), .int .i64 players] 111) := ⟨_, rfl⟩
  go_enter Tryd.func45, Tryd.ntmps45
  go_wp2_with fail
  rw [← hwz] at hb kR hTz hsz ⊢
  clear hwz hT hs
  go_loopw [22] (fun i wr => ∃ k : Nat, k ≤ l.length ∧ i = .int .i64 k ∧ (∀ j (hj : j < k) (hj2 : j < l.length), fitsB l[j] cells ((l.length : Int) + 1) players = true) ∧ wr.heap[w.heap.size]? = some (.cells #[.int .i64 cells, .int .i64 ((l.length : Int) + 1), .int .i64 players] 111 (0, 0)) ∧ Sl wr b A (kv l) ∧ CTab wr ∧ Below w.heap.size w wr) (fun i _ => l.length - (intOf i).toNat)
  case atStart => exact ⟨0, Nat.zero_le _, rfl, fun j hj => by omega, kR, hsz, hTz, hb⟩
  case round =>
    clear kR hsz hTz hb
    obtain ⟨k, hk, rfl, hall, kR, hs, hT, hb⟩ := hrel
    have HA := Lib.hid hall
    clear hall
    by_cases hlt : k < l.length
    · have ej : (k : Int) < (l.length : Int) := by omega
      have hck := hok l[k] (List.getElem_mem hlt)
      obtain ⟨off, rfl, c0, c1, c2, c3, c4, c5⟩ := sl_code hs hlt
      have HBk := Lib.hid (HB.out k hlt)
      obtain ⟨x, hx⟩ : ∃ x, x = l[k] := ⟨_, rfl⟩
      have HX := Lib.hid hx
      rw [← hx] at hck c0 c1 c2 c3 c4 c5 HBk
      clear hx
      obtain ⟨op, a, b', cc, n, m⟩ := x
      simp only at c0 c1 c2 c3 c4 c5
      have hFk := fun W hT => hF op a b' cc n m hck W hT
      obtain ⟨d, hd⟩ : ∃ d, d = fitsB ⟨op, a, b', cc, n, m⟩ cells ((l.length : Int) + 1) players := ⟨_, rfl⟩
      rw [← hd] at hFk
      have HD := Lib.hid hd
      have r0 := (cell_of_row wr _ 0 _ _ _ kR).trans (show _ = some _ from rfl)
      have r1 := (cell_of_row wr _ 1 _ _ _ kR).trans (show _ = some _ from rfl)
      have r2 := (cell_of_row wr _ 2 _ _ _ kR).trans (show _ = some _ from rfl)
      have hba := below_alloc1 wr (.cells #[.int .u8 (op : Int), .int .u8 (a : Int), .int .u8 (b' : Int), .int .u8 (cc : Int), .int .i32 n, .int .u32 (m : Int)] 80)
      have kR2 := (hba.block _ (Array.getElem?_eq_some_iff.1 kR).1).trans kR
      have r0' := (cell_of_row _ _ 0 _ _ _ kR2).trans (show _ = some _ from rfl)
      have r1' := (cell_of_row _ _ 1 _ _ _ kR2).trans (show _ = some _ from rfl)
      have r2' := (cell_of_row _ _ 2 _ _ _ kR2).trans (show _ = some _ from rfl)
      have hs2 := Sl.ext hs hba
      have hT2 := hT.ext hba
      have hb2 := hb.trans (hba.mono hb.size)
      clear hd kR hs hT hb hba hF hck
      go_wp2_with fail
      refine (hFk _ hT2).mono ?_
      rintro e w6 ⟨rfl, h9⟩
      have kR := (h9.block _ (Array.getElem?_eq_some_iff.1 kR2).1).trans kR2
      have hs := Sl.ext hs2 h9
      have hT := hT2.ext h9
      have hb := hb2.trans (h9.mono hb2.size)
      clear h9 hFk r0 r1 r2 r0' r1' r2' c0 c1 c2 c3 c4 c5 kR2 hs2 hT2 hb2
      cases d with
      | true =>
        go_wp2_with fail
        go_roundw
        case rel =>
          refine ⟨k + 1, by omega, by go_num, fun j hj hj2 => ?_, kR, hs, hT, hb⟩
          rcases Nat.lt_or_ge j k with h1 | h1
          · exact HA.out j h1 hj2
          · obtain rfl : j = k := by omega
            rw [← HX.out]
            exact HD.out.symm
        case measure => simp [intOf]; omega
      | false =>
        go_wp2_with fail
        go_ret2
        have hv := HBk.out HD.out.symm (fun j hj => HA.out j hj (by omega))
        rw [hv]
        exact ⟨rfl, hb⟩
    · obtain rfl : k = l.length := by omega
      go_wp2_with fail
      go_ret2
      have hv := HG.out (fun j hj => HA.out j hj hj)
      rw [hv]
      exact ⟨rfl, hb⟩
theorem Right_calls (A : Option Addr) (l : List Cd) (n c b : Nat) (cells players : Int) (w : World) (hs : Sl w b A (kv l)) (hn : l.length = n) (hm : n ≤ maxLen) (hok : okK l) (hl0 : -9223372036854775808 ≤ cells) (hl1 : cells ≤ 9223372036854775807) (hT : CTab w) :
    Calls Tryd.prog 30 #[.slice A n c, .int .i64 cells, .int .i64 players] w fun e w' => e = .returned (.bool (checkV l cells players).2) ∧ Below w.heap.size w w' := by
  have hC := Check_calls A l n c b cells players w hs hn hm hok hl0 hl1 hT
  obtain ⟨V, hV⟩ : ∃ V, V = checkV l cells players := ⟨_, rfl⟩
  rw [← hV] at hC ⊢
  clear hV hs hT hok
  go_enter Tryd.func30, Tryd.ntmps30
  go_wp2_with fail
  refine hC.mono ?_
  rintro e w' ⟨rfl, hb⟩
  clear hC
  go_wp2
  go_ret
  exact ⟨rfl, hb⟩
end Go.Proofs.YtnbbglhpjpebhaaDoor
/- A board: how it lies, flat: 48 cells of a value and a label, and how many there are. No condition beyond those said. -/
namespace Go.Proofs.YtnbbglhpjpebhaaDoor
open Go.RowKit

/-- The cells of a board: f tells the values, g the labels, n how many there are. -/
def bdC (f : Nat → Int) (g : Nat → Nat) (j : Nat) : Value := if j % 2 = 0 then .int .i32 (f (j / 2)) else .int .u32 ((g (j / 2) : Nat) : Int)
def bdA (f : Nat → Int) (g : Nat → Nat) (n : Nat) : Array Value := ((List.range 96).map (bdC f g) ++ [Value.int .i64 (n : Int)]).toArray
theorem bdA_size (f : Nat → Int) (g : Nat → Nat) (n : Nat) : (bdA f g n).size = 97 := by simp [bdA]
theorem bdA_get {f : Nat → Int} {g : Nat → Nat} {n j : Nat} (h : j < 96) : (bdA f g n)[j]? = some (bdC f g j) := by
  simp [bdA, List.getElem?_append, h]
theorem bdA_len (f : Nat → Int) (g : Nat → Nat) (n : Nat) : (bdA f g n)[96]? = some (.int .i64 (n : Int)) := by simp [bdA]
theorem bdC_val (f : Nat → Int) (g : Nat → Nat) (i : Nat) : bdC f g (i * 2) = .int .i32 (f i) := by
  unfold bdC; rw [if_pos (by omega), show i * 2 / 2 = i by omega]
theorem bdC_lab (f : Nat → Int) (g : Nat → Nat) (i : Nat) : bdC f g (i * 2 + 1) = .int .u32 ((g i : Nat) : Int) := by
  unfold bdC; rw [if_neg (by omega), show (i * 2 + 1) / 2 = i by omega]
theorem bdA_val {f : Nat → Int} {g : Nat → Nat} {n i : Nat} (h : i < 48) : (bdA f g n)[i * 2]? = some (.int .i32 (f i)) := by rw [bdA_get (by omega), bdC_val]
theorem bdA_lab {f : Nat → Int} {g : Nat → Nat} {n i : Nat} (h : i < 48) : (bdA f g n)[i * 2 + 1]? = some (.int .u32 ((g i : Nat) : Int)) := by rw [bdA_get (by omega), bdC_lab]
theorem bdA_ext {A : Array Value} {f : Nat → Int} {g : Nat → Nat} {n : Nat} (hs : A.size = 97) (h1 : ∀ i, i < 48 → A[i * 2]? = some (.int .i32 (f i))) (h2 : ∀ i, i < 48 → A[i * 2 + 1]? = some (.int .u32 ((g i : Nat) : Int))) (h3 : A[96]? = some (.int .i64 (n : Int))) : A = bdA f g n := by
  apply Array.ext_getElem?
  intro j
  rcases Nat.lt_or_ge j 97 with h | h
  · by_cases e : j = 96
    · subst e; rw [h3, bdA_len]
    · rcases Nat.mod_two_eq_zero_or_one j with hj | hj
      · obtain ⟨i, rfl⟩ : ∃ i, j = i * 2 := ⟨j / 2, by omega⟩
        rw [h1 i (by omega), bdA_val (by omega)]
      · obtain ⟨i, rfl⟩ : ∃ i, j = i * 2 + 1 := ⟨j / 2, by omega⟩
        rw [h2 i (by omega), bdA_lab (by omega)]
  · rw [Array.getElem?_eq_none (by rw [hs]; exact h), Array.getElem?_eq_none (by rw [bdA_size]; exact h)]
theorem bdA_setVal {f : Nat → Int} {g : Nat → Nat} {n k : Nat} (x : Int) (hk : k < 48) : (bdA f g n).setIfInBounds (k * 2) (.int .i32 x) = bdA (fun i => if i = k then x else f i) g n := by
  refine bdA_ext (by rw [Array.size_setIfInBounds, bdA_size]) (fun i hi => ?_) (fun i hi => ?_) ?_
  · rw [Array.getElem?_setIfInBounds, bdA_size]
    by_cases e : i = k
    · subst e; rw [if_pos rfl, if_pos (by omega), if_pos rfl]
    · rw [if_neg (by omega), if_neg e, bdA_val hi]
  · rw [Array.getElem?_setIfInBounds, if_neg (by omega), bdA_lab hi]
  · rw [Array.getElem?_setIfInBounds, if_neg (by omega), bdA_len]
theorem bdA_setLab {f : Nat → Int} {g : Nat → Nat} {n k : Nat} (x : Nat) (hk : k < 48) : (bdA f g n).setIfInBounds (k * 2 + 1) (.int .u32 (x : Int)) = bdA f (fun i => if i = k then x else g i) n := by
  refine bdA_ext (by rw [Array.size_setIfInBounds, bdA_size]) (fun i hi => ?_) (fun i hi => ?_) ?_
  · rw [Array.getElem?_setIfInBounds, if_neg (by omega), bdA_val hi]
  · rw [Array.getElem?_setIfInBounds, bdA_size]
    by_cases e : i = k
    · subst e; rw [if_pos rfl, if_pos (by omega), if_pos rfl]
    · rw [if_neg (by omega), if_neg e, bdA_lab hi]
  · rw [Array.getElem?_setIfInBounds, if_neg (by omega), bdA_len]
theorem bdA_congr {f f' : Nat → Int} {g g' : Nat → Nat} {n : Nat} (h1 : ∀ i, i < 48 → f i = f' i) (h2 : ∀ i, i < 48 → g i = g' i) : bdA f g n = bdA f' g' n :=
  bdA_ext (bdA_size _ _ _) (fun i hi => by rw [bdA_val hi, h1 i hi]) (fun i hi => by rw [bdA_lab hi, h2 i hi]) (bdA_len _ _ _)
theorem bdA_all (f : Nat → Int) (g : Nat → Nat) (n : Nat) : (bdA f g n).all (·.oneCell') = true := by
  rw [Array.all_eq_true_iff_forall_mem]
  intro v hv
  simp only [bdA, List.mem_toArray, List.mem_append, List.mem_map, List.mem_singleton] at hv
  rcases hv with ⟨j, _, rfl⟩ | rfl
  · unfold bdC; split <;> rfl
  · rfl
theorem bd_size (f : Nat → Int) (g : Nat → Nat) (n : Nat) : (Tryd.prog.info? 36).map (·.size) = some (bdA f g n).size := by rw [bdA_size]; kernel_rfl
theorem bd_zero (w : World) : (zeroValue 36).run Tryd.prog w = .ok (.agg (bdA (fun _ => 0) (fun _ => 0) 0)) w := by kernel_rfl
/-- Block b holds the board. -/
def BoxB (w : World) (b : Nat) (f : Nat → Int) (g : Nat → Nat) (n : Nat) : Prop := w.heap[b]? = some (.cells (bdA f g n) 36 (0, 0))
namespace BoxB
variable {w w' : World} {b n : Nat} {f : Nat → Int} {g : Nat → Nat}
theorem new_ (w : World) (f : Nat → Int) (g : Nat → Nat) (n : Nat) : BoxB (w.alloc (.cells (bdA f g n) 36)) w.heap.size f g n := heap_alloc_new w _
theorem lt (h : BoxB w b f g n) : b < w.heap.size := (Array.getElem?_eq_some_iff.1 h).1
theorem cv (h : BoxB w b f g n) {i : Nat} (hi : i < 48) : w.cell? ⟨b, i * 2, none⟩ = some (.int .i32 (f i)) := by rw [cell_of_row w b (i * 2) _ _ _ h]; exact bdA_val hi
theorem cl (h : BoxB w b f g n) {i : Nat} (hi : i < 48) : w.cell? ⟨b, i * 2 + 1, none⟩ = some (.int .u32 ((g i : Nat) : Int)) := by rw [cell_of_row w b (i * 2 + 1) _ _ _ h]; exact bdA_lab hi
theorem cn (h : BoxB w b f g n) : w.cell? ⟨b, 96, none⟩ = some (.int .i64 (n : Int)) := by rw [cell_of_row w b 96 _ _ _ h]; exact bdA_len f g n
theorem fr (h : BoxB w b f g n) (j : Nat) : w.frozen? ⟨b, j, none⟩ = false := frozen_of_row w b j _ _ h
theorem ext (h : BoxB w b f g n) (hb : Below w.heap.size w w') : BoxB w' b f g n := (hb.block b h.lt).trans h
theorem alloc (h : BoxB w b f g n) (o : Obj) : BoxB (w.alloc o) b f g n := (Below.heap_alloc w o b h.lt).trans h
theorem setVal (h : BoxB w b f g n) {k : Nat} (hk : k < 48) (x : Int) : BoxB (w.setCell ⟨b, k * 2, none⟩ (.int .i32 x)) b (fun i => if i = k then x else f i) g n := by
  have := heap_setCell_same w b (k * 2) _ _ (.int .i32 x) h
  rwa [bdA_setVal x hk] at this
theorem setLab (h : BoxB w b f g n) {k : Nat} (hk : k < 48) (x : Nat) : BoxB (w.setCell ⟨b, k * 2 + 1, none⟩ (.int .u32 (x : Int))) b f (fun i => if i = k then x else g i) n := by
  have := heap_setCell_same w b (k * 2 + 1) _ _ (.int .u32 (x : Int)) h
  rwa [bdA_setLab x hk] at this
theorem congr {f' : Nat → Int} {g' : Nat → Nat} (h : BoxB w b f g n) (h1 : ∀ i, i < 48 → f i = f' i) (h2 : ∀ i, i < 48 → g i = g' i) : BoxB w b f' g' n := by
  unfold BoxB at *
  rwa [← bdA_congr h1 h2]
theorem other (h : BoxB w b f g n) {p : Addr} (hp : b ≠ p.block) (u : Value) : BoxB (w.setCell p u) b f g n := (heap_setCell_other w p b u hp).trans h
theorem row_ (h : BoxB w b f g n) (f' : Nat → Int) (g' : Nat → Nat) (n' : Nat) : BoxB (w.setRow b (bdA f' g' n')) b f' g' n' := setRow_heap w b _ _ _ _ h
theorem orow (h : BoxB w b f g n) {b' : Nat} (hp : b ≠ b') (cs : Array Value) : BoxB (w.setRow b' cs) b f g n := (setRow_other w b' b cs hp).trans h
theorem store (h : BoxB w b f g n) (f' : Nat → Int) (g' : Nat → Nat) (n' : Nat) : (storeCells ⟨b, 0, none⟩ (bdA f' g' n').toList 0).run Tryd.prog w = .ok () (w.setRow b (bdA f' g' n')) := by
  have := run_storeCells_from (P := Tryd.prog) b _ (bdA f' g' n').toList 0 _ w h (by simp [bdA_size]) (fun v hv => (Array.all_eq_true_iff_forall_mem.1 (bdA_all f' g' n')) v (by simpa using hv))
  rw [List.take_zero, List.nil_append, Array.toArray_toList] at this
  exact this
theorem load (h : BoxB w b f g n) : (Instr.loadAt 36 (.pointer (some ⟨b, 0, none⟩))).run Tryd.prog w = .ok (.agg (bdA f g n)) w := by
  simp only [Instr.loadAt, Instr.sureAddr, Sem.run_bind, Sem.run_pure, Result.andThen_ok, run_loadVar_row w b _ 36 (bdA f g n) (0, 0) _ h Tryd.underlying36 rfl (bd_size _ _ _)]
end BoxB
theorem wpList_load_bd {ops : Array Oper} {rest : List Oper} {o : Oper} {a : Act} {w : World} {Q : Exit → Act → World → Prop} (hw : Region.wanted o (yielded ops a.tmps) = true) (s : Operand) (ho : o.op = .load 36 s)
    (b : Nat) (hx : a.eval s = .pointer (some ⟨b, 0, none⟩)) (f : Nat → Int) (g : Nat → Nat) (n : Nat) (q : BoxB w b f g n) (h : wpList Tryd.prog ops Q rest (a.put o.dst (.agg (bdA f g n))) w) : wpList Tryd.prog ops Q (o :: rest) a w :=
  BigFrame.wpList_want hw fun _ hK => wp_load_row 36 s ho b hx _ _ _ _ q Tryd.underlying36 rfl (bd_size _ _ _) (hK _ _ h)
theorem below_setRow {B : Nat} {a w : World} (h : Below B a w) (g : Nat) (cs : Array Value) (hg : B ≤ g) : Below B a (w.setRow g cs) :=
  h.trans ⟨rfl, rfl, rfl, by simp, fun k hk => setRow_other w g k cs (by omega)⟩
end Go.Proofs.YtnbbglhpjpebhaaDoor
/- A board as a list of cells, in plain words: what Put, Show and View make of it, and when two are the same. Conditions: those said. -/
namespace Go.Proofs.YtnbbglhpjpebhaaDoor
open Go.RowKit

def bdF (L : List (Int × Nat)) (i : Nat) : Int := (L.getD i (0, 0)).1
def bdG (L : List (Int × Nat)) (i : Nat) : Nat := (L.getD i (0, 0)).2
/-- The board of these cells. -/
def bdL (L : List (Int × Nat)) : Array Value := bdA (bdF L) (bdG L) L.length
theorem bdL_nil : bdL [] = bdA (fun _ => 0) (fun _ => 0) 0 := rfl
theorem bdF_in {L : List (Int × Nat)} {i : Nat} (h : i < L.length) : bdF L i = L[i].1 := by simp [bdF, List.getD, h]
theorem bdG_in {L : List (Int × Nat)} {i : Nat} (h : i < L.length) : bdG L i = L[i].2 := by simp [bdG, List.getD, h]
theorem bdF_out {L : List (Int × Nat)} {i : Nat} (h : L.length ≤ i) : bdF L i = 0 := by simp [bdF, List.getD, List.getElem?_eq_none h]
theorem bdG_out {L : List (Int × Nat)} {i : Nat} (h : L.length ≤ i) : bdG L i = 0 := by simp [bdG, List.getD, List.getElem?_eq_none h]
theorem bdF_set {L : List (Int × Nat)} {i : Nat} (c : Int × Nat) (hi : i < L.length) (j : Nat) : (if j = i then c.1 else bdF L j) = bdF (L.set i c) j := by
  by_cases e : j = i
  · subst e; rw [if_pos rfl, bdF_in (by simpa using hi)]; simp
  · rw [if_neg e]; simp [bdF, List.getD, Ne.symm e]
theorem bdG_set {L : List (Int × Nat)} {i : Nat} (c : Int × Nat) (hi : i < L.length) (j : Nat) : (if j = i then c.2 else bdG L j) = bdG (L.set i c) j := by
  by_cases e : j = i
  · subst e; rw [if_pos rfl, bdG_in (by simpa using hi)]; simp
  · rw [if_neg e]; simp [bdG, List.getD, Ne.symm e]
theorem bdL_set {L : List (Int × Nat)} {i : Nat} (c : Int × Nat) (hi : i < L.length) : bdA (fun j => if j = i then c.1 else bdF L j) (fun j => if j = i then c.2 else bdG L j) L.length = bdL (L.set i c) := by
  unfold bdL
  rw [List.length_set]
  exact bdA_congr (fun j _ => bdF_set c hi j) (fun j _ => bdG_set c hi j)
theorem bdL_size (L : List (Int × Nat)) : (bdL L).size = 97 := bdA_size _ _ _
theorem int_inj {k : IntKind} {a b : Int} (h : Value.int k a = Value.int k b) : a = b := by injection h
theorem bdA_inj {f f' : Nat → Int} {g g' : Nat → Nat} {n n' : Nat} (h : bdA f g n = bdA f' g' n') : n = n' ∧ ∀ i, i < 48 → f i = f' i ∧ g i = g' i := by
  refine ⟨?_, fun i hi => ⟨?_, ?_⟩⟩
  · have h1 := bdA_len f g n
    rw [h, bdA_len] at h1
    have := int_inj (Option.some.inj h1)
    omega
  · have h1 := bdA_val (f := f) (g := g) (n := n) hi
    rw [h, bdA_val hi] at h1
    exact (int_inj (Option.some.inj h1)).symm
  · have h1 := bdA_lab (f := f) (g := g) (n := n) hi
    rw [h, bdA_lab hi] at h1
    have := int_inj (Option.some.inj h1)
    omega
theorem bdL_inj {L M : List (Int × Nat)} (hL : L.length ≤ 48) : bdL L = bdL M ↔ L = M := by
  refine ⟨fun h => ?_, fun h => by rw [h]⟩
  obtain ⟨h1, h2⟩ := bdA_inj h
  refine List.ext_getElem h1 fun i hi hj => ?_
  obtain ⟨h3, h4⟩ := h2 i (by omega)
  rw [bdF_in hi, bdF_in hj] at h3
  rw [bdG_in hi, bdG_in hj] at h4
  exact Prod.ext h3 h4
/-- Cells as values. -/
def cv (L : List (Int × Nat)) : List Value := L.flatMap fun c => [Value.int .i32 c.1, Value.int .u32 ((c.2 : Nat) : Int)]
@[simp] theorem cv_nil : cv [] = [] := rfl
theorem cv_cons (c : Int × Nat) (L : List (Int × Nat)) : cv (c :: L) = Value.int .i32 c.1 :: Value.int .u32 ((c.2 : Nat) : Int) :: cv L := rfl
@[simp] theorem cv_length (L : List (Int × Nat)) : (cv L).length = L.length * 2 := by
  induction L with
  | nil => rfl
  | cons c L ih => rw [cv_cons, List.length_cons, List.length_cons, ih, List.length_cons]; omega
theorem cv_append (L M : List (Int × Nat)) : cv (L ++ M) = cv L ++ cv M := by simp [cv]
theorem cv_one (L : List (Int × Nat)) : ∀ u ∈ cv L, u.oneCell' = true := by
  intro u hu
  simp only [cv, List.mem_flatMap] at hu
  obtain ⟨c, _, hc⟩ := hu
  simp only [List.mem_cons, List.not_mem_nil, or_false] at hc
  rcases hc with rfl | rfl <;> rfl
theorem cv_val {L : List (Int × Nat)} {i : Nat} (h : i < L.length) : (cv L)[i * 2]? = some (.int .i32 L[i].1) := by
  induction L generalizing i with
  | nil => simp at h
  | cons c L ih =>
    rw [cv_cons]
    cases i with
    | zero => rfl
    | succ i =>
      rw [show (i + 1) * 2 = i * 2 + 1 + 1 by omega, List.getElem?_cons_succ, List.getElem?_cons_succ, ih (by simpa using h)]
      rfl
theorem cv_lab {L : List (Int × Nat)} {i : Nat} (h : i < L.length) : (cv L)[i * 2 + 1]? = some (.int .u32 ((L[i].2 : Nat) : Int)) := by
  induction L generalizing i with
  | nil => simp at h
  | cons c L ih =>
    rw [cv_cons]
    cases i with
    | zero => rfl
    | succ i =>
      rw [show (i + 1) * 2 + 1 = i * 2 + 1 + 1 + 1 by omega, List.getElem?_cons_succ, List.getElem?_cons_succ, ih (by simpa using h)]
      rfl
theorem cv_take (L : List (Int × Nat)) (k : Nat) : (cv L).take (k * 2) = cv (L.take k) := by
  induction k generalizing L with
  | zero => rfl
  | succ k ih =>
    cases L with
    | nil => rfl
    | cons c L => rw [List.take_succ_cons, cv_cons, cv_cons, show (k + 1) * 2 = k * 2 + 1 + 1 by omega, List.take_succ_cons, List.take_succ_cons, ih]
theorem cv_inj {L M : List (Int × Nat)} (h : cv L = cv M) : L = M := by
  induction L generalizing M with
  | nil => cases M with
    | nil => rfl
    | cons c M => cases h
  | cons c L ih => cases M with
    | nil => cases h
    | cons d M =>
      rw [cv_cons, cv_cons] at h
      injection h with h1 h
      injection h with h2 h
      have h1 := int_inj h1
      have h2 := int_inj h2
      rw [ih h, Prod.ext (x := c) (y := d) h1 (by omega)]
/-- The cells of a board, as they lie. -/
theorem bdL_cells {L : List (Int × Nat)} (hL : L.length ≤ 48) : (bdL L).toList.take (L.length * 2) = cv L := by
  apply List.ext_getElem?
  intro j
  rw [List.getElem?_take]
  by_cases hj : j < L.length * 2
  · rw [if_pos hj]
    have e : (bdL L).toList[j]? = (bdL L)[j]? := by simp
    rw [e]
    unfold bdL
    rcases Nat.mod_two_eq_zero_or_one j with h | h
    · obtain ⟨i, rfl⟩ : ∃ i, j = i * 2 := ⟨j / 2, by omega⟩
      rw [bdA_val (by omega), cv_val (by omega), bdF_in (by omega)]
    · obtain ⟨i, rfl⟩ : ∃ i, j = i * 2 + 1 := ⟨j / 2, by omega⟩
      rw [bdA_lab (by omega), cv_lab (by omega), bdG_in (by omega)]
  · rw [if_neg hj, List.getElem?_eq_none (by simp; omega)]
/-- The cells fit. -/
def okC (L : List (Int × Nat)) : Prop := ∀ c ∈ L, (-2147483648 ≤ c.1 ∧ c.1 ≤ 2147483647) ∧ c.2 < 4294967296
theorem okC_get {L : List (Int × Nat)} (h : okC L) {i : Nat} (hi : i < L.length) : (-2147483648 ≤ L[i].1 ∧ L[i].1 ≤ 2147483647) ∧ L[i].2 < 4294967296 := h _ (List.getElem_mem hi)
theorem okC_take {L : List (Int × Nat)} (h : okC L) (k : Nat) : okC (L.take k) := fun c hc => h c (List.mem_of_mem_take hc)
theorem okC_set {L : List (Int × Nat)} (h : okC L) (i : Nat) {c : Int × Nat} (hc : (-2147483648 ≤ c.1 ∧ c.1 ≤ 2147483647) ∧ c.2 < 4294967296) : okC (L.set i c) := fun d hd => by
  rcases List.mem_or_eq_of_mem_set hd with h1 | rfl
  · exact h d h1
  · exact hc
/-- May o see a cell of this label? -/
def sees (m : Nat) (o : Int) : Bool := decide (m &&& aloneN o ≠ 0)
/-- A cell, as o sees it. -/
def seeC (o : Int) (c : Int × Nat) : Int × Nat := if sees c.2 o = true then c else (0, c.2)
def viewL (o : Int) (L : List (Int × Nat)) : List (Int × Nat) := L.map (seeC o)
@[simp] theorem viewL_length (o : Int) (L : List (Int × Nat)) : (viewL o L).length = L.length := by simp [viewL]
theorem seeC_lab (o : Int) (c : Int × Nat) : (seeC o c).2 = c.2 := by unfold seeC; split <;> rfl
theorem okC_view {L : List (Int × Nat)} (h : okC L) (o : Int) : okC (viewL o L) := fun d hd => by
  obtain ⟨c, hc, rfl⟩ := List.mem_map.1 hd
  have := h c hc
  unfold seeC
  split
  · exact this
  · exact ⟨by simp, this.2⟩
end Go.Proofs.YtnbbglhpjpebhaaDoor
/- Dice in plain numbers: what comes next, what is below, what a shuffle does. No condition beyond those said. -/
namespace Go.Proofs.YtnbbglhpjpebhaaDoor

/-- The stride, and the mixing's two factors. -/
def strideN : Nat := 11400714819323198485
def mulA : Nat := 13787848793156543929
def mulB : Nat := 10723151780598845931
def two64 : Nat := 18446744073709551616
/-- The state behind one number. -/
def goN (s : Nat) : Nat := (s + strideN) % two64
def mixA (z : Nat) : Nat := (z ^^^ z / 1073741824) * mulA % two64
def mixB (z : Nat) : Nat := (z ^^^ z / 134217728) * mulB % two64
def mixC (z : Nat) : Nat := z ^^^ z / 2147483648
def mixN (z : Nat) : Nat := mixC (mixB (mixA z))
/-- The number that comes next. -/
def nextN (s : Nat) : Nat := mixN (goN s) / 4294967296
/-- A number below n. -/
def belowN (s n : Nat) : Nat := nextN s * n / 4294967296
theorem goN_lt (s : Nat) : goN s < 18446744073709551616 := Nat.mod_lt _ (by unfold two64; omega)
theorem mixA_lt (s : Nat) : mixA s < 18446744073709551616 := Nat.mod_lt _ (by unfold two64; omega)
theorem mixB_lt (s : Nat) : mixB s < 18446744073709551616 := Nat.mod_lt _ (by unfold two64; omega)
theorem xorhalf_lt {z k : Nat} (h : z < 18446744073709551616) : z ^^^ z / k < 18446744073709551616 :=
  Nat.xor_lt_two_pow (n := 64) h (Nat.lt_of_le_of_lt (Nat.div_le_self _ _) h)
theorem mixN_lt (s : Nat) : mixN s < 18446744073709551616 := xorhalf_lt (mixB_lt _)
theorem nextN_lt (s : Nat) : nextN s < 4294967296 := by
  unfold nextN
  have := mixN_lt (goN s)
  omega
theorem belowN_lt {s n : Nat} (h : 0 < n) : belowN s n < n := by
  unfold belowN
  rw [Nat.div_lt_iff_lt_mul (by omega)]
  have h1 := Nat.mul_lt_mul_of_pos_right (nextN_lt s) h
  rwa [Nat.mul_comm n]
theorem belowN_le (s n : Nat) : belowN s n ≤ n := by
  rcases Nat.eq_zero_or_pos n with h | h
  · subst h; simp [belowN]
  · exact Nat.le_of_lt (belowN_lt h)
theorem belowN_mono (s : Nat) {n m : Nat} (h : n ≤ m) : belowN s n ≤ belowN s m :=
  Nat.div_le_div_right (Nat.mul_le_mul_left _ h)
theorem belowN_one (s : Nat) : belowN s 1 = 0 := by have := belowN_lt (s := s) (n := 1) (by omega); omega
theorem prod_lt {s n : Nat} (h : n < 4294967296) : nextN s * n < 18446744073709551616 := by
  have h1 := nextN_lt s
  have h2 : nextN s * n ≤ 4294967295 * 4294967295 := Nat.mul_le_mul (by omega) (by omega)
  omega
/-- The state behind k numbers. -/
def goesN (s k : Nat) : Nat := (s + k * strideN) % two64
theorem goesN_succ (s k : Nat) : goN (goesN s k) = goesN s (k + 1) := by
  unfold goN goesN two64 strideN
  omega
theorem goesN_zero {s : Nat} (h : s < 18446744073709551616) : goesN s 0 = s := by
  unfold goesN two64
  omega
theorem goesN_add (s a b : Nat) : goesN (goesN s a) b = goesN s (a + b) := by
  unfold goesN two64 strideN
  omega
/-- Two places of a list change. -/
def swapL {α : Type} (l : List α) (i j : Nat) : List α :=
  match l[i]?, l[j]? with
  | some a, some b => (l.set i b).set j a
  | _, _ => l
@[simp] theorem swapL_length {α : Type} (l : List α) (i j : Nat) : (swapL l i j).length = l.length := by
  unfold swapL
  split <;> simp
theorem swapL_map {α β : Type} (f : α → β) (l : List α) (i j : Nat) : swapL (l.map f) i j = (swapL l i j).map f := by
  unfold swapL
  rw [List.getElem?_map, List.getElem?_map]
  rcases l[i]? with _ | a <;> rcases l[j]? with _ | b <;> simp [List.map_set]
theorem swapL_perm {α : Type} (l : List α) (i j : Nat) : (swapL l i j).Perm l := by
  unfold swapL
  split
  · rename_i a b hi hj
    obtain ⟨h1, rfl⟩ := List.getElem?_eq_some_iff.1 hi
    obtain ⟨h2, rfl⟩ := List.getElem?_eq_some_iff.1 hj
    exact List.set_set_perm h1 h2
  · exact .refl _
/-- A list, shuffled from the place k down to 1: the list, and the state then. -/
def shufN {α : Type} : Nat → Nat → List α → List α × Nat
  | 0, s, l => (l, s)
  | k + 1, s, l => shufN k (goN s) (swapL l (k + 1) (belowN s (k + 2)))
theorem shufN_map {α β : Type} (f : α → β) (k s : Nat) (l : List α) : shufN k s (l.map f) = ((shufN k s l).1.map f, (shufN k s l).2) := by
  induction k generalizing s l with
  | zero => rfl
  | succ k ih => unfold shufN; rw [swapL_map, ih]
theorem shufN_perm {α : Type} (k s : Nat) (l : List α) : (shufN k s l).1.Perm l := by
  induction k generalizing s l with
  | zero => exact .refl _
  | succ k ih => unfold shufN; exact (ih _ _).trans (swapL_perm _ _ _)
theorem shufN_length {α : Type} (k s : Nat) (l : List α) : (shufN k s l).1.length = l.length := (shufN_perm k s l).length_eq
theorem shufN_state {α : Type} (k s : Nat) (l : List α) (h : s < 18446744073709551616) : (shufN k s l).2 = goesN s k := by
  induction k generalizing s l with
  | zero => exact (goesN_zero h).symm
  | succ k ih =>
    unfold shufN
    rw [ih _ _ (goN_lt _)]
    have : goN s = goesN s 1 := by unfold goN goesN; rw [Nat.one_mul]
    rw [this, goesN_add, Nat.add_comm]
end Go.Proofs.YtnbbglhpjpebhaaDoor
/- Following instructions, in plain words: what each of them does, and what comes of all. No condition. -/
namespace Go.Proofs.YtnbbglhpjpebhaaDoor

/-- A machine, as it stands. -/
structure VS where
  L : List (Int × Nat)
  d : Nat
  t : Nat
  sh : List (Nat × Nat × Int)
  u : Nat
  e : Nat
  nx : Nat
  R : List (Int × Nat)
/-- What it goes by. -/
structure VP where
  code : List Cd
  mv : List Int
  tk : Nat
  al : Nat
def w32 (x : Int) : Int := (x + 2147483648) % 4294967296 - 2147483648
theorem w32_in {x : Int} (h0 : -2147483648 ≤ x) (h1 : x ≤ 2147483647) : w32 x = x := by unfold w32; omega
theorem w32_fits (x : Int) : -2147483648 ≤ w32 x ∧ w32 x ≤ 2147483647 := by unfold w32; omega
namespace VS
variable (s : VS)
def rg (i : Nat) : Int × Nat := s.R.getD i (0, 0)
def cl (i : Nat) : Int × Nat := s.L.getD i (0, 0)
def setR (i : Nat) (r : Int × Nat) : VS := { s with R := s.R.set i r }
def put (i : Nat) (r : Int × Nat) : VS := { s with L := s.L.set i r, t := s.t ||| 2 ^ i }
def fail (e : Nat) : VS := { s with e := e }
def goes (n : Nat) : VS := { s with nx := n }
/-- May all see it? -/
def clr (al : Nat) (r : Int × Nat) : Bool := decide (lessN al r.2 = 0)
/-- The place that is meant: an error, or the place. -/
def place (al : Nat) (c : Cd) : Nat × Nat :=
  if clr al (s.rg c.b) = true then (if 0 ≤ c.n + (s.rg c.b).1 ∧ c.n + (s.rg c.b).1 < (s.L.length : Int) then (0, (c.n + (s.rg c.b).1).toNat) else (7, 0)) else (8, 0)
def reveal (i m : Nat) : VS :=
  { (s.put i ((s.cl i).1, (s.cl i).2 ||| m)) with sh := if lessN m (s.cl i).2 = 0 then s.sh else s.sh ++ [(i, lessN m (s.cl i).2, (s.cl i).1)] }
end VS
/-- These values, from the place i on. -/
def VS.puts : VS → Nat → List Int → VS
  | s, _, [] => s
  | s, i, x :: l => VS.puts (s.put i (x, 0)) (i + 1) l
def shufV (s : VS) (i k : Nat) : VS :=
  ({ s with d := (shufN (k - 1) s.d (((s.L.drop i).take k).map Prod.fst)).2 } : VS).puts i (shufN (k - 1) s.d (((s.L.drop i).take k).map Prod.fst)).1
section
variable (comp : Nat → Int → Int → Int) (P : VP)
/-- What an instruction does. -/
def followV (s : VS) (c : Cd) : VS :=
  if c.op = 0 then s.goes P.code.length
  else if c.op = 1 then s.setR c.a (c.n, P.al)
  else if c.op = 25 then s.setR c.a (w32 P.tk, P.al)
  else if c.op = 2 then s.setR c.a (s.cl c.n.toNat)
  else if c.op = 3 then s.put c.n.toNat (s.rg c.a)
  else if c.op = 4 then (if (s.place P.al c).1 = 0 then s.setR c.a (s.cl (s.place P.al c).2) else s.fail (s.place P.al c).1)
  else if c.op = 5 then (if (s.place P.al c).1 = 0 then s.put (s.place P.al c).2 (s.rg c.a) else s.fail (s.place P.al c).1)
  else if c.op = 18 then s.setR c.a ((if (s.rg c.a).1 ≠ 0 then (s.rg c.b).1 else (s.rg c.c).1), (s.rg c.a).2 &&& (s.rg c.b).2 &&& (s.rg c.c).2)
  else if c.op = 19 then (if VS.clr P.al (s.rg c.a) = true then (if (s.rg c.a).1 = 0 then s.goes c.n.toNat else s) else s.fail 8)
  else if c.op = 20 then s.goes c.n.toNat
  else if c.op = 21 then s.setR c.a (P.mv.getD c.n.toNat 0, aloneN c.n)
  else if c.op = 22 then (if (s.place P.al c).1 = 0 then s.reveal (s.place P.al c).2 (c.m &&& P.al) else s.fail (s.place P.al c).1)
  else if c.op = 23 then { (s.setR c.a (w32 (belowN s.d c.n.toNat), 0)) with d := goN s.d }
  else if c.op = 24 then shufV s c.n.toNat c.c
  else s.setR c.a (comp c.op (s.rg c.b).1 (s.rg c.c).1, (s.rg c.b).2 &&& (s.rg c.c).2)
def codeAt (i : Nat) : Cd := P.code.getD i ⟨0, 0, 0, 0, 0, 0⟩
def stepV (s : VS) : VS := followV comp P { s with nx := s.nx + 1, u := s.u + 1 } (codeAt P s.nx)
/-- So many instructions at most. -/
def runV : Nat → VS → VS
  | 0, s => s
  | k + 1, s => if s.nx < P.code.length ∧ s.e = 0 then (if s.u = 400 then s.fail 9 else runV k (stepV comp P s)) else s
def startV (L : List (Int × Nat)) (d : Nat) : VS := ⟨L, d, 0, [], 0, 0, 0, List.replicate 8 (0, P.al)⟩
def endV (L : List (Int × Nat)) (d : Nat) (s : VS) : VS := if s.e = 0 then s else { s with L := L, d := d, t := 0 }
def wholeV (L : List (Int × Nat)) (d : Nat) : VS :=
  if (checkV P.code L.length P.mv.length).2 = true then endV L d (runV comp P 402 (startV P L d)) else { startV P L d with e := 2 }
end
end Go.Proofs.YtnbbglhpjpebhaaDoor
/- Two machines that one sees alike stay so: who may not see something is told nothing of it. Conditions: those said. -/
namespace Go.Proofs.YtnbbglhpjpebhaaDoor

/-- What is seen of a cell by whom 'v' tells. -/
def vw (v : Nat → Bool) (c : Int × Nat) : Int × Nat := (if v c.2 = true then c.1 else 0, c.2)
def vs3 (v : Nat → Bool) (x : Nat × Nat × Int) : Nat × Nat × Int := (x.1, x.2.1, if v x.2.1 = true then x.2.2 else 0)
structure Vis (al : Nat) (v : Nat → Bool) : Prop where
  and_ : ∀ a b, v (a &&& b) = true → v a = true ∧ v b = true
  clr : ∀ r, lessN al r = 0 → v r = true
  zero : v 0 = false
theorem vw_lab {v : Nat → Bool} {a b : Int × Nat} (h : vw v a = vw v b) : a.2 = b.2 := by have h1 := congrArg (fun c : Int × Nat => c.2) h; exact h1
theorem vw_val {v : Nat → Bool} {a b : Int × Nat} (h : vw v a = vw v b) (hv : v a.2 = true) : a.1 = b.1 := by
  have h1 := congrArg Prod.fst h
  have h2 := vw_lab h
  simp only [vw] at h1
  rw [← h2, if_pos hv, if_pos hv] at h1
  exact h1
theorem vw_mk {v : Nat → Bool} {x y : Int} {m n : Nat} (h : m = n) (h2 : v m = true → x = y) : vw v (x, m) = vw v (y, n) := by
  subst h
  unfold vw
  by_cases hv : v m = true
  · rw [if_pos hv, if_pos hv, h2 hv]
  · rw [if_neg hv, if_neg hv]
theorem vw_zero (v : Nat → Bool) : vw v (0, 0) = (0, 0) := by unfold vw; split <;> rfl
theorem getD_map (v : Nat → Bool) (L : List (Int × Nat)) (i : Nat) : (L.map (vw v)).getD i (0, 0) = vw v (L.getD i (0, 0)) := by
  simp only [List.getD, List.getElem?_map]
  cases L[i]? with
  | none => simp [vw_zero]
  | some c => rfl
theorem getD_rel {v : Nat → Bool} {L M : List (Int × Nat)} (h : L.map (vw v) = M.map (vw v)) (i : Nat) : vw v (L.getD i (0, 0)) = vw v (M.getD i (0, 0)) := by
  rw [← getD_map, h, getD_map]
theorem set_rel {v : Nat → Bool} {L M : List (Int × Nat)} (h : L.map (vw v) = M.map (vw v)) (i : Nat) {r q : Int × Nat} (hr : vw v r = vw v q) : (L.set i r).map (vw v) = (M.set i q).map (vw v) := by
  rw [List.map_set, List.map_set, h, hr]
structure RelV (v : Nat → Bool) (s z : VS) : Prop where
  L : s.L.map (vw v) = z.L.map (vw v)
  R : s.R.map (vw v) = z.R.map (vw v)
  t : s.t = z.t
  u : s.u = z.u
  e : s.e = z.e
  nx : s.nx = z.nx
  sh : s.sh.map (vs3 v) = z.sh.map (vs3 v)
namespace RelV
variable {v : Nat → Bool} {s z : VS}
theorem refl (v : Nat → Bool) (s : VS) : RelV v s s := ⟨rfl, rfl, rfl, rfl, rfl, rfl, rfl⟩
theorem len (h : RelV v s z) : s.L.length = z.L.length := by have := congrArg List.length h.L; simpa using this
theorem rg (h : RelV v s z) (i : Nat) : vw v (s.rg i) = vw v (z.rg i) := getD_rel h.R i
theorem cl (h : RelV v s z) (i : Nat) : vw v (s.cl i) = vw v (z.cl i) := getD_rel h.L i
theorem setR (h : RelV v s z) (i : Nat) {r q : Int × Nat} (hr : vw v r = vw v q) : RelV v (s.setR i r) (z.setR i q) := { h with R := set_rel h.R i hr }
theorem put (h : RelV v s z) (i : Nat) {r q : Int × Nat} (hr : vw v r = vw v q) : RelV v (s.put i r) (z.put i q) := { h with L := set_rel h.L i hr, t := by simp only [VS.put]; rw [h.t] }
theorem fail (h : RelV v s z) (e : Nat) : RelV v (s.fail e) (z.fail e) := { h with e := rfl }
theorem goes (h : RelV v s z) (n : Nat) : RelV v (s.goes n) (z.goes n) := { h with nx := rfl }
theorem dice (h : RelV v s z) (d d' : Nat) : RelV v { s with d := d } { z with d := d' } := { h with }
theorem clr {al : Nat} (hV : Vis al v) (h : RelV v s z) (i : Nat) : VS.clr al (s.rg i) = VS.clr al (z.rg i) ∧ (VS.clr al (s.rg i) = true → (s.rg i).1 = (z.rg i).1) := by
  have h1 := h.rg i
  refine ⟨by unfold VS.clr; rw [vw_lab h1], fun hc => vw_val h1 (hV.clr _ ?_)⟩
  simpa [VS.clr] using hc
theorem place {al : Nat} (hV : Vis al v) (h : RelV v s z) (c : Cd) : s.place al c = z.place al c := by
  obtain ⟨h1, h2⟩ := clr hV h c.b
  unfold VS.place
  rw [← h1, ← h.len]
  by_cases hc : VS.clr al (s.rg c.b) = true
  · rw [if_pos hc, if_pos hc, h2 hc]
  · rw [if_neg hc, if_neg hc]
theorem puts (hv0 : v 0 = false) : ∀ {l m : List Int} {s z : VS} (_ : RelV v s z) (i : Nat), l.length = m.length → RelV v (s.puts i l) (z.puts i m)
  | [], [], _, _, h, _, _ => h
  | [], _ :: _, _, _, _, _, h => by simp at h
  | _ :: _, [], _, _, _, _, h => by simp at h
  | x :: l, y :: m, _, _, h, i, hl => puts hv0 (h.put i (vw_mk rfl (fun hv => by rw [hv0] at hv; cases hv))) (i + 1) (by simpa using hl)
end RelV
/-- They have gone apart: a show of unlike values, to one who is meant. -/
def Apart (v : Nat → Bool) (s z : VS) : Prop :=
  ∃ k x y, s.sh[k]? = some x ∧ z.sh[k]? = some y ∧ x.1 = y.1 ∧ x.2.1 = y.2.1 ∧ v x.2.1 = true ∧ x.2.2 ≠ y.2.2 ∧ (s.sh.take k).map (vs3 v) = (z.sh.take k).map (vs3 v)
theorem puts_sh (l : List Int) : ∀ (s : VS) (i : Nat), (s.puts i l).sh = s.sh := by
  induction l with
  | nil => intro s i; rfl
  | cons x l ih => intro s i; rw [VS.puts, ih]; rfl
section
variable (comp : Nat → Int → Int → Int) (P : VP)
/-- By cases on the instruction. -/
theorem follow_elim {C : VS → Prop} (s : VS) (c : Cd)
    (h0 : c.op = 0 → C (s.goes P.code.length)) (h1 : c.op = 1 → C (s.setR c.a (c.n, P.al))) (h25 : c.op = 25 → C (s.setR c.a (w32 P.tk, P.al)))
    (h2 : c.op = 2 → C (s.setR c.a (s.cl c.n.toNat))) (h3 : c.op = 3 → C (s.put c.n.toNat (s.rg c.a)))
    (h4 : c.op = 4 → (s.place P.al c).1 = 0 → C (s.setR c.a (s.cl (s.place P.al c).2))) (h5 : c.op = 5 → (s.place P.al c).1 = 0 → C (s.put (s.place P.al c).2 (s.rg c.a)))
    (hf : (c.op = 4 ∨ c.op = 5 ∨ c.op = 22) → (s.place P.al c).1 ≠ 0 → C (s.fail (s.place P.al c).1))
    (h18 : c.op = 18 → C (s.setR c.a ((if (s.rg c.a).1 ≠ 0 then (s.rg c.b).1 else (s.rg c.c).1), (s.rg c.a).2 &&& (s.rg c.b).2 &&& (s.rg c.c).2)))
    (h19 : c.op = 19 → VS.clr P.al (s.rg c.a) = true → (s.rg c.a).1 = 0 → C (s.goes c.n.toNat)) (h19s : c.op = 19 → VS.clr P.al (s.rg c.a) = true → (s.rg c.a).1 ≠ 0 → C s) (h19f : c.op = 19 → VS.clr P.al (s.rg c.a) = false → C (s.fail 8))
    (h20 : c.op = 20 → C (s.goes c.n.toNat)) (h21 : c.op = 21 → C (s.setR c.a (P.mv.getD c.n.toNat 0, aloneN c.n)))
    (h22 : c.op = 22 → (s.place P.al c).1 = 0 → C (s.reveal (s.place P.al c).2 (c.m &&& P.al)))
    (h23 : c.op = 23 → C { (s.setR c.a (w32 (belowN s.d c.n.toNat), 0)) with d := goN s.d }) (h24 : c.op = 24 → C (shufV s c.n.toNat c.c))
    (ho : (c.op ≠ 0 ∧ c.op ≠ 1 ∧ c.op ≠ 25 ∧ c.op ≠ 2 ∧ c.op ≠ 3 ∧ c.op ≠ 4 ∧ c.op ≠ 5 ∧ c.op ≠ 18 ∧ c.op ≠ 19 ∧ c.op ≠ 20 ∧ c.op ≠ 21 ∧ c.op ≠ 22 ∧ c.op ≠ 23 ∧ c.op ≠ 24) → C (s.setR c.a (comp c.op (s.rg c.b).1 (s.rg c.c).1, (s.rg c.b).2 &&& (s.rg c.c).2))) : C (followV comp P s c) := by
  unfold followV
  by_cases e0 : c.op = 0
  · rw [if_pos e0]; exact h0 e0
  rw [if_neg e0]
  by_cases e1 : c.op = 1
  · rw [if_pos e1]; exact h1 e1
  rw [if_neg e1]
  by_cases e25 : c.op = 25
  · rw [if_pos e25]; exact h25 e25
  rw [if_neg e25]
  by_cases e2 : c.op = 2
  · rw [if_pos e2]; exact h2 e2
  rw [if_neg e2]
  by_cases e3 : c.op = 3
  · rw [if_pos e3]; exact h3 e3
  rw [if_neg e3]
  by_cases e4 : c.op = 4
  · rw [if_pos e4]
    by_cases hp : (s.place P.al c).1 = 0
    · rw [if_pos hp]; exact h4 e4 hp
    · rw [if_neg hp]; exact hf (.inl e4) hp
  rw [if_neg e4]
  by_cases e5 : c.op = 5
  · rw [if_pos e5]
    by_cases hp : (s.place P.al c).1 = 0
    · rw [if_pos hp]; exact h5 e5 hp
    · rw [if_neg hp]; exact hf (.inr (.inl e5)) hp
  rw [if_neg e5]
  by_cases e18 : c.op = 18
  · rw [if_pos e18]; exact h18 e18
  rw [if_neg e18]
  by_cases e19 : c.op = 19
  · rw [if_pos e19]
    by_cases hc : VS.clr P.al (s.rg c.a) = true
    · rw [if_pos hc]
      by_cases hz : (s.rg c.a).1 = 0
      · rw [if_pos hz]; exact h19 e19 hc hz
      · rw [if_neg hz]; exact h19s e19 hc hz
    · rw [if_neg hc]; exact h19f e19 (by simpa using hc)
  rw [if_neg e19]
  by_cases e20 : c.op = 20
  · rw [if_pos e20]; exact h20 e20
  rw [if_neg e20]
  by_cases e21 : c.op = 21
  · rw [if_pos e21]; exact h21 e21
  rw [if_neg e21]
  by_cases e22 : c.op = 22
  · rw [if_pos e22]
    by_cases hp : (s.place P.al c).1 = 0
    · rw [if_pos hp]; exact h22 e22 hp
    · rw [if_neg hp]; exact hf (.inr (.inr e22)) hp
  rw [if_neg e22]
  by_cases e23 : c.op = 23
  · rw [if_pos e23]; exact h23 e23
  rw [if_neg e23]
  by_cases e24 : c.op = 24
  · rw [if_pos e24]; exact h24 e24
  rw [if_neg e24]
  exact ho ⟨e0, e1, e25, e2, e3, e4, e5, e18, e19, e20, e21, e22, e23, e24⟩
theorem follow_sh (s : VS) (c : Cd) : ∃ m, (followV comp P s c).sh = s.sh ++ m := by
  have h0 : ∀ z : VS, z.sh = s.sh → ∃ m, z.sh = s.sh ++ m := fun z h => ⟨[], by rw [h, List.append_nil]⟩
  refine follow_elim comp P (C := fun z => ∃ m, z.sh = s.sh ++ m) s c (fun _ => h0 _ rfl) (fun _ => h0 _ rfl) (fun _ => h0 _ rfl) (fun _ => h0 _ rfl) (fun _ => h0 _ rfl) (fun _ _ => h0 _ rfl) (fun _ _ => h0 _ rfl) (fun _ _ => h0 _ rfl) (fun _ => h0 _ rfl) (fun _ _ _ => h0 _ rfl) (fun _ _ _ => h0 _ rfl) (fun _ _ => h0 _ rfl) (fun _ => h0 _ rfl) (fun _ => h0 _ rfl) (fun _ _ => ?_) (fun _ => h0 _ rfl) (fun _ => h0 _ (by unfold shufV; rw [puts_sh])) (fun _ => h0 _ rfl)
  unfold VS.reveal
  simp only
  by_cases hl : lessN (c.m &&& P.al) (s.cl (s.place P.al c).2).2 = 0
  · rw [if_pos hl]; exact h0 _ rfl
  · rw [if_neg hl]; exact ⟨_, rfl⟩
theorem run_sh (k : Nat) : ∀ s : VS, ∃ m, (runV comp P k s).sh = s.sh ++ m := by
  induction k with
  | zero => intro s; exact ⟨[], by simp [runV]⟩
  | succ k ih =>
    intro s
    unfold runV
    split
    · split
      · exact ⟨[], by simp [VS.fail]⟩
      · obtain ⟨m, hm⟩ := ih (stepV comp P s)
        obtain ⟨m', hm'⟩ := follow_sh comp P { s with nx := s.nx + 1, u := s.u + 1 } (codeAt P s.nx)
        refine ⟨m' ++ m, ?_⟩
        rw [hm]
        unfold stepV
        rw [hm', List.append_assoc]
    · exact ⟨[], by simp⟩
end
theorem Apart.grow {v : Nat → Bool} {s z s' z' : VS} (h : Apart v s z) {m m' : List (Nat × Nat × Int)} (h1 : s'.sh = s.sh ++ m) (h2 : z'.sh = z.sh ++ m') : Apart v s' z' := by
  obtain ⟨k, x, y, hx, hy, e1, e2, e3, e4, e5⟩ := h
  obtain ⟨kx, _⟩ := List.getElem?_eq_some_iff.1 hx
  obtain ⟨ky, _⟩ := List.getElem?_eq_some_iff.1 hy
  refine ⟨k, x, y, ?_, ?_, e1, e2, e3, e4, ?_⟩
  · rw [h1, List.getElem?_append_left kx]; exact hx
  · rw [h2, List.getElem?_append_left ky]; exact hy
  · rw [h1, h2, List.take_append_of_le_length (by omega), List.take_append_of_le_length (by omega)]; exact e5
theorem lessN_or {m q : Nat} (hm : m < 4294967296) (hq : q < 4294967296) (h : lessN m q = 0) : q ||| m = q := by
  refine ext32 (Nat.or_lt_two_pow (n := 32) hq hm) hq fun i hi => ?_
  have h1 := lessN_bit m hq i hi
  rw [h, Nat.zero_testBit] at h1
  rw [Nat.testBit_or]
  cases h2 : q.testBit i <;> cases h3 : m.testBit i <;> simp_all
/-- One instruction. -/
theorem follow_rel {comp : Nat → Int → Int → Int} {code : List Cd} {mv mw : List Int} {tk al : Nat} {v : Nat → Bool} (hV : Vis al v) (c : Cd)
    (hrev : c.op = 22 → ∃ p, p < 32 ∧ v = fun m => m.testBit p) (hm : c.m < 4294967296)
    (hmv : c.op = 21 → v (aloneN c.n) = true → mv.getD c.n.toNat 0 = mw.getD c.n.toNat 0)
    {s z : VS} (h : RelV v s z) (hok : okC s.L) :
    RelV v (followV comp ⟨code, mv, tk, al⟩ s c) (followV comp ⟨code, mw, tk, al⟩ z c) ∨ Apart v (followV comp ⟨code, mv, tk, al⟩ s c) (followV comp ⟨code, mw, tk, al⟩ z c) := by
  have hp := RelV.place hV h c
  unfold followV
  rw [← hp]
  by_cases h0 : c.op = 0
  · rw [if_pos h0, if_pos h0]; exact .inl (h.goes _)
  rw [if_neg h0, if_neg h0]
  by_cases h1 : c.op = 1
  · rw [if_pos h1, if_pos h1]; exact .inl (h.setR _ rfl)
  rw [if_neg h1, if_neg h1]
  by_cases h25 : c.op = 25
  · rw [if_pos h25, if_pos h25]; exact .inl (h.setR _ rfl)
  rw [if_neg h25, if_neg h25]
  by_cases h2 : c.op = 2
  · rw [if_pos h2, if_pos h2]; exact .inl (h.setR _ (h.cl _))
  rw [if_neg h2, if_neg h2]
  by_cases h3 : c.op = 3
  · rw [if_pos h3, if_pos h3]; exact .inl (h.put _ (h.rg _))
  rw [if_neg h3, if_neg h3]
  by_cases h4 : c.op = 4
  · rw [if_pos h4, if_pos h4]
    left
    split
    · exact h.setR _ (h.cl _)
    · exact h.fail _
  rw [if_neg h4, if_neg h4]
  by_cases h5 : c.op = 5
  · rw [if_pos h5, if_pos h5]
    left
    split
    · exact h.put _ (h.rg _)
    · exact h.fail _
  rw [if_neg h5, if_neg h5]
  by_cases h18 : c.op = 18
  · rw [if_pos h18, if_pos h18]
    left
    refine h.setR _ (vw_mk (by rw [vw_lab (h.rg c.a), vw_lab (h.rg c.b), vw_lab (h.rg c.c)]) fun hv => ?_)
    obtain ⟨hab, hc⟩ := hV.and_ _ _ hv
    obtain ⟨ha, hb⟩ := hV.and_ _ _ hab
    rw [vw_val (h.rg c.a) ha, vw_val (h.rg c.b) hb, vw_val (h.rg c.c) hc]
  rw [if_neg h18, if_neg h18]
  by_cases h19 : c.op = 19
  · rw [if_pos h19, if_pos h19]
    left
    obtain ⟨e1, e2⟩ := RelV.clr hV h c.a
    rw [← e1]
    by_cases hc : VS.clr al (s.rg c.a) = true
    · rw [if_pos hc, if_pos hc, e2 hc]
      split
      · exact h.goes _
      · exact h
    · rw [if_neg hc, if_neg hc]; exact h.fail _
  rw [if_neg h19, if_neg h19]
  by_cases h20 : c.op = 20
  · rw [if_pos h20, if_pos h20]; exact .inl (h.goes _)
  rw [if_neg h20, if_neg h20]
  by_cases h21 : c.op = 21
  · rw [if_pos h21, if_pos h21]
    exact .inl (h.setR _ (vw_mk rfl (hmv h21)))
  rw [if_neg h21, if_neg h21]
  by_cases h22 : c.op = 22
  · rw [if_pos h22, if_pos h22]
    obtain ⟨p, hp32, rfl⟩ := hrev h22
    split
    · rename_i hpl
      obtain ⟨i, hi⟩ : ∃ i, i = (s.place al c).2 := ⟨_, rfl⟩
      rw [← hi]
      obtain ⟨m, hmm⟩ : ∃ m, m = c.m &&& al := ⟨_, rfl⟩
      rw [← hmm]
      have hml : m < 4294967296 := by rw [hmm]; exact Nat.lt_of_le_of_lt Nat.and_le_left hm
      have hcl := h.cl i
      have hlab := vw_lab hcl
      have hq : (s.cl i).2 < 4294967296 := by
        unfold VS.cl
        by_cases hi : i < s.L.length
        · rw [show s.L.getD i (0, 0) = s.L[i] by simp [List.getD, hi]]
          exact (okC_get hok hi).2
        · rw [show s.L.getD i (0, 0) = (0, 0) by simp [List.getD, hi]]
          decide
      unfold VS.reveal
      rw [← hlab]
      by_cases hf : lessN m (s.cl i).2 = 0
      · left
        rw [if_pos hf, if_pos hf]
        have hor := lessN_or hml hq hf
        rw [hor]
        exact { h.put i (r := ((s.cl i).1, (s.cl i).2)) (q := ((z.cl i).1, (s.cl i).2)) (vw_mk rfl fun hv => vw_val hcl hv) with }
      · rw [if_neg hf, if_neg hf]
        by_cases hval : (lessN m (s.cl i).2).testBit p = true → (s.cl i).1 = (z.cl i).1
        · left
          refine { h.put i (r := ((s.cl i).1, (s.cl i).2 ||| m)) (q := ((z.cl i).1, (s.cl i).2 ||| m)) (vw_mk rfl fun hv => ?_) with sh := ?_ }
          · by_cases hq2 : (s.cl i).2.testBit p = true
            · exact vw_val hcl hq2
            · apply hval
              rw [lessN_bit m hq p hp32]
              rw [Nat.testBit_or] at hv
              simp_all
          · rw [List.map_append, List.map_append, h.sh]
            congr 1
            simp only [List.map_cons, List.map_nil, vs3]
            by_cases hb : (lessN m (s.cl i).2).testBit p = true
            · rw [hval hb]
            · rw [if_neg hb, if_neg hb]
        · right
          simp only [Classical.not_imp] at hval
          have hlen : s.sh.length = z.sh.length := by have := congrArg List.length h.sh; simpa using this
          refine ⟨s.sh.length, (i, lessN m (s.cl i).2, (s.cl i).1), (i, lessN m (s.cl i).2, (z.cl i).1), ?_, ?_, rfl, rfl, hval.1, hval.2, ?_⟩
          · simp
          · simp [hlen]
          · simp only [List.take_left]
            rw [hlen, List.take_left]
            exact h.sh
    · exact .inl (h.fail _)
  rw [if_neg h22, if_neg h22]
  by_cases h23 : c.op = 23
  · rw [if_pos h23, if_pos h23]
    left
    exact (h.setR _ (vw_mk rfl fun hv => by rw [hV.zero] at hv; cases hv)).dice _ _
  rw [if_neg h23, if_neg h23]
  by_cases h24 : c.op = 24
  · rw [if_pos h24, if_pos h24]
    left
    unfold shufV
    refine (h.dice _ _).puts hV.zero _ ?_
    rw [shufN_length, shufN_length]
    simp [h.len]
  rw [if_neg h24, if_neg h24]
  left
  refine h.setR _ (vw_mk (by rw [vw_lab (h.rg c.b), vw_lab (h.rg c.c)]) fun hv => ?_)
  obtain ⟨hb, hc⟩ := hV.and_ _ _ hv
  rw [vw_val (h.rg c.b) hb, vw_val (h.rg c.c) hc]
end Go.Proofs.YtnbbglhpjpebhaaDoor
