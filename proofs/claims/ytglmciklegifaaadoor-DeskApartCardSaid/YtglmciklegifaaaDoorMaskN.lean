/- Masks in plain numbers: who is in one, what is left of it, in words. No condition beyond those said. -/
import Derived.Test.YtglmciklegifaaaDoorRound
import Derived.Lib.Join
import Derived.Lib.ItoaNum
namespace Go.Proofs.YtglmciklegifaaaDoor

/-- The mask of one observer; of one that no mask has: none. -/
def aloneN (o : Int) : Nat := if 0 ≤ o ∧ o < 32 then 2 ^ o.toNat else 0
theorem aloneN_lt (o : Int) : aloneN o < 4294967296 := by
  unfold aloneN
  split
  · have : (2 : Nat) ^ o.toNat < 2 ^ 32 := Nat.pow_lt_pow_right (by omega) (by omega)
    omega
  · omega
theorem aloneN_nat {k : Nat} (h : k < 32) : aloneN (k : Int) = 2 ^ k := by
  unfold aloneN
  rw [if_pos (by omega)]
  simp
theorem aloneN_bit (o : Int) (i : Nat) (hi : i < 32) : (aloneN o).testBit i = decide (o = (i : Int)) := by
  unfold aloneN
  split
  · rw [Nat.testBit_two_pow, decide_eq_decide]; omega
  · rw [Nat.zero_testBit]; symm; simp; omega
/-- It without those of n. -/
def lessN (m n : Nat) : Nat := m &&& (4294967295 - n)
theorem lessN_lt {m : Nat} (n : Nat) (h : m < 4294967296) : lessN m n < 4294967296 := Nat.lt_of_le_of_lt Nat.and_le_left h
theorem lessN_bit {n : Nat} (m : Nat) (hn : n < 4294967296) (i : Nat) (hi : i < 32) : (lessN m n).testBit i = (m.testBit i && !n.testBit i) := by
  unfold lessN
  rw [Nat.testBit_and, not_testBit hn]
  simp [hi]
/-- With these. -/
def withN (m : Nat) (l : List Int) : Nat := l.foldl (fun m o => m ||| aloneN o) m
theorem withN_nil (m : Nat) : withN m [] = m := rfl
theorem withN_snoc (m : Nat) (l : List Int) (o : Int) : withN m (l ++ [o]) = withN m l ||| aloneN o := by simp [withN]
theorem withN_lt {m : Nat} (h : m < 4294967296) (l : List Int) : withN m l < 4294967296 := by
  induction l generalizing m with
  | nil => exact h
  | cons o l ih => exact ih (Nat.or_lt_two_pow (n := 32) h (aloneN_lt o))
theorem withN_bit (m : Nat) (l : List Int) (i : Nat) (hi : i < 32) : (withN m l).testBit i = (m.testBit i || decide ((i : Int) ∈ l)) := by
  induction l generalizing m with
  | nil => simp [withN]
  | cons o l ih =>
    have := ih (m ||| aloneN o)
    simp only [withN, List.foldl_cons] at this ⊢
    rw [this, Nat.testBit_or, aloneN_bit o i hi]
    by_cases h : o = (i : Int)
    · simp [h]
    · simp [h, Ne.symm h]
theorem ext32 {a b : Nat} (ha : a < 4294967296) (hb : b < 4294967296) (h : ∀ i, i < 32 → a.testBit i = b.testBit i) : a = b := by
  apply Nat.eq_of_testBit_eq
  intro i
  by_cases hi : i < 32
  · exact h i hi
  · rw [Nat.testBit_lt_two_pow (Nat.lt_of_lt_of_le ha (by rw [show (4294967296 : Nat) = 2 ^ 32 from rfl]; exact Nat.pow_le_pow_right (by omega) (by omega))),
      Nat.testBit_lt_two_pow (Nat.lt_of_lt_of_le hb (by rw [show (4294967296 : Nat) = 2 ^ 32 from rfl]; exact Nat.pow_le_pow_right (by omega) (by omega)))]

/-- The observers of a mask, rising. -/
def obs (m : Nat) : List Nat := (List.range 32).filter fun i => m.testBit i
theorem obs_mem {m i : Nat} : i ∈ obs m ↔ i < 32 ∧ m.testBit i = true := by simp [obs]
theorem obs_length (m : Nat) : (obs m).length ≤ 32 := by
  have := List.length_filter_le (fun i => m.testBit i) (List.range 32)
  simpa [obs] using this
theorem obs_zero : obs 0 = [] := by simp [obs]
theorem filter_first {p q : Nat → Bool} {k : Nat} (hk : p k = true) (hlow : ∀ i, i < k → p i = false) (hq : ∀ i, q i = (p i && decide (i ≠ k))) : ∀ n, k < n → (List.range n).filter p = k :: (List.range n).filter q := by
  have hnil : ∀ n, n ≤ k → (List.range n).filter p = [] := fun n hn => by
    rw [List.filter_eq_nil_iff]
    intro i hi
    rw [hlow i (by have := List.mem_range.1 hi; omega)]
    simp
  have hnilq : ∀ n, n ≤ k → (List.range n).filter q = [] := fun n hn => by
    rw [List.filter_eq_nil_iff]
    intro i hi
    rw [hq, hlow i (by have := List.mem_range.1 hi; omega)]
    simp
  intro n
  induction n with
  | zero => intro h; omega
  | succ n ih =>
    intro h
    rw [List.range_succ, List.filter_append, List.filter_append]
    by_cases hkn : k < n
    · rw [ih hkn, List.cons_append]
      congr 2
      have : q n = p n := by rw [hq]; simp; intro _; omega
      simp [List.filter, this]
    · obtain rfl : k = n := by omega
      rw [hnil k (Nat.le_refl _), hnilq k (Nat.le_refl _)]
      simp [List.filter, hk, hq]
open Go in
theorem obs_next {m : Nat} (h0 : m ≠ 0) (h : m < 4294967296) : Lib.ctz 32 m < 32 ∧ obs m = Lib.ctz 32 m :: obs (lessN m (2 ^ Lib.ctz 32 m)) := by
  have hk := (Lib.lowest_bit 32 m h0 h).2
  have hc := come_spec (bits := 4294967295 - m) (by omega)
  have he : come (4294967295 - m) = Lib.ctz 32 m := by unfold come; rw [show 4294967295 - (4294967295 - m) = m by omega]
  rw [he] at hc
  obtain ⟨k, hkk⟩ : ∃ k, k = Lib.ctz 32 m := ⟨_, rfl⟩
  rw [← hkk] at hk hc ⊢
  refine ⟨hk, ?_⟩
  have hp : (2 : Nat) ^ k < 4294967296 := by
    have : (2 : Nat) ^ k < 2 ^ 32 := Nat.pow_lt_pow_right (by omega) hk
    omega
  have hb : m.testBit k = true := by
    have := hc.2.2 hk
    rw [not_testBit h] at this
    simpa [hk] using this
  have hl : ∀ i, i < k → m.testBit i = false := fun i hi => by
    have := hc.2.1 i hi
    rw [not_testBit h] at this
    simp at this
    exact this.2
  have hq : (List.range 32).filter (fun i => (lessN m (2 ^ k)).testBit i) = (List.range 32).filter (fun i => m.testBit i && decide (i ≠ k)) := by
    apply List.filter_congr
    intro i hi
    rw [lessN_bit m hp i (List.mem_range.1 hi), Nat.testBit_two_pow]
    congr 1
    by_cases e : i = k
    · subst e; simp
    · simp [e, Ne.symm e]
  unfold obs
  rw [hq]
  exact filter_first hb hl (fun _ => rfl) 32 hk
open Go in
/-- Its observers, with a comma between; none: '-'. -/
def textN (m : Nat) : List UInt8 := if m = 0 then [45] else Lib.join ((obs m).map Lib.decDigits) [44]
end Go.Proofs.YtglmciklegifaaaDoor
