/- Dice in plain numbers: what comes next, what is below, what a shuffle does. No condition beyond those said. -/
import Derived.Test.YthjaodacakohkaaBase
namespace Go.Proofs.Ythjaodacakohkaa

/-- The stride, and the mixing's two factors. -/
def strideN : Nat := 11400714819323198485
def mulA : Nat := 13787848793156543929
def mulB : Nat := 10723151780598845931
def two64 : Nat := 18446744073709551616
/-- The state behind one number. -/
def goN (s : Nat) : Nat := (s + strideN) % two64
def mixA (z : Nat) : Nat := (z ^^^ z / 1073741824) * mulA % two64
def mixB (z : Nat) : Nat := (z ^^^ z / 134217728) * mulB % two64
def mixC (z : Nat) : Nat := z ^^^ z / 2147483648
def mixN (z : Nat) : Nat := mixC (mixB (mixA z))
/-- The number that comes next. -/
def nextN (s : Nat) : Nat := mixN (goN s) / 4294967296
/-- A number below n. -/
def belowN (s n : Nat) : Nat := nextN s * n / 4294967296
theorem goN_lt (s : Nat) : goN s < 18446744073709551616 := Nat.mod_lt _ (by unfold two64; omega)
theorem mixA_lt (s : Nat) : mixA s < 18446744073709551616 := Nat.mod_lt _ (by unfold two64; omega)
theorem mixB_lt (s : Nat) : mixB s < 18446744073709551616 := Nat.mod_lt _ (by unfold two64; omega)
theorem xorhalf_lt {z k : Nat} (h : z < 18446744073709551616) : z ^^^ z / k < 18446744073709551616 :=
  Nat.xor_lt_two_pow (n := 64) h (Nat.lt_of_le_of_lt (Nat.div_le_self _ _) h)
theorem mixN_lt (s : Nat) : mixN s < 18446744073709551616 := xorhalf_lt (mixB_lt _)
theorem nextN_lt (s : Nat) : nextN s < 4294967296 := by
  unfold nextN
  have := mixN_lt (goN s)
  omega
theorem belowN_lt {s n : Nat} (h : 0 < n) : belowN s n < n := by
  unfold belowN
  rw [Nat.div_lt_iff_lt_mul (by omega)]
  have h1 := Nat.mul_lt_mul_of_pos_right (nextN_lt s) h
  rwa [Nat.mul_comm n]
theorem belowN_le (s n : Nat) : belowN s n ≤ n := by
  rcases Nat.eq_zero_or_pos n with h | h
  · subst h; simp [belowN]
  · exact Nat.le_of_lt (belowN_lt h)
theorem belowN_mono (s : Nat) {n m : Nat} (h : n ≤ m) : belowN s n ≤ belowN s m :=
  Nat.div_le_div_right (Nat.mul_le_mul_left _ h)
theorem belowN_one (s : Nat) : belowN s 1 = 0 := by have := belowN_lt (s := s) (n := 1) (by omega); omega
theorem prod_lt {s n : Nat} (h : n < 4294967296) : nextN s * n < 18446744073709551616 := by
  have h1 := nextN_lt s
  have h2 : nextN s * n ≤ 4294967295 * 4294967295 := Nat.mul_le_mul (by omega) (by omega)
  omega
/-- The state behind k numbers. -/
def goesN (s k : Nat) : Nat := (s + k * strideN) % two64
theorem goesN_succ (s k : Nat) : goN (goesN s k) = goesN s (k + 1) := by
  unfold goN goesN two64 strideN
  omega
theorem goesN_zero {s : Nat} (h : s < 18446744073709551616) : goesN s 0 = s := by
  unfold goesN two64
  omega
theorem goesN_add (s a b : Nat) : goesN (goesN s a) b = goesN s (a + b) := by
  unfold goesN two64 strideN
  omega
/-- Two places of a list change. -/
def swapL {α : Type} (l : List α) (i j : Nat) : List α :=
  match l[i]?, l[j]? with
  | some a, some b => (l.set i b).set j a
  | _, _ => l
@[simp] theorem swapL_length {α : Type} (l : List α) (i j : Nat) : (swapL l i j).length = l.length := by
  unfold swapL
  split <;> simp
theorem swapL_map {α β : Type} (f : α → β) (l : List α) (i j : Nat) : swapL (l.map f) i j = (swapL l i j).map f := by
  unfold swapL
  rw [List.getElem?_map, List.getElem?_map]
  rcases l[i]? with _ | a <;> rcases l[j]? with _ | b <;> simp [List.map_set]
theorem swapL_perm {α : Type} (l : List α) (i j : Nat) : (swapL l i j).Perm l := by
  unfold swapL
  split
  · rename_i a b hi hj
    obtain ⟨h1, rfl⟩ := List.getElem?_eq_some_iff.1 hi
    obtain ⟨h2, rfl⟩ := List.getElem?_eq_some_iff.1 hj
    exact List.set_set_perm h1 h2
  · exact .refl _
/-- A list, shuffled from the place k down to 1: the list, and the state then. -/
def shufN {α : Type} : Nat → Nat → List α → List α × Nat
  | 0, s, l => (l, s)
  | k + 1, s, l => shufN k (goN s) (swapL l (k + 1) (belowN s (k + 2)))
theorem shufN_map {α β : Type} (f : α → β) (k s : Nat) (l : List α) : shufN k s (l.map f) = ((shufN k s l).1.map f, (shufN k s l).2) := by
  induction k generalizing s l with
  | zero => rfl
  | succ k ih => unfold shufN; rw [swapL_map, ih]
theorem shufN_perm {α : Type} (k s : Nat) (l : List α) : (shufN k s l).1.Perm l := by
  induction k generalizing s l with
  | zero => exact .refl _
  | succ k ih => unfold shufN; exact (ih _ _).trans (swapL_perm _ _ _)
theorem shufN_length {α : Type} (k s : Nat) (l : List α) : (shufN k s l).1.length = l.length := (shufN_perm k s l).length_eq
theorem shufN_state {α : Type} (k s : Nat) (l : List α) (h : s < 18446744073709551616) : (shufN k s l).2 = goesN s k := by
  induction k generalizing s l with
  | zero => exact (goesN_zero h).symm
  | succ k ih =>
    unfold shufN
    rw [ih _ _ (goN_lt _)]
    have : goN s = goesN s 1 := by unfold goN goesN; rw [Nat.one_mul]
    rw [this, goesN_add, Nat.add_comm]
end Go.Proofs.Ythjaodacakohkaa
