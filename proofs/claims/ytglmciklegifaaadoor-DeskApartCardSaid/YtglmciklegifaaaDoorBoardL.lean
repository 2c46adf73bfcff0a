/- A board as a list of cells, in plain words: what Put, Show and View make of it, and when two are the same. Conditions: those said. -/
import Derived.Test.YtglmciklegifaaaDoorRows
import Derived.Test.YtglmciklegifaaaDoorBase
import Derived.Test.YtglmciklegifaaaDoorMaskN
namespace Go.Proofs.YtglmciklegifaaaDoor
open Go.RowKit

theorem int_inj {k : IntKind} {a b : Int} (h : Value.int k a = Value.int k b) : a = b := by injection h
/-- Cells as values. -/
def cv (L : List (Int × Nat)) : List Value := L.flatMap fun c => [Value.int .i32 c.1, Value.int .u32 ((c.2 : Nat) : Int)]
@[simp] theorem cv_nil : cv [] = [] := rfl
theorem cv_cons (c : Int × Nat) (L : List (Int × Nat)) : cv (c :: L) = Value.int .i32 c.1 :: Value.int .u32 ((c.2 : Nat) : Int) :: cv L := rfl
@[simp] theorem cv_length (L : List (Int × Nat)) : (cv L).length = L.length * 2 := by
  induction L with
  | nil => rfl
  | cons c L ih => rw [cv_cons, List.length_cons, List.length_cons, ih, List.length_cons]; omega
theorem cv_append (L M : List (Int × Nat)) : cv (L ++ M) = cv L ++ cv M := by simp [cv]
theorem cv_one (L : List (Int × Nat)) : ∀ u ∈ cv L, u.oneCell' = true := by
  intro u hu
  simp only [cv, List.mem_flatMap] at hu
  obtain ⟨c, _, hc⟩ := hu
  simp only [List.mem_cons, List.not_mem_nil, or_false] at hc
  rcases hc with rfl | rfl <;> rfl
theorem cv_val {L : List (Int × Nat)} {i : Nat} (h : i < L.length) : (cv L)[i * 2]? = some (.int .i32 L[i].1) := by
  induction L generalizing i with
  | nil => simp at h
  | cons c L ih =>
    rw [cv_cons]
    cases i with
    | zero => rfl
    | succ i =>
      rw [show (i + 1) * 2 = i * 2 + 1 + 1 by omega, List.getElem?_cons_succ, List.getElem?_cons_succ, ih (by simpa using h)]
      rfl
theorem cv_lab {L : List (Int × Nat)} {i : Nat} (h : i < L.length) : (cv L)[i * 2 + 1]? = some (.int .u32 ((L[i].2 : Nat) : Int)) := by
  induction L generalizing i with
  | nil => simp at h
  | cons c L ih =>
    rw [cv_cons]
    cases i with
    | zero => rfl
    | succ i =>
      rw [show (i + 1) * 2 + 1 = i * 2 + 1 + 1 + 1 by omega, List.getElem?_cons_succ, List.getElem?_cons_succ, ih (by simpa using h)]
      rfl
theorem cv_take (L : List (Int × Nat)) (k : Nat) : (cv L).take (k * 2) = cv (L.take k) := by
  induction k generalizing L with
  | zero => rfl
  | succ k ih =>
    cases L with
    | nil => rfl
    | cons c L => rw [List.take_succ_cons, cv_cons, cv_cons, show (k + 1) * 2 = k * 2 + 1 + 1 by omega, List.take_succ_cons, List.take_succ_cons, ih]
theorem cv_inj {L M : List (Int × Nat)} (h : cv L = cv M) : L = M := by
  induction L generalizing M with
  | nil => cases M with
    | nil => rfl
    | cons c M => cases h
  | cons c L ih => cases M with
    | nil => cases h
    | cons d M =>
      rw [cv_cons, cv_cons] at h
      injection h with h1 h
      injection h with h2 h
      have h1 := int_inj h1
      have h2 := int_inj h2
      rw [ih h, Prod.ext (x := c) (y := d) h1 (by omega)]
/-- The cells fit. -/
def okC (L : List (Int × Nat)) : Prop := ∀ c ∈ L, (-2147483648 ≤ c.1 ∧ c.1 ≤ 2147483647) ∧ c.2 < 4294967296
theorem okC_get {L : List (Int × Nat)} (h : okC L) {i : Nat} (hi : i < L.length) : (-2147483648 ≤ L[i].1 ∧ L[i].1 ≤ 2147483647) ∧ L[i].2 < 4294967296 := h _ (List.getElem_mem hi)
theorem okC_take {L : List (Int × Nat)} (h : okC L) (k : Nat) : okC (L.take k) := fun c hc => h c (List.mem_of_mem_take hc)
end Go.Proofs.YtglmciklegifaaaDoor
