/- A board as a list of cells, in plain words: what Put, Show and View make of it, and when two are the same. Conditions: those said. -/
import Derived.Test.YtpppjlcfhijdgaaBoardN
import Derived.Test.YtpppjlcfhijdgaaMaskN
import Derived.Test.YtpppjlcfhijdgaaBase
namespace Go.Proofs.Ytpppjlcfhijdgaa
open Go.RowKit

def bdF (L : List (Int × Nat)) (i : Nat) : Int := (L.getD i (0, 0)).1
def bdG (L : List (Int × Nat)) (i : Nat) : Nat := (L.getD i (0, 0)).2
/-- The board of these cells. -/
def bdL (L : List (Int × Nat)) : Array Value := bdA (bdF L) (bdG L) L.length
theorem bdL_nil : bdL [] = bdA (fun _ => 0) (fun _ => 0) 0 := rfl
theorem bdF_in {L : List (Int × Nat)} {i : Nat} (h : i < L.length) : bdF L i = L[i].1 := by simp [bdF, List.getD, h]
theorem bdG_in {L : List (Int × Nat)} {i : Nat} (h : i < L.length) : bdG L i = L[i].2 := by simp [bdG, List.getD, h]
theorem bdF_out {L : List (Int × Nat)} {i : Nat} (h : L.length ≤ i) : bdF L i = 0 := by simp [bdF, List.getD, List.getElem?_eq_none h]
theorem bdG_out {L : List (Int × Nat)} {i : Nat} (h : L.length ≤ i) : bdG L i = 0 := by simp [bdG, List.getD, List.getElem?_eq_none h]
theorem bdF_set {L : List (Int × Nat)} {i : Nat} (c : Int × Nat) (hi : i < L.length) (j : Nat) : (if j = i then c.1 else bdF L j) = bdF (L.set i c) j := by
  by_cases e : j = i
  · subst e; rw [if_pos rfl, bdF_in (by simpa using hi)]; simp
  · rw [if_neg e]; simp [bdF, List.getD, Ne.symm e]
theorem bdG_set {L : List (Int × Nat)} {i : Nat} (c : Int × Nat) (hi : i < L.length) (j : Nat) : (if j = i then c.2 else bdG L j) = bdG (L.set i c) j := by
  by_cases e : j = i
  · subst e; rw [if_pos rfl, bdG_in (by simpa using hi)]; simp
  · rw [if_neg e]; simp [bdG, List.getD, Ne.symm e]
theorem bdL_set {L : List (Int × Nat)} {i : Nat} (c : Int × Nat) (hi : i < L.length) : bdA (fun j => if j = i then c.1 else bdF L j) (fun j => if j = i then c.2 else bdG L j) L.length = bdL (L.set i c) := by
  unfold bdL
  rw [List.length_set]
  exact bdA_congr (fun j _ => bdF_set c hi j) (fun j _ => bdG_set c hi j)
theorem bdL_size (L : List (Int × Nat)) : (bdL L).size = 97 := bdA_size _ _ _
theorem int_inj {k : IntKind} {a b : Int} (h : Value.int k a = Value.int k b) : a = b := by injection h
theorem bdA_inj {f f' : Nat → Int} {g g' : Nat → Nat} {n n' : Nat} (h : bdA f g n = bdA f' g' n') : n = n' ∧ ∀ i, i < 48 → f i = f' i ∧ g i = g' i := by
  refine ⟨?_, fun i hi => ⟨?_, ?_⟩⟩
  · have h1 := bdA_len f g n
    rw [h, bdA_len] at h1
    have := int_inj (Option.some.inj h1)
    omega
  · have h1 := bdA_val (f := f) (g := g) (n := n) hi
    rw [h, bdA_val hi] at h1
    exact (int_inj (Option.some.inj h1)).symm
  · have h1 := bdA_lab (f := f) (g := g) (n := n) hi
    rw [h, bdA_lab hi] at h1
    have := int_inj (Option.some.inj h1)
    omega
theorem bdL_inj {L M : List (Int × Nat)} (hL : L.length ≤ 48) : bdL L = bdL M ↔ L = M := by
  refine ⟨fun h => ?_, fun h => by rw [h]⟩
  obtain ⟨h1, h2⟩ := bdA_inj h
  refine List.ext_getElem h1 fun i hi hj => ?_
  obtain ⟨h3, h4⟩ := h2 i (by omega)
  rw [bdF_in hi, bdF_in hj] at h3
  rw [bdG_in hi, bdG_in hj] at h4
  exact Prod.ext h3 h4
/-- Cells as values. -/
def cv (L : List (Int × Nat)) : List Value := L.flatMap fun c => [Value.int .i32 c.1, Value.int .u32 ((c.2 : Nat) : Int)]
@[simp] theorem cv_nil : cv [] = [] := rfl
theorem cv_cons (c : Int × Nat) (L : List (Int × Nat)) : cv (c :: L) = Value.int .i32 c.1 :: Value.int .u32 ((c.2 : Nat) : Int) :: cv L := rfl
@[simp] theorem cv_length (L : List (Int × Nat)) : (cv L).length = L.length * 2 := by
  induction L with
  | nil => rfl
  | cons c L ih => rw [cv_cons, List.length_cons, List.length_cons, ih, List.length_cons]; omega
theorem cv_append (L M : List (Int × Nat)) : cv (L ++ M) = cv L ++ cv M := by simp [cv]
theorem cv_one (L : List (Int × Nat)) : ∀ u ∈ cv L, u.oneCell' = true := by
  intro u hu
  simp only [cv, List.mem_flatMap] at hu
  obtain ⟨c, _, hc⟩ := hu
  simp only [List.mem_cons, List.not_mem_nil, or_false] at hc
  rcases hc with rfl | rfl <;> rfl
theorem cv_val {L : List (Int × Nat)} {i : Nat} (h : i < L.length) : (cv L)[i * 2]? = some (.int .i32 L[i].1) := by
  induction L generalizing i with
  | nil => simp at h
  | cons c L ih =>
    rw [cv_cons]
    cases i with
    | zero => rfl
    | succ i =>
      rw [show (i + 1) * 2 = i * 2 + 1 + 1 by omega, List.getElem?_cons_succ, List.getElem?_cons_succ, ih (by simpa using h)]
      rfl
theorem cv_lab {L : List (Int × Nat)} {i : Nat} (h : i < L.length) : (cv L)[i * 2 + 1]? = some (.int .u32 ((L[i].2 : Nat) : Int)) := by
  induction L generalizing i with
  | nil => simp at h
  | cons c L ih =>
    rw [cv_cons]
    cases i with
    | zero => rfl
    | succ i =>
      rw [show (i + 1) * 2 + 1 = i * 2 + 1 + 1 + 1 by omega, List.getElem?_cons_succ, List.getElem?_cons_succ, ih (by simpa using h)]
      rfl
theorem cv_take (L : List (Int × Nat)) (k : Nat) : (cv L).take (k * 2) = cv (L.take k) := by
  induction k generalizing L with
  | zero => rfl
  | succ k ih =>
    cases L with
    | nil => rfl
    | cons c L => rw [List.take_succ_cons, cv_cons, cv_cons, show (k + 1) * 2 = k * 2 + 1 + 1 by omega, List.take_succ_cons, List.take_succ_cons, ih]
theorem cv_inj {L M : List (Int × Nat)} (h : cv L = cv M) : L = M := by
  induction L generalizing M with
  | nil => cases M with
    | nil => rfl
    | cons c M => cases h
  | cons c L ih => cases M with
    | nil => cases h
    | cons d M =>
      rw [cv_cons, cv_cons] at h
      injection h with h1 h
      injection h with h2 h
      have h1 := int_inj h1
      have h2 := int_inj h2
      rw [ih h, Prod.ext (x := c) (y := d) h1 (by omega)]
/-- The cells of a board, as they lie. -/
theorem bdL_cells {L : List (Int × Nat)} (hL : L.length ≤ 48) : (bdL L).toList.take (L.length * 2) = cv L := by
  apply List.ext_getElem?
  intro j
  rw [List.getElem?_take]
  by_cases hj : j < L.length * 2
  · rw [if_pos hj]
    have e : (bdL L).toList[j]? = (bdL L)[j]? := by simp
    rw [e]
    unfold bdL
    rcases Nat.mod_two_eq_zero_or_one j with h | h
    · obtain ⟨i, rfl⟩ : ∃ i, j = i * 2 := ⟨j / 2, by omega⟩
      rw [bdA_val (by omega), cv_val (by omega), bdF_in (by omega)]
    · obtain ⟨i, rfl⟩ : ∃ i, j = i * 2 + 1 := ⟨j / 2, by omega⟩
      rw [bdA_lab (by omega), cv_lab (by omega), bdG_in (by omega)]
  · rw [if_neg hj, List.getElem?_eq_none (by simp; omega)]
/-- The cells fit. -/
def okC (L : List (Int × Nat)) : Prop := ∀ c ∈ L, (-2147483648 ≤ c.1 ∧ c.1 ≤ 2147483647) ∧ c.2 < 4294967296
theorem okC_get {L : List (Int × Nat)} (h : okC L) {i : Nat} (hi : i < L.length) : (-2147483648 ≤ L[i].1 ∧ L[i].1 ≤ 2147483647) ∧ L[i].2 < 4294967296 := h _ (List.getElem_mem hi)
theorem okC_take {L : List (Int × Nat)} (h : okC L) (k : Nat) : okC (L.take k) := fun c hc => h c (List.mem_of_mem_take hc)
theorem okC_set {L : List (Int × Nat)} (h : okC L) (i : Nat) {c : Int × Nat} (hc : (-2147483648 ≤ c.1 ∧ c.1 ≤ 2147483647) ∧ c.2 < 4294967296) : okC (L.set i c) := fun d hd => by
  rcases List.mem_or_eq_of_mem_set hd with h1 | rfl
  · exact h d h1
  · exact hc
/-- May o see a cell of this label? -/
def sees (m : Nat) (o : Int) : Bool := decide (m &&& aloneN o ≠ 0)
/-- A cell, as o sees it. -/
def seeC (o : Int) (c : Int × Nat) : Int × Nat := if sees c.2 o = true then c else (0, c.2)
def viewL (o : Int) (L : List (Int × Nat)) : List (Int × Nat) := L.map (seeC o)
@[simp] theorem viewL_length (o : Int) (L : List (Int × Nat)) : (viewL o L).length = L.length := by simp [viewL]
theorem seeC_lab (o : Int) (c : Int × Nat) : (seeC o c).2 = c.2 := by unfold seeC; split <;> rfl
theorem okC_view {L : List (Int × Nat)} (h : okC L) (o : Int) : okC (viewL o L) := fun d hd => by
  obtain ⟨c, hc, rfl⟩ := List.mem_map.1 hd
  have := h c hc
  unfold seeC
  split
  · exact this
  · exact ⟨by simp, this.2⟩
end Go.Proofs.Ytpppjlcfhijdgaa
