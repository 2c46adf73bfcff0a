/- Deltas in plain words: cells put at places, one by one; of what was touched the new view is made; places that rise. Conditions: those said. -/
import Derived.Test.YtpppjlcfhijdgaaDeltaN
namespace Go.Proofs.Ytpppjlcfhijdgaa
open Go.RowKit

/-- V with the first k cells of cs at the places of ps. -/
def putTo (V : List (Int × Nat)) (ps : List UInt8) (cs : List (Int × Nat)) (k : Nat) : List (Int × Nat) := ((ps.zip cs).take k).foldl (fun V pc => V.set pc.1.toNat pc.2) V
theorem putTo_zero (V : List (Int × Nat)) (ps : List UInt8) (cs : List (Int × Nat)) : putTo V ps cs 0 = V := by simp [putTo]
theorem putTo_succ {V : List (Int × Nat)} {ps : List UInt8} {cs : List (Int × Nat)} {k : Nat} (h1 : k < ps.length) (h2 : k < cs.length) : putTo V ps cs (k + 1) = (putTo V ps cs k).set ps[k].toNat cs[k] := by
  unfold putTo
  rw [List.take_succ_eq_append_getElem (by simp; omega), List.foldl_append]
  simp
@[simp] theorem putTo_length (V : List (Int × Nat)) (ps : List UInt8) (cs : List (Int × Nat)) (k : Nat) : (putTo V ps cs k).length = V.length := by
  unfold putTo
  generalize (ps.zip cs).take k = l
  induction l generalizing V with
  | nil => rfl
  | cons c l ih => rw [List.foldl_cons, ih]; simp
theorem putTo_ok {V : List (Int × Nat)} {cs : List (Int × Nat)} (h : okC V) (hc : okC cs) (ps : List UInt8) (k : Nat) : okC (putTo V ps cs k) := by
  unfold putTo
  have h1 : ∀ x ∈ (ps.zip cs).take k, (-2147483648 ≤ x.2.1 ∧ x.2.1 ≤ 2147483647) ∧ x.2.2 < 4294967296 := fun x hx => hc _ (List.of_mem_zip (List.mem_of_mem_take hx)).2
  generalize (ps.zip cs).take k = l at h1
  induction l generalizing V with
  | nil => exact h
  | cons c l ih =>
    rw [List.foldl_cons]
    exact ih (okC_set h _ (h1 c (by simp))) fun x hx => h1 x (by simp [hx])
theorem fold_set (P : List Nat) (f : Nat → Int × Nat) (V : List (Int × Nat)) (j : Nat) : (P.foldl (fun V i => V.set i (f i)) V)[j]? = if j ∈ P ∧ j < V.length then some (f j) else V[j]? := by
  induction P generalizing V with
  | nil => simp
  | cons i P ih =>
    rw [List.foldl_cons, ih, List.length_set, List.getElem?_set]
    by_cases hi : i = j
    · subst hi
      by_cases hl : i < V.length
      · simp [hl]
      · simp [hl]
    · have : ¬ j = i := fun h => hi h.symm
      simp [hi, this]
theorem fold_byte (P : List Nat) (hP : ∀ i ∈ P, i < 48) (f : Nat → Int × Nat) (V : List (Int × Nat)) : P.foldl (fun V i => V.set (UInt8.ofNat i).toNat (f i)) V = P.foldl (fun V i => V.set i (f i)) V := by
  induction P generalizing V with
  | nil => rfl
  | cons i P ih =>
    have h1 := hP i (by simp)
    rw [List.foldl_cons, List.foldl_cons, ih (fun x hx => hP x (by simp [hx])), show (UInt8.ofNat i).toNat = i by simp [UInt8.toNat_ofNat']; omega]
theorem placesTo_lt {t n i : Nat} (h : i ∈ placesTo t n) : i < n := (placesTo_mem.1 h).1
/-- Of the view ahead of a step, and what was touched of that behind it, the latter is made. -/
theorem put_touched {V W : List (Int × Nat)} {t n k : Nat} (hV : V.length = n) (hW : W.length = n) (hn : n ≤ 48) (hk : (placesTo t n).length ≤ k) (h : ∀ i (h1 : i < V.length) (h2 : i < W.length), t.testBit i = false → V[i] = W[i]) : putTo V (placesB t n) (cellsTo W t n) k = W := by
  unfold putTo placesB cellsTo
  rw [List.zip_map', List.take_of_length_le (by simpa using hk), List.foldl_map, fold_byte _ (fun i hi => by have := placesTo_lt hi; omega)]
  apply List.ext_getElem?
  intro j
  rw [fold_set]
  by_cases hj : j < n
  · by_cases ht : t.testBit j = true
    · rw [if_pos ⟨placesTo_mem.2 ⟨hj, ht⟩, by omega⟩]
      simp [List.getD, hW, hj]
    · rw [if_neg (fun hh => ht (placesTo_mem.1 hh.1).2), List.getElem?_eq_getElem (by omega), List.getElem?_eq_getElem (by omega), h j (by omega) (by omega) (by simpa using ht)]
  · rw [if_neg (by omega), List.getElem?_eq_none (by omega), List.getElem?_eq_none (by omega)]
theorem placesTo_all {n : Nat} (h : n ≤ 48) : placesTo 281474976710655 n = List.range n := by
  unfold placesTo
  rw [List.filter_eq_self]
  intro i hi
  have h1 := List.mem_range.1 hi
  rw [show (281474976710655 : Nat) = 2 ^ 48 - 1 by decide, Nat.testBit_two_pow_sub_one]
  simp; omega
theorem cellsTo_all {W : List (Int × Nat)} (h : W.length ≤ 48) : cellsTo W 281474976710655 W.length = W := by
  unfold cellsTo
  rw [placesTo_all h]
  apply List.ext_getElem (by simp)
  intro i h1 h2
  simp [List.getD, h2]
/-- Is the place at i one of a board's, and behind the one ahead of it? -/
def riseAt (ps : List UInt8) (i : Nat) : Bool := decide ((ps.getD i 0).toNat < 48 ∧ (0 < i → (ps.getD (i - 1) 0).toNat < (ps.getD i 0).toNat))
def risesB (ps : List UInt8) : Bool := (List.range ps.length).all (riseAt ps)
theorem risesB_at {ps : List UInt8} (h : risesB ps = true) {i : Nat} (hi : i < ps.length) : ps[i].toNat < 48 ∧ (0 < i → (ps.getD (i - 1) 0).toNat < ps[i].toNat) := by
  have := List.all_eq_true.1 h i (List.mem_range.2 hi)
  simp only [riseAt, decide_eq_true_eq] at this
  rw [show ps.getD i 0 = ps[i] by simp [List.getD, hi]] at this
  exact this
theorem placesTo_getElem_lt {t n i j : Nat} (hij : i < j) (hj : j < (placesTo t n).length) : (placesTo t n)[i]'(by omega) < (placesTo t n)[j] := by
  have h : (placesTo t n).Pairwise (· < ·) := List.Pairwise.sublist List.filter_sublist (List.pairwise_lt_range)
  exact (List.pairwise_iff_getElem.1 h) i j (by omega) hj hij
theorem placesB_rises {t n : Nat} (hn : n ≤ 48) : risesB (placesB t n) = true := by
  refine List.all_eq_true.2 fun i hi => ?_
  have hi := List.mem_range.1 hi
  have hl : i < (placesTo t n).length := by simpa using hi
  have e : ∀ k (hk : k < (placesTo t n).length), ((placesB t n).getD k 0).toNat = (placesTo t n)[k] := fun k hk => by
    have h1 := placesTo_lt (List.getElem_mem hk)
    simp only [placesB, List.getD, List.getElem?_map, List.getElem?_eq_getElem hk, Option.map_some, Option.getD_some]
    simp [UInt8.toNat_ofNat']; omega
  have h1 := placesTo_lt (List.getElem_mem hl)
  simp only [riseAt, decide_eq_true_eq]
  rw [e i hl]
  refine ⟨by omega, fun h0 => ?_⟩
  rw [e (i - 1) (by omega)]
  exact placesTo_getElem_lt (by omega) hl
end Go.Proofs.Ytpppjlcfhijdgaa
