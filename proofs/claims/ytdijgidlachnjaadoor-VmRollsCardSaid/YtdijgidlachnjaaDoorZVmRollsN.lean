/- Rolling and shuffling, in plain words: what comes of two short programs. Conditions: those said. -/
import Derived.Test.YtdijgidlachnjaaDoorZVmBase08
namespace Go.Proofs.YtdijgidlachnjaaDoor
open Go.RowKit

def PR1 (k : Nat) : VP := ⟨[⟨24, 0, 0, k, 0, 0⟩], [0], 1, 3⟩
def PR3 (k : Nat) (s : Int) : VP := ⟨[⟨24, 0, 0, k, 0, 0⟩, ⟨23, 1, 0, 0, s, 0⟩, ⟨3, 1, 0, 0, (k : Int) - 1, 0⟩], [0], 1, 3⟩
theorem fits24 {k n : Nat} (h1 : 1 ≤ k) (h2 : k ≤ n) (h3 : n ≤ 48) (pl q : Int) : fitsB ⟨24, 0, 0, k, 0, 0⟩ n pl q = true := by
  simp only [fitsB, regB, holdsB, rowB, belowB, show uB 24 3 = true by decide, show numAt 24 = 3 by decide]
  simp
  omega
theorem fits23 {s : Int} (h : 1 ≤ s) (n : Nat) (pl q : Int) : fitsB ⟨23, 1, 0, 0, s, 0⟩ n pl q = true := by
  simp only [fitsB, regB, holdsB, rowB, belowB, show uB 23 3 = false by decide, show uB 23 0 = true by decide, show numAt 23 = 2 by decide]
  simp
  omega
theorem fits3 {k n : Nat} (h1 : 1 ≤ k) (h2 : k ≤ n) (pl q : Int) : fitsB ⟨3, 1, 0, 0, (k : Int) - 1, 0⟩ n pl q = true := by
  simp only [fitsB, regB, holdsB, rowB, belowB, show uB 3 3 = false by decide, show uB 3 0 = true by decide, show numAt 3 = 3 by decide]
  simp
  omega
theorem puts_L : ∀ (l : List Int) (s : VS) (i : Nat), i + l.length ≤ s.L.length → (s.puts i l).L = s.L.take i ++ l.map (fun x => (x, 0)) ++ s.L.drop (i + l.length)
  | [], s, i, _ => by simp [VS.puts]
  | x :: l, s, i, h => by
    simp only [List.length_cons] at h
    rw [VS.puts, puts_L l (s.put i (x, 0)) (i + 1) (by simp [VS.put]; omega)]
    simp only [VS.put, List.map_cons, List.length_cons]
    rw [List.take_succ_eq_append_getElem (by rw [List.length_set]; omega), List.take_set, List.getElem_set_self, List.set_eq_of_length_le (by simp; omega), List.drop_set, if_pos (by omega), show i + 1 + l.length = i + (l.length + 1) by omega]
    simp
theorem puts_R (l : List Int) : ∀ (s : VS) (i : Nat), (s.puts i l).R = s.R ∧ (s.puts i l).d = s.d := by
  induction l with
  | nil => intro s i; exact ⟨rfl, rfl⟩
  | cons x l ih => intro s i; rw [VS.puts]; exact ih _ _
/-- The first values, shuffled. -/
def shv (k d : Nat) (L : List (Int × Nat)) : List Int := (shufN (k - 1) d ((L.take k).map Prod.fst)).1
theorem shv_len {k d : Nat} {L : List (Int × Nat)} (h : k ≤ L.length) : (shv k d L).length = k := by
  unfold shv
  rw [shufN_length, List.length_map, List.length_take]
  omega
def S1 (P : VP) (k d : Nat) (L : List (Int × Nat)) : VS := shufV { startV P L d with nx := 1, u := 1 } 0 k
section
variable {k d : Nat} {L : List (Int × Nat)} {P : VP}
theorem S1_L (hk : k ≤ L.length) : (S1 P k d L).L = (shv k d L).map (fun x => (x, 0)) ++ L.drop k := by
  have e : (S1 P k d L) = VS.puts { startV P L d with nx := 1, u := 1, d := (shufN (k - 1) d ((L.take k).map Prod.fst)).2 } 0 (shv k d L) := rfl
  rw [e, puts_L _ _ _ (by rw [shv_len hk]; show 0 + k ≤ L.length; omega), shv_len hk]
  show L.take 0 ++ _ ++ L.drop (0 + k) = _
  simp
theorem S1_d (hd : d < 18446744073709551616) : (S1 P k d L).d = goesN d (k - 1) := by
  have e : (S1 P k d L) = VS.puts { startV P L d with nx := 1, u := 1, d := (shufN (k - 1) d ((L.take k).map Prod.fst)).2 } 0 (shv k d L) := rfl
  rw [e, (puts_R _ _ _).2]
  exact shufN_state _ _ _ hd
theorem S1_u : (S1 P k d L).u = 1 ∧ (S1 P k d L).nx = 1 ∧ (S1 P k d L).e = 0 := by
  have e : (S1 P k d L) = VS.puts { startV P L d with nx := 1, u := 1, d := (shufN (k - 1) d ((L.take k).map Prod.fst)).2 } 0 (shv k d L) := rfl
  rw [e]
  exact puts_u _ _ _
theorem S1_R : (S1 P k d L).R = List.replicate 8 (0, P.al) := by
  have e : (S1 P k d L) = VS.puts { startV P L d with nx := 1, u := 1, d := (shufN (k - 1) d ((L.take k).map Prod.fst)).2 } 0 (shv k d L) := rfl
  rw [e, (puts_R _ _ _).1]
  rfl
end
theorem run_go (P : VP) (f : Nat) (s : VS) (h1 : s.nx < P.code.length) (h2 : s.e = 0) (h3 : s.u ≠ 400) : runV compN P (f + 1) s = runV compN P f (stepV compN P s) := by
  rw [runV, if_pos ⟨h1, h2⟩, if_neg h3]
theorem run_end (P : VP) (f : Nat) (s : VS) (h1 : P.code.length ≤ s.nx) : runV compN P f s = s := by
  cases f with
  | zero => rfl
  | succ f => rw [runV, if_neg (by omega)]
theorem check1 {k n : Nat} (h1 : 1 ≤ k) (h2 : k ≤ n) (h3 : n ≤ 48) : (checkV (PR1 k).code n ((PR1 k).mv.length : Int)).2 = true := by
  rw [checkV_good (by show 1 ≤ 96; decide) (fun j hj => ?_)]
  have hj : j < 1 := hj
  obtain rfl : j = 0 := by omega
  exact fits24 h1 h2 h3 _ _
theorem check3 {k n : Nat} {s : Int} (h1 : 1 ≤ k) (h2 : k ≤ n) (h3 : n ≤ 48) (hs : 1 ≤ s) : (checkV (PR3 k s).code n ((PR3 k s).mv.length : Int)).2 = true := by
  rw [checkV_good (by show 3 ≤ 96; decide) (fun j hj => ?_)]
  have hj : j < 3 := hj
  have hc : j = 0 ∨ j = 1 ∨ j = 2 := by omega
  rcases hc with rfl | rfl | rfl
  · exact fits24 h1 h2 h3 _ _
  · exact fits23 hs _ _ _
  · exact fits3 h1 h2 _ _
/-- What comes of shuffling alone. -/
theorem rolls1 {k d : Nat} {L : List (Int × Nat)} (h1 : 1 ≤ k) (h2 : k ≤ L.length) (h3 : L.length ≤ 48) {F : VS} (hF : F = wholeV compN (PR1 k) L d) :
    F.e = 0 ∧ F.L = (shv k d L).map (fun x => (x, 0)) ++ L.drop k := by
  have e1 : stepV compN (PR1 k) (startV (PR1 k) L d) = S1 (PR1 k) k d L := rfl
  have hu := S1_u (P := PR1 k) (k := k) (d := d) (L := L)
  have e2 : runV compN (PR1 k) 402 (startV (PR1 k) L d) = S1 (PR1 k) k d L := by
    rw [show (402 : Nat) = 401 + 1 by rfl, run_go _ _ _ (show 0 < 1 by decide) rfl (show (0 : Nat) ≠ 400 by decide), e1, run_end _ _ _ (by rw [hu.2.1]; show 1 ≤ 1; decide)]
  have e3 : F = S1 (PR1 k) k d L := by
    rw [hF]
    unfold wholeV
    rw [if_pos (check1 h1 h2 h3), e2]
    unfold endV
    rw [if_pos hu.2.2]
  rw [e3]
  exact ⟨hu.2.2, S1_L h2⟩
/-- What comes of shuffling, rolling and storing. -/
theorem rolls3 {k d : Nat} {s : Int} {L : List (Int × Nat)} (h1 : 1 ≤ k) (h2 : k ≤ L.length) (h3 : L.length ≤ 48) (hs : 1 ≤ s) (hs2 : s ≤ 2147483647) (hd : d < 18446744073709551616) {F : VS} (hF : F = wholeV compN (PR3 k s) L d) :
    F.e = 0 ∧ F.d = goesN d k ∧ ∃ x : Int, F.L[k - 1]? = some (x, 0) ∧ 0 ≤ x ∧ x < s := by
  have hyb : ∀ (t : Nat) (y : Int), t < s.toNat → y = (t : Int) → 0 ≤ y ∧ y < s := fun t y h1 h2 => by omega
  have hyc : ∀ t : Nat, t < s.toNat → -2147483648 ≤ (t : Int) ∧ (t : Int) ≤ 2147483647 := fun t h => by omega
  have hk1 : k - 1 + 1 = k := by omega
  have hkl : ∀ n : Nat, k - 1 < k + n := fun n => by omega
  have e1 : stepV compN (PR3 k s) (startV (PR3 k s) L d) = S1 (PR3 k s) k d L := rfl
  have hu := S1_u (P := PR3 k s) (k := k) (d := d) (L := L)
  obtain ⟨A, hA⟩ : ∃ A, A = S1 (PR3 k s) k d L := ⟨_, rfl⟩
  have hL := S1_L (P := PR3 k s) (d := d) h2
  have hdd := S1_d (P := PR3 k s) (k := k) (L := L) hd
  have hR := S1_R (P := PR3 k s) (k := k) (d := d) (L := L)
  rw [← hA] at e1 hu hL hdd hR
  obtain ⟨y, hy⟩ : ∃ y, y = w32 (belowN A.d s.toNat) := ⟨_, rfl⟩
  have hb : belowN A.d s.toNat < s.toNat := belowN_lt (by omega)
  have hy2 : y = (belowN A.d s.toNat : Int) := by rw [hy]; exact w32_in (hyc _ hb).1 (hyc _ hb).2
  obtain ⟨B, hB⟩ : ∃ B : VS, B = { (VS.setR { A with nx := 2, u := 2 } 1 (y, 0)) with d := goN A.d } := ⟨_, rfl⟩
  have e2 : stepV compN (PR3 k s) A = B := by
    rw [hB, hy]
    unfold stepV
    rw [hu.1, hu.2.1]
    rfl
  have hBR : B.rg 1 = (y, 0) := by
    rw [hB]
    show (A.R.set 1 (y, 0)).getD 1 (0, 0) = _
    rw [hR]
    rfl
  obtain ⟨C, hC⟩ : ∃ C : VS, C = VS.put { B with nx := 3, u := 3 } (k - 1) (y, 0) := ⟨_, rfl⟩
  have e3 : stepV compN (PR3 k s) B = C := by
    have hn : ((k : Int) - 1).toNat = k - 1 := by omega
    rw [hC, ← hn, ← hBR]
    unfold stepV
    have h5 : B.nx = 2 := by rw [hB]; rfl
    have h6 : B.u = 2 := by rw [hB]; rfl
    rw [h5, h6]
    rfl
  have hBn : B.nx = 2 ∧ B.e = 0 ∧ B.u = 2 ∧ B.L = A.L ∧ B.d = goN A.d := by rw [hB]; exact ⟨rfl, hu.2.2, rfl, rfl, rfl⟩
  have hCn : C.nx = 3 ∧ C.e = 0 ∧ C.L = B.L.set (k - 1) (y, 0) ∧ C.d = B.d := by rw [hC]; exact ⟨rfl, hBn.2.1, rfl, rfl⟩
  have e4 : runV compN (PR3 k s) 402 (startV (PR3 k s) L d) = C := by
    rw [show (402 : Nat) = 401 + 1 by rfl, run_go _ _ _ (show 0 < 3 by decide) rfl (show (0 : Nat) ≠ 400 by decide), e1]
    rw [show (401 : Nat) = 400 + 1 by rfl, run_go _ _ _ (by rw [hu.2.1]; show 1 < 3; decide) hu.2.2 (by rw [hu.1]; decide), e2]
    rw [show (400 : Nat) = 399 + 1 by rfl, run_go _ _ _ (by rw [hBn.1]; show 2 < 3; decide) hBn.2.1 (by rw [hBn.2.2.1]; decide), e3]
    exact run_end _ _ _ (by rw [hCn.1]; show 3 ≤ 3; decide)
  have e5 : F = C := by
    rw [hF]
    unfold wholeV
    rw [if_pos (check3 h1 h2 h3 hs), e4]
    unfold endV
    rw [if_pos hCn.2.1]
  have hlen : k - 1 < B.L.length := by
    rw [hBn.2.2.2.1, hL, List.length_append, List.length_map, shv_len h2]
    exact hkl _
  rw [e5]
  refine ⟨hCn.2.1, ?_, y, ?_, hyb _ y hb hy2⟩
  · rw [hCn.2.2.2, hBn.2.2.2.2, hdd, goesN_succ, hk1]
  · rw [hCn.2.2.1, List.getElem?_set_self hlen]
theorem perm_sum {l m : List Int} (h : l.Perm m) : l.sum = m.sum := by
  induction h with
  | nil => rfl
  | cons x _ ih => simp only [List.sum_cons, ih]
  | swap x y l => simp only [List.sum_cons]; omega
  | trans _ _ h1 h2 => exact h1.trans h2
/-- The values of the first cells add up to the same. -/
theorem shv_sum {k d : Nat} {L : List (Int × Nat)} : (shv k d L).sum = ((L.take k).map Prod.fst).sum := by
  unfold shv
  exact perm_sum (shufN_perm _ _ _)
end Go.Proofs.YtdijgidlachnjaaDoor
