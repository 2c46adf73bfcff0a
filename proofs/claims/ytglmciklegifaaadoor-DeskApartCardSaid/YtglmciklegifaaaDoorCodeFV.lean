/- Fits: whether an instruction may be. Conditions: the numbers fit; the table of the operations lies. -/
import Derived.Test.YtglmciklegifaaaDoorCodeCV
namespace Go.Proofs.YtglmciklegifaaaDoor
open Go.RowKit

theorem rightC_calls (c : Cd) (hc : c.Ok) (j : Nat) (hj : j < 26) (cells : Int) (_h0 : -9223372036854775808 ≤ cells) (_h1 : cells ≤ 9223372036854775807) (hrow : uB j 3 = true → 0 ≤ c.n ∧ c.n < cells) (w : World) :
    Calls Tryd.prog 65 #[.agg (cdA c), .int .u8 (useAt j : Int), .int .i64 cells] w fun e w' => e = .returned (.bool (if uB j 3 then rowB c.c cells c.n else regB c.c (uB j 2))) ∧ Below w.heap.size w w' := by
  obtain ⟨-, -, b2, b3, -⟩ := use_bits ⟨j, hj⟩
  simp only at b2 b3
  obtain ⟨u, hu⟩ : ∃ u, u = useAt j := ⟨_, rfl⟩
  rw [← hu] at b2 b3 ⊢
  obtain ⟨r3, hr3⟩ : ∃ r3, r3 = uB j 3 := ⟨_, rfl⟩
  obtain ⟨r2, hr2⟩ : ∃ r2, r2 = uB j 2 := ⟨_, rfl⟩
  rw [← hr3] at b3 hrow ⊢
  rw [← hr2] at b2 ⊢
  obtain ⟨-, -, -, hcc, n0, n1, -⟩ := hc
  obtain ⟨op, a, b, cc, n, m⟩ := c
  simp only at hcc n0 n1 hrow ⊢
  unfold cdA
  simp only
  have hb := below_alloc1 w (.cells #[.int .u8 (op : Int), .int .u8 (a : Int), .int .u8 (b : Int), .int .u8 (cc : Int), .int .i32 n, .int .u32 (m : Int)] 71)
  clear hu hr3 hr2 hj
  cases r3 with
  | false =>
    have hR := fun W => register_calls cc r2 W
    simp only [Bool.false_eq_true, if_false]
    obtain ⟨d, hd⟩ : ∃ d, d = regB cc r2 := ⟨_, rfl⟩
    rw [← hd] at hR ⊢
    clear hd
    simp only [Bool.not_false] at b3
    go_enter Tryd.func65, Tryd.ntmps65
    go_wp2_with fail
    refine (hR _).mono ?_
    rintro e w' ⟨rfl, hw⟩
    have hw := hw.symm
    subst hw
    go_wp2
    go_ret
    exact ⟨rfl, hb⟩
  | true =>
    simp only [if_true]
    simp only [Bool.not_true] at b3
    obtain ⟨k0, k1⟩ := hrow rfl
    clear hrow
    have hw := IntWalk.i64_in n (by omega)
    have hw2 := IntWalk.i64_in (cells - n) (by omega)
    have hw3 := IntWalk.i64_in (cc : Int) (by omega)
    unfold rowB
    by_cases c1 : 1 ≤ cc
    · have e1 : decide ((cc : Int) ≥ 1) = true := by simp; omega
      rw [decide_eq_true c1, Bool.true_and]
      by_cases c2 : cc ≤ 48
      · have e2 : decide ((cc : Int) ≤ 48) = true := by simp; omega
        rw [decide_eq_true c2, Bool.true_and]
        obtain ⟨d, hd⟩ : ∃ d, d = decide ((cc : Int) ≤ cells - n) := ⟨_, rfl⟩
        have ed := hd.symm
        rw [← hd]
        clear hd
        go_enter Tryd.func65, Tryd.ntmps65
        go_wp2
        go_ret
        exact ⟨by simp, hb⟩
      · have e2 : decide ((cc : Int) ≤ 48) = false := by simp; omega
        rw [decide_eq_false c2, Bool.false_and]
        go_enter Tryd.func65, Tryd.ntmps65
        go_wp2
        go_ret
        exact ⟨by simp, hb⟩
    · have e1 : decide ((cc : Int) ≥ 1) = false := by simp; omega
      rw [decide_eq_false c1, Bool.false_and]
      go_enter Tryd.func65, Tryd.ntmps65
      go_wp2
      go_ret
      exact ⟨by simp, hb⟩
/-- The table's row, as Fits and Word read it. -/
theorem ctab_at {w : World} (h : CTab w) {j : Nat} (hj : j < 26) : w.cell? ⟨0, j * 3, none⟩ = some (.string ⟨(wordAt j).toArray⟩) ∧ w.cell? ⟨0, j * 3 + 1, none⟩ = some (.int .u8 (useAt j : Int)) ∧ w.cell? ⟨0, j * 3 + 2, none⟩ = some (.int .u8 (numAt j : Int)) := h j hj
end Go.Proofs.YtglmciklegifaaaDoor
