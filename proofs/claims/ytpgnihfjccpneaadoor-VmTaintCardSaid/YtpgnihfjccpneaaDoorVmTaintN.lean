/- What hangs on what not all may see: an error. No condition. -/
import Derived.Test.YtpgnihfjccpneaaDoorVmX
namespace Go.Proofs.YtpgnihfjccpneaaDoor
open Go.RowKit

def tL : List Cd := [⟨19, 1, 0, 0, 2, 0⟩, ⟨4, 2, 1, 0, 0, 0⟩, ⟨5, 2, 1, 0, 0, 0⟩, ⟨22, 0, 1, 0, 0, 7⟩]
def tC (q : Nat) : Cd := tL.getD q ⟨0, 0, 0, 0, 0, 0⟩
def PT (c : Cd) : VP := ⟨[⟨2, 1, 0, 0, 0, 0⟩, c], [0], 1, 7⟩
theorem taint_right : ∀ q : Fin 4, (checkV (PT (tC q.val)).code 2 1).2 = true := by decide +kernel
def tS (v : Int) (m : Nat) : VS := ⟨[(v, m), (0, 7)], 0, 0, [], 1, 0, 1, [(0, 7), (v, m), (0, 7), (0, 7), (0, 7), (0, 7), (0, 7), (0, 7)]⟩
theorem taint_one (c : Cd) (v : Int) (m : Nat) : stepV compN (PT c) (startV (PT c) [(v, m), (0, 7)] 0) = tS v m := rfl
theorem taint_two (c : Cd) (v : Int) (m : Nat) : runV compN (PT c) 402 (startV (PT c) [(v, m), (0, 7)] 0) = (if (stepV compN (PT c) (tS v m)).nx < 2 ∧ (stepV compN (PT c) (tS v m)).e = 0 then runV compN (PT c) 400 (stepV compN (PT c) (tS v m)) else stepV compN (PT c) (tS v m)) := by
  have e1 : runV compN (PT c) 402 (startV (PT c) [(v, m), (0, 7)] 0) = runV compN (PT c) 401 (tS v m) := by
    rw [show (402 : Nat) = 401 + 1 by rfl, runV, if_pos ⟨show (0 : Nat) < 2 by decide, rfl⟩, if_neg (show ¬ (startV (PT c) [(v, m), (0, 7)] 0).u = 400 from (by show ¬ (0 : Nat) = 400; decide)), taint_one]
  have e2 : runV compN (PT c) 401 (tS v m) = runV compN (PT c) 400 (stepV compN (PT c) (tS v m)) := by
    rw [show (401 : Nat) = 400 + 1 by rfl, runV, if_pos ⟨show (1 : Nat) < 2 by decide, rfl⟩, if_neg (show ¬ (tS v m).u = 400 from (by show ¬ (1 : Nat) = 400; decide))]
  rw [e1, e2]
  by_cases h : (stepV compN (PT c) (tS v m)).nx < 2 ∧ (stepV compN (PT c) (tS v m)).e = 0
  · rw [if_pos h]
  · rw [if_neg h, show (400 : Nat) = 399 + 1 by rfl, runV, if_neg (show ¬ ((stepV compN (PT c) (tS v m)).nx < (PT c).code.length ∧ (stepV compN (PT c) (tS v m)).e = 0) from h)]
theorem taint_step (q : Nat) (hq : q < 4) (v : Int) (m : Nat) :
    (lessN 7 m ≠ 0 → (stepV compN (PT (tC q)) (tS v m)).e = 8 ∧ (stepV compN (PT (tC q)) (tS v m)).u = 2) ∧
    (lessN 7 m = 0 → 0 < q → (v < 0 ∨ 1 < v) → (stepV compN (PT (tC q)) (tS v m)).e = 7 ∧ (stepV compN (PT (tC q)) (tS v m)).u = 2) ∧
    (lessN 7 m = 0 → ¬(0 < q ∧ (v < 0 ∨ 1 < v)) → (stepV compN (PT (tC q)) (tS v m)).e = 0 ∧ 2 ≤ (stepV compN (PT (tC q)) (tS v m)).nx) := by
  have hcases : q = 0 ∨ q = 1 ∨ q = 2 ∨ q = 3 := by omega
  have hpl : ∀ c : Cd, c.b = 1 → c.n = 0 → VS.place { tS v m with nx := 2, u := 2 } 7 c = if lessN 7 m = 0 then (if 0 ≤ v ∧ v < 2 then (0, v.toNat) else (7, 0)) else (8, 0) := by
    intro c h1 h2
    unfold VS.place VS.clr VS.rg tS
    rw [h1, h2]
    simp
  rcases hcases with rfl | rfl | rfl | rfl
  · have e : stepV compN (PT (tC 0)) (tS v m) = if VS.clr 7 (v, m) = true then (if v = 0 then VS.goes { tS v m with nx := 2, u := 2 } 2 else { tS v m with nx := 2, u := 2 }) else VS.fail { tS v m with nx := 2, u := 2 } 8 := rfl
    rw [e]
    refine ⟨fun h => ?_, fun h hq => by omega, fun h _ => ?_⟩
    · rw [if_neg (by simp [VS.clr, h])]; exact ⟨rfl, rfl⟩
    · rw [if_pos (by simp [VS.clr, h])]
      by_cases hv : v = 0
      · rw [if_pos hv]; exact ⟨rfl, Nat.le_refl _⟩
      · rw [if_neg hv]; exact ⟨rfl, Nat.le_refl _⟩
  · have e : stepV compN (PT (tC 1)) (tS v m) = if (VS.place { tS v m with nx := 2, u := 2 } 7 (tC 1)).1 = 0 then VS.setR { tS v m with nx := 2, u := 2 } 2 (VS.cl { tS v m with nx := 2, u := 2 } (VS.place { tS v m with nx := 2, u := 2 } 7 (tC 1)).2) else VS.fail { tS v m with nx := 2, u := 2 } (VS.place { tS v m with nx := 2, u := 2 } 7 (tC 1)).1 := rfl
    rw [e, hpl (tC 1) rfl rfl]
    refine ⟨fun h => ?_, fun h _ hv => ?_, fun h hv => ?_⟩
    · rw [if_neg h, if_neg (show ¬ ((8, 0) : Nat × Nat).1 = 0 by decide)]; exact ⟨rfl, rfl⟩
    · rw [if_pos h, if_neg (show ¬ (0 ≤ v ∧ v < 2) by omega), if_neg (show ¬ ((7, 0) : Nat × Nat).1 = 0 by decide)]; exact ⟨rfl, rfl⟩
    · rw [if_pos h, if_pos (show 0 ≤ v ∧ v < 2 by omega), if_pos (show ((0, v.toNat) : Nat × Nat).1 = 0 from rfl)]; exact ⟨rfl, Nat.le_refl _⟩
  · have e : stepV compN (PT (tC 2)) (tS v m) = if (VS.place { tS v m with nx := 2, u := 2 } 7 (tC 2)).1 = 0 then VS.put { tS v m with nx := 2, u := 2 } (VS.place { tS v m with nx := 2, u := 2 } 7 (tC 2)).2 (VS.rg { tS v m with nx := 2, u := 2 } 2) else VS.fail { tS v m with nx := 2, u := 2 } (VS.place { tS v m with nx := 2, u := 2 } 7 (tC 2)).1 := rfl
    rw [e, hpl (tC 2) rfl rfl]
    refine ⟨fun h => ?_, fun h _ hv => ?_, fun h hv => ?_⟩
    · rw [if_neg h, if_neg (show ¬ ((8, 0) : Nat × Nat).1 = 0 by decide)]; exact ⟨rfl, rfl⟩
    · rw [if_pos h, if_neg (show ¬ (0 ≤ v ∧ v < 2) by omega), if_neg (show ¬ ((7, 0) : Nat × Nat).1 = 0 by decide)]; exact ⟨rfl, rfl⟩
    · rw [if_pos h, if_pos (show 0 ≤ v ∧ v < 2 by omega), if_pos (show ((0, v.toNat) : Nat × Nat).1 = 0 from rfl)]; exact ⟨rfl, Nat.le_refl _⟩
  · have e : stepV compN (PT (tC 3)) (tS v m) = if (VS.place { tS v m with nx := 2, u := 2 } 7 (tC 3)).1 = 0 then VS.reveal { tS v m with nx := 2, u := 2 } (VS.place { tS v m with nx := 2, u := 2 } 7 (tC 3)).2 (7 &&& 7) else VS.fail { tS v m with nx := 2, u := 2 } (VS.place { tS v m with nx := 2, u := 2 } 7 (tC 3)).1 := rfl
    rw [e, hpl (tC 3) rfl rfl]
    refine ⟨fun h => ?_, fun h _ hv => ?_, fun h hv => ?_⟩
    · rw [if_neg h, if_neg (show ¬ ((8, 0) : Nat × Nat).1 = 0 by decide)]; exact ⟨rfl, rfl⟩
    · rw [if_pos h, if_neg (show ¬ (0 ≤ v ∧ v < 2) by omega), if_neg (show ¬ ((7, 0) : Nat × Nat).1 = 0 by decide)]; exact ⟨rfl, rfl⟩
    · rw [if_pos h, if_pos (show 0 ≤ v ∧ v < 2 by omega), if_pos (show ((0, v.toNat) : Nat × Nat).1 = 0 from rfl)]; exact ⟨rfl, Nat.le_refl _⟩
/-- What comes of it. -/
theorem taint_says (q : Nat) (hq : q < 4) (v : Int) (m : Nat) :
    (lessN 7 m ≠ 0 → (wholeV compN (PT (tC q)) [(v, m), (0, 7)] 0).e = 8 ∧ (wholeV compN (PT (tC q)) [(v, m), (0, 7)] 0).u = 2 ∧ (wholeV compN (PT (tC q)) [(v, m), (0, 7)] 0).L = [(v, m), (0, 7)]) ∧
    (lessN 7 m = 0 → 0 < q → (v < 0 ∨ 1 < v) → (wholeV compN (PT (tC q)) [(v, m), (0, 7)] 0).e = 7) ∧
    (lessN 7 m = 0 → ¬(0 < q ∧ (v < 0 ∨ 1 < v)) → (wholeV compN (PT (tC q)) [(v, m), (0, 7)] 0).e = 0) := by
  obtain ⟨h1, h2, h3⟩ := taint_step q hq v m
  have hr := taint_right ⟨q, hq⟩
  have hw : wholeV compN (PT (tC q)) [(v, m), (0, 7)] 0 = endV [(v, m), (0, 7)] 0 (runV compN (PT (tC q)) 402 (startV (PT (tC q)) [(v, m), (0, 7)] 0)) := by
    unfold wholeV
    exact if_pos hr
  rw [hw, taint_two]
  generalize stepV compN (PT (tC q)) (tS v m) = z at *
  refine ⟨fun h => ?_, fun h hq hv => ?_, fun h hv => ?_⟩
  · obtain ⟨a, b⟩ := h1 h
    rw [if_neg (by omega)]
    unfold endV
    rw [if_neg (by omega)]
    exact ⟨a, b, rfl⟩
  · obtain ⟨a, b⟩ := h2 h hq hv
    rw [if_neg (by omega)]
    unfold endV
    rw [if_neg (by omega)]
    exact a
  · obtain ⟨a, b⟩ := h3 h hv
    rw [if_neg (by omega)]
    unfold endV
    rw [if_pos a]
    exact a
end Go.Proofs.YtpgnihfjccpneaaDoor
