/- A program that goes on and on: how much it uses. No condition. -/
import Derived.Test.YtpgnihfjccpneaaDoorZVmComputes06
namespace Go.Proofs.YtpgnihfjccpneaaDoor
open Go.RowKit

def PJ : VP := ⟨[⟨20, 0, 0, 0, 0, 0⟩], [0], 1, 1⟩
def PF (r : Int) (k : Nat) : VP := ⟨[⟨1, 1, 0, 0, r, 0⟩, ⟨1, 2, 0, 0, 1, 0⟩, ⟨19, 1, 0, 0, 5, 0⟩, ⟨7, 1, 1, 2, 0, 0⟩, ⟨20, 0, 0, 0, 2, 0⟩], [0], k, 1⟩
theorem jump_all : (wholeV compN PJ [(0, 1)] 0).L = [(0, 1)] ∧ (wholeV compN PJ [(0, 1)] 0).u = 400 ∧ (wholeV compN PJ [(0, 1)] 0).e = 9 := by decide +kernel
def fuelOk (r : Nat) : Bool :=
  let z := wholeV compN (PF (r : Int) 0) [(0, 1)] 0
  if 400 < 3 + 3 * r then z.e == 9 && z.u == 400 else z.e == 0 && z.u == 3 + 3 * r
theorem fuel_all : ∀ r : Fin 200, fuelOk r.val = true := by decide +kernel
theorem follow_tk (comp : Nat → Int → Int → Int) (code : List Cd) (mv : List Int) (tk tk' al : Nat) (s : VS) {c : Cd} (h : c.op ≠ 25) : followV comp ⟨code, mv, tk, al⟩ s c = followV comp ⟨code, mv, tk', al⟩ s c := by
  unfold followV
  rw [if_neg h, if_neg h]
theorem run_tk (comp : Nat → Int → Int → Int) (code : List Cd) (mv : List Int) (tk tk' al : Nat) (h : ∀ c ∈ code, c.op ≠ 25) : ∀ (f : Nat) (s : VS), runV comp ⟨code, mv, tk, al⟩ f s = runV comp ⟨code, mv, tk', al⟩ f s
  | 0, _ => rfl
  | f + 1, s => by
    unfold runV
    have e : stepV comp ⟨code, mv, tk, al⟩ s = stepV comp ⟨code, mv, tk', al⟩ s := by
      unfold stepV
      refine follow_tk comp code mv tk tk' al _ ?_
      show (code.getD s.nx ⟨0, 0, 0, 0, 0, 0⟩).op ≠ 25
      by_cases hi : s.nx < code.length
      · rw [show code.getD s.nx ⟨0, 0, 0, 0, 0, 0⟩ = code[s.nx] by simp [List.getD, hi]]
        exact h _ (List.getElem_mem hi)
      · rw [show code.getD s.nx ⟨0, 0, 0, 0, 0, 0⟩ = ⟨0, 0, 0, 0, 0, 0⟩ by simp [List.getD, hi]]
        show (0 : Nat) ≠ 25
        decide
    rw [e, run_tk comp code mv tk tk' al h f]
theorem whole_tk (comp : Nat → Int → Int → Int) (code : List Cd) (mv : List Int) (tk tk' al : Nat) (h : ∀ c ∈ code, c.op ≠ 25) (L : List (Int × Nat)) (d : Nat) : wholeV comp ⟨code, mv, tk, al⟩ L d = wholeV comp ⟨code, mv, tk', al⟩ L d := by
  unfold wholeV
  rw [run_tk comp code mv tk tk' al h]
  rfl
theorem fuel_says (r k : Nat) (hr : r < 200) : if 400 < 3 + 3 * r then (wholeV compN (PF (r : Int) k) [(0, 1)] 0).e = 9 ∧ (wholeV compN (PF (r : Int) k) [(0, 1)] 0).u = 400 else (wholeV compN (PF (r : Int) k) [(0, 1)] 0).e = 0 ∧ (wholeV compN (PF (r : Int) k) [(0, 1)] 0).u = 3 + 3 * r := by
  have h := fuel_all ⟨r, hr⟩
  have e : wholeV compN (PF (r : Int) k) [(0, 1)] 0 = wholeV compN (PF (r : Int) 0) [(0, 1)] 0 := whole_tk _ _ _ _ _ _ (by intro c hc; simp only [List.mem_cons, List.not_mem_nil, or_false] at hc; rcases hc with rfl | rfl | rfl | rfl | rfl <;> simp) _ _
  rw [e]
  unfold fuelOk at h
  simp only at h
  by_cases hb : 400 < 3 + 3 * r
  · rw [if_pos hb] at h ⊢
    simpa using h
  · rw [if_neg hb] at h ⊢
    simpa using h
end Go.Proofs.YtpgnihfjccpneaaDoor
