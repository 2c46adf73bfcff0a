/- What a run keeps: cells that were not touched; values, where nothing is stored. Conditions: the instructions may be; the numbers fit. -/
import Derived.Test.YtpgnihfjccpneaaDoorVmRun
namespace Go.Proofs.YtpgnihfjccpneaaDoor
open Go.RowKit

/-- Does it store? -/
def stores (c : Cd) : Bool := c.op == 3 || (c.op == 5 || c.op == 24)
structure Keep (L0 : List (Int × Nat)) (quiet : Prop) (s : VS) : Prop where
  still : ∀ i, s.t.testBit i = false → s.cl i = L0.getD i (0, 0)
  same : quiet → ∀ i, (s.cl i).1 = (L0.getD i (0, 0)).1 ∧ ∀ j, j < 32 → (L0.getD i (0, 0)).2.testBit j = true → (s.cl i).2.testBit j = true
namespace Keep
variable {L0 : List (Int × Nat)} {quiet : Prop} {s : VS}
theorem put (h : Keep L0 quiet s) (i : Nat) (r : Int × Nat) (hq : quiet → i < s.L.length → r.1 = (s.cl i).1 ∧ ∀ j, j < 32 → (s.cl i).2.testBit j = true → r.2.testBit j = true) : Keep L0 quiet (s.put i r) := by
  have hcl : ∀ k, (s.put i r).cl k = if k = i ∧ i < s.L.length then r else s.cl k := fun k => by
    unfold VS.put VS.cl
    simp only [List.getD, List.getElem?_set]
    by_cases e : i = k
    · subst e
      by_cases hl : i < s.L.length
      · rw [if_pos rfl, if_pos hl, if_pos ⟨rfl, hl⟩]; rfl
      · rw [if_pos rfl, if_neg hl, if_neg (by omega), List.getElem?_eq_none (by omega)]
    · rw [if_neg e, if_neg (by omega)]
  refine ⟨fun k hk => ?_, fun hqq k => ?_⟩
  · have hk : (s.t ||| 2 ^ i).testBit k = false := hk
    rw [Nat.testBit_or, Bool.or_eq_false_iff, Nat.testBit_two_pow] at hk
    rw [hcl, if_neg (by have := hk.2; simp at this; omega)]
    exact h.still k hk.1
  · rw [hcl]
    by_cases e : k = i ∧ i < s.L.length
    · rw [if_pos e]
      obtain ⟨rfl, hl⟩ := e
      obtain ⟨h1, h2⟩ := hq hqq hl
      obtain ⟨h3, h4⟩ := h.same hqq k
      exact ⟨h1.trans h3, fun j hj hb => h2 j hj (h4 j hj hb)⟩
    · rw [if_neg e]; exact h.same hqq k
theorem puts : ∀ {l : List Int} {s : VS} {i : Nat}, Keep L0 quiet s → ¬ quiet → Keep L0 quiet (s.puts i l)
  | [], _, _, h, _ => h
  | x :: _, s, i, h, hn => puts (s := s.put i (x, 0)) (i := i + 1) (h.put i (x, 0) (fun hq => absurd hq hn)) hn
end Keep
theorem follow_keep (comp : Nat → Int → Int → Int) (P : VP) {L0 : List (Int × Nat)} {quiet : Prop} {s : VS} (h : Keep L0 quiet s) (c : Cd) (hq : quiet → stores c = false) : Keep L0 quiet (followV comp P s c) := by
  have hc : ∀ z : VS, z.L = s.L → z.t = s.t → Keep L0 quiet z := fun z h1 h2 => ⟨fun i hi => by have := h.still i (by rw [← h2]; exact hi); unfold VS.cl at this ⊢; rw [h1]; exact this, fun hqq i => by have := h.same hqq i; unfold VS.cl at this ⊢; rw [h1]; exact this⟩
  have hn : ∀ k, c.op = k → (k = 3 ∨ k = 5 ∨ k = 24) → ¬ quiet := fun k e hk hqq => by
    have := hq hqq
    unfold stores at this
    rw [e] at this
    rcases hk with rfl | rfl | rfl <;> simp at this
  refine follow_elim comp P (C := fun z => Keep L0 quiet z) s c (fun _ => hc _ rfl rfl) (fun _ => hc _ rfl rfl) (fun _ => hc _ rfl rfl) (fun _ => hc _ rfl rfl) (fun e => h.put _ _ (fun hqq => absurd hqq (hn 3 e (.inl rfl)))) (fun _ _ => hc _ rfl rfl) (fun e _ => h.put _ _ (fun hqq => absurd hqq (hn 5 e (.inr (.inl rfl))))) (fun _ _ => hc _ rfl rfl) (fun _ => hc _ rfl rfl) (fun _ _ _ => hc _ rfl rfl) (fun _ _ _ => h) (fun _ _ => hc _ rfl rfl) (fun _ => hc _ rfl rfl) (fun _ => hc _ rfl rfl) (fun _ _ => ?_) (fun _ => hc _ rfl rfl) (fun e => ?_) (fun _ => hc _ rfl rfl)
  · have h2 := h.put (s.place P.al c).2 ((s.cl (s.place P.al c).2).1, (s.cl (s.place P.al c).2).2 ||| (c.m &&& P.al)) (fun _ _ => ⟨rfl, fun j _ hb => by rw [Nat.testBit_or, hb]; rfl⟩)
    exact ⟨h2.still, h2.same⟩
  · unfold shufV
    exact Keep.puts (s := { s with d := (shufN (c.c - 1) s.d (((s.L.drop c.n.toNat).take c.c).map Prod.fst)).2 }) ⟨h.still, h.same⟩ (hn 24 e (.inr (.inr rfl)))
theorem run_keep (comp : Nat → Int → Int → Int) (P : VP) {L0 : List (Int × Nat)} {quiet : Prop} (hq : quiet → ∀ c ∈ P.code, stores c = false) : ∀ (k : Nat) {s : VS}, Keep L0 quiet s → Keep L0 quiet (runV comp P k s)
  | 0, _, h => h
  | k + 1, s, h => by
    unfold runV
    by_cases h1 : s.nx < P.code.length ∧ s.e = 0
    · rw [if_pos h1]
      by_cases h2 : s.u = 400
      · rw [if_pos h2]; exact ⟨h.still, h.same⟩
      · rw [if_neg h2]
        refine run_keep comp P hq k ?_
        unfold stepV
        rw [codeAt_in P h1.1]
        exact follow_keep comp P (s := { s with nx := s.nx + 1, u := s.u + 1 }) ⟨h.still, h.same⟩ _ (fun hqq => hq hqq _ (List.getElem_mem h1.1))
    · rw [if_neg h1]; exact h
theorem run_tok (comp : Nat → Int → Int → Int) (P : VP) {N : Nat} (hP : POk comp P N) : ∀ (k : Nat) {s : VS}, TOk s N → TOk (runV comp P k s) N
  | 0, _, h => h
  | k + 1, s, h => by
    unfold runV
    by_cases h1 : s.nx < P.code.length ∧ s.e = 0
    · rw [if_pos h1]
      by_cases h2 : s.u = 400
      · rw [if_pos h2]; exact ⟨{ h.l with }, h.u, h.sh, h.nx⟩
      · rw [if_neg h2]
        exact run_tok comp P hP k (step_ok comp P hP h h1.1 (by have := h.u; omega))
    · rw [if_neg h1]; exact h
/-- What a whole run keeps. -/
theorem whole_keep {comp : Nat → Int → Int → Int} {P : VP} {L : List (Int × Nat)} {d : Nat} (hcf : CompFit comp) (hal : P.al < 4294967296) (hmvf : ∀ x ∈ P.mv, -2147483648 ≤ x ∧ x ≤ 2147483647) (hok : okK P.code) (hL : okC L) :
    (wholeV comp P L d).u ≤ 400 ∧ (wholeV comp P L d).L.length = L.length ∧ (wholeV comp P L d).t < 2 ^ L.length ∧ okC (wholeV comp P L d).L ∧
    ((wholeV comp P L d).e ≠ 0 → (wholeV comp P L d).L = L ∧ (wholeV comp P L d).d = d ∧ (wholeV comp P L d).t = 0) ∧
    Keep L (∀ c ∈ P.code, stores c = false) (wholeV comp P L d) := by
  have hS : Keep L (∀ c ∈ P.code, stores c = false) (startV P L d) := ⟨fun _ _ => rfl, fun _ _ => ⟨rfl, fun _ _ h => h⟩⟩
  by_cases hck : (checkV P.code L.length P.mv.length).2 = true
  · have hcp := check_parts hck
    have hP : POk comp P L.length := ⟨hcf, hal, hmvf, hcp.1, fun c hc => ⟨hok c hc, hcp.2 c hc⟩⟩
    have ht := run_tok comp P hP 402 (s := startV P L d) ⟨start_ok d hL hal, Nat.zero_le _, Nat.le_refl _, Nat.zero_le _⟩
    have hk := run_keep comp P (quiet := ∀ c ∈ P.code, stores c = false) (fun h => h) 402 hS
    have e1 : wholeV comp P L d = endV L d (runV comp P 402 (startV P L d)) := if_pos hck
    rw [e1]
    generalize runV comp P 402 (startV P L d) = z at *
    unfold endV
    by_cases he : z.e = 0
    · rw [if_pos he]
      exact ⟨ht.u, ht.l.L, ht.l.t, ht.l.okL, fun h => absurd he h, hk⟩
    · rw [if_neg he]
      exact ⟨ht.u, rfl, Nat.two_pow_pos _, hL, fun _ => ⟨rfl, rfl, rfl⟩, ⟨fun _ _ => rfl, fun _ _ => ⟨rfl, fun _ _ h => h⟩⟩⟩
  · have e1 : wholeV comp P L d = { startV P L d with e := 2 } := if_neg hck
    rw [e1]
    exact ⟨Nat.zero_le _, rfl, Nat.two_pow_pos _, hL, fun _ => ⟨rfl, rfl, rfl⟩, ⟨fun _ _ => rfl, fun _ _ => ⟨rfl, fun _ _ h => h⟩⟩⟩
end Go.Proofs.YtpgnihfjccpneaaDoor
