/- Two runs that one sees alike stay so, or go apart at a show; what a run keeps. Conditions: the instructions may be; the numbers fit. -/
import Derived.Test.YtpgnihfjccpneaaDoorVmOwn
namespace Go.Proofs.YtpgnihfjccpneaaDoor
open Go.RowKit

structure Vis2 (al : Nat) (v : Nat → Bool) : Prop where
  and_ : ∀ a b, v (a &&& b) = true → v a = true ∧ v b = true
  clr : ∀ r, r < 4294967296 → lessN al r = 0 → v r = true
  zero : v 0 = false
theorem clr2 {v : Nat → Bool} {s z : VS} {al : Nat} (hV : Vis2 al v) (h : RelV v s z) (hR : okC s.R) (i : Nat) : VS.clr al (s.rg i) = VS.clr al (z.rg i) ∧ (VS.clr al (s.rg i) = true → (s.rg i).1 = (z.rg i).1) := by
  have h1 := h.rg i
  refine ⟨by unfold VS.clr; rw [vw_lab h1], fun hc => vw_val h1 (hV.clr _ (getD_fit hR i).2 ?_)⟩
  simpa [VS.clr] using hc
theorem place2 {v : Nat → Bool} {s z : VS} {al : Nat} (hV : Vis2 al v) (h : RelV v s z) (hR : okC s.R) (c : Cd) : s.place al c = z.place al c := by
  obtain ⟨h1, h2⟩ := clr2 hV h hR c.b
  unfold VS.place
  rw [← h1, ← h.len]
  by_cases hc : VS.clr al (s.rg c.b) = true
  · rw [if_pos hc, if_pos hc, h2 hc]
  · rw [if_neg hc, if_neg hc]
/-- One instruction. -/
theorem follow_rel2 {comp : Nat → Int → Int → Int} {code : List Cd} {mv mw : List Int} {tk al : Nat} {v : Nat → Bool} (hV : Vis2 al v) (c : Cd)
    (hrev : c.op = 22 → ∃ p, p < 32 ∧ v = fun m => m.testBit p) (hm : c.m < 4294967296)
    (hmv : c.op = 21 → v (aloneN c.n) = true → mv.getD c.n.toNat 0 = mw.getD c.n.toNat 0)
    {s z : VS} (h : RelV v s z) (hok : okC s.L) (hokR : okC s.R) :
    RelV v (followV comp ⟨code, mv, tk, al⟩ s c) (followV comp ⟨code, mw, tk, al⟩ z c) ∨ Apart v (followV comp ⟨code, mv, tk, al⟩ s c) (followV comp ⟨code, mw, tk, al⟩ z c) := by
  have hp := place2 hV h hokR c
  unfold followV
  rw [← hp]
  by_cases h0 : c.op = 0
  · rw [if_pos h0, if_pos h0]; exact .inl (h.goes _)
  rw [if_neg h0, if_neg h0]
  by_cases h1 : c.op = 1
  · rw [if_pos h1, if_pos h1]; exact .inl (h.setR _ rfl)
  rw [if_neg h1, if_neg h1]
  by_cases h25 : c.op = 25
  · rw [if_pos h25, if_pos h25]; exact .inl (h.setR _ rfl)
  rw [if_neg h25, if_neg h25]
  by_cases h2 : c.op = 2
  · rw [if_pos h2, if_pos h2]; exact .inl (h.setR _ (h.cl _))
  rw [if_neg h2, if_neg h2]
  by_cases h3 : c.op = 3
  · rw [if_pos h3, if_pos h3]; exact .inl (h.put _ (h.rg _))
  rw [if_neg h3, if_neg h3]
  by_cases h4 : c.op = 4
  · rw [if_pos h4, if_pos h4]
    left
    split
    · exact h.setR _ (h.cl _)
    · exact h.fail _
  rw [if_neg h4, if_neg h4]
  by_cases h5 : c.op = 5
  · rw [if_pos h5, if_pos h5]
    left
    split
    · exact h.put _ (h.rg _)
    · exact h.fail _
  rw [if_neg h5, if_neg h5]
  by_cases h18 : c.op = 18
  · rw [if_pos h18, if_pos h18]
    left
    refine h.setR _ (vw_mk (by rw [vw_lab (h.rg c.a), vw_lab (h.rg c.b), vw_lab (h.rg c.c)]) fun hv => ?_)
    obtain ⟨hab, hc⟩ := hV.and_ _ _ hv
    obtain ⟨ha, hb⟩ := hV.and_ _ _ hab
    rw [vw_val (h.rg c.a) ha, vw_val (h.rg c.b) hb, vw_val (h.rg c.c) hc]
  rw [if_neg h18, if_neg h18]
  by_cases h19 : c.op = 19
  · rw [if_pos h19, if_pos h19]
    left
    obtain ⟨e1, e2⟩ := clr2 hV h hokR c.a
    rw [← e1]
    by_cases hc : VS.clr al (s.rg c.a) = true
    · rw [if_pos hc, if_pos hc, e2 hc]
      split
      · exact h.goes _
      · exact h
    · rw [if_neg hc, if_neg hc]; exact h.fail _
  rw [if_neg h19, if_neg h19]
  by_cases h20 : c.op = 20
  · rw [if_pos h20, if_pos h20]; exact .inl (h.goes _)
  rw [if_neg h20, if_neg h20]
  by_cases h21 : c.op = 21
  · rw [if_pos h21, if_pos h21]
    exact .inl (h.setR _ (vw_mk rfl (hmv h21)))
  rw [if_neg h21, if_neg h21]
  by_cases h22 : c.op = 22
  · rw [if_pos h22, if_pos h22]
    obtain ⟨p, hp32, rfl⟩ := hrev h22
    split
    · rename_i hpl
      obtain ⟨i, hi⟩ : ∃ i, i = (s.place al c).2 := ⟨_, rfl⟩
      rw [← hi]
      obtain ⟨m, hmm⟩ : ∃ m, m = c.m &&& al := ⟨_, rfl⟩
      rw [← hmm]
      have hml : m < 4294967296 := by rw [hmm]; exact Nat.lt_of_le_of_lt Nat.and_le_left hm
      have hcl := h.cl i
      have hlab := vw_lab hcl
      have hq : (s.cl i).2 < 4294967296 := by
        unfold VS.cl
        by_cases hi : i < s.L.length
        · rw [show s.L.getD i (0, 0) = s.L[i] by simp [List.getD, hi]]
          exact (okC_get hok hi).2
        · rw [show s.L.getD i (0, 0) = (0, 0) by simp [List.getD, hi]]
          decide
      unfold VS.reveal
      rw [← hlab]
      by_cases hf : lessN m (s.cl i).2 = 0
      · left
        rw [if_pos hf, if_pos hf]
        have hor := lessN_or hml hq hf
        rw [hor]
        exact { h.put i (r := ((s.cl i).1, (s.cl i).2)) (q := ((z.cl i).1, (s.cl i).2)) (vw_mk rfl fun hv => vw_val hcl hv) with }
      · rw [if_neg hf, if_neg hf]
        by_cases hval : (lessN m (s.cl i).2).testBit p = true → (s.cl i).1 = (z.cl i).1
        · left
          refine { h.put i (r := ((s.cl i).1, (s.cl i).2 ||| m)) (q := ((z.cl i).1, (s.cl i).2 ||| m)) (vw_mk rfl fun hv => ?_) with sh := ?_ }
          · by_cases hq2 : (s.cl i).2.testBit p = true
            · exact vw_val hcl hq2
            · apply hval
              rw [lessN_bit m hq p hp32]
              rw [Nat.testBit_or] at hv
              simp_all
          · rw [List.map_append, List.map_append, h.sh]
            congr 1
            simp only [List.map_cons, List.map_nil, vs3]
            by_cases hb : (lessN m (s.cl i).2).testBit p = true
            · rw [hval hb]
            · rw [if_neg hb, if_neg hb]
        · right
          simp only [Classical.not_imp] at hval
          have hlen : s.sh.length = z.sh.length := by have := congrArg List.length h.sh; simpa using this
          refine ⟨s.sh.length, (i, lessN m (s.cl i).2, (s.cl i).1), (i, lessN m (s.cl i).2, (z.cl i).1), ?_, ?_, rfl, rfl, hval.1, hval.2, ?_⟩
          · simp
          · simp [hlen]
          · simp only [List.take_left]
            rw [hlen, List.take_left]
            exact h.sh
    · exact .inl (h.fail _)
  rw [if_neg h22, if_neg h22]
  by_cases h23 : c.op = 23
  · rw [if_pos h23, if_pos h23]
    left
    exact (h.setR _ (vw_mk rfl fun hv => by rw [hV.zero] at hv; cases hv)).dice _ _
  rw [if_neg h23, if_neg h23]
  by_cases h24 : c.op = 24
  · rw [if_pos h24, if_pos h24]
    left
    unfold shufV
    refine (h.dice _ _).puts hV.zero _ ?_
    rw [shufN_length, shufN_length]
    simp [h.len]
  rw [if_neg h24, if_neg h24]
  left
  refine h.setR _ (vw_mk (by rw [vw_lab (h.rg c.b), vw_lab (h.rg c.c)]) fun hv => ?_)
  obtain ⟨hb, hc⟩ := hV.and_ _ _ hv
  rw [vw_val (h.rg c.b) hb, vw_val (h.rg c.c) hc]
section
variable {comp : Nat → Int → Int → Int} {code : List Cd} {mv mw : List Int} {tk al N : Nat} {v : Nat → Bool}
theorem step_rel (hV : Vis2 al v) (hrev : (∃ p, p < 32 ∧ v = fun m => m.testBit p) ∨ ∀ c ∈ code, c.op ≠ 22) (hP : POk comp ⟨code, mv, tk, al⟩ N)
    (hmv : ∀ c ∈ code, c.op = 21 → v (aloneN c.n) = true → mv.getD c.n.toNat 0 = mw.getD c.n.toNat 0) {s z : VS} (h : RelV v s z) (hl : LOk s N) (hi : s.nx < code.length) :
    RelV v (stepV comp ⟨code, mv, tk, al⟩ s) (stepV comp ⟨code, mw, tk, al⟩ z) ∨ Apart v (stepV comp ⟨code, mv, tk, al⟩ s) (stepV comp ⟨code, mw, tk, al⟩ z) := by
  have hmem := List.getElem_mem hi
  have e1 : codeAt ⟨code, mv, tk, al⟩ s.nx = code[s.nx] := codeAt_in _ hi
  have e2 : codeAt ⟨code, mw, tk, al⟩ z.nx = code[s.nx] := by rw [← h.nx]; exact codeAt_in ⟨code, mw, tk, al⟩ hi
  have hc := hP.code _ hmem
  unfold stepV
  rw [e1, e2, ← h.nx, ← h.u]
  have h1 : RelV v { s with nx := s.nx + 1, u := s.u + 1 } { z with nx := s.nx + 1, u := s.u + 1 } := { h with nx := rfl, u := rfl }
  refine follow_rel2 hV code[s.nx] (fun h22 => ?_) (by have := hc.1.hm; omega) (hmv _ hmem) h1 hl.okL hl.okR
  rcases hrev with h | h
  · exact h
  · exact absurd h22 (h _ hmem)
theorem run_rel (hV : Vis2 al v) (hrev : (∃ p, p < 32 ∧ v = fun m => m.testBit p) ∨ ∀ c ∈ code, c.op ≠ 22) (hP : POk comp ⟨code, mv, tk, al⟩ N)
    (hmv : ∀ c ∈ code, c.op = 21 → v (aloneN c.n) = true → mv.getD c.n.toNat 0 = mw.getD c.n.toNat 0) : ∀ (k : Nat) {s z : VS}, RelV v s z → LOk s N →
    RelV v (runV comp ⟨code, mv, tk, al⟩ k s) (runV comp ⟨code, mw, tk, al⟩ k z) ∨ Apart v (runV comp ⟨code, mv, tk, al⟩ k s) (runV comp ⟨code, mw, tk, al⟩ k z)
  | 0, _, _, h, _ => .inl h
  | k + 1, s, z, h, hl => by
    unfold runV
    rw [← h.nx, ← h.e, ← h.u]
    by_cases h1 : s.nx < code.length ∧ s.e = 0
    · rw [if_pos h1, if_pos h1]
      by_cases h2 : s.u = 400
      · rw [if_pos h2, if_pos h2]; exact .inl (h.fail 9)
      · rw [if_neg h2, if_neg h2]
        have hc := hP.code _ (List.getElem_mem h1.1)
        have hl1 : LOk (stepV comp ⟨code, mv, tk, al⟩ s) N := by
          unfold stepV
          rw [codeAt_in ⟨code, mv, tk, al⟩ h1.1]
          exact follow_ok comp _ hP (s := { s with nx := s.nx + 1, u := s.u + 1 }) { hl with } hc.1 hc.2
        rcases step_rel hV hrev hP hmv h hl h1.1 with h3 | h3
        · exact run_rel hV hrev hP hmv k h3 hl1
        · obtain ⟨m1, g1⟩ := run_sh comp ⟨code, mv, tk, al⟩ k (stepV comp ⟨code, mv, tk, al⟩ s)
          obtain ⟨m2, g2⟩ := run_sh comp ⟨code, mw, tk, al⟩ k (stepV comp ⟨code, mw, tk, al⟩ z)
          exact .inr (h3.grow g1 g2)
    · rw [if_neg h1, if_neg h1]; exact .inl h
theorem start_ok {P : VP} {L : List (Int × Nat)} (d : Nat) (hL : okC L) (hal : P.al < 4294967296) : LOk (startV P L d) L.length :=
  ⟨rfl, rfl, hL, fun c hc => by rw [List.eq_of_mem_replicate hc]; exact ⟨⟨by show (-2147483648 : Int) ≤ 0; omega, by show (0 : Int) ≤ 2147483647; omega⟩, hal⟩, Nat.two_pow_pos _⟩
/-- Two whole runs. -/
theorem whole_rel (hV : Vis2 al v) (hrev : (∃ p, p < 32 ∧ v = fun m => m.testBit p) ∨ ∀ c ∈ code, c.op ≠ 22) (hcf : CompFit comp) (hal : al < 4294967296) (hmvf : ∀ x ∈ mv, -2147483648 ≤ x ∧ x ≤ 2147483647) (hok : okK code)
    (hmv : ∀ c ∈ code, c.op = 21 → v (aloneN c.n) = true → mv.getD c.n.toNat 0 = mw.getD c.n.toNat 0) (hmm : mv.length = mw.length) {L M : List (Int × Nat)} (hL : okC L) (h : L.map (vw v) = M.map (vw v)) (d d' : Nat) :
    RelV v (wholeV comp ⟨code, mv, tk, al⟩ L d) (wholeV comp ⟨code, mw, tk, al⟩ M d') ∨ Apart v (wholeV comp ⟨code, mv, tk, al⟩ L d) (wholeV comp ⟨code, mw, tk, al⟩ M d') := by
  have hlen : L.length = M.length := by have := congrArg List.length h; simpa using this
  have hS : RelV v (startV ⟨code, mv, tk, al⟩ L d) (startV ⟨code, mw, tk, al⟩ M d') := ⟨h, rfl, rfl, rfl, rfl, rfl, rfl⟩
  by_cases hck : (checkV code L.length mv.length).2 = true
  · have hcp := check_parts hck
    have hP : POk comp ⟨code, mv, tk, al⟩ L.length := ⟨hcf, hal, hmvf, hcp.1, fun c hc => ⟨hok c hc, hcp.2 c hc⟩⟩
    have hr := run_rel (mw := mw) hV hrev hP hmv 402 hS (start_ok d hL hal)
    have e1 : wholeV comp ⟨code, mv, tk, al⟩ L d = endV L d (runV comp ⟨code, mv, tk, al⟩ 402 (startV ⟨code, mv, tk, al⟩ L d)) := if_pos hck
    have e2 : wholeV comp ⟨code, mw, tk, al⟩ M d' = endV M d' (runV comp ⟨code, mw, tk, al⟩ 402 (startV ⟨code, mw, tk, al⟩ M d')) := if_pos (by show (checkV code M.length mw.length).2 = true; rw [← hlen, ← hmm]; exact hck)
    rw [e1, e2]
    rcases hr with hr | hr
    · left
      unfold endV
      rw [← hr.e]
      by_cases he : (runV comp ⟨code, mv, tk, al⟩ 402 (startV ⟨code, mv, tk, al⟩ L d)).e = 0
      · rw [if_pos he, if_pos he]; exact hr
      · rw [if_neg he, if_neg he]; exact ⟨h, hr.R, rfl, hr.u, by first | rfl | exact hr.e, hr.nx, hr.sh⟩
    · right
      refine hr.grow (m := []) (m' := []) ?_ ?_
      · unfold endV; split <;> simp
      · unfold endV; split <;> simp
  · have e1 : wholeV comp ⟨code, mv, tk, al⟩ L d = { startV ⟨code, mv, tk, al⟩ L d with e := 2 } := if_neg hck
    have e2 : wholeV comp ⟨code, mw, tk, al⟩ M d' = { startV ⟨code, mw, tk, al⟩ M d' with e := 2 } := if_neg (by show ¬ (checkV code M.length mw.length).2 = true; rw [← hlen, ← hmm]; exact hck)
    rw [e1, e2]
    exact .inl { hS with e := rfl }
end
/-- The views of a run: who sees by the mask's bit. -/
theorem vis_bit {al p : Nat} (hp : p < 32) (hb : al.testBit p = true) : Vis2 al (fun m => m.testBit p) :=
  ⟨fun a b h => by simp only [Nat.testBit_and, Bool.and_eq_true] at h; exact h, fun r hr h => by
    have h1 := lessN_bit al hr p hp
    rw [h, Nat.zero_testBit, hb] at h1
    simpa using h1.symm, Nat.zero_testBit p⟩
/-- Who sees what all see. -/
theorem vis_all {al : Nat} (hal : al < 4294967296) (h0 : al ≠ 0) : Vis2 al (fun m => decide (m < 4294967296 ∧ lessN al m = 0) || decide (4294967296 ≤ m)) := by
  have hbit : ∀ m, m < 4294967296 → (lessN al m = 0 ↔ ∀ i, i < 32 → al.testBit i = true → m.testBit i = true) := fun m hm => by
    constructor
    · intro h i hi hb
      have h1 := lessN_bit al hm i hi
      rw [h, Nat.zero_testBit, hb] at h1
      simpa using h1.symm
    · intro h
      refine ext32 (lessN_lt _ hal) (by omega) fun i hi => ?_
      rw [lessN_bit al hm i hi, Nat.zero_testBit]
      cases hb : al.testBit i with
      | false => rfl
      | true => rw [h i hi hb]; rfl
  refine ⟨fun a b h => ?_, fun r hr h => by simp [hr, h], ?_⟩
  · simp only [Bool.or_eq_true, decide_eq_true_eq] at h ⊢
    rcases h with ⟨h1, h2⟩ | h1
    · have hb := (hbit _ h1).1 h2
      constructor
      · by_cases ha : a < 4294967296
        · exact .inl ⟨ha, (hbit a ha).2 fun i hi hx => by have := hb i hi hx; rw [Nat.testBit_and, Bool.and_eq_true] at this; exact this.1⟩
        · exact .inr (by omega)
      · by_cases ha : b < 4294967296
        · exact .inl ⟨ha, (hbit b ha).2 fun i hi hx => by have := hb i hi hx; rw [Nat.testBit_and, Bool.and_eq_true] at this; exact this.2⟩
        · exact .inr (by omega)
    · have ha := Nat.and_le_left (n := a) (m := b)
      have hb := Nat.and_le_right (n := a) (m := b)
      exact ⟨.inr (by omega), .inr (by omega)⟩
  · have h1 : ¬ lessN al 0 = 0 := by
      unfold lessN
      intro h
      apply h0
      have h2 : al &&& 4294967295 = al := by
        rw [show (4294967295 : Nat) = 2 ^ 32 - 1 by rfl, Nat.and_two_pow_sub_one_eq_mod]
        omega
      rw [← h2]
      exact h
    simp [h1]
end Go.Proofs.YtpgnihfjccpneaaDoor
