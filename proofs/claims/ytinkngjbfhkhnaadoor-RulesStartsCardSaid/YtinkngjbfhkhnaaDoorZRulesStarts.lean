/- RulesStarts: the walk. Conditions: the numbers fit; the table lies. -/
import Derived.Test.YtinkngjbfhkhnaaDoorZRuBase08
namespace Go.Proofs.YtinkngjbfhkhnaaDoor
open Go.RowKit
set_option linter.unusedVariables false

theorem right_cells48 {g : Gm} (h : rightB g = true) : g.L.length ≤ 48 := by
  have h4 := (right_parts h).2.2.2.1
  unfold rcB at h4
  simp only [Bool.and_eq_true, decide_eq_true_eq] at h4
  exact h4.1
theorem GIn.mod1 {w w' : World} {g : Gm} {s : Gs} {X B : Nat} (h : GIn w g s) (hm : Mod (fun i => i = X) w w') (h1 : B ≤ s.b) (h2 : B ≤ s.b') (hX : X < B) : GIn w' g s :=
  ⟨h.sc.mod hm (by show ¬ s.b = X; omega), h.sk.mod hm (by show ¬ s.b' = X; omega)⟩
theorem yk_ldC {ops : Array Oper} {S : World → Prop} {op : Oper} {a : Act} (hw : Region.wanted op (yielded ops a.tmps) = true) (x : Operand) (ho : op.op = .load 23 x) (p : Addr) (v : Value) (hx : a.eval x = .pointer (some p)) (hS : ∀ w, S w → w.cell? p = some v) : YieldsIf Tryd.prog ops S op v a :=
  .inl ⟨hw, fun w h => by
    have hc := hS w h
    unfold execOp
    simp only [ho, hx]
    go_simp⟩
/-- A cell in a variable. -/
def CBox (w : World) (g : Nat) (x : Int) (y : Nat) : Prop := w.heap[g]? = some (.cells #[.int .i32 x, .int .u32 (y : Int)] 39 (0, 0))
namespace CBox
variable {w w' : World} {g : Nat} {x : Int} {y : Nat}
theorem lt (h : CBox w g x y) : g < w.heap.size := (Array.getElem?_eq_some_iff.1 h).1
theorem ext (h : CBox w g x y) (hb : Below w.heap.size w w') : CBox w' g x y := (hb.block g h.lt).trans h
theorem mod {S : Nat → Prop} (h : CBox w g x y) (hm : Mod S w w') (hs : ¬ S g) : CBox w' g x y := (hm.block g h.lt hs).trans h
theorem new_ (w : World) (x : Int) (y : Nat) : CBox (w.alloc (.cells #[.int .i32 x, .int .u32 (y : Int)] 39)) w.heap.size x y := heap_alloc_new w _
theorem c0 (h : CBox w g x y) : w.cell? ⟨g, 0, none⟩ = some (.int .i32 x) := by rw [cell_of_row w g _ _ _ _ h]; rfl
theorem c1 (h : CBox w g x y) : w.cell? ⟨g, 1, none⟩ = some (.int .u32 (y : Int)) := by rw [cell_of_row w g _ _ _ _ h]; rfl
theorem free (h : CBox w g x y) (j : Nat) : w.frozen? ⟨g, j, none⟩ = false := frozen_of_row w g j _ _ h
theorem set0 (h : CBox w g x y) (z : Int) : CBox (w.setCell ⟨g, 0, none⟩ (.int .i32 z)) g z y := by
  unfold CBox
  rw [heap_setCell_same w g 0 _ _ _ h]
  rfl
end CBox
set_option maxHeartbeats 8000000 in
set_option maxRecDepth 20000 in
theorem RulesStarts_walk (g0 : Gm) (s0 : Gs) (sd : Nat) (HA : Option Addr) (H : List Int) (hn hcp hbk : Nat) (w : World) (hT : CTab w) (hr0 : GRaw g0 s0) (hi0 : GIn w g0 s0) (hsd : sd ≤ 18446744073709551615) (hH : Is w hbk HA H) (hl : H.length = hn) (hm : hn ≤ maxLen) (hcn : hn ≤ hcp) (hoH : ∀ x ∈ H, -2147483648 ≤ x ∧ x ≤ 2147483647) :
    Calls Tryd.prog 8 #[.agg (gmA g0 s0), .int .u64 (sd : Int), .slice HA hn hcp] w fun e w' => e = .returned (.bool true) ∧ Below w.heap.size w w' := by
  subst hl
  have hb := below_alloc1 w (.cells (gmA g0 s0) 26)
  have hG := GBox.new_ w g0 s0
  have hi := hi0.ext hb
  have hH1 := Sl.ext hH hb
  have hA := awake_calls _ (hT.ext hb)
  have HBW : Hid (hbk ≠ w.heap.size ∨ H = []) := Lib.hid (by
    by_cases h0 : H = []
    · exact Or.inr h0
    · left
      have := Sl.lt hH (by intro h; exact h0 (by cases H with | nil => rfl | cons x l => simp [iv] at h))
      omega)
  clear hi0 hH
  go_enter Tryd.func8, Tryd.ntmps8
  go_wp2_with fail
  refine hA.mono ?_
  rintro e w1 ⟨rfl, h1⟩
  replace hG := hG.ext h1
  replace hi := hi.ext h1
  replace hH1 := Sl.ext hH1 h1
  replace hb := hb.trans (h1.mono hb.size)
  have hw1s : w.heap.size < w1.heap.size := hG.lt
  clear hA h1
  have hF := FewG_calls g0 s0 w1 hi hr0
  have z0 := hG.c0
  have z1 := hG.c1
  have z2 := hG.c2
  have z3 := hG.c3
  have z4 := hG.c4
  have z5 := hG.c5
  go_wp2_with fail
  refine hF.mono ?_
  rintro e w2 ⟨s, rfl, hi2, hok, hsb, h1⟩
  obtain ⟨g, hg⟩ : ∃ g, g = fewG g0 := ⟨_, rfl⟩
  rw [← hg] at hi2 hok ⊢
  replace hG := hG.ext h1
  have hHlt : H ≠ [] → hbk < w.heap.size ∨ True := fun _ => Or.inr trivial
  replace hH1 := Sl.ext hH1 h1
  replace hb := hb.trans (h1.mono hb.size)
  clear hF h1 hg hi z0 z1 z2 z3 z4 z5 hHlt
  have z0 := hG.c0
  have z1 := hG.c1
  have z2 := hG.c2
  have z3 := hG.c3
  have z4 := hG.c4
  have z5 := hG.c5
  have hfz := hG.free
  go_upto_region 4 with fail
  obtain ⟨h9, m9⟩ := six_set6 (.int .i64 g.ob) (.int .i64 g.pl) (.int .u32 (g.mv : Int)) (.int .u32 (g.df : Int)) (.slice s.A g.L.length s.c) (.slice s.A' g.K.length s.c') hG
  obtain ⟨w3, hw3⟩ : ∃ w3, w3 = ((((((w2.setCell ⟨w.heap.size, 0, none⟩ (.int .i64 g.ob)).setCell ⟨w.heap.size, 1, none⟩ (.int .i64 g.pl)).setCell ⟨w.heap.size, 2, none⟩ (.int .u32 (g.mv : Int))).setCell ⟨w.heap.size, 3, none⟩ (.int .u32 (g.df : Int))).setCell ⟨w.heap.size, 4, none⟩ (.slice s.A g.L.length s.c)).setCell ⟨w.heap.size, 5, none⟩ (.slice s.A' g.K.length s.c')) := ⟨_, rfl⟩
  rw [← hw3] at h9 m9 ⊢
  have hb3 : Below w.heap.size w w3 := hb.trans (m9.below hb.size (fun i hi e => by have e : i = w.heap.size := e; omega))
  replace hi2 : GIn w3 g s := hi2.mod1 m9 hsb.1 hsb.2 hw1s
  have hHb : hbk ≠ w.heap.size ∨ H = [] := HBW.out
  replace hH1 : Is w3 hbk HA H := by
    rcases hHb with hne | rfl
    · exact hH1.mod m9 (by show ¬ hbk = w.heap.size; omega)
    · exact Sl.nil_ _ _ _
  have hG3 : GBox w3 w.heap.size g s := h9
  clear hw3 h9 m9 hG hb hfz z0 z1 z2 z3 z4 z5 hHb
  obtain ⟨R, hRr⟩ : ∃ R, R = rightB g := ⟨_, rfl⟩
  have HR := Lib.hid hRr
  have z0 := hG3.c0
  have z1 := hG3.c1
  have z2 := hG3.c2
  have z3 := hG3.c3
  have z4 := hG3.c4
  have z5 := hG3.c5
  cases R with
  | false =>
    have hS := Start_bad g s sd H HA hcp w3 hi2 hok (hT.ext hb3) hRr.symm
    clear hRr
    go_wp2_with fail
    refine hS.mono ?_
    rintro e w4 ⟨rfl, h1⟩
    replace hG3 := hG3.ext h1
    replace hi2 := hi2.ext h1
    replace hb3 := hb3.trans (h1.mono hb3.size)
    clear hS h1 z0 z1 z2 z3 z4 z5
    go_upto_region 5 with (first | ((with_reducible refine at_al 46 7 ?_); refine wpList_alS rfl rfl (some 7) rfl w4.heap.size rfl ?_) | ((with_reducible refine at_st 46 7 24 ?_); refine wpList_stS rfl (.tmp 7) (.tmp 24) rfl w4.heap.size zSt rfl rfl zSt (BoxS.new_ _ _) ?_))
    rw [made_row]
    have h1 := below_alloc1 w4 (.cells (stA zSt) 46)
    replace hG3 := hG3.ext h1
    replace hi2 := hi2.ext h1
    replace hb3 := hb3.trans (h1.mono hb3.size)
    obtain ⟨w5, hw5⟩ : ∃ w5, w5 = w4.alloc (.cells (stA zSt) 46) := ⟨_, rfl⟩
    rw [← hw5] at hG3 hi2 hb3 ⊢
    clear hw5 h1
    have hR := GRight_calls g s w5 hi2 hok (hT.ext hb3)
    rw [← HR.out] at hR
    have z0 := hG3.c0
    have z1 := hG3.c1
    have z2 := hG3.c2
    have z3 := hG3.c3
    have z4 := hG3.c4
    have z5 := hG3.c5
    go_wp2_with fail
    refine hR.mono ?_
    rintro e w6 ⟨rfl, h1⟩
    have hb := hb3.trans (h1.mono hb3.size)
    clear hR h1 z0 z1 z2 z3 z4 z5 hb3
    go_wp2_with fail
    go_ret
    exact ⟨rfl, hb⟩
  | true =>
    have hS := Start_good g s sd H HA hcp w3 hi2 hok (hT.ext hb3) hbk hH1 hm hoH hRr.symm
    have h48 := (right_cells48 hRr.symm)
    clear hRr
    obtain ⟨C, hC⟩ : ∃ C, C = startC g H := ⟨_, rfl⟩
    rw [← hC] at hS
    have HC := Lib.hid hC
    clear hC
    go_wp2_with fail
    refine hS.mono ?_
    rintro e w4 ⟨rfl, h1⟩
    replace hG3 := hG3.ext h1
    replace hi2 := hi2.ext h1
    replace hH1 := Sl.ext hH1 h1
    replace hb3 := hb3.trans (h1.mono hb3.size)
    clear hS h1 z0 z1 z2 z3 z4 z5
    go_upto_region 5 with (first | ((with_reducible refine at_al 46 7 ?_); refine wpList_alS rfl rfl (some 7) rfl w4.heap.size rfl ?_) | ((with_reducible refine at_st 46 7 24 ?_); refine wpList_stS rfl (.tmp 7) (.tmp 24) rfl w4.heap.size ⟨C, sd, 0⟩ rfl rfl zSt (BoxS.new_ _ _) ?_))
    rw [made_row]
    have h1 := below_alloc1 w4 (.cells (stA ⟨C, sd, 0⟩) 46)
    have hx := BoxS.new_ w4 ⟨C, sd, 0⟩
    replace hG3 := hG3.ext h1
    replace hi2 := hi2.ext h1
    replace hH1 := Sl.ext hH1 h1
    replace hb3 := hb3.trans (h1.mono hb3.size)
    obtain ⟨Y, hY⟩ : ∃ Y, Y = w4.heap.size := ⟨_, rfl⟩
    obtain ⟨w5, hw5⟩ : ∃ w5, w5 = w4.alloc (.cells (stA ⟨C, sd, 0⟩) 46) := ⟨_, rfl⟩
    rw [← hw5] at hx hG3 hi2 hH1 hb3 ⊢
    rw [← hY] at hx ⊢
    clear hw5 h1 hY
    have hsc := hi2.sc
    have z4 := hG3.c4
    clear hi2
    go_wp2_with fail
    obtain ⟨n, hn⟩ : ∃ n, n = g.L.length := ⟨_, rfl⟩
    have HN := Lib.hid hn
    have hCl : C.length = n := by rw [HC.out, hn]; simp [startC]
    have hws := hb3.size
    rw [← hn]
    rw [← hn] at z4
    clear hn
    go_loopw [9, 10, 11, 12, 13, 14, 34] (fun c _ _ _ _ _ i wr => ∃ k : Nat, k ≤ n ∧ i = .int .i64 k ∧ c = .int .i64 ((cntZ g.L k : Nat) : Int) ∧ Below w5.heap.size w5 wr) (fun _ _ _ _ _ _ i _ => n - (intOf i).toNat)
    case atStart => exact ⟨0, Nat.zero_le _, rfl, by rw [cntZ_zero]; rfl, Below.refl _ _⟩
    case round =>
      obtain ⟨k, hk, rfl, rfl, hb⟩ := hrel
      by_cases hlt : k < n
      · have hkL : k < g.L.length := by rw [← HN.out]; exact hlt
        have hkC : k < C.length := by omega
        have hc1' := Lib.hid (cntZ_succ hkL)
        have hAt := fun W => At_in C k W (by rw [hCl]; rw [HN.out]; exact h48) hkC
        have hCk : C[k] = stAt g.L H g.L[k] k := by
          have h1 := stK_got (H := H) hkL hkL
          have h2 : C[k]? = some (stAt g.L H g.L[k] k) := by rw [HC.out, startC, List.getElem?_eq_getElem (by simpa using hkL), h1]
          rw [List.getElem?_eq_getElem hkC] at h2
          exact Option.some.inj h2
        rw [hCk] at hAt
        clear hCk
        obtain ⟨off, hof, hce⟩ := (Sl.ext hsc hb) (by intro h0; have h1 := congrArg List.length h0; rw [cv_length, List.length_nil] at h1; omega)
        have hc0 := hce (k * 2) _ (cv_val hkL)
        have hc1 := hce (k * 2 + 1) _ (cv_lab hkL)
        rw [← Nat.add_assoc] at hc1
        have r2 := hx.ext hb
        have hH2 := Sl.ext hH1 hb
        obtain ⟨⟨x, y⟩, hxy⟩ : ∃ q, q = g.L[k] := ⟨_, rfl⟩
        obtain ⟨cn, hcn⟩ : ∃ m, m = cntZ g.L k := ⟨_, rfl⟩
        rw [← hxy] at hc0 hc1 hAt hc1'
        have hcb := cntZ_le g.L k
        rw [← hcn] at hc1' hcb
        rw [← hcn]
        simp only [stAt] at hAt
        rw [← hcn] at hAt
        simp only at hc0 hc1 hAt hc1'
        clear hxy hcn hce
        rw [hof]
        have ej : (k : Int) < (n : Int) := by omega
        have hb2 := hb.alloc hb.size (.cells #[.int .i32 x, .int .u32 (y : Int)] 39)
        have r2 := r2.ext (below_alloc1 wr (.cells #[.int .i32 x, .int .u32 (y : Int)] 39))
        have hH2 := Sl.ext hH2 (below_alloc1 wr (.cells #[.int .i32 x, .int .u32 (y : Int)] 39))
        go_wp2_with (first | ((with_reducible refine at_ld 42 40 ?_); refine wpList_ldSB (by first | rfl | simp [Region.wanted, yielded]) (.tmp 40) rfl Y rfl r2 ?_))
        refine (hAt _).mono ?_
        rintro e wa ⟨rfl, ha⟩
        obtain ⟨D, hD⟩ : ∃ D : Int × Nat, D = (if y = 0 ∧ cn < H.length then (H.getD cn 0, y) else (x, y)) := ⟨_, rfl⟩
        rw [← hD]
        obtain ⟨dx, dy⟩ := D
        simp only
        have hw1 := wr.heap.size
        have hb4 := hb2.trans (ha.mono hb2.size)
        have kk := Sl.ext (Sl.cell_new wr (x, y) 39) ha
        obtain ⟨zo, eo, hkc⟩ := (Sl.ext kk (below_alloc1 wa (.cells #[.int .i32 dx, .int .u32 (dy : Int)] 39))) (by intro h0; have h1 := congrArg List.length h0; rw [cv_length] at h1; simp at h1)
        obtain rfl : zo = 0 := by injection eo with eo; injection eo with _ eo; exact eo.symm
        have kc0 := hkc 0 _ rfl
        have kc1 := hkc 1 _ rfl
        simp only [Nat.zero_add] at kc0 kc1
        have hb5 := hb4.alloc hb4.size (.cells #[.int .i32 dx, .int .u32 (dy : Int)] 39)
        replace hH2 := Sl.ext (Sl.ext hH2 ha) (below_alloc1 wa (.cells #[.int .i32 dx, .int .u32 (dy : Int)] 39))
        have hlk : wr.heap.size < wa.heap.size := Nat.lt_of_lt_of_le (by rw [World.size_alloc]; omega) ha.size
        have hw0 : w5.heap.size ≤ wa.heap.size := hb4.size
        clear hw1 kk hkc eo ha hb2 hb4 hAt r2 hc0 hc1
        by_cases hc : y = 0 ∧ cn < H.length
        · rw [if_pos hc] at hD
          obtain ⟨y0, hcl⟩ := hc
          have hg : H.getD cn 0 = H[cn] := by simp [List.getD, hcl]
          rw [hg] at hD
          injection hD with d1 d2
          subst d2
          have e1 : ((dy : Int) == 0) = true := by simp; omega
          have e2 : (cn : Int) < (H.length : Int) := by omega
          rw [if_pos y0] at hc1'
          have hb6 := hb5.alloc hb5.size (.cells #[.int .i32 x, .int .u32 (dy : Int)] 39)
          obtain ⟨off', hof', hhe⟩ := (Sl.ext hH2 (below_alloc1 (wa.alloc (.cells #[.int .i32 dx, .int .u32 (dy : Int)] 39)) (.cells #[.int .i32 x, .int .u32 (dy : Int)] 39))) (by intro h0; have h1 := congrArg List.length h0; simp [iv] at h1; rw [h1] at hcl; simp at hcl)
          have hh := hhe cn (.int .i32 H[cn]) (by simp [iv, hcl])
          rw [← d1] at hh
          subst hof'
          clear hg d1 hhe y0 hcl
          have q1 : CBox ((wa.alloc (.cells #[.int .i32 dx, .int .u32 (dy : Int)] 39)).alloc (.cells #[.int .i32 x, .int .u32 (dy : Int)] 39)) wa.heap.size dx dy := (CBox.new_ wa dx dy).ext (below_alloc1 _ _)
          have q2 : CBox ((wa.alloc (.cells #[.int .i32 dx, .int .u32 (dy : Int)] 39)).alloc (.cells #[.int .i32 x, .int .u32 (dy : Int)] 39)) (wa.heap.size + 1) x dy := by
            have h := CBox.new_ (wa.alloc (.cells #[.int .i32 dx, .int .u32 (dy : Int)] 39)) x dy
            rw [World.size_alloc] at h
            exact h
          go_upto_region 15 with fail
          obtain ⟨w8, hw8⟩ : ∃ w8, w8 = ((wa.alloc (.cells #[.int .i32 dx, .int .u32 (dy : Int)] 39)).alloc (.cells #[.int .i32 x, .int .u32 (dy : Int)] 39)) := ⟨_, rfl⟩
          rw [← hw8] at q1 q2 hh hb6 ⊢
          clear hw8 kc0 kc1 hb5 hH2
          obtain ⟨T, hT2⟩ : ∃ T, T = wa.heap.size := ⟨_, rfl⟩
          rw [← hT2] at q1 q2 hlk hw0 ⊢
          clear hT2
          have z0 := q2.c0
          have zf := q2.free
          go_upto_region 16 with fail
          have p1 := q1.mod (Mod.setCell w8 ⟨T + 1, 0, none⟩ (.int .i32 dx)) (by show ¬ T = T + 1; omega)
          have p2 := q2.set0 dx
          have hb7 := hb6.trans ((Mod.setCell w8 ⟨T + 1, 0, none⟩ (.int .i32 dx)).below hb6.size (fun i hi e => by have e : i = T + 1 := e; omega))
          obtain ⟨w9, hw9⟩ : ∃ w9, w9 = w8.setCell ⟨T + 1, 0, none⟩ (.int .i32 dx) := ⟨_, rfl⟩
          rw [← hw9] at p1 p2 hb7 ⊢
          clear hw9 q1 q2 hb6 hh z0 zf
          have u0 := p1.c0
          have u1 := p1.c1
          have v0 := p2.c0
          have v1 := p2.c1
          go_wp2_with fail
          go_roundw
          case rel => exact ⟨k + 1, by omega, by go_num, by rw [hc1'.out]; go_num, hb7⟩
          case measure => simp [intOf]; omega
        · rw [if_neg hc] at hD
          injection hD with d1 d2
          subst d1; subst d2
          by_cases y0 : dy = 0
          · have hcl : ¬ cn < H.length := fun h => hc ⟨y0, h⟩
            rw [if_pos y0] at hc1'
            have e1 : ((dy : Int) == 0) = true := by simp; omega
            have e2 : ¬ (cn : Int) < (H.length : Int) := by omega
            clear hc hcl y0
            go_wp2_with fail
            go_roundw
            case rel => exact ⟨k + 1, by omega, by go_num, by rw [hc1'.out]; go_num, hb5.alloc hb5.size _⟩
            case measure => simp [intOf]; omega
          · have e1 : ((dy : Int) == 0) = false := by simp; omega
            rw [if_neg y0] at hc1'
            clear hc
            go_wp2_with fail
            go_roundw
            case rel => exact ⟨k + 1, by omega, by go_num, by rw [hc1'.out]; rfl, hb5.alloc hb5.size _⟩
            case measure => simp [intOf]; omega
      · have ej : ¬ (k : Int) < (n : Int) := by omega
        have r2 := hx.ext hb
        have hLn := fun W => Len_calls C W
        rw [hCl] at hLn
        have z5 : wr.cell? ⟨w.heap.size, 4, none⟩ = some (.slice s.A n s.c) := (World.cell?_of_block (hb.block w.heap.size hG3.lt)).trans z4
        have hwlt : w.heap.size < wr.heap.size := Nat.lt_of_lt_of_le hG3.lt hb.size
        have hbw := hb3.trans (hb.mono hws)
        clear hx hG3 z4 hsc hH1 hb hb3
        go_wp2_with fail
        refine wp_region_held_drew (S := fun w' => Below wr.heap.size wr w') (by kernel_rfl) ?_ (fun hHeld => ?_)
        · exact below_drew (Below.refl _ _)
        refine wpAnyH_take (i := 0) (by simp only [List.getElem?_toArray]; rfl) (by kernel_rfl) (by kernel_rfl) (by kernel_rfl) (by exact fun _ _ _ h => h) (by exact yk (.pointer (some ⟨Y, 98, none⟩)) (by kernel_rfl) (fun _ => by kernel_rfl)) hHeld ?_
        refine wpAnyH_take (i := 1) (by simp only [List.getElem?_toArray]; rfl) (by kernel_rfl) (by kernel_rfl) (by kernel_rfl) (by exact fun _ _ _ h => h) (by exact yk_ldW (by kernel_rfl) (.tmp 65) rfl ⟨Y, 98, none⟩ (.int .u32 0) (by kernel_rfl) (fun _ h => (r2.ext h).cK)) hHeld ?_
        refine wpAnyH_take (i := 2) (by simp only [List.getElem?_toArray]; rfl) (by kernel_rfl) (by kernel_rfl) (by kernel_rfl) (by exact fun _ _ _ h => h) (by exact yk_eq (by kernel_rfl) .u32 22 (.tmp 66) (.const (.int .u32 0)) _ rfl 0 0 (by kernel_rfl) (by kernel_rfl) true rfl) hHeld ?_
        refine wpAnyH_take (i := 3) (by simp only [List.getElem?_toArray]; rfl) (by kernel_rfl) (by kernel_rfl) (by kernel_rfl) (by exact fun _ _ _ h => h) (by exact yk ((.bool true)) (by kernel_rfl) (fun _ => by kernel_rfl)) hHeld ?_
        refine wpAnyH_take (i := 4) (by simp only [List.getElem?_toArray]; rfl) (by kernel_rfl) (by kernel_rfl) (by kernel_rfl) (by exact fun _ _ _ h => h) (by exact yk (.pointer (some ⟨Y, 97, none⟩)) (by kernel_rfl) (fun _ => by kernel_rfl)) hHeld ?_
        refine wpAnyH_take (i := 5) (by simp only [List.getElem?_toArray]; rfl) (by kernel_rfl) (by kernel_rfl) (by kernel_rfl) (by exact fun _ _ _ h => h) (by exact yk (.pointer (some ⟨Y, 97, none⟩)) (by kernel_rfl) (fun _ => by kernel_rfl)) hHeld ?_
        refine wpAnyH_take (i := 6) (by simp only [List.getElem?_toArray]; rfl) (by kernel_rfl) (by kernel_rfl) (by kernel_rfl) (by exact fun _ _ _ h => h) (by exact yk_ldU (by kernel_rfl) (.tmp 70) rfl ⟨Y, 97, none⟩ (.int .u64 (sd : Int)) (by kernel_rfl) (fun _ h => (r2.ext h).cD)) hHeld ?_
        refine wpAnyH_take (i := 7) (by simp only [List.getElem?_toArray]; rfl) (by kernel_rfl) (by kernel_rfl) (by kernel_rfl) (by exact fun _ _ _ h => h) (by exact yk (.int .u64 (sd : Int)) (by kernel_rfl) (fun _ => by kernel_rfl)) hHeld ?_
        refine wpAnyH_take (i := 8) (by simp only [List.getElem?_toArray]; rfl) (by kernel_rfl) (by kernel_rfl) (by kernel_rfl) (by exact fun _ _ _ h => h) (by exact yk_eq (by kernel_rfl) .u64 27 (.tmp 71) (.tmp 72) _ rfl (sd : Int) (sd : Int) (by kernel_rfl) (by kernel_rfl) true (by simp)) hHeld ?_
        refine wpAnyH_take (i := 9) (by simp only [List.getElem?_toArray]; rfl) (by kernel_rfl) (by kernel_rfl) (by kernel_rfl) (by exact fun _ _ _ h => h) (by exact yk ((.bool true)) (by kernel_rfl) (fun _ => by kernel_rfl)) hHeld ?_
        refine wpAnyH_take (i := 10) (by simp only [List.getElem?_toArray]; rfl) (by kernel_rfl) (by kernel_rfl) (by kernel_rfl) (by exact fun _ _ _ h => h) (by exact yk ((.bool true)) (by kernel_rfl) (fun _ => by kernel_rfl)) hHeld ?_
        refine wpAnyH_take (i := 11) (by simp only [List.getElem?_toArray]; rfl) (by kernel_rfl) (by kernel_rfl) (by kernel_rfl) (by exact fun _ _ _ h => h) (by exact yk (.pointer (some ⟨Y, 0, none⟩)) (by kernel_rfl) (fun _ => by kernel_rfl)) hHeld ?_
        refine wpAnyH_take (i := 12) (by simp only [List.getElem?_toArray]; rfl) (by kernel_rfl) (by kernel_rfl) (by kernel_rfl) (by exact fun _ _ _ h => h) (by exact yieldsIf_ldSB (by kernel_rfl) (.tmp 76) rfl Y (by kernel_rfl) (fun _ h => r2.ext h)) hHeld ?_
        refine wpAnyH_take (i := 14) (by simp only [List.getElem?_toArray]; rfl) (by kernel_rfl) (by kernel_rfl) (by kernel_rfl) (by exact fun _ _ _ h => h) (by exact yk (.pointer (some ⟨w.heap.size, 4, none⟩)) (by kernel_rfl) (fun _ => by kernel_rfl)) hHeld ?_
        refine wpAnyH_take (i := 15) (by simp only [List.getElem?_toArray]; rfl) (by kernel_rfl) (by kernel_rfl) (by kernel_rfl) (by exact fun _ _ _ h => h) (by exact yk_ldC (by kernel_rfl) (.tmp 79) rfl ⟨w.heap.size, 4, none⟩ (.slice s.A n s.c) (by kernel_rfl) (fun _ h => (World.cell?_of_block (h.block w.heap.size hwlt)).trans z5)) hHeld ?_
        refine wpAnyH_take (i := 16) (by simp only [List.getElem?_toArray]; rfl) (by kernel_rfl) (by kernel_rfl) (by kernel_rfl) (by exact fun _ _ _ h => h) (by exact yk (.int .i64 (n : Int)) (by kernel_rfl) (fun _ => by kernel_rfl)) hHeld ?_
        refine wpAnyH_ready (rs := [13]) (by kernel_rfl) (by simp) ?_
        refine AllReadyH.cons (by simp only [List.getElem?_toArray]; rfl) (fun KK hKK => ?_) AllReadyH.nil
        rw [if_pos (by kernel_rfl)]
        refine wp_callF 40 #[.agg (bdL C)] (by kernel_rfl) ?_
        refine (hLn _).mono ?_
        rintro e wa ⟨rfl, ha⟩
        have ha := below_undrew2 ha
        refine ⟨_, rfl, ?_⟩
        refine hKK.out _ _ ?_ (fun hHeld => ?_)
        · exact ha
        clear hKK KK
        refine wpAnyH_take (i := 17) (by simp only [List.getElem?_toArray]; rfl) (by kernel_rfl) (by kernel_rfl) (by kernel_rfl) (by exact fun _ _ _ h => h) (by exact yk_eq (by kernel_rfl) .i64 3 (.tmp 78) (.tmp 81) _ rfl (n : Int) (n : Int) (by kernel_rfl) (by kernel_rfl) true (by simp)) hHeld ?_
        refine wpAnyH_take (i := 18) (by simp only [List.getElem?_toArray]; rfl) (by kernel_rfl) (by kernel_rfl) (by kernel_rfl) (by exact fun _ _ _ h => h) (by exact yk ((.bool true)) (by kernel_rfl) (fun _ => by kernel_rfl)) hHeld ?_
        refine wpAnyH_take (i := 19) (by simp only [List.getElem?_toArray]; rfl) (by kernel_rfl) (by kernel_rfl) (by kernel_rfl) (by exact fun _ _ _ h => h) (by exact yk ((.bool true)) (by kernel_rfl) (fun _ => by kernel_rfl)) hHeld ?_
        refine wpAnyH_done (by kernel_rfl) ?_ _
        try simp only [Act.put, List.setIfInBounds_toArray, List.set_cons_zero, List.set_cons_succ]
        go_wp2_with fail
        go_ret
        exact ⟨rfl, hbw.trans (ha.mono hbw.size)⟩
end Go.Proofs.YtinkngjbfhkhnaaDoor
