/- RulesDefaults: the walk. Conditions: the numbers fit; the table lies. -/
import Derived.Test.YtinkngjbfhkhnaaDoorZRuX
import Derived.Test.YtinkngjbfhkhnaaDoorZRuBase08
namespace Go.Proofs.YtinkngjbfhkhnaaDoor
open Go.RowKit
set_option linter.unusedVariables false

theorem wpList_eql_st {ops : Array Oper} {rest : List Oper} {o : Oper} {a : Act} {w : World} {Q : Exit → Act → World → Prop} (hw : Region.wanted o (yielded ops a.tmps) = true) (x y : Operand) (ho : o.op = .binOp .eql 46 x y 46) (s : St) (hx : a.eval x = .agg (stA s)) (hy : a.eval y = .agg (stA s))
    (h : wpList Tryd.prog ops Q rest (a.put o.dst (.bool true)) w) : wpList Tryd.prog ops Q (o :: rest) a w :=
  BigFrame.wpList_want hw fun K hK => by
    unfold Oper.wp
    simp only [execOp, ho, hx, hy, Sem.run_bind, st_guard, Result.andThen_ok, run_eql_st w s, Sem.run_pure]
    exact hK _ _ h
theorem ob_t {w : World} {k t e : Nat} {sh : Value} (h : OBox w k t sh e) : w.cell? ⟨k, 0, none⟩ = some (.int .u64 (t : Int)) := by rw [cell_of_row w k _ _ _ _ h]; rfl
theorem ob_e {w : World} {k t e : Nat} {sh : Value} (h : OBox w k t sh e) : w.cell? ⟨k, 2, none⟩ = some (.int .i64 (e : Int)) := by rw [cell_of_row w k _ _ _ _ h]; rfl
set_option maxHeartbeats 16000000 in
set_option maxRecDepth 20000 in
theorem RulesDefaults_walk (g0 : Gm) (s0 : Gs) (sd : Nat) (MA : Option Addr) (M : List Nat) (mn mc mb : Nat) (NA : Option Addr) (N : List Nat) (nn nc nb : Nat) (w : World) (hT : CTab w) (hr0 : GRaw g0 s0) (hi0 : GIn w g0 s0) (hsd : sd ≤ 18446744073709551615) (hM0 : Sl w mb MA (ms M)) (hml : M.length = mn) (hmm : mn ≤ maxLen) (hmc : mn ≤ mc) (hfM : ∀ x ∈ M, x ≤ 4294967295) (hN0 : Sl w nb NA (ms N)) (hnl : N.length = nn) (hnm : nn * 4 ≤ 140737488351232) (hnc : nn ≤ nc) (hfN : ∀ x ∈ N, x ≤ 4294967295) :
    Calls Tryd.prog 9 #[.agg (gmA g0 s0), .int .u64 (sd : Int), .slice MA mn mc, .slice NA nn nc] w fun e w' => e = .returned (.bool true) ∧ Below w.heap.size w w' := by
  subst hml; subst hnl
  have hb := below_alloc1 w (.cells (gmA g0 s0) 26)
  have hG := GBox.new_ w g0 s0
  have hi := hi0.ext hb
  have hM1 := Sl.ext hM0 hb
  have hN1 := Sl.ext hN0 hb
  have hA := awake_calls _ (hT.ext hb)
  have HBM : Hid (mb ≠ w.heap.size ∨ M = []) := Lib.hid (by
    by_cases h0 : M = []
    · exact Or.inr h0
    · left
      have := Sl.lt hM0 (by intro h; exact h0 (by cases M with | nil => rfl | cons x l => simp [ms] at h))
      omega)
  have HBN : Hid (nb ≠ w.heap.size ∨ N = []) := Lib.hid (by
    by_cases h0 : N = []
    · exact Or.inr h0
    · left
      have := Sl.lt hN0 (by intro h; exact h0 (by cases N with | nil => rfl | cons x l => simp [ms] at h))
      omega)
  clear hi0 hM0 hN0
  go_enter Tryd.func9, Tryd.ntmps9
  go_wp2_with fail
  refine hA.mono ?_
  rintro e w1 ⟨rfl, h1⟩
  replace hG := hG.ext h1
  replace hi := hi.ext h1
  replace hM1 := Sl.ext hM1 h1
  replace hN1 := Sl.ext hN1 h1
  replace hb := hb.trans (h1.mono hb.size)
  have hw1s : w.heap.size < w1.heap.size := hG.lt
  clear hA h1
  have hF := FewG_calls g0 s0 w1 hi hr0
  have z0 := hG.c0
  have z1 := hG.c1
  have z2 := hG.c2
  have z3 := hG.c3
  have z4 := hG.c4
  have z5 := hG.c5
  go_wp2_with fail
  refine hF.mono ?_
  rintro e w2 ⟨s, rfl, hi2, hok, hsb, h1⟩
  obtain ⟨g, hg⟩ : ∃ g, g = fewG g0 := ⟨_, rfl⟩
  rw [← hg] at hi2 hok ⊢
  replace hG := hG.ext h1
  replace hM1 := Sl.ext hM1 h1
  replace hN1 := Sl.ext hN1 h1
  replace hb := hb.trans (h1.mono hb.size)
  clear hF h1 hg hi z0 z1 z2 z3 z4 z5
  have z0 := hG.c0
  have z1 := hG.c1
  have z2 := hG.c2
  have z3 := hG.c3
  have z4 := hG.c4
  have z5 := hG.c5
  have hfz := hG.free
  go_upto_region 4 with fail
  obtain ⟨h9, m9⟩ := six_set6 (.int .i64 g.ob) (.int .i64 g.pl) (.int .u32 (g.mv : Int)) (.int .u32 (g.df : Int)) (.slice s.A g.L.length s.c) (.slice s.A' g.K.length s.c') hG
  obtain ⟨w3, hw3⟩ : ∃ w3, w3 = ((((((w2.setCell ⟨w.heap.size, 0, none⟩ (.int .i64 g.ob)).setCell ⟨w.heap.size, 1, none⟩ (.int .i64 g.pl)).setCell ⟨w.heap.size, 2, none⟩ (.int .u32 (g.mv : Int))).setCell ⟨w.heap.size, 3, none⟩ (.int .u32 (g.df : Int))).setCell ⟨w.heap.size, 4, none⟩ (.slice s.A g.L.length s.c)).setCell ⟨w.heap.size, 5, none⟩ (.slice s.A' g.K.length s.c')) := ⟨_, rfl⟩
  rw [← hw3] at h9 m9 ⊢
  have hb3 : Below w.heap.size w w3 := hb.trans (m9.below hb.size (fun i hi e => by have e : i = w.heap.size := e; omega))
  replace hi2 : GIn w3 g s := gin_mod1 hi2 m9 hsb.1 hsb.2 hw1s
  have hMb : mb ≠ w.heap.size ∨ M = [] := HBM.out
  have hNb : nb ≠ w.heap.size ∨ N = [] := HBN.out
  replace hM1 : Sl w3 mb MA (ms M) := by
    rcases hMb with hne | rfl
    · exact hM1.mod m9 (by show ¬ mb = w.heap.size; omega)
    · exact Sl.nil_ _ _ _
  replace hN1 : Sl w3 nb NA (ms N) := by
    rcases hNb with hne | rfl
    · exact hN1.mod m9 (by show ¬ nb = w.heap.size; omega)
    · exact Sl.nil_ _ _ _
  have hG3 : GBox w3 w.heap.size g s := h9
  clear hw3 h9 m9 hG hb hfz z0 z1 z2 z3 z4 z5 hMb hNb
  obtain ⟨R, hRr⟩ : ∃ R, R = rightB g := ⟨_, rfl⟩
  have HR := Lib.hid hRr
  have z0 := hG3.c0
  have z1 := hG3.c1
  have z2 := hG3.c2
  have z3 := hG3.c3
  have z4 := hG3.c4
  have z5 := hG3.c5
  cases R with
  | false =>
    have hS : Calls Tryd.prog 15 #[.agg (gmA g s), .int .u64 (sd : Int), .slice none 0 0] w3 _ := Start_bad g s sd [] none 0 w3 hi2 hok (hT.ext hb3) hRr.symm
    clear hRr
    go_wp2_with fail
    refine hS.mono ?_
    rintro e w4 ⟨rfl, h1⟩
    replace hb3 := hb3.trans (h1.mono hb3.size)
    clear hS h1 z0 z1 z2 z3 z4 z5
    go_upto_region 5 with (first | ((with_reducible refine at_al 46 9 ?_); refine wpList_alS rfl rfl (some 9) rfl w4.heap.size rfl ?_) | ((with_reducible refine at_st 46 9 29 ?_); refine wpList_stS rfl (.tmp 9) (.tmp 29) rfl w4.heap.size zSt rfl rfl zSt (BoxS.new_ _ _) ?_))
    rw [made_row]
    have h1 := below_alloc1 w4 (.cells (stA zSt) 46)
    replace hb3 := hb3.trans (h1.mono hb3.size)
    obtain ⟨w5, hw5⟩ : ∃ w5, w5 = w4.alloc (.cells (stA zSt) 46) := ⟨_, rfl⟩
    rw [← hw5] at hb3 ⊢
    clear hw5 h1
    go_wp2_with fail
    go_ret
    exact ⟨rfl, hb3⟩
  | true =>
    have hS : Calls Tryd.prog 15 #[.agg (gmA g s), .int .u64 (sd : Int), .slice none 0 0] w3 _ := Start_good g s sd [] none 0 w3 hi2 hok (hT.ext hb3) 0 (Sl.nil_ _ _ _) (by simp [maxLen]) (fun x hx => by cases hx) hRr.symm
    have h48 := (right48 hRr.symm)
    obtain ⟨hp1, hp2, hdf, hrc, -⟩ := right_parts hRr.symm
    clear hRr
    obtain ⟨C, hC⟩ : ∃ C, C = startC g [] := ⟨_, rfl⟩
    rw [← hC] at hS
    have HC := Lib.hid hC
    clear hC
    go_wp2_with fail
    refine hS.mono ?_
    rintro e w4 ⟨rfl, h1⟩
    replace hG3 := hG3.ext h1
    replace hi2 := hi2.ext h1
    replace hM1 := Sl.ext hM1 h1
    replace hN1 := Sl.ext hN1 h1
    replace hb3 := hb3.trans (h1.mono hb3.size)
    clear hS h1 z0 z1 z2 z3 z4 z5
    go_upto_region 5 with (first | ((with_reducible refine at_al 46 9 ?_); refine wpList_alS rfl rfl (some 9) rfl w4.heap.size rfl ?_) | ((with_reducible refine at_st 46 9 29 ?_); refine wpList_stS rfl (.tmp 9) (.tmp 29) rfl w4.heap.size ⟨C, sd, 0⟩ rfl rfl zSt (BoxS.new_ _ _) ?_))
    rw [made_row]
    have h1 := below_alloc1 w4 (.cells (stA ⟨C, sd, 0⟩) 46)
    have hx := BoxS.new_ w4 ⟨C, sd, 0⟩
    replace hG3 := hG3.ext h1
    replace hi2 := hi2.ext h1
    replace hM1 := Sl.ext hM1 h1
    replace hN1 := Sl.ext hN1 h1
    replace hb3 := hb3.trans (h1.mono hb3.size)
    obtain ⟨Y, hY⟩ : ∃ Y, Y = w4.heap.size := ⟨_, rfl⟩
    obtain ⟨w5, hw5⟩ : ∃ w5, w5 = w4.alloc (.cells (stA ⟨C, sd, 0⟩) 46) := ⟨_, rfl⟩
    rw [← hw5] at hx hG3 hi2 hM1 hN1 hb3 ⊢
    rw [← hY] at hx ⊢
    clear hw5 h1 hY
    obtain ⟨p, hp⟩ := Int.eq_ofNat_of_zero_le (show 0 ≤ g.pl by omega)
    have z1 := hG3.c1
    rw [hp] at z1
    have HP := Lib.hid (show g.pl.toNat = p by rw [hp]; rfl)
    have hp6 : 1 ≤ p ∧ p ≤ 6 := by omega
    have HPL := Lib.hid hp
    have HP1 := Lib.hid hp1
    have hws := hb3.size
    have hLe := fun (x : Nat) (W : World) (hx : x ≤ 4294967295) => Legal_calls g s x W hx hok.m1
    clear hp hp1 hp2
    go_wp2_with fail
    go_loopw [11, 12, 13, 35] (fun v _ _ i wr => ∃ k : Nat, k ≤ p ∧ i = .int .i64 k ∧ wr.ownsRow w5.heap.size 22 1 v k (ms ((wholeM g M).take k)) ∧ Below w5.heap.size w5 wr) (fun _ _ _ i _ => p - (intOf i).toNat)
    case atStart => exact ⟨0, Nat.zero_le _, rfl, World.ownsRow_nil _ _ _ _, Below.refl _ _⟩
    case round =>
      obtain ⟨k, hk, rfl, hrow, hbo⟩ := hrel
      by_cases hlt : k < p
      · have ej : (k : Int) < (p : Int) := by omega
        have hG9 := hG3.ext hbo
        have hM9 := Sl.ext hM1 hbo
        have q3 := hG9.c3
        have HNX : Hid ((wholeM g M).take (k + 1) = (wholeM g M).take k ++ [mvAt g M k]) := Lib.hid (by
          have hl : k < (wholeM g M).length := by unfold wholeM; rw [List.length_map, List.length_range, HP.out]; exact hlt
          rw [List.take_succ_eq_append_getElem hl]
          simp [wholeM])
        obtain ⟨v0, hv0⟩ : ∃ v0, v0 = u11 := ⟨_, rfl⟩
        rw [← hv0] at hrow ⊢
        clear hv0
        obtain ⟨wr0, hwr0⟩ : ∃ wr0, wr0 = wr := ⟨_, rfl⟩
        rw [← hwr0] at hrow hbo hG9 hM9 q3 ⊢
        clear hwr0
        have hbr := Below.refl wr0.heap.size wr0
        obtain ⟨z, hz⟩ : ∃ z : Nat, z = mvAt g M k := ⟨_, rfl⟩
        rw [← hz] at HNX
        have HZ := Lib.hid hz
        clear hz
        by_cases hkm : k < M.length
        · have ekm : (k : Int) < (M.length : Int) := by omega
          obtain ⟨off, rfl, hc⟩ := hM9 (by intro h0; have h5 := congrArg List.length h0; rw [ms_length, List.length_nil] at h5; omega)
          have hx0 := hc k _ (ms_get? (List.getElem?_eq_getElem hkm))
          have hfx := hfM _ (List.getElem_mem hkm)
          have hmv : z = if M[k] < g.mv then M[k] else g.df := by
            rw [HZ.out]
            unfold mvAt
            rw [show M.getD k 0 = M[k] by simp [List.getD, hkm]]
            by_cases h : M[k] < g.mv
            · rw [if_pos ⟨hkm, h⟩, if_pos h]
            · rw [if_neg (fun h2 => h h2.2), if_neg h]
          obtain ⟨x, hx'⟩ : ∃ x, x = M[k] := ⟨_, rfl⟩
          rw [← hx'] at hx0 hfx hmv
          have hLe := fun W => hLe x W hfx
          clear hx' hc HZ hM1
          by_cases hlm : x < g.mv
          · rw [if_pos hlm] at hmv
            rw [decide_eq_true hlm] at hLe
            obtain rfl : x = z := hmv.symm
            clear hlm hmv
            go_wp2_with fail
            refine wp_region_held_drew (S := fun w' => Below wr0.heap.size wr0 w') (by kernel_rfl) ?_ (fun hHeld => ?_)
            · exact (by repeat (first | exact Below.refl _ _ | refine below_drew ?_))
            refine wpAnyH_take (i := 0) (by simp only [List.getElem?_toArray]; rfl) (by kernel_rfl) (by kernel_rfl) (by kernel_rfl) (by exact fun _ _ _ h => h) (by exact yk (.int .i64 (k : Int)) (by kernel_rfl) (fun _ => by kernel_rfl)) hHeld ?_
            refine wpAnyH_take (i := 1) (by simp only [List.getElem?_toArray]; rfl) (by kernel_rfl) (by kernel_rfl) (by kernel_rfl) (by exact fun _ _ _ h => h) (by exact yk (.slice (some ⟨mb, off, none⟩) M.length mc) (by kernel_rfl) (fun _ => by kernel_rfl)) hHeld ?_
            refine wpAnyH_take (i := 2) (by simp only [List.getElem?_toArray]; rfl) (by kernel_rfl) (by kernel_rfl) (by kernel_rfl) (by exact fun _ _ _ h => h) (by exact yk (.int .i64 (M.length : Int)) (by kernel_rfl) (fun _ => by kernel_rfl)) hHeld ?_
            refine wpAnyH_take (i := 3) (by simp only [List.getElem?_toArray]; rfl) (by kernel_rfl) (by kernel_rfl) (by kernel_rfl) (by exact fun _ _ _ h => h) (by exact yk_lss (by kernel_rfl) (.tmp 40) (.tmp 42) rfl (k : Int) (M.length : Int) (by kernel_rfl) (by kernel_rfl) true (by simp; omega)) hHeld ?_
            refine wpAnyH_take (i := 4) (by simp only [List.getElem?_toArray]; rfl) (by kernel_rfl) (by kernel_rfl) (by kernel_rfl) (by exact fun _ _ _ h => h) (by exact yk (.bool true) (by kernel_rfl) (fun _ => by kernel_rfl)) hHeld ?_
            refine wpAnyH_take (i := 5) (by simp only [List.getElem?_toArray]; rfl) (by kernel_rfl) (by kernel_rfl) (by kernel_rfl) (by exact fun _ _ _ h => h) (by exact yk_ldG (by kernel_rfl) (.tmp 4) rfl w.heap.size g s (by kernel_rfl) (fun w h => hG9.ext h)) hHeld ?_
            refine wpAnyH_take (i := 6) (by simp only [List.getElem?_toArray]; rfl) (by kernel_rfl) (by kernel_rfl) (by kernel_rfl) (by exact fun _ _ _ h => h) (by exact yk (.slice (some ⟨mb, off, none⟩) M.length mc) (by kernel_rfl) (fun _ => by kernel_rfl)) hHeld ?_
            refine wpAnyH_take (i := 7) (by simp only [List.getElem?_toArray]; rfl) (by kernel_rfl) (by kernel_rfl) (by kernel_rfl) (by exact fun _ _ _ h => h) (by exact yk (.int .i64 (k : Int)) (by kernel_rfl) (fun _ => by kernel_rfl)) hHeld ?_
            refine wpAnyH_take (i := 8) (by simp only [List.getElem?_toArray]; rfl) (by kernel_rfl) (by kernel_rfl) (by kernel_rfl) (by exact fun _ _ _ h => h) (by exact yk_ixU (by kernel_rfl) (.tmp 46) (.tmp 47) rfl mb off M.length mc k (by kernel_rfl) (by kernel_rfl) ekm) hHeld ?_
            refine wpAnyH_take (i := 9) (by simp only [List.getElem?_toArray]; rfl) (by kernel_rfl) (by kernel_rfl) (by kernel_rfl) (by exact fun _ _ _ h => h) (by exact yk_ldW (by kernel_rfl) (.tmp 48) rfl ⟨mb, off + k, none⟩ (.int .u32 (x : Int)) (by kernel_rfl) (fun w h => sl_same h hx0)) hHeld ?_
            refine wpAnyH_ready (rs := [10]) (by kernel_rfl) (by simp) ?_
            refine AllReadyH.cons (by simp only [List.getElem?_toArray]; rfl) (fun KK hKK => ?_) AllReadyH.nil
            rw [if_pos (by kernel_rfl)]
            refine wp_callF 34 #[.agg (gmA g s), .int .u32 (x : Int)] (by kernel_rfl) ?_
            refine (hLe _).mono ?_
            rintro e wa ⟨rfl, ha⟩
            have ha := below_undrew2 ha
            refine ⟨_, rfl, ?_⟩
            have hbr := hbr.trans (ha.mono hbr.size)
            refine hKK.out _ _ ?_ (fun hHeld => ?_)
            · exact hbr
            clear hKK KK
            refine wpAnyH_take (i := 11) (by simp only [List.getElem?_toArray]; rfl) (by kernel_rfl) (by kernel_rfl) (by kernel_rfl) (by exact fun _ _ _ h => h) (by exact yk (.bool true) (by kernel_rfl) (fun _ => by kernel_rfl)) hHeld ?_
            refine wpAnyH_done (by kernel_rfl) ?_ _
            try simp only [Act.put, List.setIfInBounds_toArray, List.set_cons_zero, List.set_cons_succ]
            have hx0 := sl_same hbr hx0
            have hbW : Below wr0.heap.size wr0 wa := hbr
            have hrow1 := own_ext hrow hbW
            have hbo2 := hbo.trans (hbW.mono (by have := hbo.size; omega))
            obtain ⟨W, hW⟩ : ∃ W, W = wa := ⟨_, rfl⟩
            rw [← hW] at hrow1 hbo2 hx0 ⊢
            clear hW hrow hbr hbo hbW
            have hs1 : Sl (W.alloc (.cells #[.int .u32 (x : Int)] 22)) W.heap.size (some ⟨W.heap.size, 0, none⟩) (ms [x]) := Sl.cells_new _ _ _
            have g2 := below_alloc1 W (.cells #[.int .u32 (x : Int)] 22)
            have hown := Lib.hid (own_ext hrow1 g2)
            have hbo3 := hbo2.trans (g2.mono hbo2.size)
            have HSZ := Lib.hid hbo2.size
            clear g2 hrow1 hbo2
            go_upto_region 14 with fail
            go_wp2_with (at_builtin; refine stop_atU ?_)
            refine ⟨?_⟩
            refine wpList_appU _ rfl (.tmp 56) (.tmp 58) rfl w5.heap.size k v0 ((wholeM g M).take k) rfl hown.out W.heap.size (some ⟨W.heap.size, 0, none⟩) 1 1 [x] rfl hs1 rfl (by omega) (by have := HSZ.out; simp only [World.size_alloc]; omega) ?_
            intro v5 w6 hrow5 hgr5 _
            have hob : ∀ j, v0.ownBlock = some j → w5.heap.size ≤ j := fun j hj => (World.ownsRow.lt hown.out j hj).1
            have hbr6 := hbo3.trans ((Mod.of_grown hgr5).below hbo3.size (fun i hi e => by have := hob i e; omega))
            have HROW := Lib.hid (show w6.ownsRow w5.heap.size 22 1 v5 (k + 1) (ms ((wholeM g M).take (k + 1))) by rw [HNX.out]; exact hrow5)
            clear hgr5 hrow5 hown hs1 hob hbo3
            go_wp2_with fail
            go_roundw
            case rel => exact ⟨k + 1, by omega, by go_num, HROW.out, hbr6⟩
            case measure => simp [intOf]; omega
          · rw [if_neg hlm] at hmv
            rw [decide_eq_false hlm] at hLe
            rw [hmv] at HNX
            clear hlm hmv
            go_wp2_with fail
            refine wp_region_held_drew (S := fun w' => Below wr0.heap.size wr0 w') (by kernel_rfl) ?_ (fun hHeld => ?_)
            · exact (by repeat (first | exact Below.refl _ _ | refine below_drew ?_))
            refine wpAnyH_take (i := 0) (by simp only [List.getElem?_toArray]; rfl) (by kernel_rfl) (by kernel_rfl) (by kernel_rfl) (by exact fun _ _ _ h => h) (by exact yk (.int .i64 (k : Int)) (by kernel_rfl) (fun _ => by kernel_rfl)) hHeld ?_
            refine wpAnyH_take (i := 1) (by simp only [List.getElem?_toArray]; rfl) (by kernel_rfl) (by kernel_rfl) (by kernel_rfl) (by exact fun _ _ _ h => h) (by exact yk (.slice (some ⟨mb, off, none⟩) M.length mc) (by kernel_rfl) (fun _ => by kernel_rfl)) hHeld ?_
            refine wpAnyH_take (i := 2) (by simp only [List.getElem?_toArray]; rfl) (by kernel_rfl) (by kernel_rfl) (by kernel_rfl) (by exact fun _ _ _ h => h) (by exact yk (.int .i64 (M.length : Int)) (by kernel_rfl) (fun _ => by kernel_rfl)) hHeld ?_
            refine wpAnyH_take (i := 3) (by simp only [List.getElem?_toArray]; rfl) (by kernel_rfl) (by kernel_rfl) (by kernel_rfl) (by exact fun _ _ _ h => h) (by exact yk_lss (by kernel_rfl) (.tmp 40) (.tmp 42) rfl (k : Int) (M.length : Int) (by kernel_rfl) (by kernel_rfl) true (by simp; omega)) hHeld ?_
            refine wpAnyH_take (i := 4) (by simp only [List.getElem?_toArray]; rfl) (by kernel_rfl) (by kernel_rfl) (by kernel_rfl) (by exact fun _ _ _ h => h) (by exact yk (.bool true) (by kernel_rfl) (fun _ => by kernel_rfl)) hHeld ?_
            refine wpAnyH_take (i := 5) (by simp only [List.getElem?_toArray]; rfl) (by kernel_rfl) (by kernel_rfl) (by kernel_rfl) (by exact fun _ _ _ h => h) (by exact yk_ldG (by kernel_rfl) (.tmp 4) rfl w.heap.size g s (by kernel_rfl) (fun w h => hG9.ext h)) hHeld ?_
            refine wpAnyH_take (i := 6) (by simp only [List.getElem?_toArray]; rfl) (by kernel_rfl) (by kernel_rfl) (by kernel_rfl) (by exact fun _ _ _ h => h) (by exact yk (.slice (some ⟨mb, off, none⟩) M.length mc) (by kernel_rfl) (fun _ => by kernel_rfl)) hHeld ?_
            refine wpAnyH_take (i := 7) (by simp only [List.getElem?_toArray]; rfl) (by kernel_rfl) (by kernel_rfl) (by kernel_rfl) (by exact fun _ _ _ h => h) (by exact yk (.int .i64 (k : Int)) (by kernel_rfl) (fun _ => by kernel_rfl)) hHeld ?_
            refine wpAnyH_take (i := 8) (by simp only [List.getElem?_toArray]; rfl) (by kernel_rfl) (by kernel_rfl) (by kernel_rfl) (by exact fun _ _ _ h => h) (by exact yk_ixU (by kernel_rfl) (.tmp 46) (.tmp 47) rfl mb off M.length mc k (by kernel_rfl) (by kernel_rfl) ekm) hHeld ?_
            refine wpAnyH_take (i := 9) (by simp only [List.getElem?_toArray]; rfl) (by kernel_rfl) (by kernel_rfl) (by kernel_rfl) (by exact fun _ _ _ h => h) (by exact yk_ldW (by kernel_rfl) (.tmp 48) rfl ⟨mb, off + k, none⟩ (.int .u32 (x : Int)) (by kernel_rfl) (fun w h => sl_same h hx0)) hHeld ?_
            refine wpAnyH_ready (rs := [10]) (by kernel_rfl) (by simp) ?_
            refine AllReadyH.cons (by simp only [List.getElem?_toArray]; rfl) (fun KK hKK => ?_) AllReadyH.nil
            rw [if_pos (by kernel_rfl)]
            refine wp_callF 34 #[.agg (gmA g s), .int .u32 (x : Int)] (by kernel_rfl) ?_
            refine (hLe _).mono ?_
            rintro e wa ⟨rfl, ha⟩
            have ha := below_undrew2 ha
            refine ⟨_, rfl, ?_⟩
            have hbr := hbr.trans (ha.mono hbr.size)
            refine hKK.out _ _ ?_ (fun hHeld => ?_)
            · exact hbr
            clear hKK KK
            refine wpAnyH_take (i := 11) (by simp only [List.getElem?_toArray]; rfl) (by kernel_rfl) (by kernel_rfl) (by kernel_rfl) (by exact fun _ _ _ h => h) (by exact yk (.bool false) (by kernel_rfl) (fun _ => by kernel_rfl)) hHeld ?_
            refine wpAnyH_done (by kernel_rfl) ?_ _
            try simp only [Act.put, List.setIfInBounds_toArray, List.set_cons_zero, List.set_cons_succ]
            have hbW : Below wr0.heap.size wr0 wa := hbr
            have hrow1 := own_ext hrow hbW
            have hbo2 := hbo.trans (hbW.mono (by have := hbo.size; omega))
            obtain ⟨W, hW⟩ : ∃ W, W = wa := ⟨_, rfl⟩
            rw [← hW] at hrow1 hbo2 ⊢
            clear hW hrow hbr hbo hbW
            have hs1 : Sl (W.alloc (.cells #[.int .u32 (g.df : Int)] 22)) W.heap.size (some ⟨W.heap.size, 0, none⟩) (ms [g.df]) := Sl.cells_new _ _ _
            have g2 := below_alloc1 W (.cells #[.int .u32 (g.df : Int)] 22)
            have hown := Lib.hid (own_ext hrow1 g2)
            have hbo3 := hbo2.trans (g2.mono hbo2.size)
            have HSZ := Lib.hid hbo2.size
            clear g2 hrow1 hbo2
            go_upto_region 14 with fail
            go_wp2_with (at_builtin; refine stop_atU ?_)
            refine ⟨?_⟩
            refine wpList_appU _ rfl (.tmp 56) (.tmp 58) rfl w5.heap.size k v0 ((wholeM g M).take k) rfl hown.out W.heap.size (some ⟨W.heap.size, 0, none⟩) 1 1 [g.df] rfl hs1 rfl (by omega) (by have := HSZ.out; simp only [World.size_alloc]; omega) ?_
            intro v5 w6 hrow5 hgr5 _
            have hob : ∀ j, v0.ownBlock = some j → w5.heap.size ≤ j := fun j hj => (World.ownsRow.lt hown.out j hj).1
            have hbr6 := hbo3.trans ((Mod.of_grown hgr5).below hbo3.size (fun i hi e => by have := hob i e; omega))
            have HROW := Lib.hid (show w6.ownsRow w5.heap.size 22 1 v5 (k + 1) (ms ((wholeM g M).take (k + 1))) by rw [HNX.out]; exact hrow5)
            clear hgr5 hrow5 hown hs1 hob hbo3
            go_wp2_with fail
            go_roundw
            case rel => exact ⟨k + 1, by omega, by go_num, HROW.out, hbr6⟩
            case measure => simp [intOf]; omega
        · have hmv : z = g.df := by
            rw [HZ.out]
            unfold mvAt
            rw [if_neg (fun h => hkm h.1)]
          rw [hmv] at HNX
          clear hmv HZ
          go_wp2_with fail
          refine wp_region_held_drew (S := fun w' => Below wr0.heap.size wr0 w') (by kernel_rfl) ?_ (fun hHeld => ?_)
          · exact (by repeat (first | exact Below.refl _ _ | refine below_drew ?_))
          refine wpAnyH_take (i := 0) (by simp only [List.getElem?_toArray]; rfl) (by kernel_rfl) (by kernel_rfl) (by kernel_rfl) (by exact fun _ _ _ h => h) (by exact yk (.int .i64 (k : Int)) (by kernel_rfl) (fun _ => by kernel_rfl)) hHeld ?_
          refine wpAnyH_take (i := 1) (by simp only [List.getElem?_toArray]; rfl) (by kernel_rfl) (by kernel_rfl) (by kernel_rfl) (by exact fun _ _ _ h => h) (by exact yk (.slice MA M.length mc) (by kernel_rfl) (fun _ => by kernel_rfl)) hHeld ?_
          refine wpAnyH_take (i := 2) (by simp only [List.getElem?_toArray]; rfl) (by kernel_rfl) (by kernel_rfl) (by kernel_rfl) (by exact fun _ _ _ h => h) (by exact yk (.int .i64 (M.length : Int)) (by kernel_rfl) (fun _ => by kernel_rfl)) hHeld ?_
          refine wpAnyH_take (i := 3) (by simp only [List.getElem?_toArray]; rfl) (by kernel_rfl) (by kernel_rfl) (by kernel_rfl) (by exact fun _ _ _ h => h) (by exact yk_lss (by kernel_rfl) (.tmp 40) (.tmp 42) rfl (k : Int) (M.length : Int) (by kernel_rfl) (by kernel_rfl) false (by simp; omega)) hHeld ?_
          refine wpAnyH_take (i := 4) (by simp only [List.getElem?_toArray]; rfl) (by kernel_rfl) (by kernel_rfl) (by kernel_rfl) (by exact fun _ _ _ h => h) (by exact yk (.bool false) (by kernel_rfl) (fun _ => by kernel_rfl)) hHeld ?_
          refine wpAnyH_take (i := 5) (by simp only [List.getElem?_toArray]; rfl) (by kernel_rfl) (by kernel_rfl) (by kernel_rfl) (by exact fun _ _ _ h => h) (by exact yk_no (by kernel_rfl)) hHeld ?_
          refine wpAnyH_take (i := 6) (by simp only [List.getElem?_toArray]; rfl) (by kernel_rfl) (by kernel_rfl) (by kernel_rfl) (by exact fun _ _ _ h => h) (by exact yk_no (by kernel_rfl)) hHeld ?_
          refine wpAnyH_take (i := 7) (by simp only [List.getElem?_toArray]; rfl) (by kernel_rfl) (by kernel_rfl) (by kernel_rfl) (by exact fun _ _ _ h => h) (by exact yk_no (by kernel_rfl)) hHeld ?_
          refine wpAnyH_take (i := 8) (by simp only [List.getElem?_toArray]; rfl) (by kernel_rfl) (by kernel_rfl) (by kernel_rfl) (by exact fun _ _ _ h => h) (by exact yk_no (by kernel_rfl)) hHeld ?_
          refine wpAnyH_take (i := 9) (by simp only [List.getElem?_toArray]; rfl) (by kernel_rfl) (by kernel_rfl) (by kernel_rfl) (by exact fun _ _ _ h => h) (by exact yk_no (by kernel_rfl)) hHeld ?_
          refine wpAnyH_take (i := 10) (by simp only [List.getElem?_toArray]; rfl) (by kernel_rfl) (by kernel_rfl) (by kernel_rfl) (by exact fun _ _ _ h => h) (by exact yk_no (by kernel_rfl)) hHeld ?_
          refine wpAnyH_take (i := 11) (by simp only [List.getElem?_toArray]; rfl) (by kernel_rfl) (by kernel_rfl) (by kernel_rfl) (by exact fun _ _ _ h => h) (by exact yk (.bool false) (by kernel_rfl) (fun _ => by kernel_rfl)) hHeld ?_
          refine wpAnyH_done (by kernel_rfl) ?_ _
          try simp only [Act.put, List.setIfInBounds_toArray, List.set_cons_zero, List.set_cons_succ]
          have hbW : Below wr0.heap.size wr0 (World.drew wr0) := below_drew hbr
          have hrow1 := own_ext hrow hbW
          have hbo2 := hbo.trans (hbW.mono (by have := hbo.size; omega))
          obtain ⟨W, hW⟩ : ∃ W, W = (World.drew wr0) := ⟨_, rfl⟩
          rw [← hW] at hrow1 hbo2 ⊢
          clear hW hrow hbr hbo hbW
          have hs1 : Sl (W.alloc (.cells #[.int .u32 (g.df : Int)] 22)) W.heap.size (some ⟨W.heap.size, 0, none⟩) (ms [g.df]) := Sl.cells_new _ _ _
          have g2 := below_alloc1 W (.cells #[.int .u32 (g.df : Int)] 22)
          have hown := Lib.hid (own_ext hrow1 g2)
          have hbo3 := hbo2.trans (g2.mono hbo2.size)
          have HSZ := Lib.hid hbo2.size
          clear g2 hrow1 hbo2
          go_upto_region 14 with fail
          go_wp2_with (at_builtin; refine stop_atU ?_)
          refine ⟨?_⟩
          refine wpList_appU _ rfl (.tmp 56) (.tmp 58) rfl w5.heap.size k v0 ((wholeM g M).take k) rfl hown.out W.heap.size (some ⟨W.heap.size, 0, none⟩) 1 1 [g.df] rfl hs1 rfl (by omega) (by have := HSZ.out; simp only [World.size_alloc]; omega) ?_
          intro v5 w6 hrow5 hgr5 _
          have hob : ∀ j, v0.ownBlock = some j → w5.heap.size ≤ j := fun j hj => (World.ownsRow.lt hown.out j hj).1
          have hbr6 := hbo3.trans ((Mod.of_grown hgr5).below hbo3.size (fun i hi e => by have := hob i e; omega))
          have HROW := Lib.hid (show w6.ownsRow w5.heap.size 22 1 v5 (k + 1) (ms ((wholeM g M).take (k + 1))) by rw [HNX.out]; exact hrow5)
          clear hgr5 hrow5 hown hs1 hob hbo3
          go_wp2_with fail
          go_roundw
          case rel => exact ⟨k + 1, by omega, by go_num, HROW.out, hbr6⟩
          case measure => simp [intOf]; omega
      · have hkp : k = p := by omega
        subst hkp
        have ej : ¬ (k : Int) < (k : Int) := by omega
        have hwl : (wholeM g M).length = k := by unfold wholeM; rw [List.length_map, List.length_range, HP.out]
        rw [List.take_of_length_le (by omega)] at hrow
        have hG9 := hG3.ext hbo
        have hi9 := hi2.ext hbo
        have hx9 := hx.ext hbo
        have hM9 := Sl.ext hM1 hbo
        have hN9 := Sl.ext hN1 hbo
        have hb9 := hb3.trans (hbo.mono hws)
        have hT9 := hT.ext hb9
        have hz9 := hbo.size
        have hYw := hx.lt
        have z1 := hG9.c1
        rw [HPL.out] at z1
        obtain ⟨V, hV⟩ : ∃ V, V = u11 := ⟨_, rfl⟩
        rw [← hV] at hrow ⊢
        obtain ⟨wl, hwl2⟩ : ∃ wl, wl = wr := ⟨_, rfl⟩
        rw [← hwl2] at hrow hG9 hi9 hx9 hM9 hN9 hb9 hT9 hz9 z1 ⊢
        clear hV hwl2 hbo hG3 hi2 hx hM1 hN1 hb3 hLe
        obtain ⟨q, hq⟩ : ∃ q, q = min M.length k := ⟨_, rfl⟩
        have hqI : min (M.length : Int) (k : Int) = (q : Int) := by omega
        have hqc : q ≤ mc := by omega
        have hqs : (q : Int) ≤ (mc : Int) := by omega
        have m3 : (if (M.length : Int) < (k : Int) then (M.length : Int) else (k : Int)) = (q : Int) := by split <;> omega
        have m4 : (if (k : Int) < (M.length : Int) then (k : Int) else (M.length : Int)) = (q : Int) := by split <;> omega
        have m5 : (if (M.length : Int) ≤ (k : Int) then (M.length : Int) else (k : Int)) = (q : Int) := by split <;> omega
        have m6 : (if (k : Int) ≤ (M.length : Int) then (k : Int) else (M.length : Int)) = (q : Int) := by split <;> omega
        have HQ := Lib.hid hq
        clear hq
        obtain ⟨F, hF⟩ : ∃ F, F = wholeV compN (stepP g ⟨C, sd, 0⟩ M) C sd := ⟨_, rfl⟩
        have hF1 : F = wholeV compN (stepP g ⟨C, sd, 0⟩ (M.take q)) C sd := by
          rw [hF]
          have e : cntL g (M.take q) = cntL g M := by
            have h := cntL_take g M
            rw [HP.out] at h
            rw [HQ.out]
            by_cases h2 : M.length ≤ k
            · rw [Nat.min_eq_left h2, List.take_length]
            · rw [Nat.min_eq_right (by omega)]
              exact h
          simp only [stepP, e]
        have hF2 : F = wholeV compN (stepP g ⟨C, sd, 0⟩ (wholeM g M)) C sd := by
          rw [hF]
          have e : cntL g (wholeM g M) = cntL g M := by
            have h := cntL_whole hdf M []
            rwa [List.append_nil] at h
          simp only [stepP, e]
        have hF3 : F = wholeV compN (stepP g ⟨C, sd, 0⟩ (wholeM g M ++ N)) C sd := by
          rw [hF]
          simp only [stepP, cntL_whole hdf M N]
        obtain ⟨S1, hS1⟩ : ∃ S1 : St, S1 = ⟨F.L, F.d, 1⟩ := ⟨_, rfl⟩
        have hStep : ∀ (MA' : Option Addr) (M' : List Nat) (mc' mb' : Nat) (W : World) (h1 : GIn W g s) (h2 : CTab W) (h3 : Sl W mb' MA' (ms M')) (h4 : ∀ x ∈ M', x ≤ 4294967295) (h5 : M'.length ≤ maxLen) (hF : F = wholeV compN (stepP g ⟨C, sd, 0⟩ M') C sd),
            Calls Tryd.prog 17 #[.agg (gmA g s), .agg (stA ⟨C, sd, 0⟩), .slice MA' M'.length mc'] W fun e w' => ∃ sh, e = .returned (.tuple #[.agg (stA S1), .agg (otA F.t sh F.e)]) ∧ RowS w' W.heap.size sh F.sh ∧ Below W.heap.size W w' := by
          intro MA' M' mc' mb' W h1 h2 h3 h4 h5 hF
          rw [hS1]
          exact Step_good g s ⟨C, sd, 0⟩ M' MA' mc' mb' W h1 hok h2 h3 HR.out.symm h4 h5 (by rw [HC.out]; simp [startC]; exact h48) (by rw [HC.out]; exact stK_ok _ hok.oL (fun x hx => by cases hx)) (by show 0 ≤ 4294967295; omega) hF
        have HS1 := Lib.hid (show S1.tk = 1 by rw [hS1])
        clear hS1
        have HF2 := Lib.hid hF2
        have HF3 := Lib.hid hF3
        clear hF hF2 hF3
        have hP := hStep MA (M.take q) mc mb wl hi9 hT9 (by rw [show ms (M.take q) = (ms M).take q by simp [ms, List.map_take]]; exact Sl.take hM9 q) (fun x hx => hfM x (List.mem_of_mem_take hx)) (by rw [List.length_take]; omega) hF1
        rw [show (M.take q).length = q by rw [List.length_take, HQ.out]; omega] at hP
        clear hF1
        go_upto_region 17 with fail
        have z0 := hG9.c0
        have z2 := hG9.c2
        have z3 := hG9.c3
        have z4 := hG9.c4
        have z5 := hG9.c5
        have z1' := hG9.c1
        clear m3 m4 m5 m6 hqI z1
        go_wp2_with ((with_reducible refine at_ld 46 9 ?_); refine wpList_ldS rfl (.tmp 9) rfl Y rfl hx9 ?_)
        refine hP.mono ?_
        rintro e wa ⟨sh, rfl, hsh, h1⟩
        replace hG9 := hG9.ext h1
        replace hi9 := hi9.ext h1
        replace hx9 := hx9.ext h1
        replace hT9 := hT9.ext h1
        replace hM9 := Sl.ext hM9 h1
        replace hN9 := Sl.ext hN9 h1
        replace hrow := own_ext hrow h1
        replace hz9 := Nat.le_trans hz9 h1.size
        replace hb9 := hb9.trans (h1.mono hb9.size)
        clear hP h1 z0 z1' z2 z3 z4 z5
        have hs1 : sh.oneCell' = true := by
          rcases hsh.2 with ⟨rfl, -⟩ | ⟨_, _, _, rfl, -⟩ <;> rfl
        clear hsh
        have h5 := below_alloc1 (wa.alloc (.cells (stA zSt) 46)) (.cells #[.int .u64 0, .slice none 0 0, .int .i64 0] 53)
        have y4 := (BoxS.new_ wa zSt).ext h5
        have y5 : OBox ((wa.alloc (.cells (stA zSt) 46)).alloc (.cells #[.int .u64 0, .slice none 0 0, .int .i64 0] 53)) (wa.heap.size + 1) 0 (.slice none 0 0) 0 := by
          have h := OBox.new_ (wa.alloc (.cells (stA zSt) 46)) 0 (.slice none 0 0) 0
          rw [World.size_alloc] at h
          exact h
        clear h5
        go_upto_region 18 with (first | ((with_reducible refine at_al 46 15 ?_); refine wpList_alS rfl rfl (some 15) rfl wa.heap.size rfl ?_) | ((with_reducible refine at_st 46 15 73 ?_); refine wpList_stS rfl (.tmp 15) (.tmp 73) rfl wa.heap.size S1 rfl rfl zSt y4 ?_) | ((with_reducible refine at_st 53 16 74 ?_); refine wpList_stO rfl (.tmp 16) (.tmp 74) rfl (wa.heap.size + 1) F.t sh F.e rfl rfl hs1 (y5.mod (mod_setRow _ wa.heap.size _) (by show ¬ wa.heap.size + 1 = wa.heap.size; omega)) ?_))
        have r4 := (y4.row_ S1).mod (mod_setRow (((wa.alloc (.cells (stA zSt) 46)).alloc (.cells #[.int .u64 0, .slice none 0 0, .int .i64 0] 53)).setRow wa.heap.size (stA S1)) (wa.heap.size + 1) (otA F.t sh F.e)) (by show ¬ wa.heap.size = wa.heap.size + 1; omega)
        have r5 := (y5.mod (mod_setRow ((wa.alloc (.cells (stA zSt) 46)).alloc (.cells #[.int .u64 0, .slice none 0 0, .int .i64 0] 53)) wa.heap.size (stA S1)) (by show ¬ wa.heap.size + 1 = wa.heap.size; omega)).row_ F.t sh F.e
        have hbo : Below wa.heap.size wa _ := below_setRow (below_setRow (below_alloc2 wa (.cells (stA zSt) 46) (.cells #[.int .u64 0, .slice none 0 0, .int .i64 0] 53)) wa.heap.size (stA S1) (Nat.le_refl _)) (wa.heap.size + 1) (otA F.t sh F.e) (Nat.le_succ _)
        obtain ⟨wb, hWo⟩ : ∃ wb, wb = ((((wa.alloc (.cells (stA zSt) 46)).alloc (.cells #[.int .u64 0, .slice none 0 0, .int .i64 0] 53)).setRow wa.heap.size (stA S1)).setRow (wa.heap.size + 1) (otA F.t sh F.e)) := ⟨_, rfl⟩
        rw [← hWo] at r4 r5 hbo
        go_frame
        rw [← hWo]
        clear hWo y4 y5 hs1
        replace hG9 := hG9.ext hbo
        replace hi9 := hi9.ext hbo
        replace hx9 := hx9.ext hbo
        replace hT9 := hT9.ext hbo
        replace hM9 := Sl.ext hM9 hbo
        replace hN9 := Sl.ext hN9 hbo
        replace hrow := own_ext hrow hbo
        replace hz9 := Nat.le_trans hz9 hbo.size
        replace hb9 := hb9.trans (hbo.mono hb9.size)
        obtain ⟨K1, hK⟩ : ∃ K1, K1 = wa.heap.size := ⟨_, rfl⟩
        rw [← hK] at r4 r5 ⊢
        clear hK hbo
        have a4 := r4
        have a5 := r5
        clear r4 r5
        rcases hrow.2 with ⟨-, h0⟩ | ⟨gV, cV, cur, hV, -⟩
        · exact absurd h0 (by omega)
        subst hV
        obtain ⟨g', hslV, hg'⟩ := Sl.of_own hrow
        have hgV := hg' gV rfl
        subst hgV
        have hBV : w5.heap.size ≤ gV := (World.ownsRow.lt hrow gV rfl).1
        have hwf : ∀ x ∈ wholeM g M, x ≤ 4294967295 := by
          intro x hx
          unfold wholeM at hx
          obtain ⟨i, -, rfl⟩ := List.mem_map.1 hx
          have h1 := mvAt_lt hdf M i
          have h2 := hok.m1
          omega
        have hP := hStep (some ⟨gV, 0, none⟩) (wholeM g M) cV gV wb hi9 hT9 hslV hwf (by rw [hwl]; simp only [maxLen]; omega) HF2.out
        rw [hwl] at hP
        have z0 := hG9.c0
        have z1 := hG9.c1
        have z2 := hG9.c2
        have z3 := hG9.c3
        have z4 := hG9.c4
        have z5 := hG9.c5
        clear hg'
        go_wp2_with ((with_reducible refine at_ld 46 9 ?_); refine wpList_ldS rfl (.tmp 9) rfl Y rfl hx9 ?_)
        refine hP.mono ?_
        rintro e wc ⟨sh2, rfl, hsh, h1⟩
        replace hG9 := hG9.ext h1
        replace hi9 := hi9.ext h1
        replace hx9 := hx9.ext h1
        replace hT9 := hT9.ext h1
        replace hM9 := Sl.ext hM9 h1
        replace hN9 := Sl.ext hN9 h1
        replace hrow := own_ext hrow h1
        replace hz9 := Nat.le_trans hz9 h1.size
        replace hb9 := hb9.trans (h1.mono hb9.size)
        replace a4 := a4.ext h1
        replace a5 := a5.ext h1
        replace hslV := Sl.ext hslV h1
        clear hP h1 z0 z1 z2 z3 z4 z5
        have hs1 : sh2.oneCell' = true := by
          rcases hsh.2 with ⟨rfl, -⟩ | ⟨_, _, _, rfl, -⟩ <;> rfl
        clear hsh
        have h5 := below_alloc1 (wc.alloc (.cells (stA zSt) 46)) (.cells #[.int .u64 0, .slice none 0 0, .int .i64 0] 53)
        have y4 := (BoxS.new_ wc zSt).ext h5
        have y5 : OBox ((wc.alloc (.cells (stA zSt) 46)).alloc (.cells #[.int .u64 0, .slice none 0 0, .int .i64 0] 53)) (wc.heap.size + 1) 0 (.slice none 0 0) 0 := by
          have h := OBox.new_ (wc.alloc (.cells (stA zSt) 46)) 0 (.slice none 0 0) 0
          rw [World.size_alloc] at h
          exact h
        clear h5
        go_upto_region 19 with (first | ((with_reducible refine at_al 46 17 ?_); refine wpList_alS rfl rfl (some 17) rfl wc.heap.size rfl ?_) | ((with_reducible refine at_st 46 17 80 ?_); refine wpList_stS rfl (.tmp 17) (.tmp 80) rfl wc.heap.size S1 rfl rfl zSt y4 ?_) | ((with_reducible refine at_st 53 18 81 ?_); refine wpList_stO rfl (.tmp 18) (.tmp 81) rfl (wc.heap.size + 1) F.t sh2 F.e rfl rfl hs1 (y5.mod (mod_setRow _ wc.heap.size _) (by show ¬ wc.heap.size + 1 = wc.heap.size; omega)) ?_))
        have r4 := (y4.row_ S1).mod (mod_setRow (((wc.alloc (.cells (stA zSt) 46)).alloc (.cells #[.int .u64 0, .slice none 0 0, .int .i64 0] 53)).setRow wc.heap.size (stA S1)) (wc.heap.size + 1) (otA F.t sh2 F.e)) (by show ¬ wc.heap.size = wc.heap.size + 1; omega)
        have r5 := (y5.mod (mod_setRow ((wc.alloc (.cells (stA zSt) 46)).alloc (.cells #[.int .u64 0, .slice none 0 0, .int .i64 0] 53)) wc.heap.size (stA S1)) (by show ¬ wc.heap.size + 1 = wc.heap.size; omega)).row_ F.t sh2 F.e
        have hbo : Below wc.heap.size wc _ := below_setRow (below_setRow (below_alloc2 wc (.cells (stA zSt) 46) (.cells #[.int .u64 0, .slice none 0 0, .int .i64 0] 53)) wc.heap.size (stA S1) (Nat.le_refl _)) (wc.heap.size + 1) (otA F.t sh2 F.e) (Nat.le_succ _)
        obtain ⟨wd, hWo⟩ : ∃ wd, wd = ((((wc.alloc (.cells (stA zSt) 46)).alloc (.cells #[.int .u64 0, .slice none 0 0, .int .i64 0] 53)).setRow wc.heap.size (stA S1)).setRow (wc.heap.size + 1) (otA F.t sh2 F.e)) := ⟨_, rfl⟩
        rw [← hWo] at r4 r5 hbo
        go_frame
        rw [← hWo]
        clear hWo y4 y5 hs1
        replace hG9 := hG9.ext hbo
        replace hi9 := hi9.ext hbo
        replace hx9 := hx9.ext hbo
        replace hT9 := hT9.ext hbo
        replace hM9 := Sl.ext hM9 hbo
        replace hN9 := Sl.ext hN9 hbo
        replace hrow := own_ext hrow hbo
        replace hz9 := Nat.le_trans hz9 hbo.size
        replace hb9 := hb9.trans (hbo.mono hb9.size)
        replace a4 := a4.ext hbo
        replace a5 := a5.ext hbo
        replace hslV := Sl.ext hslV hbo
        obtain ⟨K2, hK⟩ : ∃ K2, K2 = wc.heap.size := ⟨_, rfl⟩
        rw [← hK] at r4 r5 ⊢
        clear hK hbo
        have b4 := r4
        have b5 := r5
        clear r4 r5
        obtain ⟨wz, hwz⟩ : ∃ wz, wz = wd := ⟨_, rfl⟩
        rw [← hwz] at hG9 hi9 hx9 hT9 hN9 hslV a4 a5 b4 b5 hb9 hz9 ⊢
        clear hwz hrow hM9
        go_cut [19, 20] (fun p19 p20 w9 => ∃ (K3 K4 : Nat) (sh3 : Value) (wy : World), wy = w9 ∧ p19 = .pointer (some ⟨K3, 0, none⟩) ∧ p20 = .pointer (some ⟨K4, 0, none⟩) ∧ BoxS wy K3 S1 ∧ OBox wy K4 F.t sh3 F.e ∧ Below wz.heap.size wz wy)
        case first =>
         have hb := Below.refl wz.heap.size wz
         go_wp2_with fail
         refine wp_region_held_drew (S := fun w9 => Below wz.heap.size wz w9) (by kernel_rfl) ?_ (fun hHeld => ?_)
         · exact (by first | exact hb | exact below_drew hb)
         obtain ⟨wd2, hwd2⟩ : ∃ wd2, wd2 = World.drew wz := ⟨_, rfl⟩
         have h9 : Below wz.heap.size wz wd2 := by rw [hwd2]; exact below_drew (Below.refl _ _)
         rw [← hwd2] at hHeld ⊢
         replace hb := hb.trans (h9.mono hb.size)
         clear h9
         clear hwd2
         refine wpAnyH_take (i := 0) (by simp only [List.getElem?_toArray]; rfl) (by kernel_rfl) (by kernel_rfl) (by kernel_rfl) (by exact fun _ _ _ h => h) (by exact yk_ldG (by kernel_rfl) (.tmp 4) rfl w.heap.size g s (by kernel_rfl) (fun _ h => hG9.ext h)) hHeld ?_
         try simp only [Act.put, List.setIfInBounds_toArray, List.set_cons_zero, List.set_cons_succ]
         refine wpAnyH_take (i := 1) (by simp only [List.getElem?_toArray]; rfl) (by kernel_rfl) (by kernel_rfl) (by kernel_rfl) (by exact fun _ _ _ h => h) (by exact yieldsIf_ldS (by kernel_rfl) (.tmp 9) rfl Y (by kernel_rfl) (fun _ h => hx9.ext h)) hHeld ?_
         try simp only [Act.put, List.setIfInBounds_toArray, List.set_cons_zero, List.set_cons_succ]
         refine wpAnyH_take (i := 3) (v := ?vt13) (by simp only [List.getElem?_toArray]; rfl) (by kernel_rfl) (by kernel_rfl) (by kernel_rfl) (by exact fun _ _ _ h => h) (Or.inl ⟨by kernel_rfl, ?yt13⟩) hHeld ?_
         case yt13 => (intro ww hSw; (try dsimp only at hSw); clear hSw; go_simp; try (with_reducible rfl))
         try simp only [Act.put, List.setIfInBounds_toArray, List.set_cons_zero, List.set_cons_succ]
         refine wpAnyH_take (i := 5) (v := ?vt14) (by simp only [List.getElem?_toArray]; rfl) (by kernel_rfl) (by kernel_rfl) (by kernel_rfl) (by exact fun _ _ _ h => h) (Or.inl ⟨by kernel_rfl, ?yt14⟩) hHeld ?_
         case yt14 => (intro ww hSw; (try dsimp only at hSw); clear hSw; go_simp; try (with_reducible rfl))
         try simp only [Act.put, List.setIfInBounds_toArray, List.set_cons_zero, List.set_cons_succ]
         refine wpAnyH_ready (rs := [2, 11, 12]) (by kernel_rfl) (by simp) ?_
         refine AllReadyH.cons (by simp only [List.getElem?_toArray]; rfl) (fun KK hKK => ?_) (AllReadyH.cons (by simp only [List.getElem?_toArray]; rfl) (fun KK hKK => ?_) (AllReadyH.cons (by simp only [List.getElem?_toArray]; rfl) (fun KK hKK => ?_) AllReadyH.nil))
         ·
          rw [if_pos (by kernel_rfl)]
          go_simp
          obtain ⟨wa5, hwa⟩ : ∃ wa5, wa5 = wd2.alloc (.cells #[] 22) := ⟨_, rfl⟩
          have h9 : Below wd2.heap.size wd2 wa5 := by rw [hwa]; exact below_alloc1 _ _
          have row : wa5.ownsRow wz.heap.size 22 1 (.slice (some ⟨wd2.heap.size, 0, none⟩) 0 0) 0 (ms []) := by rw [hwa]; exact World.ownsRow_made wd2 #[] 0 hb.size (by simp [maxLen]) rfl
          rw [← hwa]
          clear hwa
          replace hb := hb.trans (h9.mono hb.size)
          clear h9
          refine hKK.out _ _ ?_ (fun hHeld => ?_)
          · exact (by first | exact hb | exact below_drew hb)
          clear hKK KK
          try simp only [Act.put, List.setIfInBounds_toArray, List.set_cons_zero, List.set_cons_succ]
          refine wpAnyH_ready (rs := [4, 11, 12]) (by kernel_rfl) (by simp) ?_
          refine AllReadyH.cons (by simp only [List.getElem?_toArray]; rfl) (fun KK hKK => ?_) (AllReadyH.cons (by simp only [List.getElem?_toArray]; rfl) (fun KK hKK => ?_) (AllReadyH.cons (by simp only [List.getElem?_toArray]; rfl) (fun KK hKK => ?_) AllReadyH.nil))
          ·
           rw [if_pos (by kernel_rfl)]
           refine wp_appU (.tmp 85) (.tmp 86) rfl wz.heap.size (0) (.slice (some ⟨wd2.heap.size, 0, none⟩) 0 0) ([]) rfl row gV (some ⟨gV, 0, none⟩) (k) cV (wholeM g M) rfl (Sl.ext hslV hb) hwl (by omega) hb.size ?_
           intro v4 wa6 row' hgr hloc
           have hB := (Mod.of_grown hgr).below hb.size (fun i hi e => by have := (World.ownsRow.lt row i e).1; omega)
           replace hb := hb.trans hB
           clear hB hgr hloc row
           have row := row'
           clear row'
           refine hKK.out _ _ ?_ (fun hHeld => ?_)
           · exact (by first | exact hb | exact below_drew hb)
           clear hKK KK
           try simp only [Act.put, List.setIfInBounds_toArray, List.set_cons_zero, List.set_cons_succ]
           refine wpAnyH_ready (rs := [6, 11, 12]) (by kernel_rfl) (by simp) ?_
           refine AllReadyH.cons (by simp only [List.getElem?_toArray]; rfl) (fun KK hKK => ?_) (AllReadyH.cons (by simp only [List.getElem?_toArray]; rfl) (fun KK hKK => ?_) (AllReadyH.cons (by simp only [List.getElem?_toArray]; rfl) (fun KK hKK => ?_) AllReadyH.nil))
           ·
            rw [if_pos (by kernel_rfl)]
            refine wp_appU (.tmp 87) (.tmp 88) rfl wz.heap.size (0 + k) v4 ([] ++ wholeM g M) rfl row nb NA (N.length) nc (N) rfl (Sl.ext hN9 hb) rfl (by omega) hb.size ?_
            intro v6 wa7 row' hgr hloc
            have hB := (Mod.of_grown hgr).below hb.size (fun i hi e => by have := (World.ownsRow.lt row i e).1; omega)
            replace hb := hb.trans hB
            clear hB hgr hloc row
            have row := row'
            clear row'
            refine hKK.out _ _ ?_ (fun hHeld => ?_)
            · exact (by first | exact hb | exact below_drew hb)
            clear hKK KK
            try simp only [Act.put, List.setIfInBounds_toArray, List.set_cons_zero, List.set_cons_succ]
            refine wpAnyH_ready (rs := [7, 11, 12]) (by kernel_rfl) (by simp) ?_
            refine AllReadyH.cons (by simp only [List.getElem?_toArray]; rfl) (fun KK hKK => ?_) (AllReadyH.cons (by simp only [List.getElem?_toArray]; rfl) (fun KK hKK => ?_) (AllReadyH.cons (by simp only [List.getElem?_toArray]; rfl) (fun KK hKK => ?_) AllReadyH.nil))
            ·
             rw [if_pos (by kernel_rfl)]
             rcases row.2 with ⟨-, h0⟩ | ⟨g6, c6, cur6, hv6, -⟩
             · exact absurd h0 (by omega)
             subst hv6
             obtain ⟨g7, hs6, hg7⟩ := Sl.of_own row
             have e7 := hg7 g6 rfl
             subst e7
             have hP := hStep (some ⟨g6, 0, none⟩) (wholeM g M ++ N) c6 g6 wa7 (hi9.ext hb) (hT9.ext hb) hs6 (fun x hx => (List.mem_append.1 hx).elim (hwf x) (hfN x)) (by rw [List.length_append, hwl]; simp only [maxLen]; omega) HF3.out
             rw [show (wholeM g M ++ N).length = 0 + k + N.length by rw [List.length_append, hwl]; omega] at hP
             clear hg7 hs6 row
             refine wp_callF 17 #[.agg (gmA g s), .agg (stA ⟨C, sd, 0⟩), .slice (some ⟨g6, 0, none⟩) (0 + k + N.length) c6] (by kernel_rfl) ?_
             refine hP.mono ?_
             rintro e wc8 ⟨sh3, rfl, hsh, h9⟩
             have hs3 : sh3.oneCell' = true := by
               rcases hsh.2 with ⟨rfl, -⟩ | ⟨_, _, _, rfl, -⟩ <;> rfl
             clear hsh hP
             replace hb := hb.trans (h9.mono hb.size)
             clear h9
             refine ⟨_, rfl, ?_⟩
             refine hKK.out _ _ ?_ (fun hHeld => ?_)
             · exact (by first | exact hb | exact below_drew hb)
             clear hKK KK
             try simp only [Act.put, List.setIfInBounds_toArray, List.set_cons_zero, List.set_cons_succ]
             refine wpAnyH_take (i := 8) (v := ?vt110) (by simp only [List.getElem?_toArray]; rfl) (by kernel_rfl) (by kernel_rfl) (by kernel_rfl) (by exact fun _ _ _ h => h) (Or.inl ⟨by kernel_rfl, ?yt110⟩) hHeld ?_
             case yt110 => (intro ww hSw; (try dsimp only at hSw); clear hSw; go_simp; try (with_reducible rfl))
             try simp only [Act.put, List.setIfInBounds_toArray, List.set_cons_zero, List.set_cons_succ]
             refine wpAnyH_take (i := 9) (v := ?vt111) (by simp only [List.getElem?_toArray]; rfl) (by kernel_rfl) (by kernel_rfl) (by kernel_rfl) (by exact fun _ _ _ h => h) (Or.inl ⟨by kernel_rfl, ?yt111⟩) hHeld ?_
             case yt111 => (intro ww hSw; (try dsimp only at hSw); clear hSw; go_simp; try (with_reducible rfl))
             try simp only [Act.put, List.setIfInBounds_toArray, List.set_cons_zero, List.set_cons_succ]
             refine wpAnyH_take (i := 10) (v := ?vt112) (by simp only [List.getElem?_toArray]; rfl) (by kernel_rfl) (by kernel_rfl) (by kernel_rfl) (by exact fun _ _ _ h => h) (Or.inl ⟨by kernel_rfl, ?yt112⟩) hHeld ?_
             case yt112 => (intro ww hSw; (try dsimp only at hSw); clear hSw; go_simp; try (with_reducible rfl))
             try simp only [Act.put, List.setIfInBounds_toArray, List.set_cons_zero, List.set_cons_succ]
             refine wpAnyH_ready (rs := [11, 12]) (by kernel_rfl) (by simp) ?_
             refine AllReadyH.cons (by simp only [List.getElem?_toArray]; rfl) (fun KK hKK => ?_) (AllReadyH.cons (by simp only [List.getElem?_toArray]; rfl) (fun KK hKK => ?_) AllReadyH.nil)
             ·
              rw [if_pos (by kernel_rfl)]
              have nz_y4 : wz.heap.size ≤ wc8.heap.size := hb.size
              refine wp_alSt rfl ?_
              obtain ⟨wa13, hwa⟩ : ∃ wa13, wa13 = wc8.alloc (.cells (stA zSt) 46) := ⟨_, rfl⟩
              have h9 : Below wc8.heap.size wc8 wa13 := by rw [hwa]; exact below_alloc1 _ _
              have y4 : BoxS wa13 (wc8.heap.size) zSt := by rw [hwa]; exact BoxS.new_ _ _
              rw [← hwa]
              clear hwa
              replace hb := hb.trans (h9.mono hb.size)
              clear h9
              refine hKK.out _ _ ?_ (fun hHeld => ?_)
              · exact (by first | exact hb | exact below_drew hb)
              clear hKK KK
              try simp only [Act.put, List.setIfInBounds_toArray, List.set_cons_zero, List.set_cons_succ]
              refine wpAnyH_ready (rs := [12]) (by kernel_rfl) (by simp) ?_
              refine AllReadyH.cons (by simp only [List.getElem?_toArray]; rfl) (fun KK hKK => ?_) AllReadyH.nil
              rw [if_pos (by kernel_rfl)]
              have ne45 : ¬ wc8.heap.size = wa13.heap.size := by have := y4.lt; omega
              have nz_y5 : wz.heap.size ≤ wa13.heap.size := hb.size
              refine wp_alO rfl ?_
              obtain ⟨wa14, hwa⟩ : ∃ wa14, wa14 = wa13.alloc (.cells (otA 0 (.slice none 0 0) 0) 53) := ⟨_, rfl⟩
              have h9 : Below wa13.heap.size wa13 wa14 := by rw [hwa]; exact below_alloc1 _ _
              have y5 : OBox wa14 (wa13.heap.size) 0 (.slice none 0 0) 0 := by rw [hwa]; exact OBox.new_ _ _ _ _
              rw [← hwa]
              clear hwa
              replace y4 := y4.ext h9
              replace hb := hb.trans (h9.mono hb.size)
              clear h9
              refine hKK.out _ _ ?_ (fun hHeld => ?_)
              · exact (by first | exact hb | exact below_drew hb)
              clear hKK KK
              try simp only [Act.put, List.setIfInBounds_toArray, List.set_cons_zero, List.set_cons_succ]
              refine wpAnyH_ready (rs := [13]) (by kernel_rfl) (by simp) ?_
              refine AllReadyH.cons (by simp only [List.getElem?_toArray]; rfl) (fun KK hKK => ?_) AllReadyH.nil
              rw [if_pos (by kernel_rfl)]
              refine wp_stS (.tmp 19) (.tmp 91) rfl (wc8.heap.size) S1 rfl rfl y4 ?_
              replace y4 := y4.row_ S1
              replace y5 := y5.mod (mod_setRow wa14 (wc8.heap.size) (stA S1)) (fun e => ne45 e.symm)
              replace hb := below_setRow hb (wc8.heap.size) (stA S1) nz_y4
              obtain ⟨ws15, hws⟩ : ∃ ws15, ws15 = wa14.setRow (wc8.heap.size) (stA S1) := ⟨_, rfl⟩
              rw [← hws] at y4 y5 hb ⊢
              clear hws
              refine hKK.out _ _ ?_ (fun hHeld => ?_)
              · exact (by first | exact hb | exact below_drew hb)
              clear hKK KK
              try simp only [Act.put]
              refine wpAnyH_ready (rs := [14]) (by kernel_rfl) (by simp) ?_
              refine AllReadyH.cons (by simp only [List.getElem?_toArray]; rfl) (fun KK hKK => ?_) AllReadyH.nil
              rw [if_pos (by kernel_rfl)]
              refine wp_stO (.tmp 20) (.tmp 92) rfl (wa13.heap.size) F.t sh3 F.e rfl rfl hs3 y5 ?_
              replace y5 := y5.row_ F.t sh3 F.e
              replace y4 := y4.mod (mod_setRow ws15 (wa13.heap.size) (otA F.t sh3 F.e)) ne45
              replace hb := below_setRow hb (wa13.heap.size) (otA F.t sh3 F.e) nz_y5
              obtain ⟨ws16, hws⟩ : ∃ ws16, ws16 = ws15.setRow (wa13.heap.size) (otA F.t sh3 F.e) := ⟨_, rfl⟩
              rw [← hws] at y4 y5 hb ⊢
              clear hws
              refine hKK.out _ _ ?_ (fun hHeld => ?_)
              · exact (by first | exact hb | exact below_drew hb)
              clear hKK KK
              try simp only [Act.put]
              refine wpAnyH_done (by kernel_rfl) ?_ _
              go_wp2_with fail
              go_meet
              exact ⟨_, _, sh3, _, rfl, rfl, rfl, y4, y5, hb⟩
             ·
              rw [if_pos (by kernel_rfl)]
              have nz_y5 : wz.heap.size ≤ wc8.heap.size := hb.size
              refine wp_alO rfl ?_
              obtain ⟨wa17, hwa⟩ : ∃ wa17, wa17 = wc8.alloc (.cells (otA 0 (.slice none 0 0) 0) 53) := ⟨_, rfl⟩
              have h9 : Below wc8.heap.size wc8 wa17 := by rw [hwa]; exact below_alloc1 _ _
              have y5 : OBox wa17 (wc8.heap.size) 0 (.slice none 0 0) 0 := by rw [hwa]; exact OBox.new_ _ _ _ _
              rw [← hwa]
              clear hwa
              replace hb := hb.trans (h9.mono hb.size)
              clear h9
              refine hKK.out _ _ ?_ (fun hHeld => ?_)
              · exact (by first | exact hb | exact below_drew hb)
              clear hKK KK
              try simp only [Act.put, List.setIfInBounds_toArray, List.set_cons_zero, List.set_cons_succ]
              refine wpAnyH_ready (rs := [11]) (by kernel_rfl) (by simp) ?_
              refine AllReadyH.cons (by simp only [List.getElem?_toArray]; rfl) (fun KK hKK => ?_) AllReadyH.nil
              rw [if_pos (by kernel_rfl)]
              have ne45 : ¬ wa17.heap.size = wc8.heap.size := by have := y5.lt; omega
              have nz_y4 : wz.heap.size ≤ wa17.heap.size := hb.size
              refine wp_alSt rfl ?_
              obtain ⟨wa18, hwa⟩ : ∃ wa18, wa18 = wa17.alloc (.cells (stA zSt) 46) := ⟨_, rfl⟩
              have h9 : Below wa17.heap.size wa17 wa18 := by rw [hwa]; exact below_alloc1 _ _
              have y4 : BoxS wa18 (wa17.heap.size) zSt := by rw [hwa]; exact BoxS.new_ _ _
              rw [← hwa]
              clear hwa
              replace y5 := y5.ext h9
              replace hb := hb.trans (h9.mono hb.size)
              clear h9
              refine hKK.out _ _ ?_ (fun hHeld => ?_)
              · exact (by first | exact hb | exact below_drew hb)
              clear hKK KK
              try simp only [Act.put, List.setIfInBounds_toArray, List.set_cons_zero, List.set_cons_succ]
              refine wpAnyH_ready (rs := [13]) (by kernel_rfl) (by simp) ?_
              refine AllReadyH.cons (by simp only [List.getElem?_toArray]; rfl) (fun KK hKK => ?_) AllReadyH.nil
              rw [if_pos (by kernel_rfl)]
              refine wp_stS (.tmp 19) (.tmp 91) rfl (wa17.heap.size) S1 rfl rfl y4 ?_
              replace y4 := y4.row_ S1
              replace y5 := y5.mod (mod_setRow wa18 (wa17.heap.size) (stA S1)) (fun e => ne45 e.symm)
              replace hb := below_setRow hb (wa17.heap.size) (stA S1) nz_y4
              obtain ⟨ws19, hws⟩ : ∃ ws19, ws19 = wa18.setRow (wa17.heap.size) (stA S1) := ⟨_, rfl⟩
              rw [← hws] at y4 y5 hb ⊢
              clear hws
              refine hKK.out _ _ ?_ (fun hHeld => ?_)
              · exact (by first | exact hb | exact below_drew hb)
              clear hKK KK
              try simp only [Act.put]
              refine wpAnyH_ready (rs := [14]) (by kernel_rfl) (by simp) ?_
              refine AllReadyH.cons (by simp only [List.getElem?_toArray]; rfl) (fun KK hKK => ?_) AllReadyH.nil
              rw [if_pos (by kernel_rfl)]
              refine wp_stO (.tmp 20) (.tmp 92) rfl (wc8.heap.size) F.t sh3 F.e rfl rfl hs3 y5 ?_
              replace y5 := y5.row_ F.t sh3 F.e
              replace y4 := y4.mod (mod_setRow ws19 (wc8.heap.size) (otA F.t sh3 F.e)) ne45
              replace hb := below_setRow hb (wc8.heap.size) (otA F.t sh3 F.e) nz_y5
              obtain ⟨ws20, hws⟩ : ∃ ws20, ws20 = ws19.setRow (wc8.heap.size) (otA F.t sh3 F.e) := ⟨_, rfl⟩
              rw [← hws] at y4 y5 hb ⊢
              clear hws
              refine hKK.out _ _ ?_ (fun hHeld => ?_)
              · exact (by first | exact hb | exact below_drew hb)
              clear hKK KK
              try simp only [Act.put]
              refine wpAnyH_done (by kernel_rfl) ?_ _
              go_wp2_with fail
              go_meet
              exact ⟨_, _, sh3, _, rfl, rfl, rfl, y4, y5, hb⟩
            ·
             rw [if_pos (by kernel_rfl)]
             have ne_y4 : ∀ j, Value.ownBlock v6 = some j → ¬ j = wa7.heap.size := fun j hj => by have := (World.ownsRow.lt row j hj).2; omega
             have nz_y4 : wz.heap.size ≤ wa7.heap.size := hb.size
             refine wp_alSt rfl ?_
             obtain ⟨wa21, hwa⟩ : ∃ wa21, wa21 = wa7.alloc (.cells (stA zSt) 46) := ⟨_, rfl⟩
             have h9 : Below wa7.heap.size wa7 wa21 := by rw [hwa]; exact below_alloc1 _ _
             have y4 : BoxS wa21 (wa7.heap.size) zSt := by rw [hwa]; exact BoxS.new_ _ _
             rw [← hwa]
             clear hwa
             replace row := own_ext row h9
             replace hb := hb.trans (h9.mono hb.size)
             clear h9
             refine hKK.out _ _ ?_ (fun hHeld => ?_)
             · exact (by first | exact hb | exact below_drew hb)
             clear hKK KK
             try simp only [Act.put, List.setIfInBounds_toArray, List.set_cons_zero, List.set_cons_succ]
             refine wpAnyH_ready (rs := [7, 12]) (by kernel_rfl) (by simp) ?_
             refine AllReadyH.cons (by simp only [List.getElem?_toArray]; rfl) (fun KK hKK => ?_) (AllReadyH.cons (by simp only [List.getElem?_toArray]; rfl) (fun KK hKK => ?_) AllReadyH.nil)
             ·
              rw [if_pos (by kernel_rfl)]
              rcases row.2 with ⟨-, h0⟩ | ⟨g6, c6, cur6, hv6, -⟩
              · exact absurd h0 (by omega)
              subst hv6
              obtain ⟨g7, hs6, hg7⟩ := Sl.of_own row
              have e7 := hg7 g6 rfl
              subst e7
              have hP := hStep (some ⟨g6, 0, none⟩) (wholeM g M ++ N) c6 g6 wa21 (hi9.ext hb) (hT9.ext hb) hs6 (fun x hx => (List.mem_append.1 hx).elim (hwf x) (hfN x)) (by rw [List.length_append, hwl]; simp only [maxLen]; omega) HF3.out
              rw [show (wholeM g M ++ N).length = 0 + k + N.length by rw [List.length_append, hwl]; omega] at hP
              clear hg7 hs6 row ne_y4
              refine wp_callF 17 #[.agg (gmA g s), .agg (stA ⟨C, sd, 0⟩), .slice (some ⟨g6, 0, none⟩) (0 + k + N.length) c6] (by kernel_rfl) ?_
              refine hP.mono ?_
              rintro e wc22 ⟨sh3, rfl, hsh, h9⟩
              have hs3 : sh3.oneCell' = true := by
                rcases hsh.2 with ⟨rfl, -⟩ | ⟨_, _, _, rfl, -⟩ <;> rfl
              clear hsh hP
              replace y4 := y4.ext h9
              replace hb := hb.trans (h9.mono hb.size)
              clear h9
              refine ⟨_, rfl, ?_⟩
              refine hKK.out _ _ ?_ (fun hHeld => ?_)
              · exact (by first | exact hb | exact below_drew hb)
              clear hKK KK
              try simp only [Act.put, List.setIfInBounds_toArray, List.set_cons_zero, List.set_cons_succ]
              refine wpAnyH_take (i := 8) (v := ?vt124) (by simp only [List.getElem?_toArray]; rfl) (by kernel_rfl) (by kernel_rfl) (by kernel_rfl) (by exact fun _ _ _ h => h) (Or.inl ⟨by kernel_rfl, ?yt124⟩) hHeld ?_
              case yt124 => (intro ww hSw; (try dsimp only at hSw); clear hSw; go_simp; try (with_reducible rfl))
              try simp only [Act.put, List.setIfInBounds_toArray, List.set_cons_zero, List.set_cons_succ]
              refine wpAnyH_take (i := 9) (v := ?vt125) (by simp only [List.getElem?_toArray]; rfl) (by kernel_rfl) (by kernel_rfl) (by kernel_rfl) (by exact fun _ _ _ h => h) (Or.inl ⟨by kernel_rfl, ?yt125⟩) hHeld ?_
              case yt125 => (intro ww hSw; (try dsimp only at hSw); clear hSw; go_simp; try (with_reducible rfl))
              try simp only [Act.put, List.setIfInBounds_toArray, List.set_cons_zero, List.set_cons_succ]
              refine wpAnyH_take (i := 10) (v := ?vt126) (by simp only [List.getElem?_toArray]; rfl) (by kernel_rfl) (by kernel_rfl) (by kernel_rfl) (by exact fun _ _ _ h => h) (Or.inl ⟨by kernel_rfl, ?yt126⟩) hHeld ?_
              case yt126 => (intro ww hSw; (try dsimp only at hSw); clear hSw; go_simp; try (with_reducible rfl))
              try simp only [Act.put, List.setIfInBounds_toArray, List.set_cons_zero, List.set_cons_succ]
              refine wpAnyH_ready (rs := [12]) (by kernel_rfl) (by simp) ?_
              refine AllReadyH.cons (by simp only [List.getElem?_toArray]; rfl) (fun KK hKK => ?_) AllReadyH.nil
              rw [if_pos (by kernel_rfl)]
              have ne45 : ¬ wa7.heap.size = wc22.heap.size := by have := y4.lt; omega
              have nz_y5 : wz.heap.size ≤ wc22.heap.size := hb.size
              refine wp_alO rfl ?_
              obtain ⟨wa27, hwa⟩ : ∃ wa27, wa27 = wc22.alloc (.cells (otA 0 (.slice none 0 0) 0) 53) := ⟨_, rfl⟩
              have h9 : Below wc22.heap.size wc22 wa27 := by rw [hwa]; exact below_alloc1 _ _
              have y5 : OBox wa27 (wc22.heap.size) 0 (.slice none 0 0) 0 := by rw [hwa]; exact OBox.new_ _ _ _ _
              rw [← hwa]
              clear hwa
              replace y4 := y4.ext h9
              replace hb := hb.trans (h9.mono hb.size)
              clear h9
              refine hKK.out _ _ ?_ (fun hHeld => ?_)
              · exact (by first | exact hb | exact below_drew hb)
              clear hKK KK
              try simp only [Act.put, List.setIfInBounds_toArray, List.set_cons_zero, List.set_cons_succ]
              refine wpAnyH_ready (rs := [13]) (by kernel_rfl) (by simp) ?_
              refine AllReadyH.cons (by simp only [List.getElem?_toArray]; rfl) (fun KK hKK => ?_) AllReadyH.nil
              rw [if_pos (by kernel_rfl)]
              refine wp_stS (.tmp 19) (.tmp 91) rfl (wa7.heap.size) S1 rfl rfl y4 ?_
              replace y4 := y4.row_ S1
              replace y5 := y5.mod (mod_setRow wa27 (wa7.heap.size) (stA S1)) (fun e => ne45 e.symm)
              replace hb := below_setRow hb (wa7.heap.size) (stA S1) nz_y4
              obtain ⟨ws28, hws⟩ : ∃ ws28, ws28 = wa27.setRow (wa7.heap.size) (stA S1) := ⟨_, rfl⟩
              rw [← hws] at y4 y5 hb ⊢
              clear hws
              refine hKK.out _ _ ?_ (fun hHeld => ?_)
              · exact (by first | exact hb | exact below_drew hb)
              clear hKK KK
              try simp only [Act.put]
              refine wpAnyH_ready (rs := [14]) (by kernel_rfl) (by simp) ?_
              refine AllReadyH.cons (by simp only [List.getElem?_toArray]; rfl) (fun KK hKK => ?_) AllReadyH.nil
              rw [if_pos (by kernel_rfl)]
              refine wp_stO (.tmp 20) (.tmp 92) rfl (wc22.heap.size) F.t sh3 F.e rfl rfl hs3 y5 ?_
              replace y5 := y5.row_ F.t sh3 F.e
              replace y4 := y4.mod (mod_setRow ws28 (wc22.heap.size) (otA F.t sh3 F.e)) ne45
              replace hb := below_setRow hb (wc22.heap.size) (otA F.t sh3 F.e) nz_y5
              obtain ⟨ws29, hws⟩ : ∃ ws29, ws29 = ws28.setRow (wc22.heap.size) (otA F.t sh3 F.e) := ⟨_, rfl⟩
              rw [← hws] at y4 y5 hb ⊢
              clear hws
              refine hKK.out _ _ ?_ (fun hHeld => ?_)
              · exact (by first | exact hb | exact below_drew hb)
              clear hKK KK
              try simp only [Act.put]
              refine wpAnyH_done (by kernel_rfl) ?_ _
              go_wp2_with fail
              go_meet
              exact ⟨_, _, sh3, _, rfl, rfl, rfl, y4, y5, hb⟩
             ·
              rw [if_pos (by kernel_rfl)]
              have ne45 : ¬ wa7.heap.size = wa21.heap.size := by have := y4.lt; omega
              have ne_y5 : ∀ j, Value.ownBlock v6 = some j → ¬ j = wa21.heap.size := fun j hj => by have := (World.ownsRow.lt row j hj).2; omega
              have nz_y5 : wz.heap.size ≤ wa21.heap.size := hb.size
              refine wp_alO rfl ?_
              obtain ⟨wa30, hwa⟩ : ∃ wa30, wa30 = wa21.alloc (.cells (otA 0 (.slice none 0 0) 0) 53) := ⟨_, rfl⟩
              have h9 : Below wa21.heap.size wa21 wa30 := by rw [hwa]; exact below_alloc1 _ _
              have y5 : OBox wa30 (wa21.heap.size) 0 (.slice none 0 0) 0 := by rw [hwa]; exact OBox.new_ _ _ _ _
              rw [← hwa]
              clear hwa
              replace row := own_ext row h9
              replace y4 := y4.ext h9
              replace hb := hb.trans (h9.mono hb.size)
              clear h9
              refine hKK.out _ _ ?_ (fun hHeld => ?_)
              · exact (by first | exact hb | exact below_drew hb)
              clear hKK KK
              try simp only [Act.put, List.setIfInBounds_toArray, List.set_cons_zero, List.set_cons_succ]
              refine wpAnyH_ready (rs := [7]) (by kernel_rfl) (by simp) ?_
              refine AllReadyH.cons (by simp only [List.getElem?_toArray]; rfl) (fun KK hKK => ?_) AllReadyH.nil
              rw [if_pos (by kernel_rfl)]
              rcases row.2 with ⟨-, h0⟩ | ⟨g6, c6, cur6, hv6, -⟩
              · exact absurd h0 (by omega)
              subst hv6
              obtain ⟨g7, hs6, hg7⟩ := Sl.of_own row
              have e7 := hg7 g6 rfl
              subst e7
              have hP := hStep (some ⟨g6, 0, none⟩) (wholeM g M ++ N) c6 g6 wa30 (hi9.ext hb) (hT9.ext hb) hs6 (fun x hx => (List.mem_append.1 hx).elim (hwf x) (hfN x)) (by rw [List.length_append, hwl]; simp only [maxLen]; omega) HF3.out
              rw [show (wholeM g M ++ N).length = 0 + k + N.length by rw [List.length_append, hwl]; omega] at hP
              clear hg7 hs6 row ne_y4 ne_y5
              refine wp_callF 17 #[.agg (gmA g s), .agg (stA ⟨C, sd, 0⟩), .slice (some ⟨g6, 0, none⟩) (0 + k + N.length) c6] (by kernel_rfl) ?_
              refine hP.mono ?_
              rintro e wc31 ⟨sh3, rfl, hsh, h9⟩
              have hs3 : sh3.oneCell' = true := by
                rcases hsh.2 with ⟨rfl, -⟩ | ⟨_, _, _, rfl, -⟩ <;> rfl
              clear hsh hP
              replace y4 := y4.ext h9
              replace y5 := y5.ext h9
              replace hb := hb.trans (h9.mono hb.size)
              clear h9
              refine ⟨_, rfl, ?_⟩
              refine hKK.out _ _ ?_ (fun hHeld => ?_)
              · exact (by first | exact hb | exact below_drew hb)
              clear hKK KK
              try simp only [Act.put, List.setIfInBounds_toArray, List.set_cons_zero, List.set_cons_succ]
              refine wpAnyH_take (i := 8) (v := ?vt133) (by simp only [List.getElem?_toArray]; rfl) (by kernel_rfl) (by kernel_rfl) (by kernel_rfl) (by exact fun _ _ _ h => h) (Or.inl ⟨by kernel_rfl, ?yt133⟩) hHeld ?_
              case yt133 => (intro ww hSw; (try dsimp only at hSw); clear hSw; go_simp; try (with_reducible rfl))
              try simp only [Act.put, List.setIfInBounds_toArray, List.set_cons_zero, List.set_cons_succ]
              refine wpAnyH_take (i := 9) (v := ?vt134) (by simp only [List.getElem?_toArray]; rfl) (by kernel_rfl) (by kernel_rfl) (by kernel_rfl) (by exact fun _ _ _ h => h) (Or.inl ⟨by kernel_rfl, ?yt134⟩) hHeld ?_
              case yt134 => (intro ww hSw; (try dsimp only at hSw); clear hSw; go_simp; try (with_reducible rfl))
              try simp only [Act.put, List.setIfInBounds_toArray, List.set_cons_zero, List.set_cons_succ]
              refine wpAnyH_take (i := 10) (v := ?vt135) (by simp only [List.getElem?_toArray]; rfl) (by kernel_rfl) (by kernel_rfl) (by kernel_rfl) (by exact fun _ _ _ h => h) (Or.inl ⟨by kernel_rfl, ?yt135⟩) hHeld ?_
              case yt135 => (intro ww hSw; (try dsimp only at hSw); clear hSw; go_simp; try (with_reducible rfl))
              try simp only [Act.put, List.setIfInBounds_toArray, List.set_cons_zero, List.set_cons_succ]
              refine wpAnyH_ready (rs := [13]) (by kernel_rfl) (by simp) ?_
              refine AllReadyH.cons (by simp only [List.getElem?_toArray]; rfl) (fun KK hKK => ?_) AllReadyH.nil
              rw [if_pos (by kernel_rfl)]
              refine wp_stS (.tmp 19) (.tmp 91) rfl (wa7.heap.size) S1 rfl rfl y4 ?_
              replace y4 := y4.row_ S1
              replace y5 := y5.mod (mod_setRow wc31 (wa7.heap.size) (stA S1)) (fun e => ne45 e.symm)
              replace hb := below_setRow hb (wa7.heap.size) (stA S1) nz_y4
              obtain ⟨ws36, hws⟩ : ∃ ws36, ws36 = wc31.setRow (wa7.heap.size) (stA S1) := ⟨_, rfl⟩
              rw [← hws] at y4 y5 hb ⊢
              clear hws
              refine hKK.out _ _ ?_ (fun hHeld => ?_)
              · exact (by first | exact hb | exact below_drew hb)
              clear hKK KK
              try simp only [Act.put]
              refine wpAnyH_ready (rs := [14]) (by kernel_rfl) (by simp) ?_
              refine AllReadyH.cons (by simp only [List.getElem?_toArray]; rfl) (fun KK hKK => ?_) AllReadyH.nil
              rw [if_pos (by kernel_rfl)]
              refine wp_stO (.tmp 20) (.tmp 92) rfl (wa21.heap.size) F.t sh3 F.e rfl rfl hs3 y5 ?_
              replace y5 := y5.row_ F.t sh3 F.e
              replace y4 := y4.mod (mod_setRow ws36 (wa21.heap.size) (otA F.t sh3 F.e)) ne45
              replace hb := below_setRow hb (wa21.heap.size) (otA F.t sh3 F.e) nz_y5
              obtain ⟨ws37, hws⟩ : ∃ ws37, ws37 = ws36.setRow (wa21.heap.size) (otA F.t sh3 F.e) := ⟨_, rfl⟩
              rw [← hws] at y4 y5 hb ⊢
              clear hws
              refine hKK.out _ _ ?_ (fun hHeld => ?_)
              · exact (by first | exact hb | exact below_drew hb)
              clear hKK KK
              try simp only [Act.put]
              refine wpAnyH_done (by kernel_rfl) ?_ _
              go_wp2_with fail
              go_meet
              exact ⟨_, _, sh3, _, rfl, rfl, rfl, y4, y5, hb⟩
            ·
             rw [if_pos (by kernel_rfl)]
             have ne_y5 : ∀ j, Value.ownBlock v6 = some j → ¬ j = wa7.heap.size := fun j hj => by have := (World.ownsRow.lt row j hj).2; omega
             have nz_y5 : wz.heap.size ≤ wa7.heap.size := hb.size
             refine wp_alO rfl ?_
             obtain ⟨wa38, hwa⟩ : ∃ wa38, wa38 = wa7.alloc (.cells (otA 0 (.slice none 0 0) 0) 53) := ⟨_, rfl⟩
             have h9 : Below wa7.heap.size wa7 wa38 := by rw [hwa]; exact below_alloc1 _ _
             have y5 : OBox wa38 (wa7.heap.size) 0 (.slice none 0 0) 0 := by rw [hwa]; exact OBox.new_ _ _ _ _
             rw [← hwa]
             clear hwa
             replace row := own_ext row h9
             replace hb := hb.trans (h9.mono hb.size)
             clear h9
             refine hKK.out _ _ ?_ (fun hHeld => ?_)
             · exact (by first | exact hb | exact below_drew hb)
             clear hKK KK
             try simp only [Act.put, List.setIfInBounds_toArray, List.set_cons_zero, List.set_cons_succ]
             refine wpAnyH_ready (rs := [7, 11]) (by kernel_rfl) (by simp) ?_
             refine AllReadyH.cons (by simp only [List.getElem?_toArray]; rfl) (fun KK hKK => ?_) (AllReadyH.cons (by simp only [List.getElem?_toArray]; rfl) (fun KK hKK => ?_) AllReadyH.nil)
             ·
              rw [if_pos (by kernel_rfl)]
              rcases row.2 with ⟨-, h0⟩ | ⟨g6, c6, cur6, hv6, -⟩
              · exact absurd h0 (by omega)
              subst hv6
              obtain ⟨g7, hs6, hg7⟩ := Sl.of_own row
              have e7 := hg7 g6 rfl
              subst e7
              have hP := hStep (some ⟨g6, 0, none⟩) (wholeM g M ++ N) c6 g6 wa38 (hi9.ext hb) (hT9.ext hb) hs6 (fun x hx => (List.mem_append.1 hx).elim (hwf x) (hfN x)) (by rw [List.length_append, hwl]; simp only [maxLen]; omega) HF3.out
              rw [show (wholeM g M ++ N).length = 0 + k + N.length by rw [List.length_append, hwl]; omega] at hP
              clear hg7 hs6 row ne_y5
              refine wp_callF 17 #[.agg (gmA g s), .agg (stA ⟨C, sd, 0⟩), .slice (some ⟨g6, 0, none⟩) (0 + k + N.length) c6] (by kernel_rfl) ?_
              refine hP.mono ?_
              rintro e wc39 ⟨sh3, rfl, hsh, h9⟩
              have hs3 : sh3.oneCell' = true := by
                rcases hsh.2 with ⟨rfl, -⟩ | ⟨_, _, _, rfl, -⟩ <;> rfl
              clear hsh hP
              replace y5 := y5.ext h9
              replace hb := hb.trans (h9.mono hb.size)
              clear h9
              refine ⟨_, rfl, ?_⟩
              refine hKK.out _ _ ?_ (fun hHeld => ?_)
              · exact (by first | exact hb | exact below_drew hb)
              clear hKK KK
              try simp only [Act.put, List.setIfInBounds_toArray, List.set_cons_zero, List.set_cons_succ]
              refine wpAnyH_take (i := 8) (v := ?vt141) (by simp only [List.getElem?_toArray]; rfl) (by kernel_rfl) (by kernel_rfl) (by kernel_rfl) (by exact fun _ _ _ h => h) (Or.inl ⟨by kernel_rfl, ?yt141⟩) hHeld ?_
              case yt141 => (intro ww hSw; (try dsimp only at hSw); clear hSw; go_simp; try (with_reducible rfl))
              try simp only [Act.put, List.setIfInBounds_toArray, List.set_cons_zero, List.set_cons_succ]
              refine wpAnyH_take (i := 9) (v := ?vt142) (by simp only [List.getElem?_toArray]; rfl) (by kernel_rfl) (by kernel_rfl) (by kernel_rfl) (by exact fun _ _ _ h => h) (Or.inl ⟨by kernel_rfl, ?yt142⟩) hHeld ?_
              case yt142 => (intro ww hSw; (try dsimp only at hSw); clear hSw; go_simp; try (with_reducible rfl))
              try simp only [Act.put, List.setIfInBounds_toArray, List.set_cons_zero, List.set_cons_succ]
              refine wpAnyH_take (i := 10) (v := ?vt143) (by simp only [List.getElem?_toArray]; rfl) (by kernel_rfl) (by kernel_rfl) (by kernel_rfl) (by exact fun _ _ _ h => h) (Or.inl ⟨by kernel_rfl, ?yt143⟩) hHeld ?_
              case yt143 => (intro ww hSw; (try dsimp only at hSw); clear hSw; go_simp; try (with_reducible rfl))
              try simp only [Act.put, List.setIfInBounds_toArray, List.set_cons_zero, List.set_cons_succ]
              refine wpAnyH_ready (rs := [11]) (by kernel_rfl) (by simp) ?_
              refine AllReadyH.cons (by simp only [List.getElem?_toArray]; rfl) (fun KK hKK => ?_) AllReadyH.nil
              rw [if_pos (by kernel_rfl)]
              have ne45 : ¬ wc39.heap.size = wa7.heap.size := by have := y5.lt; omega
              have nz_y4 : wz.heap.size ≤ wc39.heap.size := hb.size
              refine wp_alSt rfl ?_
              obtain ⟨wa44, hwa⟩ : ∃ wa44, wa44 = wc39.alloc (.cells (stA zSt) 46) := ⟨_, rfl⟩
              have h9 : Below wc39.heap.size wc39 wa44 := by rw [hwa]; exact below_alloc1 _ _
              have y4 : BoxS wa44 (wc39.heap.size) zSt := by rw [hwa]; exact BoxS.new_ _ _
              rw [← hwa]
              clear hwa
              replace y5 := y5.ext h9
              replace hb := hb.trans (h9.mono hb.size)
              clear h9
              refine hKK.out _ _ ?_ (fun hHeld => ?_)
              · exact (by first | exact hb | exact below_drew hb)
              clear hKK KK
              try simp only [Act.put, List.setIfInBounds_toArray, List.set_cons_zero, List.set_cons_succ]
              refine wpAnyH_ready (rs := [13]) (by kernel_rfl) (by simp) ?_
              refine AllReadyH.cons (by simp only [List.getElem?_toArray]; rfl) (fun KK hKK => ?_) AllReadyH.nil
              rw [if_pos (by kernel_rfl)]
              refine wp_stS (.tmp 19) (.tmp 91) rfl (wc39.heap.size) S1 rfl rfl y4 ?_
              replace y4 := y4.row_ S1
              replace y5 := y5.mod (mod_setRow wa44 (wc39.heap.size) (stA S1)) (fun e => ne45 e.symm)
              replace hb := below_setRow hb (wc39.heap.size) (stA S1) nz_y4
              obtain ⟨ws45, hws⟩ : ∃ ws45, ws45 = wa44.setRow (wc39.heap.size) (stA S1) := ⟨_, rfl⟩
              rw [← hws] at y4 y5 hb ⊢
              clear hws
              refine hKK.out _ _ ?_ (fun hHeld => ?_)
              · exact (by first | exact hb | exact below_drew hb)
              clear hKK KK
              try simp only [Act.put]
              refine wpAnyH_ready (rs := [14]) (by kernel_rfl) (by simp) ?_
              refine AllReadyH.cons (by simp only [List.getElem?_toArray]; rfl) (fun KK hKK => ?_) AllReadyH.nil
              rw [if_pos (by kernel_rfl)]
              refine wp_stO (.tmp 20) (.tmp 92) rfl (wa7.heap.size) F.t sh3 F.e rfl rfl hs3 y5 ?_
              replace y5 := y5.row_ F.t sh3 F.e
              replace y4 := y4.mod (mod_setRow ws45 (wa7.heap.size) (otA F.t sh3 F.e)) ne45
              replace hb := below_setRow hb (wa7.heap.size) (otA F.t sh3 F.e) nz_y5
              obtain ⟨ws46, hws⟩ : ∃ ws46, ws46 = ws45.setRow (wa7.heap.size) (otA F.t sh3 F.e) := ⟨_, rfl⟩
              rw [← hws] at y4 y5 hb ⊢
              clear hws
              refine hKK.out _ _ ?_ (fun hHeld => ?_)
              · exact (by first | exact hb | exact below_drew hb)
              clear hKK KK
              try simp only [Act.put]
              refine wpAnyH_done (by kernel_rfl) ?_ _
              go_wp2_with fail
              go_meet
              exact ⟨_, _, sh3, _, rfl, rfl, rfl, y4, y5, hb⟩
             ·
              rw [if_pos (by kernel_rfl)]
              have ne45 : ¬ wa38.heap.size = wa7.heap.size := by have := y5.lt; omega
              have ne_y4 : ∀ j, Value.ownBlock v6 = some j → ¬ j = wa38.heap.size := fun j hj => by have := (World.ownsRow.lt row j hj).2; omega
              have nz_y4 : wz.heap.size ≤ wa38.heap.size := hb.size
              refine wp_alSt rfl ?_
              obtain ⟨wa47, hwa⟩ : ∃ wa47, wa47 = wa38.alloc (.cells (stA zSt) 46) := ⟨_, rfl⟩
              have h9 : Below wa38.heap.size wa38 wa47 := by rw [hwa]; exact below_alloc1 _ _
              have y4 : BoxS wa47 (wa38.heap.size) zSt := by rw [hwa]; exact BoxS.new_ _ _
              rw [← hwa]
              clear hwa
              replace row := own_ext row h9
              replace y5 := y5.ext h9
              replace hb := hb.trans (h9.mono hb.size)
              clear h9
              refine hKK.out _ _ ?_ (fun hHeld => ?_)
              · exact (by first | exact hb | exact below_drew hb)
              clear hKK KK
              try simp only [Act.put, List.setIfInBounds_toArray, List.set_cons_zero, List.set_cons_succ]
              refine wpAnyH_ready (rs := [7]) (by kernel_rfl) (by simp) ?_
              refine AllReadyH.cons (by simp only [List.getElem?_toArray]; rfl) (fun KK hKK => ?_) AllReadyH.nil
              rw [if_pos (by kernel_rfl)]
              rcases row.2 with ⟨-, h0⟩ | ⟨g6, c6, cur6, hv6, -⟩
              · exact absurd h0 (by omega)
              subst hv6
              obtain ⟨g7, hs6, hg7⟩ := Sl.of_own row
              have e7 := hg7 g6 rfl
              subst e7
              have hP := hStep (some ⟨g6, 0, none⟩) (wholeM g M ++ N) c6 g6 wa47 (hi9.ext hb) (hT9.ext hb) hs6 (fun x hx => (List.mem_append.1 hx).elim (hwf x) (hfN x)) (by rw [List.length_append, hwl]; simp only [maxLen]; omega) HF3.out
              rw [show (wholeM g M ++ N).length = 0 + k + N.length by rw [List.length_append, hwl]; omega] at hP
              clear hg7 hs6 row ne_y4 ne_y5
              refine wp_callF 17 #[.agg (gmA g s), .agg (stA ⟨C, sd, 0⟩), .slice (some ⟨g6, 0, none⟩) (0 + k + N.length) c6] (by kernel_rfl) ?_
              refine hP.mono ?_
              rintro e wc48 ⟨sh3, rfl, hsh, h9⟩
              have hs3 : sh3.oneCell' = true := by
                rcases hsh.2 with ⟨rfl, -⟩ | ⟨_, _, _, rfl, -⟩ <;> rfl
              clear hsh hP
              replace y5 := y5.ext h9
              replace y4 := y4.ext h9
              replace hb := hb.trans (h9.mono hb.size)
              clear h9
              refine ⟨_, rfl, ?_⟩
              refine hKK.out _ _ ?_ (fun hHeld => ?_)
              · exact (by first | exact hb | exact below_drew hb)
              clear hKK KK
              try simp only [Act.put, List.setIfInBounds_toArray, List.set_cons_zero, List.set_cons_succ]
              refine wpAnyH_take (i := 8) (v := ?vt150) (by simp only [List.getElem?_toArray]; rfl) (by kernel_rfl) (by kernel_rfl) (by kernel_rfl) (by exact fun _ _ _ h => h) (Or.inl ⟨by kernel_rfl, ?yt150⟩) hHeld ?_
              case yt150 => (intro ww hSw; (try dsimp only at hSw); clear hSw; go_simp; try (with_reducible rfl))
              try simp only [Act.put, List.setIfInBounds_toArray, List.set_cons_zero, List.set_cons_succ]
              refine wpAnyH_take (i := 9) (v := ?vt151) (by simp only [List.getElem?_toArray]; rfl) (by kernel_rfl) (by kernel_rfl) (by kernel_rfl) (by exact fun _ _ _ h => h) (Or.inl ⟨by kernel_rfl, ?yt151⟩) hHeld ?_
              case yt151 => (intro ww hSw; (try dsimp only at hSw); clear hSw; go_simp; try (with_reducible rfl))
              try simp only [Act.put, List.setIfInBounds_toArray, List.set_cons_zero, List.set_cons_succ]
              refine wpAnyH_take (i := 10) (v := ?vt152) (by simp only [List.getElem?_toArray]; rfl) (by kernel_rfl) (by kernel_rfl) (by kernel_rfl) (by exact fun _ _ _ h => h) (Or.inl ⟨by kernel_rfl, ?yt152⟩) hHeld ?_
              case yt152 => (intro ww hSw; (try dsimp only at hSw); clear hSw; go_simp; try (with_reducible rfl))
              try simp only [Act.put, List.setIfInBounds_toArray, List.set_cons_zero, List.set_cons_succ]
              refine wpAnyH_ready (rs := [13]) (by kernel_rfl) (by simp) ?_
              refine AllReadyH.cons (by simp only [List.getElem?_toArray]; rfl) (fun KK hKK => ?_) AllReadyH.nil
              rw [if_pos (by kernel_rfl)]
              refine wp_stS (.tmp 19) (.tmp 91) rfl (wa38.heap.size) S1 rfl rfl y4 ?_
              replace y4 := y4.row_ S1
              replace y5 := y5.mod (mod_setRow wc48 (wa38.heap.size) (stA S1)) (fun e => ne45 e.symm)
              replace hb := below_setRow hb (wa38.heap.size) (stA S1) nz_y4
              obtain ⟨ws53, hws⟩ : ∃ ws53, ws53 = wc48.setRow (wa38.heap.size) (stA S1) := ⟨_, rfl⟩
              rw [← hws] at y4 y5 hb ⊢
              clear hws
              refine hKK.out _ _ ?_ (fun hHeld => ?_)
              · exact (by first | exact hb | exact below_drew hb)
              clear hKK KK
              try simp only [Act.put]
              refine wpAnyH_ready (rs := [14]) (by kernel_rfl) (by simp) ?_
              refine AllReadyH.cons (by simp only [List.getElem?_toArray]; rfl) (fun KK hKK => ?_) AllReadyH.nil
              rw [if_pos (by kernel_rfl)]
              refine wp_stO (.tmp 20) (.tmp 92) rfl (wa7.heap.size) F.t sh3 F.e rfl rfl hs3 y5 ?_
              replace y5 := y5.row_ F.t sh3 F.e
              replace y4 := y4.mod (mod_setRow ws53 (wa7.heap.size) (otA F.t sh3 F.e)) ne45
              replace hb := below_setRow hb (wa7.heap.size) (otA F.t sh3 F.e) nz_y5
              obtain ⟨ws54, hws⟩ : ∃ ws54, ws54 = ws53.setRow (wa7.heap.size) (otA F.t sh3 F.e) := ⟨_, rfl⟩
              rw [← hws] at y4 y5 hb ⊢
              clear hws
              refine hKK.out _ _ ?_ (fun hHeld => ?_)
              · exact (by first | exact hb | exact below_drew hb)
              clear hKK KK
              try simp only [Act.put]
              refine wpAnyH_done (by kernel_rfl) ?_ _
              go_wp2_with fail
              go_meet
              exact ⟨_, _, sh3, _, rfl, rfl, rfl, y4, y5, hb⟩
           ·
            rw [if_pos (by kernel_rfl)]
            have ne_y4 : ∀ j, Value.ownBlock v4 = some j → ¬ j = wa6.heap.size := fun j hj => by have := (World.ownsRow.lt row j hj).2; omega
            have nz_y4 : wz.heap.size ≤ wa6.heap.size := hb.size
            refine wp_alSt rfl ?_
            obtain ⟨wa55, hwa⟩ : ∃ wa55, wa55 = wa6.alloc (.cells (stA zSt) 46) := ⟨_, rfl⟩
            have h9 : Below wa6.heap.size wa6 wa55 := by rw [hwa]; exact below_alloc1 _ _
            have y4 : BoxS wa55 (wa6.heap.size) zSt := by rw [hwa]; exact BoxS.new_ _ _
            rw [← hwa]
            clear hwa
            replace row := own_ext row h9
            replace hb := hb.trans (h9.mono hb.size)
            clear h9
            refine hKK.out _ _ ?_ (fun hHeld => ?_)
            · exact (by first | exact hb | exact below_drew hb)
            clear hKK KK
            try simp only [Act.put, List.setIfInBounds_toArray, List.set_cons_zero, List.set_cons_succ]
            refine wpAnyH_ready (rs := [6, 12]) (by kernel_rfl) (by simp) ?_
            refine AllReadyH.cons (by simp only [List.getElem?_toArray]; rfl) (fun KK hKK => ?_) (AllReadyH.cons (by simp only [List.getElem?_toArray]; rfl) (fun KK hKK => ?_) AllReadyH.nil)
            ·
             rw [if_pos (by kernel_rfl)]
             have nl_y4 := y4.lt
             refine wp_appU (.tmp 87) (.tmp 88) rfl wz.heap.size (0 + k) v4 ([] ++ wholeM g M) rfl row nb NA (N.length) nc (N) rfl (Sl.ext hN9 hb) rfl (by omega) hb.size ?_
             intro v6 wa56 row' hgr hloc
             have hB := (Mod.of_grown hgr).below hb.size (fun i hi e => by have := (World.ownsRow.lt row i e).1; omega)
             replace y4 := y4.mod (Mod.of_grown hgr) (fun e => ne_y4 _ e rfl)
             replace ne_y4 : ∀ j, Value.ownBlock v6 = some j → ¬ j = wa6.heap.size := fun j hj => by
               rcases hloc with h | h
               · exact ne_y4 j (h ▸ hj)
               · rw [h] at hj; injection hj with hj; omega
             clear nl_y4
             replace hb := hb.trans hB
             clear hB hgr hloc row
             have row := row'
             clear row'
             refine hKK.out _ _ ?_ (fun hHeld => ?_)
             · exact (by first | exact hb | exact below_drew hb)
             clear hKK KK
             try simp only [Act.put, List.setIfInBounds_toArray, List.set_cons_zero, List.set_cons_succ]
             refine wpAnyH_ready (rs := [7, 12]) (by kernel_rfl) (by simp) ?_
             refine AllReadyH.cons (by simp only [List.getElem?_toArray]; rfl) (fun KK hKK => ?_) (AllReadyH.cons (by simp only [List.getElem?_toArray]; rfl) (fun KK hKK => ?_) AllReadyH.nil)
             ·
              rw [if_pos (by kernel_rfl)]
              rcases row.2 with ⟨-, h0⟩ | ⟨g6, c6, cur6, hv6, -⟩
              · exact absurd h0 (by omega)
              subst hv6
              obtain ⟨g7, hs6, hg7⟩ := Sl.of_own row
              have e7 := hg7 g6 rfl
              subst e7
              have hP := hStep (some ⟨g6, 0, none⟩) (wholeM g M ++ N) c6 g6 wa56 (hi9.ext hb) (hT9.ext hb) hs6 (fun x hx => (List.mem_append.1 hx).elim (hwf x) (hfN x)) (by rw [List.length_append, hwl]; simp only [maxLen]; omega) HF3.out
              rw [show (wholeM g M ++ N).length = 0 + k + N.length by rw [List.length_append, hwl]; omega] at hP
              clear hg7 hs6 row ne_y4
              refine wp_callF 17 #[.agg (gmA g s), .agg (stA ⟨C, sd, 0⟩), .slice (some ⟨g6, 0, none⟩) (0 + k + N.length) c6] (by kernel_rfl) ?_
              refine hP.mono ?_
              rintro e wc57 ⟨sh3, rfl, hsh, h9⟩
              have hs3 : sh3.oneCell' = true := by
                rcases hsh.2 with ⟨rfl, -⟩ | ⟨_, _, _, rfl, -⟩ <;> rfl
              clear hsh hP
              replace y4 := y4.ext h9
              replace hb := hb.trans (h9.mono hb.size)
              clear h9
              refine ⟨_, rfl, ?_⟩
              refine hKK.out _ _ ?_ (fun hHeld => ?_)
              · exact (by first | exact hb | exact below_drew hb)
              clear hKK KK
              try simp only [Act.put, List.setIfInBounds_toArray, List.set_cons_zero, List.set_cons_succ]
              refine wpAnyH_take (i := 8) (v := ?vt159) (by simp only [List.getElem?_toArray]; rfl) (by kernel_rfl) (by kernel_rfl) (by kernel_rfl) (by exact fun _ _ _ h => h) (Or.inl ⟨by kernel_rfl, ?yt159⟩) hHeld ?_
              case yt159 => (intro ww hSw; (try dsimp only at hSw); clear hSw; go_simp; try (with_reducible rfl))
              try simp only [Act.put, List.setIfInBounds_toArray, List.set_cons_zero, List.set_cons_succ]
              refine wpAnyH_take (i := 9) (v := ?vt160) (by simp only [List.getElem?_toArray]; rfl) (by kernel_rfl) (by kernel_rfl) (by kernel_rfl) (by exact fun _ _ _ h => h) (Or.inl ⟨by kernel_rfl, ?yt160⟩) hHeld ?_
              case yt160 => (intro ww hSw; (try dsimp only at hSw); clear hSw; go_simp; try (with_reducible rfl))
              try simp only [Act.put, List.setIfInBounds_toArray, List.set_cons_zero, List.set_cons_succ]
              refine wpAnyH_take (i := 10) (v := ?vt161) (by simp only [List.getElem?_toArray]; rfl) (by kernel_rfl) (by kernel_rfl) (by kernel_rfl) (by exact fun _ _ _ h => h) (Or.inl ⟨by kernel_rfl, ?yt161⟩) hHeld ?_
              case yt161 => (intro ww hSw; (try dsimp only at hSw); clear hSw; go_simp; try (with_reducible rfl))
              try simp only [Act.put, List.setIfInBounds_toArray, List.set_cons_zero, List.set_cons_succ]
              refine wpAnyH_ready (rs := [12]) (by kernel_rfl) (by simp) ?_
              refine AllReadyH.cons (by simp only [List.getElem?_toArray]; rfl) (fun KK hKK => ?_) AllReadyH.nil
              rw [if_pos (by kernel_rfl)]
              have ne45 : ¬ wa6.heap.size = wc57.heap.size := by have := y4.lt; omega
              have nz_y5 : wz.heap.size ≤ wc57.heap.size := hb.size
              refine wp_alO rfl ?_
              obtain ⟨wa62, hwa⟩ : ∃ wa62, wa62 = wc57.alloc (.cells (otA 0 (.slice none 0 0) 0) 53) := ⟨_, rfl⟩
              have h9 : Below wc57.heap.size wc57 wa62 := by rw [hwa]; exact below_alloc1 _ _
              have y5 : OBox wa62 (wc57.heap.size) 0 (.slice none 0 0) 0 := by rw [hwa]; exact OBox.new_ _ _ _ _
              rw [← hwa]
              clear hwa
              replace y4 := y4.ext h9
              replace hb := hb.trans (h9.mono hb.size)
              clear h9
              refine hKK.out _ _ ?_ (fun hHeld => ?_)
              · exact (by first | exact hb | exact below_drew hb)
              clear hKK KK
              try simp only [Act.put, List.setIfInBounds_toArray, List.set_cons_zero, List.set_cons_succ]
              refine wpAnyH_ready (rs := [13]) (by kernel_rfl) (by simp) ?_
              refine AllReadyH.cons (by simp only [List.getElem?_toArray]; rfl) (fun KK hKK => ?_) AllReadyH.nil
              rw [if_pos (by kernel_rfl)]
              refine wp_stS (.tmp 19) (.tmp 91) rfl (wa6.heap.size) S1 rfl rfl y4 ?_
              replace y4 := y4.row_ S1
              replace y5 := y5.mod (mod_setRow wa62 (wa6.heap.size) (stA S1)) (fun e => ne45 e.symm)
              replace hb := below_setRow hb (wa6.heap.size) (stA S1) nz_y4
              obtain ⟨ws63, hws⟩ : ∃ ws63, ws63 = wa62.setRow (wa6.heap.size) (stA S1) := ⟨_, rfl⟩
              rw [← hws] at y4 y5 hb ⊢
              clear hws
              refine hKK.out _ _ ?_ (fun hHeld => ?_)
              · exact (by first | exact hb | exact below_drew hb)
              clear hKK KK
              try simp only [Act.put]
              refine wpAnyH_ready (rs := [14]) (by kernel_rfl) (by simp) ?_
              refine AllReadyH.cons (by simp only [List.getElem?_toArray]; rfl) (fun KK hKK => ?_) AllReadyH.nil
              rw [if_pos (by kernel_rfl)]
              refine wp_stO (.tmp 20) (.tmp 92) rfl (wc57.heap.size) F.t sh3 F.e rfl rfl hs3 y5 ?_
              replace y5 := y5.row_ F.t sh3 F.e
              replace y4 := y4.mod (mod_setRow ws63 (wc57.heap.size) (otA F.t sh3 F.e)) ne45
              replace hb := below_setRow hb (wc57.heap.size) (otA F.t sh3 F.e) nz_y5
              obtain ⟨ws64, hws⟩ : ∃ ws64, ws64 = ws63.setRow (wc57.heap.size) (otA F.t sh3 F.e) := ⟨_, rfl⟩
              rw [← hws] at y4 y5 hb ⊢
              clear hws
              refine hKK.out _ _ ?_ (fun hHeld => ?_)
              · exact (by first | exact hb | exact below_drew hb)
              clear hKK KK
              try simp only [Act.put]
              refine wpAnyH_done (by kernel_rfl) ?_ _
              go_wp2_with fail
              go_meet
              exact ⟨_, _, sh3, _, rfl, rfl, rfl, y4, y5, hb⟩
             ·
              rw [if_pos (by kernel_rfl)]
              have ne45 : ¬ wa6.heap.size = wa56.heap.size := by have := y4.lt; omega
              have ne_y5 : ∀ j, Value.ownBlock v6 = some j → ¬ j = wa56.heap.size := fun j hj => by have := (World.ownsRow.lt row j hj).2; omega
              have nz_y5 : wz.heap.size ≤ wa56.heap.size := hb.size
              refine wp_alO rfl ?_
              obtain ⟨wa65, hwa⟩ : ∃ wa65, wa65 = wa56.alloc (.cells (otA 0 (.slice none 0 0) 0) 53) := ⟨_, rfl⟩
              have h9 : Below wa56.heap.size wa56 wa65 := by rw [hwa]; exact below_alloc1 _ _
              have y5 : OBox wa65 (wa56.heap.size) 0 (.slice none 0 0) 0 := by rw [hwa]; exact OBox.new_ _ _ _ _
              rw [← hwa]
              clear hwa
              replace row := own_ext row h9
              replace y4 := y4.ext h9
              replace hb := hb.trans (h9.mono hb.size)
              clear h9
              refine hKK.out _ _ ?_ (fun hHeld => ?_)
              · exact (by first | exact hb | exact below_drew hb)
              clear hKK KK
              try simp only [Act.put, List.setIfInBounds_toArray, List.set_cons_zero, List.set_cons_succ]
              refine wpAnyH_ready (rs := [7]) (by kernel_rfl) (by simp) ?_
              refine AllReadyH.cons (by simp only [List.getElem?_toArray]; rfl) (fun KK hKK => ?_) AllReadyH.nil
              rw [if_pos (by kernel_rfl)]
              rcases row.2 with ⟨-, h0⟩ | ⟨g6, c6, cur6, hv6, -⟩
              · exact absurd h0 (by omega)
              subst hv6
              obtain ⟨g7, hs6, hg7⟩ := Sl.of_own row
              have e7 := hg7 g6 rfl
              subst e7
              have hP := hStep (some ⟨g6, 0, none⟩) (wholeM g M ++ N) c6 g6 wa65 (hi9.ext hb) (hT9.ext hb) hs6 (fun x hx => (List.mem_append.1 hx).elim (hwf x) (hfN x)) (by rw [List.length_append, hwl]; simp only [maxLen]; omega) HF3.out
              rw [show (wholeM g M ++ N).length = 0 + k + N.length by rw [List.length_append, hwl]; omega] at hP
              clear hg7 hs6 row ne_y4 ne_y5
              refine wp_callF 17 #[.agg (gmA g s), .agg (stA ⟨C, sd, 0⟩), .slice (some ⟨g6, 0, none⟩) (0 + k + N.length) c6] (by kernel_rfl) ?_
              refine hP.mono ?_
              rintro e wc66 ⟨sh3, rfl, hsh, h9⟩
              have hs3 : sh3.oneCell' = true := by
                rcases hsh.2 with ⟨rfl, -⟩ | ⟨_, _, _, rfl, -⟩ <;> rfl
              clear hsh hP
              replace y4 := y4.ext h9
              replace y5 := y5.ext h9
              replace hb := hb.trans (h9.mono hb.size)
              clear h9
              refine ⟨_, rfl, ?_⟩
              refine hKK.out _ _ ?_ (fun hHeld => ?_)
              · exact (by first | exact hb | exact below_drew hb)
              clear hKK KK
              try simp only [Act.put, List.setIfInBounds_toArray, List.set_cons_zero, List.set_cons_succ]
              refine wpAnyH_take (i := 8) (v := ?vt168) (by simp only [List.getElem?_toArray]; rfl) (by kernel_rfl) (by kernel_rfl) (by kernel_rfl) (by exact fun _ _ _ h => h) (Or.inl ⟨by kernel_rfl, ?yt168⟩) hHeld ?_
              case yt168 => (intro ww hSw; (try dsimp only at hSw); clear hSw; go_simp; try (with_reducible rfl))
              try simp only [Act.put, List.setIfInBounds_toArray, List.set_cons_zero, List.set_cons_succ]
              refine wpAnyH_take (i := 9) (v := ?vt169) (by simp only [List.getElem?_toArray]; rfl) (by kernel_rfl) (by kernel_rfl) (by kernel_rfl) (by exact fun _ _ _ h => h) (Or.inl ⟨by kernel_rfl, ?yt169⟩) hHeld ?_
              case yt169 => (intro ww hSw; (try dsimp only at hSw); clear hSw; go_simp; try (with_reducible rfl))
              try simp only [Act.put, List.setIfInBounds_toArray, List.set_cons_zero, List.set_cons_succ]
              refine wpAnyH_take (i := 10) (v := ?vt170) (by simp only [List.getElem?_toArray]; rfl) (by kernel_rfl) (by kernel_rfl) (by kernel_rfl) (by exact fun _ _ _ h => h) (Or.inl ⟨by kernel_rfl, ?yt170⟩) hHeld ?_
              case yt170 => (intro ww hSw; (try dsimp only at hSw); clear hSw; go_simp; try (with_reducible rfl))
              try simp only [Act.put, List.setIfInBounds_toArray, List.set_cons_zero, List.set_cons_succ]
              refine wpAnyH_ready (rs := [13]) (by kernel_rfl) (by simp) ?_
              refine AllReadyH.cons (by simp only [List.getElem?_toArray]; rfl) (fun KK hKK => ?_) AllReadyH.nil
              rw [if_pos (by kernel_rfl)]
              refine wp_stS (.tmp 19) (.tmp 91) rfl (wa6.heap.size) S1 rfl rfl y4 ?_
              replace y4 := y4.row_ S1
              replace y5 := y5.mod (mod_setRow wc66 (wa6.heap.size) (stA S1)) (fun e => ne45 e.symm)
              replace hb := below_setRow hb (wa6.heap.size) (stA S1) nz_y4
              obtain ⟨ws71, hws⟩ : ∃ ws71, ws71 = wc66.setRow (wa6.heap.size) (stA S1) := ⟨_, rfl⟩
              rw [← hws] at y4 y5 hb ⊢
              clear hws
              refine hKK.out _ _ ?_ (fun hHeld => ?_)
              · exact (by first | exact hb | exact below_drew hb)
              clear hKK KK
              try simp only [Act.put]
              refine wpAnyH_ready (rs := [14]) (by kernel_rfl) (by simp) ?_
              refine AllReadyH.cons (by simp only [List.getElem?_toArray]; rfl) (fun KK hKK => ?_) AllReadyH.nil
              rw [if_pos (by kernel_rfl)]
              refine wp_stO (.tmp 20) (.tmp 92) rfl (wa56.heap.size) F.t sh3 F.e rfl rfl hs3 y5 ?_
              replace y5 := y5.row_ F.t sh3 F.e
              replace y4 := y4.mod (mod_setRow ws71 (wa56.heap.size) (otA F.t sh3 F.e)) ne45
              replace hb := below_setRow hb (wa56.heap.size) (otA F.t sh3 F.e) nz_y5
              obtain ⟨ws72, hws⟩ : ∃ ws72, ws72 = ws71.setRow (wa56.heap.size) (otA F.t sh3 F.e) := ⟨_, rfl⟩
              rw [← hws] at y4 y5 hb ⊢
              clear hws
              refine hKK.out _ _ ?_ (fun hHeld => ?_)
              · exact (by first | exact hb | exact below_drew hb)
              clear hKK KK
              try simp only [Act.put]
              refine wpAnyH_done (by kernel_rfl) ?_ _
              go_wp2_with fail
              go_meet
              exact ⟨_, _, sh3, _, rfl, rfl, rfl, y4, y5, hb⟩
            ·
             rw [if_pos (by kernel_rfl)]
             have ne45 : ¬ wa6.heap.size = wa55.heap.size := by have := y4.lt; omega
             have ne_y5 : ∀ j, Value.ownBlock v4 = some j → ¬ j = wa55.heap.size := fun j hj => by have := (World.ownsRow.lt row j hj).2; omega
             have nz_y5 : wz.heap.size ≤ wa55.heap.size := hb.size
             refine wp_alO rfl ?_
             obtain ⟨wa73, hwa⟩ : ∃ wa73, wa73 = wa55.alloc (.cells (otA 0 (.slice none 0 0) 0) 53) := ⟨_, rfl⟩
             have h9 : Below wa55.heap.size wa55 wa73 := by rw [hwa]; exact below_alloc1 _ _
             have y5 : OBox wa73 (wa55.heap.size) 0 (.slice none 0 0) 0 := by rw [hwa]; exact OBox.new_ _ _ _ _
             rw [← hwa]
             clear hwa
             replace row := own_ext row h9
             replace y4 := y4.ext h9
             replace hb := hb.trans (h9.mono hb.size)
             clear h9
             refine hKK.out _ _ ?_ (fun hHeld => ?_)
             · exact (by first | exact hb | exact below_drew hb)
             clear hKK KK
             try simp only [Act.put, List.setIfInBounds_toArray, List.set_cons_zero, List.set_cons_succ]
             refine wpAnyH_ready (rs := [6]) (by kernel_rfl) (by simp) ?_
             refine AllReadyH.cons (by simp only [List.getElem?_toArray]; rfl) (fun KK hKK => ?_) AllReadyH.nil
             rw [if_pos (by kernel_rfl)]
             have nl_y4 := y4.lt
             have nl_y5 := y5.lt
             refine wp_appU (.tmp 87) (.tmp 88) rfl wz.heap.size (0 + k) v4 ([] ++ wholeM g M) rfl row nb NA (N.length) nc (N) rfl (Sl.ext hN9 hb) rfl (by omega) hb.size ?_
             intro v6 wa74 row' hgr hloc
             have hB := (Mod.of_grown hgr).below hb.size (fun i hi e => by have := (World.ownsRow.lt row i e).1; omega)
             replace y4 := y4.mod (Mod.of_grown hgr) (fun e => ne_y4 _ e rfl)
             replace ne_y4 : ∀ j, Value.ownBlock v6 = some j → ¬ j = wa6.heap.size := fun j hj => by
               rcases hloc with h | h
               · exact ne_y4 j (h ▸ hj)
               · rw [h] at hj; injection hj with hj; omega
             clear nl_y4
             replace y5 := y5.mod (Mod.of_grown hgr) (fun e => ne_y5 _ e rfl)
             replace ne_y5 : ∀ j, Value.ownBlock v6 = some j → ¬ j = wa55.heap.size := fun j hj => by
               rcases hloc with h | h
               · exact ne_y5 j (h ▸ hj)
               · rw [h] at hj; injection hj with hj; omega
             clear nl_y5
             replace hb := hb.trans hB
             clear hB hgr hloc row
             have row := row'
             clear row'
             refine hKK.out _ _ ?_ (fun hHeld => ?_)
             · exact (by first | exact hb | exact below_drew hb)
             clear hKK KK
             try simp only [Act.put, List.setIfInBounds_toArray, List.set_cons_zero, List.set_cons_succ]
             refine wpAnyH_ready (rs := [7]) (by kernel_rfl) (by simp) ?_
             refine AllReadyH.cons (by simp only [List.getElem?_toArray]; rfl) (fun KK hKK => ?_) AllReadyH.nil
             rw [if_pos (by kernel_rfl)]
             rcases row.2 with ⟨-, h0⟩ | ⟨g6, c6, cur6, hv6, -⟩
             · exact absurd h0 (by omega)
             subst hv6
             obtain ⟨g7, hs6, hg7⟩ := Sl.of_own row
             have e7 := hg7 g6 rfl
             subst e7
             have hP := hStep (some ⟨g6, 0, none⟩) (wholeM g M ++ N) c6 g6 wa74 (hi9.ext hb) (hT9.ext hb) hs6 (fun x hx => (List.mem_append.1 hx).elim (hwf x) (hfN x)) (by rw [List.length_append, hwl]; simp only [maxLen]; omega) HF3.out
             rw [show (wholeM g M ++ N).length = 0 + k + N.length by rw [List.length_append, hwl]; omega] at hP
             clear hg7 hs6 row ne_y4 ne_y5
             refine wp_callF 17 #[.agg (gmA g s), .agg (stA ⟨C, sd, 0⟩), .slice (some ⟨g6, 0, none⟩) (0 + k + N.length) c6] (by kernel_rfl) ?_
             refine hP.mono ?_
             rintro e wc75 ⟨sh3, rfl, hsh, h9⟩
             have hs3 : sh3.oneCell' = true := by
               rcases hsh.2 with ⟨rfl, -⟩ | ⟨_, _, _, rfl, -⟩ <;> rfl
             clear hsh hP
             replace y4 := y4.ext h9
             replace y5 := y5.ext h9
             replace hb := hb.trans (h9.mono hb.size)
             clear h9
             refine ⟨_, rfl, ?_⟩
             refine hKK.out _ _ ?_ (fun hHeld => ?_)
             · exact (by first | exact hb | exact below_drew hb)
             clear hKK KK
             try simp only [Act.put, List.setIfInBounds_toArray, List.set_cons_zero, List.set_cons_succ]
             refine wpAnyH_take (i := 8) (v := ?vt177) (by simp only [List.getElem?_toArray]; rfl) (by kernel_rfl) (by kernel_rfl) (by kernel_rfl) (by exact fun _ _ _ h => h) (Or.inl ⟨by kernel_rfl, ?yt177⟩) hHeld ?_
             case yt177 => (intro ww hSw; (try dsimp only at hSw); clear hSw; go_simp; try (with_reducible rfl))
             try simp only [Act.put, List.setIfInBounds_toArray, List.set_cons_zero, List.set_cons_succ]
             refine wpAnyH_take (i := 9) (v := ?vt178) (by simp only [List.getElem?_toArray]; rfl) (by kernel_rfl) (by kernel_rfl) (by kernel_rfl) (by exact fun _ _ _ h => h) (Or.inl ⟨by kernel_rfl, ?yt178⟩) hHeld ?_
             case yt178 => (intro ww hSw; (try dsimp only at hSw); clear hSw; go_simp; try (with_reducible rfl))
             try simp only [Act.put, List.setIfInBounds_toArray, List.set_cons_zero, List.set_cons_succ]
             refine wpAnyH_take (i := 10) (v := ?vt179) (by simp only [List.getElem?_toArray]; rfl) (by kernel_rfl) (by kernel_rfl) (by kernel_rfl) (by exact fun _ _ _ h => h) (Or.inl ⟨by kernel_rfl, ?yt179⟩) hHeld ?_
             case yt179 => (intro ww hSw; (try dsimp only at hSw); clear hSw; go_simp; try (with_reducible rfl))
             try simp only [Act.put, List.setIfInBounds_toArray, List.set_cons_zero, List.set_cons_succ]
             refine wpAnyH_ready (rs := [13]) (by kernel_rfl) (by simp) ?_
             refine AllReadyH.cons (by simp only [List.getElem?_toArray]; rfl) (fun KK hKK => ?_) AllReadyH.nil
             rw [if_pos (by kernel_rfl)]
             refine wp_stS (.tmp 19) (.tmp 91) rfl (wa6.heap.size) S1 rfl rfl y4 ?_
             replace y4 := y4.row_ S1
             replace y5 := y5.mod (mod_setRow wc75 (wa6.heap.size) (stA S1)) (fun e => ne45 e.symm)
             replace hb := below_setRow hb (wa6.heap.size) (stA S1) nz_y4
             obtain ⟨ws80, hws⟩ : ∃ ws80, ws80 = wc75.setRow (wa6.heap.size) (stA S1) := ⟨_, rfl⟩
             rw [← hws] at y4 y5 hb ⊢
             clear hws
             refine hKK.out _ _ ?_ (fun hHeld => ?_)
             · exact (by first | exact hb | exact below_drew hb)
             clear hKK KK
             try simp only [Act.put]
             refine wpAnyH_ready (rs := [14]) (by kernel_rfl) (by simp) ?_
             refine AllReadyH.cons (by simp only [List.getElem?_toArray]; rfl) (fun KK hKK => ?_) AllReadyH.nil
             rw [if_pos (by kernel_rfl)]
             refine wp_stO (.tmp 20) (.tmp 92) rfl (wa55.heap.size) F.t sh3 F.e rfl rfl hs3 y5 ?_
             replace y5 := y5.row_ F.t sh3 F.e
             replace y4 := y4.mod (mod_setRow ws80 (wa55.heap.size) (otA F.t sh3 F.e)) ne45
             replace hb := below_setRow hb (wa55.heap.size) (otA F.t sh3 F.e) nz_y5
             obtain ⟨ws81, hws⟩ : ∃ ws81, ws81 = ws80.setRow (wa55.heap.size) (otA F.t sh3 F.e) := ⟨_, rfl⟩
             rw [← hws] at y4 y5 hb ⊢
             clear hws
             refine hKK.out _ _ ?_ (fun hHeld => ?_)
             · exact (by first | exact hb | exact below_drew hb)
             clear hKK KK
             try simp only [Act.put]
             refine wpAnyH_done (by kernel_rfl) ?_ _
             go_wp2_with fail
             go_meet
             exact ⟨_, _, sh3, _, rfl, rfl, rfl, y4, y5, hb⟩
           ·
            rw [if_pos (by kernel_rfl)]
            have ne_y5 : ∀ j, Value.ownBlock v4 = some j → ¬ j = wa6.heap.size := fun j hj => by have := (World.ownsRow.lt row j hj).2; omega
            have nz_y5 : wz.heap.size ≤ wa6.heap.size := hb.size
            refine wp_alO rfl ?_
            obtain ⟨wa82, hwa⟩ : ∃ wa82, wa82 = wa6.alloc (.cells (otA 0 (.slice none 0 0) 0) 53) := ⟨_, rfl⟩
            have h9 : Below wa6.heap.size wa6 wa82 := by rw [hwa]; exact below_alloc1 _ _
            have y5 : OBox wa82 (wa6.heap.size) 0 (.slice none 0 0) 0 := by rw [hwa]; exact OBox.new_ _ _ _ _
            rw [← hwa]
            clear hwa
            replace row := own_ext row h9
            replace hb := hb.trans (h9.mono hb.size)
            clear h9
            refine hKK.out _ _ ?_ (fun hHeld => ?_)
            · exact (by first | exact hb | exact below_drew hb)
            clear hKK KK
            try simp only [Act.put, List.setIfInBounds_toArray, List.set_cons_zero, List.set_cons_succ]
            refine wpAnyH_ready (rs := [6, 11]) (by kernel_rfl) (by simp) ?_
            refine AllReadyH.cons (by simp only [List.getElem?_toArray]; rfl) (fun KK hKK => ?_) (AllReadyH.cons (by simp only [List.getElem?_toArray]; rfl) (fun KK hKK => ?_) AllReadyH.nil)
            ·
             rw [if_pos (by kernel_rfl)]
             have nl_y5 := y5.lt
             refine wp_appU (.tmp 87) (.tmp 88) rfl wz.heap.size (0 + k) v4 ([] ++ wholeM g M) rfl row nb NA (N.length) nc (N) rfl (Sl.ext hN9 hb) rfl (by omega) hb.size ?_
             intro v6 wa83 row' hgr hloc
             have hB := (Mod.of_grown hgr).below hb.size (fun i hi e => by have := (World.ownsRow.lt row i e).1; omega)
             replace y5 := y5.mod (Mod.of_grown hgr) (fun e => ne_y5 _ e rfl)
             replace ne_y5 : ∀ j, Value.ownBlock v6 = some j → ¬ j = wa6.heap.size := fun j hj => by
               rcases hloc with h | h
               · exact ne_y5 j (h ▸ hj)
               · rw [h] at hj; injection hj with hj; omega
             clear nl_y5
             replace hb := hb.trans hB
             clear hB hgr hloc row
             have row := row'
             clear row'
             refine hKK.out _ _ ?_ (fun hHeld => ?_)
             · exact (by first | exact hb | exact below_drew hb)
             clear hKK KK
             try simp only [Act.put, List.setIfInBounds_toArray, List.set_cons_zero, List.set_cons_succ]
             refine wpAnyH_ready (rs := [7, 11]) (by kernel_rfl) (by simp) ?_
             refine AllReadyH.cons (by simp only [List.getElem?_toArray]; rfl) (fun KK hKK => ?_) (AllReadyH.cons (by simp only [List.getElem?_toArray]; rfl) (fun KK hKK => ?_) AllReadyH.nil)
             ·
              rw [if_pos (by kernel_rfl)]
              rcases row.2 with ⟨-, h0⟩ | ⟨g6, c6, cur6, hv6, -⟩
              · exact absurd h0 (by omega)
              subst hv6
              obtain ⟨g7, hs6, hg7⟩ := Sl.of_own row
              have e7 := hg7 g6 rfl
              subst e7
              have hP := hStep (some ⟨g6, 0, none⟩) (wholeM g M ++ N) c6 g6 wa83 (hi9.ext hb) (hT9.ext hb) hs6 (fun x hx => (List.mem_append.1 hx).elim (hwf x) (hfN x)) (by rw [List.length_append, hwl]; simp only [maxLen]; omega) HF3.out
              rw [show (wholeM g M ++ N).length = 0 + k + N.length by rw [List.length_append, hwl]; omega] at hP
              clear hg7 hs6 row ne_y5
              refine wp_callF 17 #[.agg (gmA g s), .agg (stA ⟨C, sd, 0⟩), .slice (some ⟨g6, 0, none⟩) (0 + k + N.length) c6] (by kernel_rfl) ?_
              refine hP.mono ?_
              rintro e wc84 ⟨sh3, rfl, hsh, h9⟩
              have hs3 : sh3.oneCell' = true := by
                rcases hsh.2 with ⟨rfl, -⟩ | ⟨_, _, _, rfl, -⟩ <;> rfl
              clear hsh hP
              replace y5 := y5.ext h9
              replace hb := hb.trans (h9.mono hb.size)
              clear h9
              refine ⟨_, rfl, ?_⟩
              refine hKK.out _ _ ?_ (fun hHeld => ?_)
              · exact (by first | exact hb | exact below_drew hb)
              clear hKK KK
              try simp only [Act.put, List.setIfInBounds_toArray, List.set_cons_zero, List.set_cons_succ]
              refine wpAnyH_take (i := 8) (v := ?vt186) (by simp only [List.getElem?_toArray]; rfl) (by kernel_rfl) (by kernel_rfl) (by kernel_rfl) (by exact fun _ _ _ h => h) (Or.inl ⟨by kernel_rfl, ?yt186⟩) hHeld ?_
              case yt186 => (intro ww hSw; (try dsimp only at hSw); clear hSw; go_simp; try (with_reducible rfl))
              try simp only [Act.put, List.setIfInBounds_toArray, List.set_cons_zero, List.set_cons_succ]
              refine wpAnyH_take (i := 9) (v := ?vt187) (by simp only [List.getElem?_toArray]; rfl) (by kernel_rfl) (by kernel_rfl) (by kernel_rfl) (by exact fun _ _ _ h => h) (Or.inl ⟨by kernel_rfl, ?yt187⟩) hHeld ?_
              case yt187 => (intro ww hSw; (try dsimp only at hSw); clear hSw; go_simp; try (with_reducible rfl))
              try simp only [Act.put, List.setIfInBounds_toArray, List.set_cons_zero, List.set_cons_succ]
              refine wpAnyH_take (i := 10) (v := ?vt188) (by simp only [List.getElem?_toArray]; rfl) (by kernel_rfl) (by kernel_rfl) (by kernel_rfl) (by exact fun _ _ _ h => h) (Or.inl ⟨by kernel_rfl, ?yt188⟩) hHeld ?_
              case yt188 => (intro ww hSw; (try dsimp only at hSw); clear hSw; go_simp; try (with_reducible rfl))
              try simp only [Act.put, List.setIfInBounds_toArray, List.set_cons_zero, List.set_cons_succ]
              refine wpAnyH_ready (rs := [11]) (by kernel_rfl) (by simp) ?_
              refine AllReadyH.cons (by simp only [List.getElem?_toArray]; rfl) (fun KK hKK => ?_) AllReadyH.nil
              rw [if_pos (by kernel_rfl)]
              have ne45 : ¬ wc84.heap.size = wa6.heap.size := by have := y5.lt; omega
              have nz_y4 : wz.heap.size ≤ wc84.heap.size := hb.size
              refine wp_alSt rfl ?_
              obtain ⟨wa89, hwa⟩ : ∃ wa89, wa89 = wc84.alloc (.cells (stA zSt) 46) := ⟨_, rfl⟩
              have h9 : Below wc84.heap.size wc84 wa89 := by rw [hwa]; exact below_alloc1 _ _
              have y4 : BoxS wa89 (wc84.heap.size) zSt := by rw [hwa]; exact BoxS.new_ _ _
              rw [← hwa]
              clear hwa
              replace y5 := y5.ext h9
              replace hb := hb.trans (h9.mono hb.size)
              clear h9
              refine hKK.out _ _ ?_ (fun hHeld => ?_)
              · exact (by first | exact hb | exact below_drew hb)
              clear hKK KK
              try simp only [Act.put, List.setIfInBounds_toArray, List.set_cons_zero, List.set_cons_succ]
              refine wpAnyH_ready (rs := [13]) (by kernel_rfl) (by simp) ?_
              refine AllReadyH.cons (by simp only [List.getElem?_toArray]; rfl) (fun KK hKK => ?_) AllReadyH.nil
              rw [if_pos (by kernel_rfl)]
              refine wp_stS (.tmp 19) (.tmp 91) rfl (wc84.heap.size) S1 rfl rfl y4 ?_
              replace y4 := y4.row_ S1
              replace y5 := y5.mod (mod_setRow wa89 (wc84.heap.size) (stA S1)) (fun e => ne45 e.symm)
              replace hb := below_setRow hb (wc84.heap.size) (stA S1) nz_y4
              obtain ⟨ws90, hws⟩ : ∃ ws90, ws90 = wa89.setRow (wc84.heap.size) (stA S1) := ⟨_, rfl⟩
              rw [← hws] at y4 y5 hb ⊢
              clear hws
              refine hKK.out _ _ ?_ (fun hHeld => ?_)
              · exact (by first | exact hb | exact below_drew hb)
              clear hKK KK
              try simp only [Act.put]
              refine wpAnyH_ready (rs := [14]) (by kernel_rfl) (by simp) ?_
              refine AllReadyH.cons (by simp only [List.getElem?_toArray]; rfl) (fun KK hKK => ?_) AllReadyH.nil
              rw [if_pos (by kernel_rfl)]
              refine wp_stO (.tmp 20) (.tmp 92) rfl (wa6.heap.size) F.t sh3 F.e rfl rfl hs3 y5 ?_
              replace y5 := y5.row_ F.t sh3 F.e
              replace y4 := y4.mod (mod_setRow ws90 (wa6.heap.size) (otA F.t sh3 F.e)) ne45
              replace hb := below_setRow hb (wa6.heap.size) (otA F.t sh3 F.e) nz_y5
              obtain ⟨ws91, hws⟩ : ∃ ws91, ws91 = ws90.setRow (wa6.heap.size) (otA F.t sh3 F.e) := ⟨_, rfl⟩
              rw [← hws] at y4 y5 hb ⊢
              clear hws
              refine hKK.out _ _ ?_ (fun hHeld => ?_)
              · exact (by first | exact hb | exact below_drew hb)
              clear hKK KK
              try simp only [Act.put]
              refine wpAnyH_done (by kernel_rfl) ?_ _
              go_wp2_with fail
              go_meet
              exact ⟨_, _, sh3, _, rfl, rfl, rfl, y4, y5, hb⟩
             ·
              rw [if_pos (by kernel_rfl)]
              have ne45 : ¬ wa83.heap.size = wa6.heap.size := by have := y5.lt; omega
              have ne_y4 : ∀ j, Value.ownBlock v6 = some j → ¬ j = wa83.heap.size := fun j hj => by have := (World.ownsRow.lt row j hj).2; omega
              have nz_y4 : wz.heap.size ≤ wa83.heap.size := hb.size
              refine wp_alSt rfl ?_
              obtain ⟨wa92, hwa⟩ : ∃ wa92, wa92 = wa83.alloc (.cells (stA zSt) 46) := ⟨_, rfl⟩
              have h9 : Below wa83.heap.size wa83 wa92 := by rw [hwa]; exact below_alloc1 _ _
              have y4 : BoxS wa92 (wa83.heap.size) zSt := by rw [hwa]; exact BoxS.new_ _ _
              rw [← hwa]
              clear hwa
              replace row := own_ext row h9
              replace y5 := y5.ext h9
              replace hb := hb.trans (h9.mono hb.size)
              clear h9
              refine hKK.out _ _ ?_ (fun hHeld => ?_)
              · exact (by first | exact hb | exact below_drew hb)
              clear hKK KK
              try simp only [Act.put, List.setIfInBounds_toArray, List.set_cons_zero, List.set_cons_succ]
              refine wpAnyH_ready (rs := [7]) (by kernel_rfl) (by simp) ?_
              refine AllReadyH.cons (by simp only [List.getElem?_toArray]; rfl) (fun KK hKK => ?_) AllReadyH.nil
              rw [if_pos (by kernel_rfl)]
              rcases row.2 with ⟨-, h0⟩ | ⟨g6, c6, cur6, hv6, -⟩
              · exact absurd h0 (by omega)
              subst hv6
              obtain ⟨g7, hs6, hg7⟩ := Sl.of_own row
              have e7 := hg7 g6 rfl
              subst e7
              have hP := hStep (some ⟨g6, 0, none⟩) (wholeM g M ++ N) c6 g6 wa92 (hi9.ext hb) (hT9.ext hb) hs6 (fun x hx => (List.mem_append.1 hx).elim (hwf x) (hfN x)) (by rw [List.length_append, hwl]; simp only [maxLen]; omega) HF3.out
              rw [show (wholeM g M ++ N).length = 0 + k + N.length by rw [List.length_append, hwl]; omega] at hP
              clear hg7 hs6 row ne_y4 ne_y5
              refine wp_callF 17 #[.agg (gmA g s), .agg (stA ⟨C, sd, 0⟩), .slice (some ⟨g6, 0, none⟩) (0 + k + N.length) c6] (by kernel_rfl) ?_
              refine hP.mono ?_
              rintro e wc93 ⟨sh3, rfl, hsh, h9⟩
              have hs3 : sh3.oneCell' = true := by
                rcases hsh.2 with ⟨rfl, -⟩ | ⟨_, _, _, rfl, -⟩ <;> rfl
              clear hsh hP
              replace y5 := y5.ext h9
              replace y4 := y4.ext h9
              replace hb := hb.trans (h9.mono hb.size)
              clear h9
              refine ⟨_, rfl, ?_⟩
              refine hKK.out _ _ ?_ (fun hHeld => ?_)
              · exact (by first | exact hb | exact below_drew hb)
              clear hKK KK
              try simp only [Act.put, List.setIfInBounds_toArray, List.set_cons_zero, List.set_cons_succ]
              refine wpAnyH_take (i := 8) (v := ?vt195) (by simp only [List.getElem?_toArray]; rfl) (by kernel_rfl) (by kernel_rfl) (by kernel_rfl) (by exact fun _ _ _ h => h) (Or.inl ⟨by kernel_rfl, ?yt195⟩) hHeld ?_
              case yt195 => (intro ww hSw; (try dsimp only at hSw); clear hSw; go_simp; try (with_reducible rfl))
              try simp only [Act.put, List.setIfInBounds_toArray, List.set_cons_zero, List.set_cons_succ]
              refine wpAnyH_take (i := 9) (v := ?vt196) (by simp only [List.getElem?_toArray]; rfl) (by kernel_rfl) (by kernel_rfl) (by kernel_rfl) (by exact fun _ _ _ h => h) (Or.inl ⟨by kernel_rfl, ?yt196⟩) hHeld ?_
              case yt196 => (intro ww hSw; (try dsimp only at hSw); clear hSw; go_simp; try (with_reducible rfl))
              try simp only [Act.put, List.setIfInBounds_toArray, List.set_cons_zero, List.set_cons_succ]
              refine wpAnyH_take (i := 10) (v := ?vt197) (by simp only [List.getElem?_toArray]; rfl) (by kernel_rfl) (by kernel_rfl) (by kernel_rfl) (by exact fun _ _ _ h => h) (Or.inl ⟨by kernel_rfl, ?yt197⟩) hHeld ?_
              case yt197 => (intro ww hSw; (try dsimp only at hSw); clear hSw; go_simp; try (with_reducible rfl))
              try simp only [Act.put, List.setIfInBounds_toArray, List.set_cons_zero, List.set_cons_succ]
              refine wpAnyH_ready (rs := [13]) (by kernel_rfl) (by simp) ?_
              refine AllReadyH.cons (by simp only [List.getElem?_toArray]; rfl) (fun KK hKK => ?_) AllReadyH.nil
              rw [if_pos (by kernel_rfl)]
              refine wp_stS (.tmp 19) (.tmp 91) rfl (wa83.heap.size) S1 rfl rfl y4 ?_
              replace y4 := y4.row_ S1
              replace y5 := y5.mod (mod_setRow wc93 (wa83.heap.size) (stA S1)) (fun e => ne45 e.symm)
              replace hb := below_setRow hb (wa83.heap.size) (stA S1) nz_y4
              obtain ⟨ws98, hws⟩ : ∃ ws98, ws98 = wc93.setRow (wa83.heap.size) (stA S1) := ⟨_, rfl⟩
              rw [← hws] at y4 y5 hb ⊢
              clear hws
              refine hKK.out _ _ ?_ (fun hHeld => ?_)
              · exact (by first | exact hb | exact below_drew hb)
              clear hKK KK
              try simp only [Act.put]
              refine wpAnyH_ready (rs := [14]) (by kernel_rfl) (by simp) ?_
              refine AllReadyH.cons (by simp only [List.getElem?_toArray]; rfl) (fun KK hKK => ?_) AllReadyH.nil
              rw [if_pos (by kernel_rfl)]
              refine wp_stO (.tmp 20) (.tmp 92) rfl (wa6.heap.size) F.t sh3 F.e rfl rfl hs3 y5 ?_
              replace y5 := y5.row_ F.t sh3 F.e
              replace y4 := y4.mod (mod_setRow ws98 (wa6.heap.size) (otA F.t sh3 F.e)) ne45
              replace hb := below_setRow hb (wa6.heap.size) (otA F.t sh3 F.e) nz_y5
              obtain ⟨ws99, hws⟩ : ∃ ws99, ws99 = ws98.setRow (wa6.heap.size) (otA F.t sh3 F.e) := ⟨_, rfl⟩
              rw [← hws] at y4 y5 hb ⊢
              clear hws
              refine hKK.out _ _ ?_ (fun hHeld => ?_)
              · exact (by first | exact hb | exact below_drew hb)
              clear hKK KK
              try simp only [Act.put]
              refine wpAnyH_done (by kernel_rfl) ?_ _
              go_wp2_with fail
              go_meet
              exact ⟨_, _, sh3, _, rfl, rfl, rfl, y4, y5, hb⟩
            ·
             rw [if_pos (by kernel_rfl)]
             have ne45 : ¬ wa82.heap.size = wa6.heap.size := by have := y5.lt; omega
             have ne_y4 : ∀ j, Value.ownBlock v4 = some j → ¬ j = wa82.heap.size := fun j hj => by have := (World.ownsRow.lt row j hj).2; omega
             have nz_y4 : wz.heap.size ≤ wa82.heap.size := hb.size
             refine wp_alSt rfl ?_
             obtain ⟨wa100, hwa⟩ : ∃ wa100, wa100 = wa82.alloc (.cells (stA zSt) 46) := ⟨_, rfl⟩
             have h9 : Below wa82.heap.size wa82 wa100 := by rw [hwa]; exact below_alloc1 _ _
             have y4 : BoxS wa100 (wa82.heap.size) zSt := by rw [hwa]; exact BoxS.new_ _ _
             rw [← hwa]
             clear hwa
             replace row := own_ext row h9
             replace y5 := y5.ext h9
             replace hb := hb.trans (h9.mono hb.size)
             clear h9
             refine hKK.out _ _ ?_ (fun hHeld => ?_)
             · exact (by first | exact hb | exact below_drew hb)
             clear hKK KK
             try simp only [Act.put, List.setIfInBounds_toArray, List.set_cons_zero, List.set_cons_succ]
             refine wpAnyH_ready (rs := [6]) (by kernel_rfl) (by simp) ?_
             refine AllReadyH.cons (by simp only [List.getElem?_toArray]; rfl) (fun KK hKK => ?_) AllReadyH.nil
             rw [if_pos (by kernel_rfl)]
             have nl_y4 := y4.lt
             have nl_y5 := y5.lt
             refine wp_appU (.tmp 87) (.tmp 88) rfl wz.heap.size (0 + k) v4 ([] ++ wholeM g M) rfl row nb NA (N.length) nc (N) rfl (Sl.ext hN9 hb) rfl (by omega) hb.size ?_
             intro v6 wa101 row' hgr hloc
             have hB := (Mod.of_grown hgr).below hb.size (fun i hi e => by have := (World.ownsRow.lt row i e).1; omega)
             replace y4 := y4.mod (Mod.of_grown hgr) (fun e => ne_y4 _ e rfl)
             replace ne_y4 : ∀ j, Value.ownBlock v6 = some j → ¬ j = wa82.heap.size := fun j hj => by
               rcases hloc with h | h
               · exact ne_y4 j (h ▸ hj)
               · rw [h] at hj; injection hj with hj; omega
             clear nl_y4
             replace y5 := y5.mod (Mod.of_grown hgr) (fun e => ne_y5 _ e rfl)
             replace ne_y5 : ∀ j, Value.ownBlock v6 = some j → ¬ j = wa6.heap.size := fun j hj => by
               rcases hloc with h | h
               · exact ne_y5 j (h ▸ hj)
               · rw [h] at hj; injection hj with hj; omega
             clear nl_y5
             replace hb := hb.trans hB
             clear hB hgr hloc row
             have row := row'
             clear row'
             refine hKK.out _ _ ?_ (fun hHeld => ?_)
             · exact (by first | exact hb | exact below_drew hb)
             clear hKK KK
             try simp only [Act.put, List.setIfInBounds_toArray, List.set_cons_zero, List.set_cons_succ]
             refine wpAnyH_ready (rs := [7]) (by kernel_rfl) (by simp) ?_
             refine AllReadyH.cons (by simp only [List.getElem?_toArray]; rfl) (fun KK hKK => ?_) AllReadyH.nil
             rw [if_pos (by kernel_rfl)]
             rcases row.2 with ⟨-, h0⟩ | ⟨g6, c6, cur6, hv6, -⟩
             · exact absurd h0 (by omega)
             subst hv6
             obtain ⟨g7, hs6, hg7⟩ := Sl.of_own row
             have e7 := hg7 g6 rfl
             subst e7
             have hP := hStep (some ⟨g6, 0, none⟩) (wholeM g M ++ N) c6 g6 wa101 (hi9.ext hb) (hT9.ext hb) hs6 (fun x hx => (List.mem_append.1 hx).elim (hwf x) (hfN x)) (by rw [List.length_append, hwl]; simp only [maxLen]; omega) HF3.out
             rw [show (wholeM g M ++ N).length = 0 + k + N.length by rw [List.length_append, hwl]; omega] at hP
             clear hg7 hs6 row ne_y4 ne_y5
             refine wp_callF 17 #[.agg (gmA g s), .agg (stA ⟨C, sd, 0⟩), .slice (some ⟨g6, 0, none⟩) (0 + k + N.length) c6] (by kernel_rfl) ?_
             refine hP.mono ?_
             rintro e wc102 ⟨sh3, rfl, hsh, h9⟩
             have hs3 : sh3.oneCell' = true := by
               rcases hsh.2 with ⟨rfl, -⟩ | ⟨_, _, _, rfl, -⟩ <;> rfl
             clear hsh hP
             replace y5 := y5.ext h9
             replace y4 := y4.ext h9
             replace hb := hb.trans (h9.mono hb.size)
             clear h9
             refine ⟨_, rfl, ?_⟩
             refine hKK.out _ _ ?_ (fun hHeld => ?_)
             · exact (by first | exact hb | exact below_drew hb)
             clear hKK KK
             try simp only [Act.put, List.setIfInBounds_toArray, List.set_cons_zero, List.set_cons_succ]
             refine wpAnyH_take (i := 8) (v := ?vt1104) (by simp only [List.getElem?_toArray]; rfl) (by kernel_rfl) (by kernel_rfl) (by kernel_rfl) (by exact fun _ _ _ h => h) (Or.inl ⟨by kernel_rfl, ?yt1104⟩) hHeld ?_
             case yt1104 => (intro ww hSw; (try dsimp only at hSw); clear hSw; go_simp; try (with_reducible rfl))
             try simp only [Act.put, List.setIfInBounds_toArray, List.set_cons_zero, List.set_cons_succ]
             refine wpAnyH_take (i := 9) (v := ?vt1105) (by simp only [List.getElem?_toArray]; rfl) (by kernel_rfl) (by kernel_rfl) (by kernel_rfl) (by exact fun _ _ _ h => h) (Or.inl ⟨by kernel_rfl, ?yt1105⟩) hHeld ?_
             case yt1105 => (intro ww hSw; (try dsimp only at hSw); clear hSw; go_simp; try (with_reducible rfl))
             try simp only [Act.put, List.setIfInBounds_toArray, List.set_cons_zero, List.set_cons_succ]
             refine wpAnyH_take (i := 10) (v := ?vt1106) (by simp only [List.getElem?_toArray]; rfl) (by kernel_rfl) (by kernel_rfl) (by kernel_rfl) (by exact fun _ _ _ h => h) (Or.inl ⟨by kernel_rfl, ?yt1106⟩) hHeld ?_
             case yt1106 => (intro ww hSw; (try dsimp only at hSw); clear hSw; go_simp; try (with_reducible rfl))
             try simp only [Act.put, List.setIfInBounds_toArray, List.set_cons_zero, List.set_cons_succ]
             refine wpAnyH_ready (rs := [13]) (by kernel_rfl) (by simp) ?_
             refine AllReadyH.cons (by simp only [List.getElem?_toArray]; rfl) (fun KK hKK => ?_) AllReadyH.nil
             rw [if_pos (by kernel_rfl)]
             refine wp_stS (.tmp 19) (.tmp 91) rfl (wa82.heap.size) S1 rfl rfl y4 ?_
             replace y4 := y4.row_ S1
             replace y5 := y5.mod (mod_setRow wc102 (wa82.heap.size) (stA S1)) (fun e => ne45 e.symm)
             replace hb := below_setRow hb (wa82.heap.size) (stA S1) nz_y4
             obtain ⟨ws107, hws⟩ : ∃ ws107, ws107 = wc102.setRow (wa82.heap.size) (stA S1) := ⟨_, rfl⟩
             rw [← hws] at y4 y5 hb ⊢
             clear hws
             refine hKK.out _ _ ?_ (fun hHeld => ?_)
             · exact (by first | exact hb | exact below_drew hb)
             clear hKK KK
             try simp only [Act.put]
             refine wpAnyH_ready (rs := [14]) (by kernel_rfl) (by simp) ?_
             refine AllReadyH.cons (by simp only [List.getElem?_toArray]; rfl) (fun KK hKK => ?_) AllReadyH.nil
             rw [if_pos (by kernel_rfl)]
             refine wp_stO (.tmp 20) (.tmp 92) rfl (wa6.heap.size) F.t sh3 F.e rfl rfl hs3 y5 ?_
             replace y5 := y5.row_ F.t sh3 F.e
             replace y4 := y4.mod (mod_setRow ws107 (wa6.heap.size) (otA F.t sh3 F.e)) ne45
             replace hb := below_setRow hb (wa6.heap.size) (otA F.t sh3 F.e) nz_y5
             obtain ⟨ws108, hws⟩ : ∃ ws108, ws108 = ws107.setRow (wa6.heap.size) (otA F.t sh3 F.e) := ⟨_, rfl⟩
             rw [← hws] at y4 y5 hb ⊢
             clear hws
             refine hKK.out _ _ ?_ (fun hHeld => ?_)
             · exact (by first | exact hb | exact below_drew hb)
             clear hKK KK
             try simp only [Act.put]
             refine wpAnyH_done (by kernel_rfl) ?_ _
             go_wp2_with fail
             go_meet
             exact ⟨_, _, sh3, _, rfl, rfl, rfl, y4, y5, hb⟩
          ·
           rw [if_pos (by kernel_rfl)]
           have ne_y4 : ∀ j, Value.ownBlock (.slice (some ⟨wd2.heap.size, 0, none⟩) 0 0) = some j → ¬ j = wa5.heap.size := fun j hj => by have := (World.ownsRow.lt row j hj).2; omega
           have nz_y4 : wz.heap.size ≤ wa5.heap.size := hb.size
           refine wp_alSt rfl ?_
           obtain ⟨wa109, hwa⟩ : ∃ wa109, wa109 = wa5.alloc (.cells (stA zSt) 46) := ⟨_, rfl⟩
           have h9 : Below wa5.heap.size wa5 wa109 := by rw [hwa]; exact below_alloc1 _ _
           have y4 : BoxS wa109 (wa5.heap.size) zSt := by rw [hwa]; exact BoxS.new_ _ _
           rw [← hwa]
           clear hwa
           replace row := own_ext row h9
           replace hb := hb.trans (h9.mono hb.size)
           clear h9
           refine hKK.out _ _ ?_ (fun hHeld => ?_)
           · exact (by first | exact hb | exact below_drew hb)
           clear hKK KK
           try simp only [Act.put, List.setIfInBounds_toArray, List.set_cons_zero, List.set_cons_succ]
           refine wpAnyH_ready (rs := [4, 12]) (by kernel_rfl) (by simp) ?_
           refine AllReadyH.cons (by simp only [List.getElem?_toArray]; rfl) (fun KK hKK => ?_) (AllReadyH.cons (by simp only [List.getElem?_toArray]; rfl) (fun KK hKK => ?_) AllReadyH.nil)
           ·
            rw [if_pos (by kernel_rfl)]
            have nl_y4 := y4.lt
            refine wp_appU (.tmp 85) (.tmp 86) rfl wz.heap.size (0) (.slice (some ⟨wd2.heap.size, 0, none⟩) 0 0) ([]) rfl row gV (some ⟨gV, 0, none⟩) (k) cV (wholeM g M) rfl (Sl.ext hslV hb) hwl (by omega) hb.size ?_
            intro v4 wa110 row' hgr hloc
            have hB := (Mod.of_grown hgr).below hb.size (fun i hi e => by have := (World.ownsRow.lt row i e).1; omega)
            replace y4 := y4.mod (Mod.of_grown hgr) (fun e => ne_y4 _ e rfl)
            replace ne_y4 : ∀ j, Value.ownBlock v4 = some j → ¬ j = wa5.heap.size := fun j hj => by
              rcases hloc with h | h
              · exact ne_y4 j (h ▸ hj)
              · rw [h] at hj; injection hj with hj; omega
            clear nl_y4
            replace hb := hb.trans hB
            clear hB hgr hloc row
            have row := row'
            clear row'
            refine hKK.out _ _ ?_ (fun hHeld => ?_)
            · exact (by first | exact hb | exact below_drew hb)
            clear hKK KK
            try simp only [Act.put, List.setIfInBounds_toArray, List.set_cons_zero, List.set_cons_succ]
            refine wpAnyH_ready (rs := [6, 12]) (by kernel_rfl) (by simp) ?_
            refine AllReadyH.cons (by simp only [List.getElem?_toArray]; rfl) (fun KK hKK => ?_) (AllReadyH.cons (by simp only [List.getElem?_toArray]; rfl) (fun KK hKK => ?_) AllReadyH.nil)
            ·
             rw [if_pos (by kernel_rfl)]
             have nl_y4 := y4.lt
             refine wp_appU (.tmp 87) (.tmp 88) rfl wz.heap.size (0 + k) v4 ([] ++ wholeM g M) rfl row nb NA (N.length) nc (N) rfl (Sl.ext hN9 hb) rfl (by omega) hb.size ?_
             intro v6 wa111 row' hgr hloc
             have hB := (Mod.of_grown hgr).below hb.size (fun i hi e => by have := (World.ownsRow.lt row i e).1; omega)
             replace y4 := y4.mod (Mod.of_grown hgr) (fun e => ne_y4 _ e rfl)
             replace ne_y4 : ∀ j, Value.ownBlock v6 = some j → ¬ j = wa5.heap.size := fun j hj => by
               rcases hloc with h | h
               · exact ne_y4 j (h ▸ hj)
               · rw [h] at hj; injection hj with hj; omega
             clear nl_y4
             replace hb := hb.trans hB
             clear hB hgr hloc row
             have row := row'
             clear row'
             refine hKK.out _ _ ?_ (fun hHeld => ?_)
             · exact (by first | exact hb | exact below_drew hb)
             clear hKK KK
             try simp only [Act.put, List.setIfInBounds_toArray, List.set_cons_zero, List.set_cons_succ]
             refine wpAnyH_ready (rs := [7, 12]) (by kernel_rfl) (by simp) ?_
             refine AllReadyH.cons (by simp only [List.getElem?_toArray]; rfl) (fun KK hKK => ?_) (AllReadyH.cons (by simp only [List.getElem?_toArray]; rfl) (fun KK hKK => ?_) AllReadyH.nil)
             ·
              rw [if_pos (by kernel_rfl)]
              rcases row.2 with ⟨-, h0⟩ | ⟨g6, c6, cur6, hv6, -⟩
              · exact absurd h0 (by omega)
              subst hv6
              obtain ⟨g7, hs6, hg7⟩ := Sl.of_own row
              have e7 := hg7 g6 rfl
              subst e7
              have hP := hStep (some ⟨g6, 0, none⟩) (wholeM g M ++ N) c6 g6 wa111 (hi9.ext hb) (hT9.ext hb) hs6 (fun x hx => (List.mem_append.1 hx).elim (hwf x) (hfN x)) (by rw [List.length_append, hwl]; simp only [maxLen]; omega) HF3.out
              rw [show (wholeM g M ++ N).length = 0 + k + N.length by rw [List.length_append, hwl]; omega] at hP
              clear hg7 hs6 row ne_y4
              refine wp_callF 17 #[.agg (gmA g s), .agg (stA ⟨C, sd, 0⟩), .slice (some ⟨g6, 0, none⟩) (0 + k + N.length) c6] (by kernel_rfl) ?_
              refine hP.mono ?_
              rintro e wc112 ⟨sh3, rfl, hsh, h9⟩
              have hs3 : sh3.oneCell' = true := by
                rcases hsh.2 with ⟨rfl, -⟩ | ⟨_, _, _, rfl, -⟩ <;> rfl
              clear hsh hP
              replace y4 := y4.ext h9
              replace hb := hb.trans (h9.mono hb.size)
              clear h9
              refine ⟨_, rfl, ?_⟩
              refine hKK.out _ _ ?_ (fun hHeld => ?_)
              · exact (by first | exact hb | exact below_drew hb)
              clear hKK KK
              try simp only [Act.put, List.setIfInBounds_toArray, List.set_cons_zero, List.set_cons_succ]
              refine wpAnyH_take (i := 8) (v := ?vt1114) (by simp only [List.getElem?_toArray]; rfl) (by kernel_rfl) (by kernel_rfl) (by kernel_rfl) (by exact fun _ _ _ h => h) (Or.inl ⟨by kernel_rfl, ?yt1114⟩) hHeld ?_
              case yt1114 => (intro ww hSw; (try dsimp only at hSw); clear hSw; go_simp; try (with_reducible rfl))
              try simp only [Act.put, List.setIfInBounds_toArray, List.set_cons_zero, List.set_cons_succ]
              refine wpAnyH_take (i := 9) (v := ?vt1115) (by simp only [List.getElem?_toArray]; rfl) (by kernel_rfl) (by kernel_rfl) (by kernel_rfl) (by exact fun _ _ _ h => h) (Or.inl ⟨by kernel_rfl, ?yt1115⟩) hHeld ?_
              case yt1115 => (intro ww hSw; (try dsimp only at hSw); clear hSw; go_simp; try (with_reducible rfl))
              try simp only [Act.put, List.setIfInBounds_toArray, List.set_cons_zero, List.set_cons_succ]
              refine wpAnyH_take (i := 10) (v := ?vt1116) (by simp only [List.getElem?_toArray]; rfl) (by kernel_rfl) (by kernel_rfl) (by kernel_rfl) (by exact fun _ _ _ h => h) (Or.inl ⟨by kernel_rfl, ?yt1116⟩) hHeld ?_
              case yt1116 => (intro ww hSw; (try dsimp only at hSw); clear hSw; go_simp; try (with_reducible rfl))
              try simp only [Act.put, List.setIfInBounds_toArray, List.set_cons_zero, List.set_cons_succ]
              refine wpAnyH_ready (rs := [12]) (by kernel_rfl) (by simp) ?_
              refine AllReadyH.cons (by simp only [List.getElem?_toArray]; rfl) (fun KK hKK => ?_) AllReadyH.nil
              rw [if_pos (by kernel_rfl)]
              have ne45 : ¬ wa5.heap.size = wc112.heap.size := by have := y4.lt; omega
              have nz_y5 : wz.heap.size ≤ wc112.heap.size := hb.size
              refine wp_alO rfl ?_
              obtain ⟨wa117, hwa⟩ : ∃ wa117, wa117 = wc112.alloc (.cells (otA 0 (.slice none 0 0) 0) 53) := ⟨_, rfl⟩
              have h9 : Below wc112.heap.size wc112 wa117 := by rw [hwa]; exact below_alloc1 _ _
              have y5 : OBox wa117 (wc112.heap.size) 0 (.slice none 0 0) 0 := by rw [hwa]; exact OBox.new_ _ _ _ _
              rw [← hwa]
              clear hwa
              replace y4 := y4.ext h9
              replace hb := hb.trans (h9.mono hb.size)
              clear h9
              refine hKK.out _ _ ?_ (fun hHeld => ?_)
              · exact (by first | exact hb | exact below_drew hb)
              clear hKK KK
              try simp only [Act.put, List.setIfInBounds_toArray, List.set_cons_zero, List.set_cons_succ]
              refine wpAnyH_ready (rs := [13]) (by kernel_rfl) (by simp) ?_
              refine AllReadyH.cons (by simp only [List.getElem?_toArray]; rfl) (fun KK hKK => ?_) AllReadyH.nil
              rw [if_pos (by kernel_rfl)]
              refine wp_stS (.tmp 19) (.tmp 91) rfl (wa5.heap.size) S1 rfl rfl y4 ?_
              replace y4 := y4.row_ S1
              replace y5 := y5.mod (mod_setRow wa117 (wa5.heap.size) (stA S1)) (fun e => ne45 e.symm)
              replace hb := below_setRow hb (wa5.heap.size) (stA S1) nz_y4
              obtain ⟨ws118, hws⟩ : ∃ ws118, ws118 = wa117.setRow (wa5.heap.size) (stA S1) := ⟨_, rfl⟩
              rw [← hws] at y4 y5 hb ⊢
              clear hws
              refine hKK.out _ _ ?_ (fun hHeld => ?_)
              · exact (by first | exact hb | exact below_drew hb)
              clear hKK KK
              try simp only [Act.put]
              refine wpAnyH_ready (rs := [14]) (by kernel_rfl) (by simp) ?_
              refine AllReadyH.cons (by simp only [List.getElem?_toArray]; rfl) (fun KK hKK => ?_) AllReadyH.nil
              rw [if_pos (by kernel_rfl)]
              refine wp_stO (.tmp 20) (.tmp 92) rfl (wc112.heap.size) F.t sh3 F.e rfl rfl hs3 y5 ?_
              replace y5 := y5.row_ F.t sh3 F.e
              replace y4 := y4.mod (mod_setRow ws118 (wc112.heap.size) (otA F.t sh3 F.e)) ne45
              replace hb := below_setRow hb (wc112.heap.size) (otA F.t sh3 F.e) nz_y5
              obtain ⟨ws119, hws⟩ : ∃ ws119, ws119 = ws118.setRow (wc112.heap.size) (otA F.t sh3 F.e) := ⟨_, rfl⟩
              rw [← hws] at y4 y5 hb ⊢
              clear hws
              refine hKK.out _ _ ?_ (fun hHeld => ?_)
              · exact (by first | exact hb | exact below_drew hb)
              clear hKK KK
              try simp only [Act.put]
              refine wpAnyH_done (by kernel_rfl) ?_ _
              go_wp2_with fail
              go_meet
              exact ⟨_, _, sh3, _, rfl, rfl, rfl, y4, y5, hb⟩
             ·
              rw [if_pos (by kernel_rfl)]
              have ne45 : ¬ wa5.heap.size = wa111.heap.size := by have := y4.lt; omega
              have ne_y5 : ∀ j, Value.ownBlock v6 = some j → ¬ j = wa111.heap.size := fun j hj => by have := (World.ownsRow.lt row j hj).2; omega
              have nz_y5 : wz.heap.size ≤ wa111.heap.size := hb.size
              refine wp_alO rfl ?_
              obtain ⟨wa120, hwa⟩ : ∃ wa120, wa120 = wa111.alloc (.cells (otA 0 (.slice none 0 0) 0) 53) := ⟨_, rfl⟩
              have h9 : Below wa111.heap.size wa111 wa120 := by rw [hwa]; exact below_alloc1 _ _
              have y5 : OBox wa120 (wa111.heap.size) 0 (.slice none 0 0) 0 := by rw [hwa]; exact OBox.new_ _ _ _ _
              rw [← hwa]
              clear hwa
              replace row := own_ext row h9
              replace y4 := y4.ext h9
              replace hb := hb.trans (h9.mono hb.size)
              clear h9
              refine hKK.out _ _ ?_ (fun hHeld => ?_)
              · exact (by first | exact hb | exact below_drew hb)
              clear hKK KK
              try simp only [Act.put, List.setIfInBounds_toArray, List.set_cons_zero, List.set_cons_succ]
              refine wpAnyH_ready (rs := [7]) (by kernel_rfl) (by simp) ?_
              refine AllReadyH.cons (by simp only [List.getElem?_toArray]; rfl) (fun KK hKK => ?_) AllReadyH.nil
              rw [if_pos (by kernel_rfl)]
              rcases row.2 with ⟨-, h0⟩ | ⟨g6, c6, cur6, hv6, -⟩
              · exact absurd h0 (by omega)
              subst hv6
              obtain ⟨g7, hs6, hg7⟩ := Sl.of_own row
              have e7 := hg7 g6 rfl
              subst e7
              have hP := hStep (some ⟨g6, 0, none⟩) (wholeM g M ++ N) c6 g6 wa120 (hi9.ext hb) (hT9.ext hb) hs6 (fun x hx => (List.mem_append.1 hx).elim (hwf x) (hfN x)) (by rw [List.length_append, hwl]; simp only [maxLen]; omega) HF3.out
              rw [show (wholeM g M ++ N).length = 0 + k + N.length by rw [List.length_append, hwl]; omega] at hP
              clear hg7 hs6 row ne_y4 ne_y5
              refine wp_callF 17 #[.agg (gmA g s), .agg (stA ⟨C, sd, 0⟩), .slice (some ⟨g6, 0, none⟩) (0 + k + N.length) c6] (by kernel_rfl) ?_
              refine hP.mono ?_
              rintro e wc121 ⟨sh3, rfl, hsh, h9⟩
              have hs3 : sh3.oneCell' = true := by
                rcases hsh.2 with ⟨rfl, -⟩ | ⟨_, _, _, rfl, -⟩ <;> rfl
              clear hsh hP
              replace y4 := y4.ext h9
              replace y5 := y5.ext h9
              replace hb := hb.trans (h9.mono hb.size)
              clear h9
              refine ⟨_, rfl, ?_⟩
              refine hKK.out _ _ ?_ (fun hHeld => ?_)
              · exact (by first | exact hb | exact below_drew hb)
              clear hKK KK
              try simp only [Act.put, List.setIfInBounds_toArray, List.set_cons_zero, List.set_cons_succ]
              refine wpAnyH_take (i := 8) (v := ?vt1123) (by simp only [List.getElem?_toArray]; rfl) (by kernel_rfl) (by kernel_rfl) (by kernel_rfl) (by exact fun _ _ _ h => h) (Or.inl ⟨by kernel_rfl, ?yt1123⟩) hHeld ?_
              case yt1123 => (intro ww hSw; (try dsimp only at hSw); clear hSw; go_simp; try (with_reducible rfl))
              try simp only [Act.put, List.setIfInBounds_toArray, List.set_cons_zero, List.set_cons_succ]
              refine wpAnyH_take (i := 9) (v := ?vt1124) (by simp only [List.getElem?_toArray]; rfl) (by kernel_rfl) (by kernel_rfl) (by kernel_rfl) (by exact fun _ _ _ h => h) (Or.inl ⟨by kernel_rfl, ?yt1124⟩) hHeld ?_
              case yt1124 => (intro ww hSw; (try dsimp only at hSw); clear hSw; go_simp; try (with_reducible rfl))
              try simp only [Act.put, List.setIfInBounds_toArray, List.set_cons_zero, List.set_cons_succ]
              refine wpAnyH_take (i := 10) (v := ?vt1125) (by simp only [List.getElem?_toArray]; rfl) (by kernel_rfl) (by kernel_rfl) (by kernel_rfl) (by exact fun _ _ _ h => h) (Or.inl ⟨by kernel_rfl, ?yt1125⟩) hHeld ?_
              case yt1125 => (intro ww hSw; (try dsimp only at hSw); clear hSw; go_simp; try (with_reducible rfl))
              try simp only [Act.put, List.setIfInBounds_toArray, List.set_cons_zero, List.set_cons_succ]
              refine wpAnyH_ready (rs := [13]) (by kernel_rfl) (by simp) ?_
              refine AllReadyH.cons (by simp only [List.getElem?_toArray]; rfl) (fun KK hKK => ?_) AllReadyH.nil
              rw [if_pos (by kernel_rfl)]
              refine wp_stS (.tmp 19) (.tmp 91) rfl (wa5.heap.size) S1 rfl rfl y4 ?_
              replace y4 := y4.row_ S1
              replace y5 := y5.mod (mod_setRow wc121 (wa5.heap.size) (stA S1)) (fun e => ne45 e.symm)
              replace hb := below_setRow hb (wa5.heap.size) (stA S1) nz_y4
              obtain ⟨ws126, hws⟩ : ∃ ws126, ws126 = wc121.setRow (wa5.heap.size) (stA S1) := ⟨_, rfl⟩
              rw [← hws] at y4 y5 hb ⊢
              clear hws
              refine hKK.out _ _ ?_ (fun hHeld => ?_)
              · exact (by first | exact hb | exact below_drew hb)
              clear hKK KK
              try simp only [Act.put]
              refine wpAnyH_ready (rs := [14]) (by kernel_rfl) (by simp) ?_
              refine AllReadyH.cons (by simp only [List.getElem?_toArray]; rfl) (fun KK hKK => ?_) AllReadyH.nil
              rw [if_pos (by kernel_rfl)]
              refine wp_stO (.tmp 20) (.tmp 92) rfl (wa111.heap.size) F.t sh3 F.e rfl rfl hs3 y5 ?_
              replace y5 := y5.row_ F.t sh3 F.e
              replace y4 := y4.mod (mod_setRow ws126 (wa111.heap.size) (otA F.t sh3 F.e)) ne45
              replace hb := below_setRow hb (wa111.heap.size) (otA F.t sh3 F.e) nz_y5
              obtain ⟨ws127, hws⟩ : ∃ ws127, ws127 = ws126.setRow (wa111.heap.size) (otA F.t sh3 F.e) := ⟨_, rfl⟩
              rw [← hws] at y4 y5 hb ⊢
              clear hws
              refine hKK.out _ _ ?_ (fun hHeld => ?_)
              · exact (by first | exact hb | exact below_drew hb)
              clear hKK KK
              try simp only [Act.put]
              refine wpAnyH_done (by kernel_rfl) ?_ _
              go_wp2_with fail
              go_meet
              exact ⟨_, _, sh3, _, rfl, rfl, rfl, y4, y5, hb⟩
            ·
             rw [if_pos (by kernel_rfl)]
             have ne45 : ¬ wa5.heap.size = wa110.heap.size := by have := y4.lt; omega
             have ne_y5 : ∀ j, Value.ownBlock v4 = some j → ¬ j = wa110.heap.size := fun j hj => by have := (World.ownsRow.lt row j hj).2; omega
             have nz_y5 : wz.heap.size ≤ wa110.heap.size := hb.size
             refine wp_alO rfl ?_
             obtain ⟨wa128, hwa⟩ : ∃ wa128, wa128 = wa110.alloc (.cells (otA 0 (.slice none 0 0) 0) 53) := ⟨_, rfl⟩
             have h9 : Below wa110.heap.size wa110 wa128 := by rw [hwa]; exact below_alloc1 _ _
             have y5 : OBox wa128 (wa110.heap.size) 0 (.slice none 0 0) 0 := by rw [hwa]; exact OBox.new_ _ _ _ _
             rw [← hwa]
             clear hwa
             replace row := own_ext row h9
             replace y4 := y4.ext h9
             replace hb := hb.trans (h9.mono hb.size)
             clear h9
             refine hKK.out _ _ ?_ (fun hHeld => ?_)
             · exact (by first | exact hb | exact below_drew hb)
             clear hKK KK
             try simp only [Act.put, List.setIfInBounds_toArray, List.set_cons_zero, List.set_cons_succ]
             refine wpAnyH_ready (rs := [6]) (by kernel_rfl) (by simp) ?_
             refine AllReadyH.cons (by simp only [List.getElem?_toArray]; rfl) (fun KK hKK => ?_) AllReadyH.nil
             rw [if_pos (by kernel_rfl)]
             have nl_y4 := y4.lt
             have nl_y5 := y5.lt
             refine wp_appU (.tmp 87) (.tmp 88) rfl wz.heap.size (0 + k) v4 ([] ++ wholeM g M) rfl row nb NA (N.length) nc (N) rfl (Sl.ext hN9 hb) rfl (by omega) hb.size ?_
             intro v6 wa129 row' hgr hloc
             have hB := (Mod.of_grown hgr).below hb.size (fun i hi e => by have := (World.ownsRow.lt row i e).1; omega)
             replace y4 := y4.mod (Mod.of_grown hgr) (fun e => ne_y4 _ e rfl)
             replace ne_y4 : ∀ j, Value.ownBlock v6 = some j → ¬ j = wa5.heap.size := fun j hj => by
               rcases hloc with h | h
               · exact ne_y4 j (h ▸ hj)
               · rw [h] at hj; injection hj with hj; omega
             clear nl_y4
             replace y5 := y5.mod (Mod.of_grown hgr) (fun e => ne_y5 _ e rfl)
             replace ne_y5 : ∀ j, Value.ownBlock v6 = some j → ¬ j = wa110.heap.size := fun j hj => by
               rcases hloc with h | h
               · exact ne_y5 j (h ▸ hj)
               · rw [h] at hj; injection hj with hj; omega
             clear nl_y5
             replace hb := hb.trans hB
             clear hB hgr hloc row
             have row := row'
             clear row'
             refine hKK.out _ _ ?_ (fun hHeld => ?_)
             · exact (by first | exact hb | exact below_drew hb)
             clear hKK KK
             try simp only [Act.put, List.setIfInBounds_toArray, List.set_cons_zero, List.set_cons_succ]
             refine wpAnyH_ready (rs := [7]) (by kernel_rfl) (by simp) ?_
             refine AllReadyH.cons (by simp only [List.getElem?_toArray]; rfl) (fun KK hKK => ?_) AllReadyH.nil
             rw [if_pos (by kernel_rfl)]
             rcases row.2 with ⟨-, h0⟩ | ⟨g6, c6, cur6, hv6, -⟩
             · exact absurd h0 (by omega)
             subst hv6
             obtain ⟨g7, hs6, hg7⟩ := Sl.of_own row
             have e7 := hg7 g6 rfl
             subst e7
             have hP := hStep (some ⟨g6, 0, none⟩) (wholeM g M ++ N) c6 g6 wa129 (hi9.ext hb) (hT9.ext hb) hs6 (fun x hx => (List.mem_append.1 hx).elim (hwf x) (hfN x)) (by rw [List.length_append, hwl]; simp only [maxLen]; omega) HF3.out
             rw [show (wholeM g M ++ N).length = 0 + k + N.length by rw [List.length_append, hwl]; omega] at hP
             clear hg7 hs6 row ne_y4 ne_y5
             refine wp_callF 17 #[.agg (gmA g s), .agg (stA ⟨C, sd, 0⟩), .slice (some ⟨g6, 0, none⟩) (0 + k + N.length) c6] (by kernel_rfl) ?_
             refine hP.mono ?_
             rintro e wc130 ⟨sh3, rfl, hsh, h9⟩
             have hs3 : sh3.oneCell' = true := by
               rcases hsh.2 with ⟨rfl, -⟩ | ⟨_, _, _, rfl, -⟩ <;> rfl
             clear hsh hP
             replace y4 := y4.ext h9
             replace y5 := y5.ext h9
             replace hb := hb.trans (h9.mono hb.size)
             clear h9
             refine ⟨_, rfl, ?_⟩
             refine hKK.out _ _ ?_ (fun hHeld => ?_)
             · exact (by first | exact hb | exact below_drew hb)
             clear hKK KK
             try simp only [Act.put, List.setIfInBounds_toArray, List.set_cons_zero, List.set_cons_succ]
             refine wpAnyH_take (i := 8) (v := ?vt1132) (by simp only [List.getElem?_toArray]; rfl) (by kernel_rfl) (by kernel_rfl) (by kernel_rfl) (by exact fun _ _ _ h => h) (Or.inl ⟨by kernel_rfl, ?yt1132⟩) hHeld ?_
             case yt1132 => (intro ww hSw; (try dsimp only at hSw); clear hSw; go_simp; try (with_reducible rfl))
             try simp only [Act.put, List.setIfInBounds_toArray, List.set_cons_zero, List.set_cons_succ]
             refine wpAnyH_take (i := 9) (v := ?vt1133) (by simp only [List.getElem?_toArray]; rfl) (by kernel_rfl) (by kernel_rfl) (by kernel_rfl) (by exact fun _ _ _ h => h) (Or.inl ⟨by kernel_rfl, ?yt1133⟩) hHeld ?_
             case yt1133 => (intro ww hSw; (try dsimp only at hSw); clear hSw; go_simp; try (with_reducible rfl))
             try simp only [Act.put, List.setIfInBounds_toArray, List.set_cons_zero, List.set_cons_succ]
             refine wpAnyH_take (i := 10) (v := ?vt1134) (by simp only [List.getElem?_toArray]; rfl) (by kernel_rfl) (by kernel_rfl) (by kernel_rfl) (by exact fun _ _ _ h => h) (Or.inl ⟨by kernel_rfl, ?yt1134⟩) hHeld ?_
             case yt1134 => (intro ww hSw; (try dsimp only at hSw); clear hSw; go_simp; try (with_reducible rfl))
             try simp only [Act.put, List.setIfInBounds_toArray, List.set_cons_zero, List.set_cons_succ]
             refine wpAnyH_ready (rs := [13]) (by kernel_rfl) (by simp) ?_
             refine AllReadyH.cons (by simp only [List.getElem?_toArray]; rfl) (fun KK hKK => ?_) AllReadyH.nil
             rw [if_pos (by kernel_rfl)]
             refine wp_stS (.tmp 19) (.tmp 91) rfl (wa5.heap.size) S1 rfl rfl y4 ?_
             replace y4 := y4.row_ S1
             replace y5 := y5.mod (mod_setRow wc130 (wa5.heap.size) (stA S1)) (fun e => ne45 e.symm)
             replace hb := below_setRow hb (wa5.heap.size) (stA S1) nz_y4
             obtain ⟨ws135, hws⟩ : ∃ ws135, ws135 = wc130.setRow (wa5.heap.size) (stA S1) := ⟨_, rfl⟩
             rw [← hws] at y4 y5 hb ⊢
             clear hws
             refine hKK.out _ _ ?_ (fun hHeld => ?_)
             · exact (by first | exact hb | exact below_drew hb)
             clear hKK KK
             try simp only [Act.put]
             refine wpAnyH_ready (rs := [14]) (by kernel_rfl) (by simp) ?_
             refine AllReadyH.cons (by simp only [List.getElem?_toArray]; rfl) (fun KK hKK => ?_) AllReadyH.nil
             rw [if_pos (by kernel_rfl)]
             refine wp_stO (.tmp 20) (.tmp 92) rfl (wa110.heap.size) F.t sh3 F.e rfl rfl hs3 y5 ?_
             replace y5 := y5.row_ F.t sh3 F.e
             replace y4 := y4.mod (mod_setRow ws135 (wa110.heap.size) (otA F.t sh3 F.e)) ne45
             replace hb := below_setRow hb (wa110.heap.size) (otA F.t sh3 F.e) nz_y5
             obtain ⟨ws136, hws⟩ : ∃ ws136, ws136 = ws135.setRow (wa110.heap.size) (otA F.t sh3 F.e) := ⟨_, rfl⟩
             rw [← hws] at y4 y5 hb ⊢
             clear hws
             refine hKK.out _ _ ?_ (fun hHeld => ?_)
             · exact (by first | exact hb | exact below_drew hb)
             clear hKK KK
             try simp only [Act.put]
             refine wpAnyH_done (by kernel_rfl) ?_ _
             go_wp2_with fail
             go_meet
             exact ⟨_, _, sh3, _, rfl, rfl, rfl, y4, y5, hb⟩
           ·
            rw [if_pos (by kernel_rfl)]
            have ne45 : ¬ wa5.heap.size = wa109.heap.size := by have := y4.lt; omega
            have ne_y5 : ∀ j, Value.ownBlock (.slice (some ⟨wd2.heap.size, 0, none⟩) 0 0) = some j → ¬ j = wa109.heap.size := fun j hj => by have := (World.ownsRow.lt row j hj).2; omega
            have nz_y5 : wz.heap.size ≤ wa109.heap.size := hb.size
            refine wp_alO rfl ?_
            obtain ⟨wa137, hwa⟩ : ∃ wa137, wa137 = wa109.alloc (.cells (otA 0 (.slice none 0 0) 0) 53) := ⟨_, rfl⟩
            have h9 : Below wa109.heap.size wa109 wa137 := by rw [hwa]; exact below_alloc1 _ _
            have y5 : OBox wa137 (wa109.heap.size) 0 (.slice none 0 0) 0 := by rw [hwa]; exact OBox.new_ _ _ _ _
            rw [← hwa]
            clear hwa
            replace row := own_ext row h9
            replace y4 := y4.ext h9
            replace hb := hb.trans (h9.mono hb.size)
            clear h9
            refine hKK.out _ _ ?_ (fun hHeld => ?_)
            · exact (by first | exact hb | exact below_drew hb)
            clear hKK KK
            try simp only [Act.put, List.setIfInBounds_toArray, List.set_cons_zero, List.set_cons_succ]
            refine wpAnyH_ready (rs := [4]) (by kernel_rfl) (by simp) ?_
            refine AllReadyH.cons (by simp only [List.getElem?_toArray]; rfl) (fun KK hKK => ?_) AllReadyH.nil
            rw [if_pos (by kernel_rfl)]
            have nl_y4 := y4.lt
            have nl_y5 := y5.lt
            refine wp_appU (.tmp 85) (.tmp 86) rfl wz.heap.size (0) (.slice (some ⟨wd2.heap.size, 0, none⟩) 0 0) ([]) rfl row gV (some ⟨gV, 0, none⟩) (k) cV (wholeM g M) rfl (Sl.ext hslV hb) hwl (by omega) hb.size ?_
            intro v4 wa138 row' hgr hloc
            have hB := (Mod.of_grown hgr).below hb.size (fun i hi e => by have := (World.ownsRow.lt row i e).1; omega)
            replace y4 := y4.mod (Mod.of_grown hgr) (fun e => ne_y4 _ e rfl)
            replace ne_y4 : ∀ j, Value.ownBlock v4 = some j → ¬ j = wa5.heap.size := fun j hj => by
              rcases hloc with h | h
              · exact ne_y4 j (h ▸ hj)
              · rw [h] at hj; injection hj with hj; omega
            clear nl_y4
            replace y5 := y5.mod (Mod.of_grown hgr) (fun e => ne_y5 _ e rfl)
            replace ne_y5 : ∀ j, Value.ownBlock v4 = some j → ¬ j = wa109.heap.size := fun j hj => by
              rcases hloc with h | h
              · exact ne_y5 j (h ▸ hj)
              · rw [h] at hj; injection hj with hj; omega
            clear nl_y5
            replace hb := hb.trans hB
            clear hB hgr hloc row
            have row := row'
            clear row'
            refine hKK.out _ _ ?_ (fun hHeld => ?_)
            · exact (by first | exact hb | exact below_drew hb)
            clear hKK KK
            try simp only [Act.put, List.setIfInBounds_toArray, List.set_cons_zero, List.set_cons_succ]
            refine wpAnyH_ready (rs := [6]) (by kernel_rfl) (by simp) ?_
            refine AllReadyH.cons (by simp only [List.getElem?_toArray]; rfl) (fun KK hKK => ?_) AllReadyH.nil
            rw [if_pos (by kernel_rfl)]
            have nl_y4 := y4.lt
            have nl_y5 := y5.lt
            refine wp_appU (.tmp 87) (.tmp 88) rfl wz.heap.size (0 + k) v4 ([] ++ wholeM g M) rfl row nb NA (N.length) nc (N) rfl (Sl.ext hN9 hb) rfl (by omega) hb.size ?_
            intro v6 wa139 row' hgr hloc
            have hB := (Mod.of_grown hgr).below hb.size (fun i hi e => by have := (World.ownsRow.lt row i e).1; omega)
            replace y4 := y4.mod (Mod.of_grown hgr) (fun e => ne_y4 _ e rfl)
            replace ne_y4 : ∀ j, Value.ownBlock v6 = some j → ¬ j = wa5.heap.size := fun j hj => by
              rcases hloc with h | h
              · exact ne_y4 j (h ▸ hj)
              · rw [h] at hj; injection hj with hj; omega
            clear nl_y4
            replace y5 := y5.mod (Mod.of_grown hgr) (fun e => ne_y5 _ e rfl)
            replace ne_y5 : ∀ j, Value.ownBlock v6 = some j → ¬ j = wa109.heap.size := fun j hj => by
              rcases hloc with h | h
              · exact ne_y5 j (h ▸ hj)
              · rw [h] at hj; injection hj with hj; omega
            clear nl_y5
            replace hb := hb.trans hB
            clear hB hgr hloc row
            have row := row'
            clear row'
            refine hKK.out _ _ ?_ (fun hHeld => ?_)
            · exact (by first | exact hb | exact below_drew hb)
            clear hKK KK
            try simp only [Act.put, List.setIfInBounds_toArray, List.set_cons_zero, List.set_cons_succ]
            refine wpAnyH_ready (rs := [7]) (by kernel_rfl) (by simp) ?_
            refine AllReadyH.cons (by simp only [List.getElem?_toArray]; rfl) (fun KK hKK => ?_) AllReadyH.nil
            rw [if_pos (by kernel_rfl)]
            rcases row.2 with ⟨-, h0⟩ | ⟨g6, c6, cur6, hv6, -⟩
            · exact absurd h0 (by omega)
            subst hv6
            obtain ⟨g7, hs6, hg7⟩ := Sl.of_own row
            have e7 := hg7 g6 rfl
            subst e7
            have hP := hStep (some ⟨g6, 0, none⟩) (wholeM g M ++ N) c6 g6 wa139 (hi9.ext hb) (hT9.ext hb) hs6 (fun x hx => (List.mem_append.1 hx).elim (hwf x) (hfN x)) (by rw [List.length_append, hwl]; simp only [maxLen]; omega) HF3.out
            rw [show (wholeM g M ++ N).length = 0 + k + N.length by rw [List.length_append, hwl]; omega] at hP
            clear hg7 hs6 row ne_y4 ne_y5
            refine wp_callF 17 #[.agg (gmA g s), .agg (stA ⟨C, sd, 0⟩), .slice (some ⟨g6, 0, none⟩) (0 + k + N.length) c6] (by kernel_rfl) ?_
            refine hP.mono ?_
            rintro e wc140 ⟨sh3, rfl, hsh, h9⟩
            have hs3 : sh3.oneCell' = true := by
              rcases hsh.2 with ⟨rfl, -⟩ | ⟨_, _, _, rfl, -⟩ <;> rfl
            clear hsh hP
            replace y4 := y4.ext h9
            replace y5 := y5.ext h9
            replace hb := hb.trans (h9.mono hb.size)
            clear h9
            refine ⟨_, rfl, ?_⟩
            refine hKK.out _ _ ?_ (fun hHeld => ?_)
            · exact (by first | exact hb | exact below_drew hb)
            clear hKK KK
            try simp only [Act.put, List.setIfInBounds_toArray, List.set_cons_zero, List.set_cons_succ]
            refine wpAnyH_take (i := 8) (v := ?vt1142) (by simp only [List.getElem?_toArray]; rfl) (by kernel_rfl) (by kernel_rfl) (by kernel_rfl) (by exact fun _ _ _ h => h) (Or.inl ⟨by kernel_rfl, ?yt1142⟩) hHeld ?_
            case yt1142 => (intro ww hSw; (try dsimp only at hSw); clear hSw; go_simp; try (with_reducible rfl))
            try simp only [Act.put, List.setIfInBounds_toArray, List.set_cons_zero, List.set_cons_succ]
            refine wpAnyH_take (i := 9) (v := ?vt1143) (by simp only [List.getElem?_toArray]; rfl) (by kernel_rfl) (by kernel_rfl) (by kernel_rfl) (by exact fun _ _ _ h => h) (Or.inl ⟨by kernel_rfl, ?yt1143⟩) hHeld ?_
            case yt1143 => (intro ww hSw; (try dsimp only at hSw); clear hSw; go_simp; try (with_reducible rfl))
            try simp only [Act.put, List.setIfInBounds_toArray, List.set_cons_zero, List.set_cons_succ]
            refine wpAnyH_take (i := 10) (v := ?vt1144) (by simp only [List.getElem?_toArray]; rfl) (by kernel_rfl) (by kernel_rfl) (by kernel_rfl) (by exact fun _ _ _ h => h) (Or.inl ⟨by kernel_rfl, ?yt1144⟩) hHeld ?_
            case yt1144 => (intro ww hSw; (try dsimp only at hSw); clear hSw; go_simp; try (with_reducible rfl))
            try simp only [Act.put, List.setIfInBounds_toArray, List.set_cons_zero, List.set_cons_succ]
            refine wpAnyH_ready (rs := [13]) (by kernel_rfl) (by simp) ?_
            refine AllReadyH.cons (by simp only [List.getElem?_toArray]; rfl) (fun KK hKK => ?_) AllReadyH.nil
            rw [if_pos (by kernel_rfl)]
            refine wp_stS (.tmp 19) (.tmp 91) rfl (wa5.heap.size) S1 rfl rfl y4 ?_
            replace y4 := y4.row_ S1
            replace y5 := y5.mod (mod_setRow wc140 (wa5.heap.size) (stA S1)) (fun e => ne45 e.symm)
            replace hb := below_setRow hb (wa5.heap.size) (stA S1) nz_y4
            obtain ⟨ws145, hws⟩ : ∃ ws145, ws145 = wc140.setRow (wa5.heap.size) (stA S1) := ⟨_, rfl⟩
            rw [← hws] at y4 y5 hb ⊢
            clear hws
            refine hKK.out _ _ ?_ (fun hHeld => ?_)
            · exact (by first | exact hb | exact below_drew hb)
            clear hKK KK
            try simp only [Act.put]
            refine wpAnyH_ready (rs := [14]) (by kernel_rfl) (by simp) ?_
            refine AllReadyH.cons (by simp only [List.getElem?_toArray]; rfl) (fun KK hKK => ?_) AllReadyH.nil
            rw [if_pos (by kernel_rfl)]
            refine wp_stO (.tmp 20) (.tmp 92) rfl (wa109.heap.size) F.t sh3 F.e rfl rfl hs3 y5 ?_
            replace y5 := y5.row_ F.t sh3 F.e
            replace y4 := y4.mod (mod_setRow ws145 (wa109.heap.size) (otA F.t sh3 F.e)) ne45
            replace hb := below_setRow hb (wa109.heap.size) (otA F.t sh3 F.e) nz_y5
            obtain ⟨ws146, hws⟩ : ∃ ws146, ws146 = ws145.setRow (wa109.heap.size) (otA F.t sh3 F.e) := ⟨_, rfl⟩
            rw [← hws] at y4 y5 hb ⊢
            clear hws
            refine hKK.out _ _ ?_ (fun hHeld => ?_)
            · exact (by first | exact hb | exact below_drew hb)
            clear hKK KK
            try simp only [Act.put]
            refine wpAnyH_done (by kernel_rfl) ?_ _
            go_wp2_with fail
            go_meet
            exact ⟨_, _, sh3, _, rfl, rfl, rfl, y4, y5, hb⟩
          ·
           rw [if_pos (by kernel_rfl)]
           have ne_y5 : ∀ j, Value.ownBlock (.slice (some ⟨wd2.heap.size, 0, none⟩) 0 0) = some j → ¬ j = wa5.heap.size := fun j hj => by have := (World.ownsRow.lt row j hj).2; omega
           have nz_y5 : wz.heap.size ≤ wa5.heap.size := hb.size
           refine wp_alO rfl ?_
           obtain ⟨wa147, hwa⟩ : ∃ wa147, wa147 = wa5.alloc (.cells (otA 0 (.slice none 0 0) 0) 53) := ⟨_, rfl⟩
           have h9 : Below wa5.heap.size wa5 wa147 := by rw [hwa]; exact below_alloc1 _ _
           have y5 : OBox wa147 (wa5.heap.size) 0 (.slice none 0 0) 0 := by rw [hwa]; exact OBox.new_ _ _ _ _
           rw [← hwa]
           clear hwa
           replace row := own_ext row h9
           replace hb := hb.trans (h9.mono hb.size)
           clear h9
           refine hKK.out _ _ ?_ (fun hHeld => ?_)
           · exact (by first | exact hb | exact below_drew hb)
           clear hKK KK
           try simp only [Act.put, List.setIfInBounds_toArray, List.set_cons_zero, List.set_cons_succ]
           refine wpAnyH_ready (rs := [4, 11]) (by kernel_rfl) (by simp) ?_
           refine AllReadyH.cons (by simp only [List.getElem?_toArray]; rfl) (fun KK hKK => ?_) (AllReadyH.cons (by simp only [List.getElem?_toArray]; rfl) (fun KK hKK => ?_) AllReadyH.nil)
           ·
            rw [if_pos (by kernel_rfl)]
            have nl_y5 := y5.lt
            refine wp_appU (.tmp 85) (.tmp 86) rfl wz.heap.size (0) (.slice (some ⟨wd2.heap.size, 0, none⟩) 0 0) ([]) rfl row gV (some ⟨gV, 0, none⟩) (k) cV (wholeM g M) rfl (Sl.ext hslV hb) hwl (by omega) hb.size ?_
            intro v4 wa148 row' hgr hloc
            have hB := (Mod.of_grown hgr).below hb.size (fun i hi e => by have := (World.ownsRow.lt row i e).1; omega)
            replace y5 := y5.mod (Mod.of_grown hgr) (fun e => ne_y5 _ e rfl)
            replace ne_y5 : ∀ j, Value.ownBlock v4 = some j → ¬ j = wa5.heap.size := fun j hj => by
              rcases hloc with h | h
              · exact ne_y5 j (h ▸ hj)
              · rw [h] at hj; injection hj with hj; omega
            clear nl_y5
            replace hb := hb.trans hB
            clear hB hgr hloc row
            have row := row'
            clear row'
            refine hKK.out _ _ ?_ (fun hHeld => ?_)
            · exact (by first | exact hb | exact below_drew hb)
            clear hKK KK
            try simp only [Act.put, List.setIfInBounds_toArray, List.set_cons_zero, List.set_cons_succ]
            refine wpAnyH_ready (rs := [6, 11]) (by kernel_rfl) (by simp) ?_
            refine AllReadyH.cons (by simp only [List.getElem?_toArray]; rfl) (fun KK hKK => ?_) (AllReadyH.cons (by simp only [List.getElem?_toArray]; rfl) (fun KK hKK => ?_) AllReadyH.nil)
            ·
             rw [if_pos (by kernel_rfl)]
             have nl_y5 := y5.lt
             refine wp_appU (.tmp 87) (.tmp 88) rfl wz.heap.size (0 + k) v4 ([] ++ wholeM g M) rfl row nb NA (N.length) nc (N) rfl (Sl.ext hN9 hb) rfl (by omega) hb.size ?_
             intro v6 wa149 row' hgr hloc
             have hB := (Mod.of_grown hgr).below hb.size (fun i hi e => by have := (World.ownsRow.lt row i e).1; omega)
             replace y5 := y5.mod (Mod.of_grown hgr) (fun e => ne_y5 _ e rfl)
             replace ne_y5 : ∀ j, Value.ownBlock v6 = some j → ¬ j = wa5.heap.size := fun j hj => by
               rcases hloc with h | h
               · exact ne_y5 j (h ▸ hj)
               · rw [h] at hj; injection hj with hj; omega
             clear nl_y5
             replace hb := hb.trans hB
             clear hB hgr hloc row
             have row := row'
             clear row'
             refine hKK.out _ _ ?_ (fun hHeld => ?_)
             · exact (by first | exact hb | exact below_drew hb)
             clear hKK KK
             try simp only [Act.put, List.setIfInBounds_toArray, List.set_cons_zero, List.set_cons_succ]
             refine wpAnyH_ready (rs := [7, 11]) (by kernel_rfl) (by simp) ?_
             refine AllReadyH.cons (by simp only [List.getElem?_toArray]; rfl) (fun KK hKK => ?_) (AllReadyH.cons (by simp only [List.getElem?_toArray]; rfl) (fun KK hKK => ?_) AllReadyH.nil)
             ·
              rw [if_pos (by kernel_rfl)]
              rcases row.2 with ⟨-, h0⟩ | ⟨g6, c6, cur6, hv6, -⟩
              · exact absurd h0 (by omega)
              subst hv6
              obtain ⟨g7, hs6, hg7⟩ := Sl.of_own row
              have e7 := hg7 g6 rfl
              subst e7
              have hP := hStep (some ⟨g6, 0, none⟩) (wholeM g M ++ N) c6 g6 wa149 (hi9.ext hb) (hT9.ext hb) hs6 (fun x hx => (List.mem_append.1 hx).elim (hwf x) (hfN x)) (by rw [List.length_append, hwl]; simp only [maxLen]; omega) HF3.out
              rw [show (wholeM g M ++ N).length = 0 + k + N.length by rw [List.length_append, hwl]; omega] at hP
              clear hg7 hs6 row ne_y5
              refine wp_callF 17 #[.agg (gmA g s), .agg (stA ⟨C, sd, 0⟩), .slice (some ⟨g6, 0, none⟩) (0 + k + N.length) c6] (by kernel_rfl) ?_
              refine hP.mono ?_
              rintro e wc150 ⟨sh3, rfl, hsh, h9⟩
              have hs3 : sh3.oneCell' = true := by
                rcases hsh.2 with ⟨rfl, -⟩ | ⟨_, _, _, rfl, -⟩ <;> rfl
              clear hsh hP
              replace y5 := y5.ext h9
              replace hb := hb.trans (h9.mono hb.size)
              clear h9
              refine ⟨_, rfl, ?_⟩
              refine hKK.out _ _ ?_ (fun hHeld => ?_)
              · exact (by first | exact hb | exact below_drew hb)
              clear hKK KK
              try simp only [Act.put, List.setIfInBounds_toArray, List.set_cons_zero, List.set_cons_succ]
              refine wpAnyH_take (i := 8) (v := ?vt1152) (by simp only [List.getElem?_toArray]; rfl) (by kernel_rfl) (by kernel_rfl) (by kernel_rfl) (by exact fun _ _ _ h => h) (Or.inl ⟨by kernel_rfl, ?yt1152⟩) hHeld ?_
              case yt1152 => (intro ww hSw; (try dsimp only at hSw); clear hSw; go_simp; try (with_reducible rfl))
              try simp only [Act.put, List.setIfInBounds_toArray, List.set_cons_zero, List.set_cons_succ]
              refine wpAnyH_take (i := 9) (v := ?vt1153) (by simp only [List.getElem?_toArray]; rfl) (by kernel_rfl) (by kernel_rfl) (by kernel_rfl) (by exact fun _ _ _ h => h) (Or.inl ⟨by kernel_rfl, ?yt1153⟩) hHeld ?_
              case yt1153 => (intro ww hSw; (try dsimp only at hSw); clear hSw; go_simp; try (with_reducible rfl))
              try simp only [Act.put, List.setIfInBounds_toArray, List.set_cons_zero, List.set_cons_succ]
              refine wpAnyH_take (i := 10) (v := ?vt1154) (by simp only [List.getElem?_toArray]; rfl) (by kernel_rfl) (by kernel_rfl) (by kernel_rfl) (by exact fun _ _ _ h => h) (Or.inl ⟨by kernel_rfl, ?yt1154⟩) hHeld ?_
              case yt1154 => (intro ww hSw; (try dsimp only at hSw); clear hSw; go_simp; try (with_reducible rfl))
              try simp only [Act.put, List.setIfInBounds_toArray, List.set_cons_zero, List.set_cons_succ]
              refine wpAnyH_ready (rs := [11]) (by kernel_rfl) (by simp) ?_
              refine AllReadyH.cons (by simp only [List.getElem?_toArray]; rfl) (fun KK hKK => ?_) AllReadyH.nil
              rw [if_pos (by kernel_rfl)]
              have ne45 : ¬ wc150.heap.size = wa5.heap.size := by have := y5.lt; omega
              have nz_y4 : wz.heap.size ≤ wc150.heap.size := hb.size
              refine wp_alSt rfl ?_
              obtain ⟨wa155, hwa⟩ : ∃ wa155, wa155 = wc150.alloc (.cells (stA zSt) 46) := ⟨_, rfl⟩
              have h9 : Below wc150.heap.size wc150 wa155 := by rw [hwa]; exact below_alloc1 _ _
              have y4 : BoxS wa155 (wc150.heap.size) zSt := by rw [hwa]; exact BoxS.new_ _ _
              rw [← hwa]
              clear hwa
              replace y5 := y5.ext h9
              replace hb := hb.trans (h9.mono hb.size)
              clear h9
              refine hKK.out _ _ ?_ (fun hHeld => ?_)
              · exact (by first | exact hb | exact below_drew hb)
              clear hKK KK
              try simp only [Act.put, List.setIfInBounds_toArray, List.set_cons_zero, List.set_cons_succ]
              refine wpAnyH_ready (rs := [13]) (by kernel_rfl) (by simp) ?_
              refine AllReadyH.cons (by simp only [List.getElem?_toArray]; rfl) (fun KK hKK => ?_) AllReadyH.nil
              rw [if_pos (by kernel_rfl)]
              refine wp_stS (.tmp 19) (.tmp 91) rfl (wc150.heap.size) S1 rfl rfl y4 ?_
              replace y4 := y4.row_ S1
              replace y5 := y5.mod (mod_setRow wa155 (wc150.heap.size) (stA S1)) (fun e => ne45 e.symm)
              replace hb := below_setRow hb (wc150.heap.size) (stA S1) nz_y4
              obtain ⟨ws156, hws⟩ : ∃ ws156, ws156 = wa155.setRow (wc150.heap.size) (stA S1) := ⟨_, rfl⟩
              rw [← hws] at y4 y5 hb ⊢
              clear hws
              refine hKK.out _ _ ?_ (fun hHeld => ?_)
              · exact (by first | exact hb | exact below_drew hb)
              clear hKK KK
              try simp only [Act.put]
              refine wpAnyH_ready (rs := [14]) (by kernel_rfl) (by simp) ?_
              refine AllReadyH.cons (by simp only [List.getElem?_toArray]; rfl) (fun KK hKK => ?_) AllReadyH.nil
              rw [if_pos (by kernel_rfl)]
              refine wp_stO (.tmp 20) (.tmp 92) rfl (wa5.heap.size) F.t sh3 F.e rfl rfl hs3 y5 ?_
              replace y5 := y5.row_ F.t sh3 F.e
              replace y4 := y4.mod (mod_setRow ws156 (wa5.heap.size) (otA F.t sh3 F.e)) ne45
              replace hb := below_setRow hb (wa5.heap.size) (otA F.t sh3 F.e) nz_y5
              obtain ⟨ws157, hws⟩ : ∃ ws157, ws157 = ws156.setRow (wa5.heap.size) (otA F.t sh3 F.e) := ⟨_, rfl⟩
              rw [← hws] at y4 y5 hb ⊢
              clear hws
              refine hKK.out _ _ ?_ (fun hHeld => ?_)
              · exact (by first | exact hb | exact below_drew hb)
              clear hKK KK
              try simp only [Act.put]
              refine wpAnyH_done (by kernel_rfl) ?_ _
              go_wp2_with fail
              go_meet
              exact ⟨_, _, sh3, _, rfl, rfl, rfl, y4, y5, hb⟩
             ·
              rw [if_pos (by kernel_rfl)]
              have ne45 : ¬ wa149.heap.size = wa5.heap.size := by have := y5.lt; omega
              have ne_y4 : ∀ j, Value.ownBlock v6 = some j → ¬ j = wa149.heap.size := fun j hj => by have := (World.ownsRow.lt row j hj).2; omega
              have nz_y4 : wz.heap.size ≤ wa149.heap.size := hb.size
              refine wp_alSt rfl ?_
              obtain ⟨wa158, hwa⟩ : ∃ wa158, wa158 = wa149.alloc (.cells (stA zSt) 46) := ⟨_, rfl⟩
              have h9 : Below wa149.heap.size wa149 wa158 := by rw [hwa]; exact below_alloc1 _ _
              have y4 : BoxS wa158 (wa149.heap.size) zSt := by rw [hwa]; exact BoxS.new_ _ _
              rw [← hwa]
              clear hwa
              replace row := own_ext row h9
              replace y5 := y5.ext h9
              replace hb := hb.trans (h9.mono hb.size)
              clear h9
              refine hKK.out _ _ ?_ (fun hHeld => ?_)
              · exact (by first | exact hb | exact below_drew hb)
              clear hKK KK
              try simp only [Act.put, List.setIfInBounds_toArray, List.set_cons_zero, List.set_cons_succ]
              refine wpAnyH_ready (rs := [7]) (by kernel_rfl) (by simp) ?_
              refine AllReadyH.cons (by simp only [List.getElem?_toArray]; rfl) (fun KK hKK => ?_) AllReadyH.nil
              rw [if_pos (by kernel_rfl)]
              rcases row.2 with ⟨-, h0⟩ | ⟨g6, c6, cur6, hv6, -⟩
              · exact absurd h0 (by omega)
              subst hv6
              obtain ⟨g7, hs6, hg7⟩ := Sl.of_own row
              have e7 := hg7 g6 rfl
              subst e7
              have hP := hStep (some ⟨g6, 0, none⟩) (wholeM g M ++ N) c6 g6 wa158 (hi9.ext hb) (hT9.ext hb) hs6 (fun x hx => (List.mem_append.1 hx).elim (hwf x) (hfN x)) (by rw [List.length_append, hwl]; simp only [maxLen]; omega) HF3.out
              rw [show (wholeM g M ++ N).length = 0 + k + N.length by rw [List.length_append, hwl]; omega] at hP
              clear hg7 hs6 row ne_y4 ne_y5
              refine wp_callF 17 #[.agg (gmA g s), .agg (stA ⟨C, sd, 0⟩), .slice (some ⟨g6, 0, none⟩) (0 + k + N.length) c6] (by kernel_rfl) ?_
              refine hP.mono ?_
              rintro e wc159 ⟨sh3, rfl, hsh, h9⟩
              have hs3 : sh3.oneCell' = true := by
                rcases hsh.2 with ⟨rfl, -⟩ | ⟨_, _, _, rfl, -⟩ <;> rfl
              clear hsh hP
              replace y5 := y5.ext h9
              replace y4 := y4.ext h9
              replace hb := hb.trans (h9.mono hb.size)
              clear h9
              refine ⟨_, rfl, ?_⟩
              refine hKK.out _ _ ?_ (fun hHeld => ?_)
              · exact (by first | exact hb | exact below_drew hb)
              clear hKK KK
              try simp only [Act.put, List.setIfInBounds_toArray, List.set_cons_zero, List.set_cons_succ]
              refine wpAnyH_take (i := 8) (v := ?vt1161) (by simp only [List.getElem?_toArray]; rfl) (by kernel_rfl) (by kernel_rfl) (by kernel_rfl) (by exact fun _ _ _ h => h) (Or.inl ⟨by kernel_rfl, ?yt1161⟩) hHeld ?_
              case yt1161 => (intro ww hSw; (try dsimp only at hSw); clear hSw; go_simp; try (with_reducible rfl))
              try simp only [Act.put, List.setIfInBounds_toArray, List.set_cons_zero, List.set_cons_succ]
              refine wpAnyH_take (i := 9) (v := ?vt1162) (by simp only [List.getElem?_toArray]; rfl) (by kernel_rfl) (by kernel_rfl) (by kernel_rfl) (by exact fun _ _ _ h => h) (Or.inl ⟨by kernel_rfl, ?yt1162⟩) hHeld ?_
              case yt1162 => (intro ww hSw; (try dsimp only at hSw); clear hSw; go_simp; try (with_reducible rfl))
              try simp only [Act.put, List.setIfInBounds_toArray, List.set_cons_zero, List.set_cons_succ]
              refine wpAnyH_take (i := 10) (v := ?vt1163) (by simp only [List.getElem?_toArray]; rfl) (by kernel_rfl) (by kernel_rfl) (by kernel_rfl) (by exact fun _ _ _ h => h) (Or.inl ⟨by kernel_rfl, ?yt1163⟩) hHeld ?_
              case yt1163 => (intro ww hSw; (try dsimp only at hSw); clear hSw; go_simp; try (with_reducible rfl))
              try simp only [Act.put, List.setIfInBounds_toArray, List.set_cons_zero, List.set_cons_succ]
              refine wpAnyH_ready (rs := [13]) (by kernel_rfl) (by simp) ?_
              refine AllReadyH.cons (by simp only [List.getElem?_toArray]; rfl) (fun KK hKK => ?_) AllReadyH.nil
              rw [if_pos (by kernel_rfl)]
              refine wp_stS (.tmp 19) (.tmp 91) rfl (wa149.heap.size) S1 rfl rfl y4 ?_
              replace y4 := y4.row_ S1
              replace y5 := y5.mod (mod_setRow wc159 (wa149.heap.size) (stA S1)) (fun e => ne45 e.symm)
              replace hb := below_setRow hb (wa149.heap.size) (stA S1) nz_y4
              obtain ⟨ws164, hws⟩ : ∃ ws164, ws164 = wc159.setRow (wa149.heap.size) (stA S1) := ⟨_, rfl⟩
              rw [← hws] at y4 y5 hb ⊢
              clear hws
              refine hKK.out _ _ ?_ (fun hHeld => ?_)
              · exact (by first | exact hb | exact below_drew hb)
              clear hKK KK
              try simp only [Act.put]
              refine wpAnyH_ready (rs := [14]) (by kernel_rfl) (by simp) ?_
              refine AllReadyH.cons (by simp only [List.getElem?_toArray]; rfl) (fun KK hKK => ?_) AllReadyH.nil
              rw [if_pos (by kernel_rfl)]
              refine wp_stO (.tmp 20) (.tmp 92) rfl (wa5.heap.size) F.t sh3 F.e rfl rfl hs3 y5 ?_
              replace y5 := y5.row_ F.t sh3 F.e
              replace y4 := y4.mod (mod_setRow ws164 (wa5.heap.size) (otA F.t sh3 F.e)) ne45
              replace hb := below_setRow hb (wa5.heap.size) (otA F.t sh3 F.e) nz_y5
              obtain ⟨ws165, hws⟩ : ∃ ws165, ws165 = ws164.setRow (wa5.heap.size) (otA F.t sh3 F.e) := ⟨_, rfl⟩
              rw [← hws] at y4 y5 hb ⊢
              clear hws
              refine hKK.out _ _ ?_ (fun hHeld => ?_)
              · exact (by first | exact hb | exact below_drew hb)
              clear hKK KK
              try simp only [Act.put]
              refine wpAnyH_done (by kernel_rfl) ?_ _
              go_wp2_with fail
              go_meet
              exact ⟨_, _, sh3, _, rfl, rfl, rfl, y4, y5, hb⟩
            ·
             rw [if_pos (by kernel_rfl)]
             have ne45 : ¬ wa148.heap.size = wa5.heap.size := by have := y5.lt; omega
             have ne_y4 : ∀ j, Value.ownBlock v4 = some j → ¬ j = wa148.heap.size := fun j hj => by have := (World.ownsRow.lt row j hj).2; omega
             have nz_y4 : wz.heap.size ≤ wa148.heap.size := hb.size
             refine wp_alSt rfl ?_
             obtain ⟨wa166, hwa⟩ : ∃ wa166, wa166 = wa148.alloc (.cells (stA zSt) 46) := ⟨_, rfl⟩
             have h9 : Below wa148.heap.size wa148 wa166 := by rw [hwa]; exact below_alloc1 _ _
             have y4 : BoxS wa166 (wa148.heap.size) zSt := by rw [hwa]; exact BoxS.new_ _ _
             rw [← hwa]
             clear hwa
             replace row := own_ext row h9
             replace y5 := y5.ext h9
             replace hb := hb.trans (h9.mono hb.size)
             clear h9
             refine hKK.out _ _ ?_ (fun hHeld => ?_)
             · exact (by first | exact hb | exact below_drew hb)
             clear hKK KK
             try simp only [Act.put, List.setIfInBounds_toArray, List.set_cons_zero, List.set_cons_succ]
             refine wpAnyH_ready (rs := [6]) (by kernel_rfl) (by simp) ?_
             refine AllReadyH.cons (by simp only [List.getElem?_toArray]; rfl) (fun KK hKK => ?_) AllReadyH.nil
             rw [if_pos (by kernel_rfl)]
             have nl_y4 := y4.lt
             have nl_y5 := y5.lt
             refine wp_appU (.tmp 87) (.tmp 88) rfl wz.heap.size (0 + k) v4 ([] ++ wholeM g M) rfl row nb NA (N.length) nc (N) rfl (Sl.ext hN9 hb) rfl (by omega) hb.size ?_
             intro v6 wa167 row' hgr hloc
             have hB := (Mod.of_grown hgr).below hb.size (fun i hi e => by have := (World.ownsRow.lt row i e).1; omega)
             replace y4 := y4.mod (Mod.of_grown hgr) (fun e => ne_y4 _ e rfl)
             replace ne_y4 : ∀ j, Value.ownBlock v6 = some j → ¬ j = wa148.heap.size := fun j hj => by
               rcases hloc with h | h
               · exact ne_y4 j (h ▸ hj)
               · rw [h] at hj; injection hj with hj; omega
             clear nl_y4
             replace y5 := y5.mod (Mod.of_grown hgr) (fun e => ne_y5 _ e rfl)
             replace ne_y5 : ∀ j, Value.ownBlock v6 = some j → ¬ j = wa5.heap.size := fun j hj => by
               rcases hloc with h | h
               · exact ne_y5 j (h ▸ hj)
               · rw [h] at hj; injection hj with hj; omega
             clear nl_y5
             replace hb := hb.trans hB
             clear hB hgr hloc row
             have row := row'
             clear row'
             refine hKK.out _ _ ?_ (fun hHeld => ?_)
             · exact (by first | exact hb | exact below_drew hb)
             clear hKK KK
             try simp only [Act.put, List.setIfInBounds_toArray, List.set_cons_zero, List.set_cons_succ]
             refine wpAnyH_ready (rs := [7]) (by kernel_rfl) (by simp) ?_
             refine AllReadyH.cons (by simp only [List.getElem?_toArray]; rfl) (fun KK hKK => ?_) AllReadyH.nil
             rw [if_pos (by kernel_rfl)]
             rcases row.2 with ⟨-, h0⟩ | ⟨g6, c6, cur6, hv6, -⟩
             · exact absurd h0 (by omega)
             subst hv6
             obtain ⟨g7, hs6, hg7⟩ := Sl.of_own row
             have e7 := hg7 g6 rfl
             subst e7
             have hP := hStep (some ⟨g6, 0, none⟩) (wholeM g M ++ N) c6 g6 wa167 (hi9.ext hb) (hT9.ext hb) hs6 (fun x hx => (List.mem_append.1 hx).elim (hwf x) (hfN x)) (by rw [List.length_append, hwl]; simp only [maxLen]; omega) HF3.out
             rw [show (wholeM g M ++ N).length = 0 + k + N.length by rw [List.length_append, hwl]; omega] at hP
             clear hg7 hs6 row ne_y4 ne_y5
             refine wp_callF 17 #[.agg (gmA g s), .agg (stA ⟨C, sd, 0⟩), .slice (some ⟨g6, 0, none⟩) (0 + k + N.length) c6] (by kernel_rfl) ?_
             refine hP.mono ?_
             rintro e wc168 ⟨sh3, rfl, hsh, h9⟩
             have hs3 : sh3.oneCell' = true := by
               rcases hsh.2 with ⟨rfl, -⟩ | ⟨_, _, _, rfl, -⟩ <;> rfl
             clear hsh hP
             replace y5 := y5.ext h9
             replace y4 := y4.ext h9
             replace hb := hb.trans (h9.mono hb.size)
             clear h9
             refine ⟨_, rfl, ?_⟩
             refine hKK.out _ _ ?_ (fun hHeld => ?_)
             · exact (by first | exact hb | exact below_drew hb)
             clear hKK KK
             try simp only [Act.put, List.setIfInBounds_toArray, List.set_cons_zero, List.set_cons_succ]
             refine wpAnyH_take (i := 8) (v := ?vt1170) (by simp only [List.getElem?_toArray]; rfl) (by kernel_rfl) (by kernel_rfl) (by kernel_rfl) (by exact fun _ _ _ h => h) (Or.inl ⟨by kernel_rfl, ?yt1170⟩) hHeld ?_
             case yt1170 => (intro ww hSw; (try dsimp only at hSw); clear hSw; go_simp; try (with_reducible rfl))
             try simp only [Act.put, List.setIfInBounds_toArray, List.set_cons_zero, List.set_cons_succ]
             refine wpAnyH_take (i := 9) (v := ?vt1171) (by simp only [List.getElem?_toArray]; rfl) (by kernel_rfl) (by kernel_rfl) (by kernel_rfl) (by exact fun _ _ _ h => h) (Or.inl ⟨by kernel_rfl, ?yt1171⟩) hHeld ?_
             case yt1171 => (intro ww hSw; (try dsimp only at hSw); clear hSw; go_simp; try (with_reducible rfl))
             try simp only [Act.put, List.setIfInBounds_toArray, List.set_cons_zero, List.set_cons_succ]
             refine wpAnyH_take (i := 10) (v := ?vt1172) (by simp only [List.getElem?_toArray]; rfl) (by kernel_rfl) (by kernel_rfl) (by kernel_rfl) (by exact fun _ _ _ h => h) (Or.inl ⟨by kernel_rfl, ?yt1172⟩) hHeld ?_
             case yt1172 => (intro ww hSw; (try dsimp only at hSw); clear hSw; go_simp; try (with_reducible rfl))
             try simp only [Act.put, List.setIfInBounds_toArray, List.set_cons_zero, List.set_cons_succ]
             refine wpAnyH_ready (rs := [13]) (by kernel_rfl) (by simp) ?_
             refine AllReadyH.cons (by simp only [List.getElem?_toArray]; rfl) (fun KK hKK => ?_) AllReadyH.nil
             rw [if_pos (by kernel_rfl)]
             refine wp_stS (.tmp 19) (.tmp 91) rfl (wa148.heap.size) S1 rfl rfl y4 ?_
             replace y4 := y4.row_ S1
             replace y5 := y5.mod (mod_setRow wc168 (wa148.heap.size) (stA S1)) (fun e => ne45 e.symm)
             replace hb := below_setRow hb (wa148.heap.size) (stA S1) nz_y4
             obtain ⟨ws173, hws⟩ : ∃ ws173, ws173 = wc168.setRow (wa148.heap.size) (stA S1) := ⟨_, rfl⟩
             rw [← hws] at y4 y5 hb ⊢
             clear hws
             refine hKK.out _ _ ?_ (fun hHeld => ?_)
             · exact (by first | exact hb | exact below_drew hb)
             clear hKK KK
             try simp only [Act.put]
             refine wpAnyH_ready (rs := [14]) (by kernel_rfl) (by simp) ?_
             refine AllReadyH.cons (by simp only [List.getElem?_toArray]; rfl) (fun KK hKK => ?_) AllReadyH.nil
             rw [if_pos (by kernel_rfl)]
             refine wp_stO (.tmp 20) (.tmp 92) rfl (wa5.heap.size) F.t sh3 F.e rfl rfl hs3 y5 ?_
             replace y5 := y5.row_ F.t sh3 F.e
             replace y4 := y4.mod (mod_setRow ws173 (wa5.heap.size) (otA F.t sh3 F.e)) ne45
             replace hb := below_setRow hb (wa5.heap.size) (otA F.t sh3 F.e) nz_y5
             obtain ⟨ws174, hws⟩ : ∃ ws174, ws174 = ws173.setRow (wa5.heap.size) (otA F.t sh3 F.e) := ⟨_, rfl⟩
             rw [← hws] at y4 y5 hb ⊢
             clear hws
             refine hKK.out _ _ ?_ (fun hHeld => ?_)
             · exact (by first | exact hb | exact below_drew hb)
             clear hKK KK
             try simp only [Act.put]
             refine wpAnyH_done (by kernel_rfl) ?_ _
             go_wp2_with fail
             go_meet
             exact ⟨_, _, sh3, _, rfl, rfl, rfl, y4, y5, hb⟩
           ·
            rw [if_pos (by kernel_rfl)]
            have ne45 : ¬ wa147.heap.size = wa5.heap.size := by have := y5.lt; omega
            have ne_y4 : ∀ j, Value.ownBlock (.slice (some ⟨wd2.heap.size, 0, none⟩) 0 0) = some j → ¬ j = wa147.heap.size := fun j hj => by have := (World.ownsRow.lt row j hj).2; omega
            have nz_y4 : wz.heap.size ≤ wa147.heap.size := hb.size
            refine wp_alSt rfl ?_
            obtain ⟨wa175, hwa⟩ : ∃ wa175, wa175 = wa147.alloc (.cells (stA zSt) 46) := ⟨_, rfl⟩
            have h9 : Below wa147.heap.size wa147 wa175 := by rw [hwa]; exact below_alloc1 _ _
            have y4 : BoxS wa175 (wa147.heap.size) zSt := by rw [hwa]; exact BoxS.new_ _ _
            rw [← hwa]
            clear hwa
            replace row := own_ext row h9
            replace y5 := y5.ext h9
            replace hb := hb.trans (h9.mono hb.size)
            clear h9
            refine hKK.out _ _ ?_ (fun hHeld => ?_)
            · exact (by first | exact hb | exact below_drew hb)
            clear hKK KK
            try simp only [Act.put, List.setIfInBounds_toArray, List.set_cons_zero, List.set_cons_succ]
            refine wpAnyH_ready (rs := [4]) (by kernel_rfl) (by simp) ?_
            refine AllReadyH.cons (by simp only [List.getElem?_toArray]; rfl) (fun KK hKK => ?_) AllReadyH.nil
            rw [if_pos (by kernel_rfl)]
            have nl_y4 := y4.lt
            have nl_y5 := y5.lt
            refine wp_appU (.tmp 85) (.tmp 86) rfl wz.heap.size (0) (.slice (some ⟨wd2.heap.size, 0, none⟩) 0 0) ([]) rfl row gV (some ⟨gV, 0, none⟩) (k) cV (wholeM g M) rfl (Sl.ext hslV hb) hwl (by omega) hb.size ?_
            intro v4 wa176 row' hgr hloc
            have hB := (Mod.of_grown hgr).below hb.size (fun i hi e => by have := (World.ownsRow.lt row i e).1; omega)
            replace y4 := y4.mod (Mod.of_grown hgr) (fun e => ne_y4 _ e rfl)
            replace ne_y4 : ∀ j, Value.ownBlock v4 = some j → ¬ j = wa147.heap.size := fun j hj => by
              rcases hloc with h | h
              · exact ne_y4 j (h ▸ hj)
              · rw [h] at hj; injection hj with hj; omega
            clear nl_y4
            replace y5 := y5.mod (Mod.of_grown hgr) (fun e => ne_y5 _ e rfl)
            replace ne_y5 : ∀ j, Value.ownBlock v4 = some j → ¬ j = wa5.heap.size := fun j hj => by
              rcases hloc with h | h
              · exact ne_y5 j (h ▸ hj)
              · rw [h] at hj; injection hj with hj; omega
            clear nl_y5
            replace hb := hb.trans hB
            clear hB hgr hloc row
            have row := row'
            clear row'
            refine hKK.out _ _ ?_ (fun hHeld => ?_)
            · exact (by first | exact hb | exact below_drew hb)
            clear hKK KK
            try simp only [Act.put, List.setIfInBounds_toArray, List.set_cons_zero, List.set_cons_succ]
            refine wpAnyH_ready (rs := [6]) (by kernel_rfl) (by simp) ?_
            refine AllReadyH.cons (by simp only [List.getElem?_toArray]; rfl) (fun KK hKK => ?_) AllReadyH.nil
            rw [if_pos (by kernel_rfl)]
            have nl_y4 := y4.lt
            have nl_y5 := y5.lt
            refine wp_appU (.tmp 87) (.tmp 88) rfl wz.heap.size (0 + k) v4 ([] ++ wholeM g M) rfl row nb NA (N.length) nc (N) rfl (Sl.ext hN9 hb) rfl (by omega) hb.size ?_
            intro v6 wa177 row' hgr hloc
            have hB := (Mod.of_grown hgr).below hb.size (fun i hi e => by have := (World.ownsRow.lt row i e).1; omega)
            replace y4 := y4.mod (Mod.of_grown hgr) (fun e => ne_y4 _ e rfl)
            replace ne_y4 : ∀ j, Value.ownBlock v6 = some j → ¬ j = wa147.heap.size := fun j hj => by
              rcases hloc with h | h
              · exact ne_y4 j (h ▸ hj)
              · rw [h] at hj; injection hj with hj; omega
            clear nl_y4
            replace y5 := y5.mod (Mod.of_grown hgr) (fun e => ne_y5 _ e rfl)
            replace ne_y5 : ∀ j, Value.ownBlock v6 = some j → ¬ j = wa5.heap.size := fun j hj => by
              rcases hloc with h | h
              · exact ne_y5 j (h ▸ hj)
              · rw [h] at hj; injection hj with hj; omega
            clear nl_y5
            replace hb := hb.trans hB
            clear hB hgr hloc row
            have row := row'
            clear row'
            refine hKK.out _ _ ?_ (fun hHeld => ?_)
            · exact (by first | exact hb | exact below_drew hb)
            clear hKK KK
            try simp only [Act.put, List.setIfInBounds_toArray, List.set_cons_zero, List.set_cons_succ]
            refine wpAnyH_ready (rs := [7]) (by kernel_rfl) (by simp) ?_
            refine AllReadyH.cons (by simp only [List.getElem?_toArray]; rfl) (fun KK hKK => ?_) AllReadyH.nil
            rw [if_pos (by kernel_rfl)]
            rcases row.2 with ⟨-, h0⟩ | ⟨g6, c6, cur6, hv6, -⟩
            · exact absurd h0 (by omega)
            subst hv6
            obtain ⟨g7, hs6, hg7⟩ := Sl.of_own row
            have e7 := hg7 g6 rfl
            subst e7
            have hP := hStep (some ⟨g6, 0, none⟩) (wholeM g M ++ N) c6 g6 wa177 (hi9.ext hb) (hT9.ext hb) hs6 (fun x hx => (List.mem_append.1 hx).elim (hwf x) (hfN x)) (by rw [List.length_append, hwl]; simp only [maxLen]; omega) HF3.out
            rw [show (wholeM g M ++ N).length = 0 + k + N.length by rw [List.length_append, hwl]; omega] at hP
            clear hg7 hs6 row ne_y4 ne_y5
            refine wp_callF 17 #[.agg (gmA g s), .agg (stA ⟨C, sd, 0⟩), .slice (some ⟨g6, 0, none⟩) (0 + k + N.length) c6] (by kernel_rfl) ?_
            refine hP.mono ?_
            rintro e wc178 ⟨sh3, rfl, hsh, h9⟩
            have hs3 : sh3.oneCell' = true := by
              rcases hsh.2 with ⟨rfl, -⟩ | ⟨_, _, _, rfl, -⟩ <;> rfl
            clear hsh hP
            replace y5 := y5.ext h9
            replace y4 := y4.ext h9
            replace hb := hb.trans (h9.mono hb.size)
            clear h9
            refine ⟨_, rfl, ?_⟩
            refine hKK.out _ _ ?_ (fun hHeld => ?_)
            · exact (by first | exact hb | exact below_drew hb)
            clear hKK KK
            try simp only [Act.put, List.setIfInBounds_toArray, List.set_cons_zero, List.set_cons_succ]
            refine wpAnyH_take (i := 8) (v := ?vt1180) (by simp only [List.getElem?_toArray]; rfl) (by kernel_rfl) (by kernel_rfl) (by kernel_rfl) (by exact fun _ _ _ h => h) (Or.inl ⟨by kernel_rfl, ?yt1180⟩) hHeld ?_
            case yt1180 => (intro ww hSw; (try dsimp only at hSw); clear hSw; go_simp; try (with_reducible rfl))
            try simp only [Act.put, List.setIfInBounds_toArray, List.set_cons_zero, List.set_cons_succ]
            refine wpAnyH_take (i := 9) (v := ?vt1181) (by simp only [List.getElem?_toArray]; rfl) (by kernel_rfl) (by kernel_rfl) (by kernel_rfl) (by exact fun _ _ _ h => h) (Or.inl ⟨by kernel_rfl, ?yt1181⟩) hHeld ?_
            case yt1181 => (intro ww hSw; (try dsimp only at hSw); clear hSw; go_simp; try (with_reducible rfl))
            try simp only [Act.put, List.setIfInBounds_toArray, List.set_cons_zero, List.set_cons_succ]
            refine wpAnyH_take (i := 10) (v := ?vt1182) (by simp only [List.getElem?_toArray]; rfl) (by kernel_rfl) (by kernel_rfl) (by kernel_rfl) (by exact fun _ _ _ h => h) (Or.inl ⟨by kernel_rfl, ?yt1182⟩) hHeld ?_
            case yt1182 => (intro ww hSw; (try dsimp only at hSw); clear hSw; go_simp; try (with_reducible rfl))
            try simp only [Act.put, List.setIfInBounds_toArray, List.set_cons_zero, List.set_cons_succ]
            refine wpAnyH_ready (rs := [13]) (by kernel_rfl) (by simp) ?_
            refine AllReadyH.cons (by simp only [List.getElem?_toArray]; rfl) (fun KK hKK => ?_) AllReadyH.nil
            rw [if_pos (by kernel_rfl)]
            refine wp_stS (.tmp 19) (.tmp 91) rfl (wa147.heap.size) S1 rfl rfl y4 ?_
            replace y4 := y4.row_ S1
            replace y5 := y5.mod (mod_setRow wc178 (wa147.heap.size) (stA S1)) (fun e => ne45 e.symm)
            replace hb := below_setRow hb (wa147.heap.size) (stA S1) nz_y4
            obtain ⟨ws183, hws⟩ : ∃ ws183, ws183 = wc178.setRow (wa147.heap.size) (stA S1) := ⟨_, rfl⟩
            rw [← hws] at y4 y5 hb ⊢
            clear hws
            refine hKK.out _ _ ?_ (fun hHeld => ?_)
            · exact (by first | exact hb | exact below_drew hb)
            clear hKK KK
            try simp only [Act.put]
            refine wpAnyH_ready (rs := [14]) (by kernel_rfl) (by simp) ?_
            refine AllReadyH.cons (by simp only [List.getElem?_toArray]; rfl) (fun KK hKK => ?_) AllReadyH.nil
            rw [if_pos (by kernel_rfl)]
            refine wp_stO (.tmp 20) (.tmp 92) rfl (wa5.heap.size) F.t sh3 F.e rfl rfl hs3 y5 ?_
            replace y5 := y5.row_ F.t sh3 F.e
            replace y4 := y4.mod (mod_setRow ws183 (wa5.heap.size) (otA F.t sh3 F.e)) ne45
            replace hb := below_setRow hb (wa5.heap.size) (otA F.t sh3 F.e) nz_y5
            obtain ⟨ws184, hws⟩ : ∃ ws184, ws184 = ws183.setRow (wa5.heap.size) (otA F.t sh3 F.e) := ⟨_, rfl⟩
            rw [← hws] at y4 y5 hb ⊢
            clear hws
            refine hKK.out _ _ ?_ (fun hHeld => ?_)
            · exact (by first | exact hb | exact below_drew hb)
            clear hKK KK
            try simp only [Act.put]
            refine wpAnyH_done (by kernel_rfl) ?_ _
            go_wp2_with fail
            go_meet
            exact ⟨_, _, sh3, _, rfl, rfl, rfl, y4, y5, hb⟩
         ·
          rw [if_pos (by kernel_rfl)]
          have nz_y4 : wz.heap.size ≤ wd2.heap.size := hb.size
          refine wp_alSt rfl ?_
          obtain ⟨wa185, hwa⟩ : ∃ wa185, wa185 = wd2.alloc (.cells (stA zSt) 46) := ⟨_, rfl⟩
          have h9 : Below wd2.heap.size wd2 wa185 := by rw [hwa]; exact below_alloc1 _ _
          have y4 : BoxS wa185 (wd2.heap.size) zSt := by rw [hwa]; exact BoxS.new_ _ _
          rw [← hwa]
          clear hwa
          replace hb := hb.trans (h9.mono hb.size)
          clear h9
          refine hKK.out _ _ ?_ (fun hHeld => ?_)
          · exact (by first | exact hb | exact below_drew hb)
          clear hKK KK
          try simp only [Act.put, List.setIfInBounds_toArray, List.set_cons_zero, List.set_cons_succ]
          refine wpAnyH_ready (rs := [2, 12]) (by kernel_rfl) (by simp) ?_
          refine AllReadyH.cons (by simp only [List.getElem?_toArray]; rfl) (fun KK hKK => ?_) (AllReadyH.cons (by simp only [List.getElem?_toArray]; rfl) (fun KK hKK => ?_) AllReadyH.nil)
          ·
           rw [if_pos (by kernel_rfl)]
           go_simp
           obtain ⟨wa186, hwa⟩ : ∃ wa186, wa186 = wa185.alloc (.cells #[] 22) := ⟨_, rfl⟩
           have h9 : Below wa185.heap.size wa185 wa186 := by rw [hwa]; exact below_alloc1 _ _
           have row : wa186.ownsRow wz.heap.size 22 1 (.slice (some ⟨wa185.heap.size, 0, none⟩) 0 0) 0 (ms []) := by rw [hwa]; exact World.ownsRow_made wa185 #[] 0 hb.size (by simp [maxLen]) rfl
           have ne_y4 : ∀ j, Value.ownBlock (.slice (some ⟨wa185.heap.size, 0, none⟩) 0 0) = some j → ¬ j = wd2.heap.size := fun j hj => by have e : wa185.heap.size = j := (by simpa [Value.ownBlock] using hj); have := y4.lt; omega
           rw [← hwa]
           clear hwa
           replace y4 := y4.ext h9
           replace hb := hb.trans (h9.mono hb.size)
           clear h9
           refine hKK.out _ _ ?_ (fun hHeld => ?_)
           · exact (by first | exact hb | exact below_drew hb)
           clear hKK KK
           try simp only [Act.put, List.setIfInBounds_toArray, List.set_cons_zero, List.set_cons_succ]
           refine wpAnyH_ready (rs := [4, 12]) (by kernel_rfl) (by simp) ?_
           refine AllReadyH.cons (by simp only [List.getElem?_toArray]; rfl) (fun KK hKK => ?_) (AllReadyH.cons (by simp only [List.getElem?_toArray]; rfl) (fun KK hKK => ?_) AllReadyH.nil)
           ·
            rw [if_pos (by kernel_rfl)]
            have nl_y4 := y4.lt
            refine wp_appU (.tmp 85) (.tmp 86) rfl wz.heap.size (0) (.slice (some ⟨wa185.heap.size, 0, none⟩) 0 0) ([]) rfl row gV (some ⟨gV, 0, none⟩) (k) cV (wholeM g M) rfl (Sl.ext hslV hb) hwl (by omega) hb.size ?_
            intro v4 wa187 row' hgr hloc
            have hB := (Mod.of_grown hgr).below hb.size (fun i hi e => by have := (World.ownsRow.lt row i e).1; omega)
            replace y4 := y4.mod (Mod.of_grown hgr) (fun e => ne_y4 _ e rfl)
            replace ne_y4 : ∀ j, Value.ownBlock v4 = some j → ¬ j = wd2.heap.size := fun j hj => by
              rcases hloc with h | h
              · exact ne_y4 j (h ▸ hj)
              · rw [h] at hj; injection hj with hj; omega
            clear nl_y4
            replace hb := hb.trans hB
            clear hB hgr hloc row
            have row := row'
            clear row'
            refine hKK.out _ _ ?_ (fun hHeld => ?_)
            · exact (by first | exact hb | exact below_drew hb)
            clear hKK KK
            try simp only [Act.put, List.setIfInBounds_toArray, List.set_cons_zero, List.set_cons_succ]
            refine wpAnyH_ready (rs := [6, 12]) (by kernel_rfl) (by simp) ?_
            refine AllReadyH.cons (by simp only [List.getElem?_toArray]; rfl) (fun KK hKK => ?_) (AllReadyH.cons (by simp only [List.getElem?_toArray]; rfl) (fun KK hKK => ?_) AllReadyH.nil)
            ·
             rw [if_pos (by kernel_rfl)]
             have nl_y4 := y4.lt
             refine wp_appU (.tmp 87) (.tmp 88) rfl wz.heap.size (0 + k) v4 ([] ++ wholeM g M) rfl row nb NA (N.length) nc (N) rfl (Sl.ext hN9 hb) rfl (by omega) hb.size ?_
             intro v6 wa188 row' hgr hloc
             have hB := (Mod.of_grown hgr).below hb.size (fun i hi e => by have := (World.ownsRow.lt row i e).1; omega)
             replace y4 := y4.mod (Mod.of_grown hgr) (fun e => ne_y4 _ e rfl)
             replace ne_y4 : ∀ j, Value.ownBlock v6 = some j → ¬ j = wd2.heap.size := fun j hj => by
               rcases hloc with h | h
               · exact ne_y4 j (h ▸ hj)
               · rw [h] at hj; injection hj with hj; omega
             clear nl_y4
             replace hb := hb.trans hB
             clear hB hgr hloc row
             have row := row'
             clear row'
             refine hKK.out _ _ ?_ (fun hHeld => ?_)
             · exact (by first | exact hb | exact below_drew hb)
             clear hKK KK
             try simp only [Act.put, List.setIfInBounds_toArray, List.set_cons_zero, List.set_cons_succ]
             refine wpAnyH_ready (rs := [7, 12]) (by kernel_rfl) (by simp) ?_
             refine AllReadyH.cons (by simp only [List.getElem?_toArray]; rfl) (fun KK hKK => ?_) (AllReadyH.cons (by simp only [List.getElem?_toArray]; rfl) (fun KK hKK => ?_) AllReadyH.nil)
             ·
              rw [if_pos (by kernel_rfl)]
              rcases row.2 with ⟨-, h0⟩ | ⟨g6, c6, cur6, hv6, -⟩
              · exact absurd h0 (by omega)
              subst hv6
              obtain ⟨g7, hs6, hg7⟩ := Sl.of_own row
              have e7 := hg7 g6 rfl
              subst e7
              have hP := hStep (some ⟨g6, 0, none⟩) (wholeM g M ++ N) c6 g6 wa188 (hi9.ext hb) (hT9.ext hb) hs6 (fun x hx => (List.mem_append.1 hx).elim (hwf x) (hfN x)) (by rw [List.length_append, hwl]; simp only [maxLen]; omega) HF3.out
              rw [show (wholeM g M ++ N).length = 0 + k + N.length by rw [List.length_append, hwl]; omega] at hP
              clear hg7 hs6 row ne_y4
              refine wp_callF 17 #[.agg (gmA g s), .agg (stA ⟨C, sd, 0⟩), .slice (some ⟨g6, 0, none⟩) (0 + k + N.length) c6] (by kernel_rfl) ?_
              refine hP.mono ?_
              rintro e wc189 ⟨sh3, rfl, hsh, h9⟩
              have hs3 : sh3.oneCell' = true := by
                rcases hsh.2 with ⟨rfl, -⟩ | ⟨_, _, _, rfl, -⟩ <;> rfl
              clear hsh hP
              replace y4 := y4.ext h9
              replace hb := hb.trans (h9.mono hb.size)
              clear h9
              refine ⟨_, rfl, ?_⟩
              refine hKK.out _ _ ?_ (fun hHeld => ?_)
              · exact (by first | exact hb | exact below_drew hb)
              clear hKK KK
              try simp only [Act.put, List.setIfInBounds_toArray, List.set_cons_zero, List.set_cons_succ]
              refine wpAnyH_take (i := 8) (v := ?vt1191) (by simp only [List.getElem?_toArray]; rfl) (by kernel_rfl) (by kernel_rfl) (by kernel_rfl) (by exact fun _ _ _ h => h) (Or.inl ⟨by kernel_rfl, ?yt1191⟩) hHeld ?_
              case yt1191 => (intro ww hSw; (try dsimp only at hSw); clear hSw; go_simp; try (with_reducible rfl))
              try simp only [Act.put, List.setIfInBounds_toArray, List.set_cons_zero, List.set_cons_succ]
              refine wpAnyH_take (i := 9) (v := ?vt1192) (by simp only [List.getElem?_toArray]; rfl) (by kernel_rfl) (by kernel_rfl) (by kernel_rfl) (by exact fun _ _ _ h => h) (Or.inl ⟨by kernel_rfl, ?yt1192⟩) hHeld ?_
              case yt1192 => (intro ww hSw; (try dsimp only at hSw); clear hSw; go_simp; try (with_reducible rfl))
              try simp only [Act.put, List.setIfInBounds_toArray, List.set_cons_zero, List.set_cons_succ]
              refine wpAnyH_take (i := 10) (v := ?vt1193) (by simp only [List.getElem?_toArray]; rfl) (by kernel_rfl) (by kernel_rfl) (by kernel_rfl) (by exact fun _ _ _ h => h) (Or.inl ⟨by kernel_rfl, ?yt1193⟩) hHeld ?_
              case yt1193 => (intro ww hSw; (try dsimp only at hSw); clear hSw; go_simp; try (with_reducible rfl))
              try simp only [Act.put, List.setIfInBounds_toArray, List.set_cons_zero, List.set_cons_succ]
              refine wpAnyH_ready (rs := [12]) (by kernel_rfl) (by simp) ?_
              refine AllReadyH.cons (by simp only [List.getElem?_toArray]; rfl) (fun KK hKK => ?_) AllReadyH.nil
              rw [if_pos (by kernel_rfl)]
              have ne45 : ¬ wd2.heap.size = wc189.heap.size := by have := y4.lt; omega
              have nz_y5 : wz.heap.size ≤ wc189.heap.size := hb.size
              refine wp_alO rfl ?_
              obtain ⟨wa194, hwa⟩ : ∃ wa194, wa194 = wc189.alloc (.cells (otA 0 (.slice none 0 0) 0) 53) := ⟨_, rfl⟩
              have h9 : Below wc189.heap.size wc189 wa194 := by rw [hwa]; exact below_alloc1 _ _
              have y5 : OBox wa194 (wc189.heap.size) 0 (.slice none 0 0) 0 := by rw [hwa]; exact OBox.new_ _ _ _ _
              rw [← hwa]
              clear hwa
              replace y4 := y4.ext h9
              replace hb := hb.trans (h9.mono hb.size)
              clear h9
              refine hKK.out _ _ ?_ (fun hHeld => ?_)
              · exact (by first | exact hb | exact below_drew hb)
              clear hKK KK
              try simp only [Act.put, List.setIfInBounds_toArray, List.set_cons_zero, List.set_cons_succ]
              refine wpAnyH_ready (rs := [13]) (by kernel_rfl) (by simp) ?_
              refine AllReadyH.cons (by simp only [List.getElem?_toArray]; rfl) (fun KK hKK => ?_) AllReadyH.nil
              rw [if_pos (by kernel_rfl)]
              refine wp_stS (.tmp 19) (.tmp 91) rfl (wd2.heap.size) S1 rfl rfl y4 ?_
              replace y4 := y4.row_ S1
              replace y5 := y5.mod (mod_setRow wa194 (wd2.heap.size) (stA S1)) (fun e => ne45 e.symm)
              replace hb := below_setRow hb (wd2.heap.size) (stA S1) nz_y4
              obtain ⟨ws195, hws⟩ : ∃ ws195, ws195 = wa194.setRow (wd2.heap.size) (stA S1) := ⟨_, rfl⟩
              rw [← hws] at y4 y5 hb ⊢
              clear hws
              refine hKK.out _ _ ?_ (fun hHeld => ?_)
              · exact (by first | exact hb | exact below_drew hb)
              clear hKK KK
              try simp only [Act.put]
              refine wpAnyH_ready (rs := [14]) (by kernel_rfl) (by simp) ?_
              refine AllReadyH.cons (by simp only [List.getElem?_toArray]; rfl) (fun KK hKK => ?_) AllReadyH.nil
              rw [if_pos (by kernel_rfl)]
              refine wp_stO (.tmp 20) (.tmp 92) rfl (wc189.heap.size) F.t sh3 F.e rfl rfl hs3 y5 ?_
              replace y5 := y5.row_ F.t sh3 F.e
              replace y4 := y4.mod (mod_setRow ws195 (wc189.heap.size) (otA F.t sh3 F.e)) ne45
              replace hb := below_setRow hb (wc189.heap.size) (otA F.t sh3 F.e) nz_y5
              obtain ⟨ws196, hws⟩ : ∃ ws196, ws196 = ws195.setRow (wc189.heap.size) (otA F.t sh3 F.e) := ⟨_, rfl⟩
              rw [← hws] at y4 y5 hb ⊢
              clear hws
              refine hKK.out _ _ ?_ (fun hHeld => ?_)
              · exact (by first | exact hb | exact below_drew hb)
              clear hKK KK
              try simp only [Act.put]
              refine wpAnyH_done (by kernel_rfl) ?_ _
              go_wp2_with fail
              go_meet
              exact ⟨_, _, sh3, _, rfl, rfl, rfl, y4, y5, hb⟩
             ·
              rw [if_pos (by kernel_rfl)]
              have ne45 : ¬ wd2.heap.size = wa188.heap.size := by have := y4.lt; omega
              have ne_y5 : ∀ j, Value.ownBlock v6 = some j → ¬ j = wa188.heap.size := fun j hj => by have := (World.ownsRow.lt row j hj).2; omega
              have nz_y5 : wz.heap.size ≤ wa188.heap.size := hb.size
              refine wp_alO rfl ?_
              obtain ⟨wa197, hwa⟩ : ∃ wa197, wa197 = wa188.alloc (.cells (otA 0 (.slice none 0 0) 0) 53) := ⟨_, rfl⟩
              have h9 : Below wa188.heap.size wa188 wa197 := by rw [hwa]; exact below_alloc1 _ _
              have y5 : OBox wa197 (wa188.heap.size) 0 (.slice none 0 0) 0 := by rw [hwa]; exact OBox.new_ _ _ _ _
              rw [← hwa]
              clear hwa
              replace y4 := y4.ext h9
              replace row := own_ext row h9
              replace hb := hb.trans (h9.mono hb.size)
              clear h9
              refine hKK.out _ _ ?_ (fun hHeld => ?_)
              · exact (by first | exact hb | exact below_drew hb)
              clear hKK KK
              try simp only [Act.put, List.setIfInBounds_toArray, List.set_cons_zero, List.set_cons_succ]
              refine wpAnyH_ready (rs := [7]) (by kernel_rfl) (by simp) ?_
              refine AllReadyH.cons (by simp only [List.getElem?_toArray]; rfl) (fun KK hKK => ?_) AllReadyH.nil
              rw [if_pos (by kernel_rfl)]
              rcases row.2 with ⟨-, h0⟩ | ⟨g6, c6, cur6, hv6, -⟩
              · exact absurd h0 (by omega)
              subst hv6
              obtain ⟨g7, hs6, hg7⟩ := Sl.of_own row
              have e7 := hg7 g6 rfl
              subst e7
              have hP := hStep (some ⟨g6, 0, none⟩) (wholeM g M ++ N) c6 g6 wa197 (hi9.ext hb) (hT9.ext hb) hs6 (fun x hx => (List.mem_append.1 hx).elim (hwf x) (hfN x)) (by rw [List.length_append, hwl]; simp only [maxLen]; omega) HF3.out
              rw [show (wholeM g M ++ N).length = 0 + k + N.length by rw [List.length_append, hwl]; omega] at hP
              clear hg7 hs6 row ne_y4 ne_y5
              refine wp_callF 17 #[.agg (gmA g s), .agg (stA ⟨C, sd, 0⟩), .slice (some ⟨g6, 0, none⟩) (0 + k + N.length) c6] (by kernel_rfl) ?_
              refine hP.mono ?_
              rintro e wc198 ⟨sh3, rfl, hsh, h9⟩
              have hs3 : sh3.oneCell' = true := by
                rcases hsh.2 with ⟨rfl, -⟩ | ⟨_, _, _, rfl, -⟩ <;> rfl
              clear hsh hP
              replace y4 := y4.ext h9
              replace y5 := y5.ext h9
              replace hb := hb.trans (h9.mono hb.size)
              clear h9
              refine ⟨_, rfl, ?_⟩
              refine hKK.out _ _ ?_ (fun hHeld => ?_)
              · exact (by first | exact hb | exact below_drew hb)
              clear hKK KK
              try simp only [Act.put, List.setIfInBounds_toArray, List.set_cons_zero, List.set_cons_succ]
              refine wpAnyH_take (i := 8) (v := ?vt1200) (by simp only [List.getElem?_toArray]; rfl) (by kernel_rfl) (by kernel_rfl) (by kernel_rfl) (by exact fun _ _ _ h => h) (Or.inl ⟨by kernel_rfl, ?yt1200⟩) hHeld ?_
              case yt1200 => (intro ww hSw; (try dsimp only at hSw); clear hSw; go_simp; try (with_reducible rfl))
              try simp only [Act.put, List.setIfInBounds_toArray, List.set_cons_zero, List.set_cons_succ]
              refine wpAnyH_take (i := 9) (v := ?vt1201) (by simp only [List.getElem?_toArray]; rfl) (by kernel_rfl) (by kernel_rfl) (by kernel_rfl) (by exact fun _ _ _ h => h) (Or.inl ⟨by kernel_rfl, ?yt1201⟩) hHeld ?_
              case yt1201 => (intro ww hSw; (try dsimp only at hSw); clear hSw; go_simp; try (with_reducible rfl))
              try simp only [Act.put, List.setIfInBounds_toArray, List.set_cons_zero, List.set_cons_succ]
              refine wpAnyH_take (i := 10) (v := ?vt1202) (by simp only [List.getElem?_toArray]; rfl) (by kernel_rfl) (by kernel_rfl) (by kernel_rfl) (by exact fun _ _ _ h => h) (Or.inl ⟨by kernel_rfl, ?yt1202⟩) hHeld ?_
              case yt1202 => (intro ww hSw; (try dsimp only at hSw); clear hSw; go_simp; try (with_reducible rfl))
              try simp only [Act.put, List.setIfInBounds_toArray, List.set_cons_zero, List.set_cons_succ]
              refine wpAnyH_ready (rs := [13]) (by kernel_rfl) (by simp) ?_
              refine AllReadyH.cons (by simp only [List.getElem?_toArray]; rfl) (fun KK hKK => ?_) AllReadyH.nil
              rw [if_pos (by kernel_rfl)]
              refine wp_stS (.tmp 19) (.tmp 91) rfl (wd2.heap.size) S1 rfl rfl y4 ?_
              replace y4 := y4.row_ S1
              replace y5 := y5.mod (mod_setRow wc198 (wd2.heap.size) (stA S1)) (fun e => ne45 e.symm)
              replace hb := below_setRow hb (wd2.heap.size) (stA S1) nz_y4
              obtain ⟨ws203, hws⟩ : ∃ ws203, ws203 = wc198.setRow (wd2.heap.size) (stA S1) := ⟨_, rfl⟩
              rw [← hws] at y4 y5 hb ⊢
              clear hws
              refine hKK.out _ _ ?_ (fun hHeld => ?_)
              · exact (by first | exact hb | exact below_drew hb)
              clear hKK KK
              try simp only [Act.put]
              refine wpAnyH_ready (rs := [14]) (by kernel_rfl) (by simp) ?_
              refine AllReadyH.cons (by simp only [List.getElem?_toArray]; rfl) (fun KK hKK => ?_) AllReadyH.nil
              rw [if_pos (by kernel_rfl)]
              refine wp_stO (.tmp 20) (.tmp 92) rfl (wa188.heap.size) F.t sh3 F.e rfl rfl hs3 y5 ?_
              replace y5 := y5.row_ F.t sh3 F.e
              replace y4 := y4.mod (mod_setRow ws203 (wa188.heap.size) (otA F.t sh3 F.e)) ne45
              replace hb := below_setRow hb (wa188.heap.size) (otA F.t sh3 F.e) nz_y5
              obtain ⟨ws204, hws⟩ : ∃ ws204, ws204 = ws203.setRow (wa188.heap.size) (otA F.t sh3 F.e) := ⟨_, rfl⟩
              rw [← hws] at y4 y5 hb ⊢
              clear hws
              refine hKK.out _ _ ?_ (fun hHeld => ?_)
              · exact (by first | exact hb | exact below_drew hb)
              clear hKK KK
              try simp only [Act.put]
              refine wpAnyH_done (by kernel_rfl) ?_ _
              go_wp2_with fail
              go_meet
              exact ⟨_, _, sh3, _, rfl, rfl, rfl, y4, y5, hb⟩
            ·
             rw [if_pos (by kernel_rfl)]
             have ne45 : ¬ wd2.heap.size = wa187.heap.size := by have := y4.lt; omega
             have ne_y5 : ∀ j, Value.ownBlock v4 = some j → ¬ j = wa187.heap.size := fun j hj => by have := (World.ownsRow.lt row j hj).2; omega
             have nz_y5 : wz.heap.size ≤ wa187.heap.size := hb.size
             refine wp_alO rfl ?_
             obtain ⟨wa205, hwa⟩ : ∃ wa205, wa205 = wa187.alloc (.cells (otA 0 (.slice none 0 0) 0) 53) := ⟨_, rfl⟩
             have h9 : Below wa187.heap.size wa187 wa205 := by rw [hwa]; exact below_alloc1 _ _
             have y5 : OBox wa205 (wa187.heap.size) 0 (.slice none 0 0) 0 := by rw [hwa]; exact OBox.new_ _ _ _ _
             rw [← hwa]
             clear hwa
             replace y4 := y4.ext h9
             replace row := own_ext row h9
             replace hb := hb.trans (h9.mono hb.size)
             clear h9
             refine hKK.out _ _ ?_ (fun hHeld => ?_)
             · exact (by first | exact hb | exact below_drew hb)
             clear hKK KK
             try simp only [Act.put, List.setIfInBounds_toArray, List.set_cons_zero, List.set_cons_succ]
             refine wpAnyH_ready (rs := [6]) (by kernel_rfl) (by simp) ?_
             refine AllReadyH.cons (by simp only [List.getElem?_toArray]; rfl) (fun KK hKK => ?_) AllReadyH.nil
             rw [if_pos (by kernel_rfl)]
             have nl_y4 := y4.lt
             have nl_y5 := y5.lt
             refine wp_appU (.tmp 87) (.tmp 88) rfl wz.heap.size (0 + k) v4 ([] ++ wholeM g M) rfl row nb NA (N.length) nc (N) rfl (Sl.ext hN9 hb) rfl (by omega) hb.size ?_
             intro v6 wa206 row' hgr hloc
             have hB := (Mod.of_grown hgr).below hb.size (fun i hi e => by have := (World.ownsRow.lt row i e).1; omega)
             replace y4 := y4.mod (Mod.of_grown hgr) (fun e => ne_y4 _ e rfl)
             replace ne_y4 : ∀ j, Value.ownBlock v6 = some j → ¬ j = wd2.heap.size := fun j hj => by
               rcases hloc with h | h
               · exact ne_y4 j (h ▸ hj)
               · rw [h] at hj; injection hj with hj; omega
             clear nl_y4
             replace y5 := y5.mod (Mod.of_grown hgr) (fun e => ne_y5 _ e rfl)
             replace ne_y5 : ∀ j, Value.ownBlock v6 = some j → ¬ j = wa187.heap.size := fun j hj => by
               rcases hloc with h | h
               · exact ne_y5 j (h ▸ hj)
               · rw [h] at hj; injection hj with hj; omega
             clear nl_y5
             replace hb := hb.trans hB
             clear hB hgr hloc row
             have row := row'
             clear row'
             refine hKK.out _ _ ?_ (fun hHeld => ?_)
             · exact (by first | exact hb | exact below_drew hb)
             clear hKK KK
             try simp only [Act.put, List.setIfInBounds_toArray, List.set_cons_zero, List.set_cons_succ]
             refine wpAnyH_ready (rs := [7]) (by kernel_rfl) (by simp) ?_
             refine AllReadyH.cons (by simp only [List.getElem?_toArray]; rfl) (fun KK hKK => ?_) AllReadyH.nil
             rw [if_pos (by kernel_rfl)]
             rcases row.2 with ⟨-, h0⟩ | ⟨g6, c6, cur6, hv6, -⟩
             · exact absurd h0 (by omega)
             subst hv6
             obtain ⟨g7, hs6, hg7⟩ := Sl.of_own row
             have e7 := hg7 g6 rfl
             subst e7
             have hP := hStep (some ⟨g6, 0, none⟩) (wholeM g M ++ N) c6 g6 wa206 (hi9.ext hb) (hT9.ext hb) hs6 (fun x hx => (List.mem_append.1 hx).elim (hwf x) (hfN x)) (by rw [List.length_append, hwl]; simp only [maxLen]; omega) HF3.out
             rw [show (wholeM g M ++ N).length = 0 + k + N.length by rw [List.length_append, hwl]; omega] at hP
             clear hg7 hs6 row ne_y4 ne_y5
             refine wp_callF 17 #[.agg (gmA g s), .agg (stA ⟨C, sd, 0⟩), .slice (some ⟨g6, 0, none⟩) (0 + k + N.length) c6] (by kernel_rfl) ?_
             refine hP.mono ?_
             rintro e wc207 ⟨sh3, rfl, hsh, h9⟩
             have hs3 : sh3.oneCell' = true := by
               rcases hsh.2 with ⟨rfl, -⟩ | ⟨_, _, _, rfl, -⟩ <;> rfl
             clear hsh hP
             replace y4 := y4.ext h9
             replace y5 := y5.ext h9
             replace hb := hb.trans (h9.mono hb.size)
             clear h9
             refine ⟨_, rfl, ?_⟩
             refine hKK.out _ _ ?_ (fun hHeld => ?_)
             · exact (by first | exact hb | exact below_drew hb)
             clear hKK KK
             try simp only [Act.put, List.setIfInBounds_toArray, List.set_cons_zero, List.set_cons_succ]
             refine wpAnyH_take (i := 8) (v := ?vt1209) (by simp only [List.getElem?_toArray]; rfl) (by kernel_rfl) (by kernel_rfl) (by kernel_rfl) (by exact fun _ _ _ h => h) (Or.inl ⟨by kernel_rfl, ?yt1209⟩) hHeld ?_
             case yt1209 => (intro ww hSw; (try dsimp only at hSw); clear hSw; go_simp; try (with_reducible rfl))
             try simp only [Act.put, List.setIfInBounds_toArray, List.set_cons_zero, List.set_cons_succ]
             refine wpAnyH_take (i := 9) (v := ?vt1210) (by simp only [List.getElem?_toArray]; rfl) (by kernel_rfl) (by kernel_rfl) (by kernel_rfl) (by exact fun _ _ _ h => h) (Or.inl ⟨by kernel_rfl, ?yt1210⟩) hHeld ?_
             case yt1210 => (intro ww hSw; (try dsimp only at hSw); clear hSw; go_simp; try (with_reducible rfl))
             try simp only [Act.put, List.setIfInBounds_toArray, List.set_cons_zero, List.set_cons_succ]
             refine wpAnyH_take (i := 10) (v := ?vt1211) (by simp only [List.getElem?_toArray]; rfl) (by kernel_rfl) (by kernel_rfl) (by kernel_rfl) (by exact fun _ _ _ h => h) (Or.inl ⟨by kernel_rfl, ?yt1211⟩) hHeld ?_
             case yt1211 => (intro ww hSw; (try dsimp only at hSw); clear hSw; go_simp; try (with_reducible rfl))
             try simp only [Act.put, List.setIfInBounds_toArray, List.set_cons_zero, List.set_cons_succ]
             refine wpAnyH_ready (rs := [13]) (by kernel_rfl) (by simp) ?_
             refine AllReadyH.cons (by simp only [List.getElem?_toArray]; rfl) (fun KK hKK => ?_) AllReadyH.nil
             rw [if_pos (by kernel_rfl)]
             refine wp_stS (.tmp 19) (.tmp 91) rfl (wd2.heap.size) S1 rfl rfl y4 ?_
             replace y4 := y4.row_ S1
             replace y5 := y5.mod (mod_setRow wc207 (wd2.heap.size) (stA S1)) (fun e => ne45 e.symm)
             replace hb := below_setRow hb (wd2.heap.size) (stA S1) nz_y4
             obtain ⟨ws212, hws⟩ : ∃ ws212, ws212 = wc207.setRow (wd2.heap.size) (stA S1) := ⟨_, rfl⟩
             rw [← hws] at y4 y5 hb ⊢
             clear hws
             refine hKK.out _ _ ?_ (fun hHeld => ?_)
             · exact (by first | exact hb | exact below_drew hb)
             clear hKK KK
             try simp only [Act.put]
             refine wpAnyH_ready (rs := [14]) (by kernel_rfl) (by simp) ?_
             refine AllReadyH.cons (by simp only [List.getElem?_toArray]; rfl) (fun KK hKK => ?_) AllReadyH.nil
             rw [if_pos (by kernel_rfl)]
             refine wp_stO (.tmp 20) (.tmp 92) rfl (wa187.heap.size) F.t sh3 F.e rfl rfl hs3 y5 ?_
             replace y5 := y5.row_ F.t sh3 F.e
             replace y4 := y4.mod (mod_setRow ws212 (wa187.heap.size) (otA F.t sh3 F.e)) ne45
             replace hb := below_setRow hb (wa187.heap.size) (otA F.t sh3 F.e) nz_y5
             obtain ⟨ws213, hws⟩ : ∃ ws213, ws213 = ws212.setRow (wa187.heap.size) (otA F.t sh3 F.e) := ⟨_, rfl⟩
             rw [← hws] at y4 y5 hb ⊢
             clear hws
             refine hKK.out _ _ ?_ (fun hHeld => ?_)
             · exact (by first | exact hb | exact below_drew hb)
             clear hKK KK
             try simp only [Act.put]
             refine wpAnyH_done (by kernel_rfl) ?_ _
             go_wp2_with fail
             go_meet
             exact ⟨_, _, sh3, _, rfl, rfl, rfl, y4, y5, hb⟩
           ·
            rw [if_pos (by kernel_rfl)]
            have ne45 : ¬ wd2.heap.size = wa186.heap.size := by have := y4.lt; omega
            have ne_y5 : ∀ j, Value.ownBlock (.slice (some ⟨wa185.heap.size, 0, none⟩) 0 0) = some j → ¬ j = wa186.heap.size := fun j hj => by have := (World.ownsRow.lt row j hj).2; omega
            have nz_y5 : wz.heap.size ≤ wa186.heap.size := hb.size
            refine wp_alO rfl ?_
            obtain ⟨wa214, hwa⟩ : ∃ wa214, wa214 = wa186.alloc (.cells (otA 0 (.slice none 0 0) 0) 53) := ⟨_, rfl⟩
            have h9 : Below wa186.heap.size wa186 wa214 := by rw [hwa]; exact below_alloc1 _ _
            have y5 : OBox wa214 (wa186.heap.size) 0 (.slice none 0 0) 0 := by rw [hwa]; exact OBox.new_ _ _ _ _
            rw [← hwa]
            clear hwa
            replace y4 := y4.ext h9
            replace row := own_ext row h9
            replace hb := hb.trans (h9.mono hb.size)
            clear h9
            refine hKK.out _ _ ?_ (fun hHeld => ?_)
            · exact (by first | exact hb | exact below_drew hb)
            clear hKK KK
            try simp only [Act.put, List.setIfInBounds_toArray, List.set_cons_zero, List.set_cons_succ]
            refine wpAnyH_ready (rs := [4]) (by kernel_rfl) (by simp) ?_
            refine AllReadyH.cons (by simp only [List.getElem?_toArray]; rfl) (fun KK hKK => ?_) AllReadyH.nil
            rw [if_pos (by kernel_rfl)]
            have nl_y4 := y4.lt
            have nl_y5 := y5.lt
            refine wp_appU (.tmp 85) (.tmp 86) rfl wz.heap.size (0) (.slice (some ⟨wa185.heap.size, 0, none⟩) 0 0) ([]) rfl row gV (some ⟨gV, 0, none⟩) (k) cV (wholeM g M) rfl (Sl.ext hslV hb) hwl (by omega) hb.size ?_
            intro v4 wa215 row' hgr hloc
            have hB := (Mod.of_grown hgr).below hb.size (fun i hi e => by have := (World.ownsRow.lt row i e).1; omega)
            replace y4 := y4.mod (Mod.of_grown hgr) (fun e => ne_y4 _ e rfl)
            replace ne_y4 : ∀ j, Value.ownBlock v4 = some j → ¬ j = wd2.heap.size := fun j hj => by
              rcases hloc with h | h
              · exact ne_y4 j (h ▸ hj)
              · rw [h] at hj; injection hj with hj; omega
            clear nl_y4
            replace y5 := y5.mod (Mod.of_grown hgr) (fun e => ne_y5 _ e rfl)
            replace ne_y5 : ∀ j, Value.ownBlock v4 = some j → ¬ j = wa186.heap.size := fun j hj => by
              rcases hloc with h | h
              · exact ne_y5 j (h ▸ hj)
              · rw [h] at hj; injection hj with hj; omega
            clear nl_y5
            replace hb := hb.trans hB
            clear hB hgr hloc row
            have row := row'
            clear row'
            refine hKK.out _ _ ?_ (fun hHeld => ?_)
            · exact (by first | exact hb | exact below_drew hb)
            clear hKK KK
            try simp only [Act.put, List.setIfInBounds_toArray, List.set_cons_zero, List.set_cons_succ]
            refine wpAnyH_ready (rs := [6]) (by kernel_rfl) (by simp) ?_
            refine AllReadyH.cons (by simp only [List.getElem?_toArray]; rfl) (fun KK hKK => ?_) AllReadyH.nil
            rw [if_pos (by kernel_rfl)]
            have nl_y4 := y4.lt
            have nl_y5 := y5.lt
            refine wp_appU (.tmp 87) (.tmp 88) rfl wz.heap.size (0 + k) v4 ([] ++ wholeM g M) rfl row nb NA (N.length) nc (N) rfl (Sl.ext hN9 hb) rfl (by omega) hb.size ?_
            intro v6 wa216 row' hgr hloc
            have hB := (Mod.of_grown hgr).below hb.size (fun i hi e => by have := (World.ownsRow.lt row i e).1; omega)
            replace y4 := y4.mod (Mod.of_grown hgr) (fun e => ne_y4 _ e rfl)
            replace ne_y4 : ∀ j, Value.ownBlock v6 = some j → ¬ j = wd2.heap.size := fun j hj => by
              rcases hloc with h | h
              · exact ne_y4 j (h ▸ hj)
              · rw [h] at hj; injection hj with hj; omega
            clear nl_y4
            replace y5 := y5.mod (Mod.of_grown hgr) (fun e => ne_y5 _ e rfl)
            replace ne_y5 : ∀ j, Value.ownBlock v6 = some j → ¬ j = wa186.heap.size := fun j hj => by
              rcases hloc with h | h
              · exact ne_y5 j (h ▸ hj)
              · rw [h] at hj; injection hj with hj; omega
            clear nl_y5
            replace hb := hb.trans hB
            clear hB hgr hloc row
            have row := row'
            clear row'
            refine hKK.out _ _ ?_ (fun hHeld => ?_)
            · exact (by first | exact hb | exact below_drew hb)
            clear hKK KK
            try simp only [Act.put, List.setIfInBounds_toArray, List.set_cons_zero, List.set_cons_succ]
            refine wpAnyH_ready (rs := [7]) (by kernel_rfl) (by simp) ?_
            refine AllReadyH.cons (by simp only [List.getElem?_toArray]; rfl) (fun KK hKK => ?_) AllReadyH.nil
            rw [if_pos (by kernel_rfl)]
            rcases row.2 with ⟨-, h0⟩ | ⟨g6, c6, cur6, hv6, -⟩
            · exact absurd h0 (by omega)
            subst hv6
            obtain ⟨g7, hs6, hg7⟩ := Sl.of_own row
            have e7 := hg7 g6 rfl
            subst e7
            have hP := hStep (some ⟨g6, 0, none⟩) (wholeM g M ++ N) c6 g6 wa216 (hi9.ext hb) (hT9.ext hb) hs6 (fun x hx => (List.mem_append.1 hx).elim (hwf x) (hfN x)) (by rw [List.length_append, hwl]; simp only [maxLen]; omega) HF3.out
            rw [show (wholeM g M ++ N).length = 0 + k + N.length by rw [List.length_append, hwl]; omega] at hP
            clear hg7 hs6 row ne_y4 ne_y5
            refine wp_callF 17 #[.agg (gmA g s), .agg (stA ⟨C, sd, 0⟩), .slice (some ⟨g6, 0, none⟩) (0 + k + N.length) c6] (by kernel_rfl) ?_
            refine hP.mono ?_
            rintro e wc217 ⟨sh3, rfl, hsh, h9⟩
            have hs3 : sh3.oneCell' = true := by
              rcases hsh.2 with ⟨rfl, -⟩ | ⟨_, _, _, rfl, -⟩ <;> rfl
            clear hsh hP
            replace y4 := y4.ext h9
            replace y5 := y5.ext h9
            replace hb := hb.trans (h9.mono hb.size)
            clear h9
            refine ⟨_, rfl, ?_⟩
            refine hKK.out _ _ ?_ (fun hHeld => ?_)
            · exact (by first | exact hb | exact below_drew hb)
            clear hKK KK
            try simp only [Act.put, List.setIfInBounds_toArray, List.set_cons_zero, List.set_cons_succ]
            refine wpAnyH_take (i := 8) (v := ?vt1219) (by simp only [List.getElem?_toArray]; rfl) (by kernel_rfl) (by kernel_rfl) (by kernel_rfl) (by exact fun _ _ _ h => h) (Or.inl ⟨by kernel_rfl, ?yt1219⟩) hHeld ?_
            case yt1219 => (intro ww hSw; (try dsimp only at hSw); clear hSw; go_simp; try (with_reducible rfl))
            try simp only [Act.put, List.setIfInBounds_toArray, List.set_cons_zero, List.set_cons_succ]
            refine wpAnyH_take (i := 9) (v := ?vt1220) (by simp only [List.getElem?_toArray]; rfl) (by kernel_rfl) (by kernel_rfl) (by kernel_rfl) (by exact fun _ _ _ h => h) (Or.inl ⟨by kernel_rfl, ?yt1220⟩) hHeld ?_
            case yt1220 => (intro ww hSw; (try dsimp only at hSw); clear hSw; go_simp; try (with_reducible rfl))
            try simp only [Act.put, List.setIfInBounds_toArray, List.set_cons_zero, List.set_cons_succ]
            refine wpAnyH_take (i := 10) (v := ?vt1221) (by simp only [List.getElem?_toArray]; rfl) (by kernel_rfl) (by kernel_rfl) (by kernel_rfl) (by exact fun _ _ _ h => h) (Or.inl ⟨by kernel_rfl, ?yt1221⟩) hHeld ?_
            case yt1221 => (intro ww hSw; (try dsimp only at hSw); clear hSw; go_simp; try (with_reducible rfl))
            try simp only [Act.put, List.setIfInBounds_toArray, List.set_cons_zero, List.set_cons_succ]
            refine wpAnyH_ready (rs := [13]) (by kernel_rfl) (by simp) ?_
            refine AllReadyH.cons (by simp only [List.getElem?_toArray]; rfl) (fun KK hKK => ?_) AllReadyH.nil
            rw [if_pos (by kernel_rfl)]
            refine wp_stS (.tmp 19) (.tmp 91) rfl (wd2.heap.size) S1 rfl rfl y4 ?_
            replace y4 := y4.row_ S1
            replace y5 := y5.mod (mod_setRow wc217 (wd2.heap.size) (stA S1)) (fun e => ne45 e.symm)
            replace hb := below_setRow hb (wd2.heap.size) (stA S1) nz_y4
            obtain ⟨ws222, hws⟩ : ∃ ws222, ws222 = wc217.setRow (wd2.heap.size) (stA S1) := ⟨_, rfl⟩
            rw [← hws] at y4 y5 hb ⊢
            clear hws
            refine hKK.out _ _ ?_ (fun hHeld => ?_)
            · exact (by first | exact hb | exact below_drew hb)
            clear hKK KK
            try simp only [Act.put]
            refine wpAnyH_ready (rs := [14]) (by kernel_rfl) (by simp) ?_
            refine AllReadyH.cons (by simp only [List.getElem?_toArray]; rfl) (fun KK hKK => ?_) AllReadyH.nil
            rw [if_pos (by kernel_rfl)]
            refine wp_stO (.tmp 20) (.tmp 92) rfl (wa186.heap.size) F.t sh3 F.e rfl rfl hs3 y5 ?_
            replace y5 := y5.row_ F.t sh3 F.e
            replace y4 := y4.mod (mod_setRow ws222 (wa186.heap.size) (otA F.t sh3 F.e)) ne45
            replace hb := below_setRow hb (wa186.heap.size) (otA F.t sh3 F.e) nz_y5
            obtain ⟨ws223, hws⟩ : ∃ ws223, ws223 = ws222.setRow (wa186.heap.size) (otA F.t sh3 F.e) := ⟨_, rfl⟩
            rw [← hws] at y4 y5 hb ⊢
            clear hws
            refine hKK.out _ _ ?_ (fun hHeld => ?_)
            · exact (by first | exact hb | exact below_drew hb)
            clear hKK KK
            try simp only [Act.put]
            refine wpAnyH_done (by kernel_rfl) ?_ _
            go_wp2_with fail
            go_meet
            exact ⟨_, _, sh3, _, rfl, rfl, rfl, y4, y5, hb⟩
          ·
           rw [if_pos (by kernel_rfl)]
           have ne45 : ¬ wd2.heap.size = wa185.heap.size := by have := y4.lt; omega
           have nz_y5 : wz.heap.size ≤ wa185.heap.size := hb.size
           refine wp_alO rfl ?_
           obtain ⟨wa224, hwa⟩ : ∃ wa224, wa224 = wa185.alloc (.cells (otA 0 (.slice none 0 0) 0) 53) := ⟨_, rfl⟩
           have h9 : Below wa185.heap.size wa185 wa224 := by rw [hwa]; exact below_alloc1 _ _
           have y5 : OBox wa224 (wa185.heap.size) 0 (.slice none 0 0) 0 := by rw [hwa]; exact OBox.new_ _ _ _ _
           rw [← hwa]
           clear hwa
           replace y4 := y4.ext h9
           replace hb := hb.trans (h9.mono hb.size)
           clear h9
           refine hKK.out _ _ ?_ (fun hHeld => ?_)
           · exact (by first | exact hb | exact below_drew hb)
           clear hKK KK
           try simp only [Act.put, List.setIfInBounds_toArray, List.set_cons_zero, List.set_cons_succ]
           refine wpAnyH_ready (rs := [2]) (by kernel_rfl) (by simp) ?_
           refine AllReadyH.cons (by simp only [List.getElem?_toArray]; rfl) (fun KK hKK => ?_) AllReadyH.nil
           rw [if_pos (by kernel_rfl)]
           go_simp
           obtain ⟨wa225, hwa⟩ : ∃ wa225, wa225 = wa224.alloc (.cells #[] 22) := ⟨_, rfl⟩
           have h9 : Below wa224.heap.size wa224 wa225 := by rw [hwa]; exact below_alloc1 _ _
           have row : wa225.ownsRow wz.heap.size 22 1 (.slice (some ⟨wa224.heap.size, 0, none⟩) 0 0) 0 (ms []) := by rw [hwa]; exact World.ownsRow_made wa224 #[] 0 hb.size (by simp [maxLen]) rfl
           have ne_y4 : ∀ j, Value.ownBlock (.slice (some ⟨wa224.heap.size, 0, none⟩) 0 0) = some j → ¬ j = wd2.heap.size := fun j hj => by have e : wa224.heap.size = j := (by simpa [Value.ownBlock] using hj); have := y4.lt; omega
           have ne_y5 : ∀ j, Value.ownBlock (.slice (some ⟨wa224.heap.size, 0, none⟩) 0 0) = some j → ¬ j = wa185.heap.size := fun j hj => by have e : wa224.heap.size = j := (by simpa [Value.ownBlock] using hj); have := y5.lt; omega
           rw [← hwa]
           clear hwa
           replace y4 := y4.ext h9
           replace y5 := y5.ext h9
           replace hb := hb.trans (h9.mono hb.size)
           clear h9
           refine hKK.out _ _ ?_ (fun hHeld => ?_)
           · exact (by first | exact hb | exact below_drew hb)
           clear hKK KK
           try simp only [Act.put, List.setIfInBounds_toArray, List.set_cons_zero, List.set_cons_succ]
           refine wpAnyH_ready (rs := [4]) (by kernel_rfl) (by simp) ?_
           refine AllReadyH.cons (by simp only [List.getElem?_toArray]; rfl) (fun KK hKK => ?_) AllReadyH.nil
           rw [if_pos (by kernel_rfl)]
           have nl_y4 := y4.lt
           have nl_y5 := y5.lt
           refine wp_appU (.tmp 85) (.tmp 86) rfl wz.heap.size (0) (.slice (some ⟨wa224.heap.size, 0, none⟩) 0 0) ([]) rfl row gV (some ⟨gV, 0, none⟩) (k) cV (wholeM g M) rfl (Sl.ext hslV hb) hwl (by omega) hb.size ?_
           intro v4 wa226 row' hgr hloc
           have hB := (Mod.of_grown hgr).below hb.size (fun i hi e => by have := (World.ownsRow.lt row i e).1; omega)
           replace y4 := y4.mod (Mod.of_grown hgr) (fun e => ne_y4 _ e rfl)
           replace ne_y4 : ∀ j, Value.ownBlock v4 = some j → ¬ j = wd2.heap.size := fun j hj => by
             rcases hloc with h | h
             · exact ne_y4 j (h ▸ hj)
             · rw [h] at hj; injection hj with hj; omega
           clear nl_y4
           replace y5 := y5.mod (Mod.of_grown hgr) (fun e => ne_y5 _ e rfl)
           replace ne_y5 : ∀ j, Value.ownBlock v4 = some j → ¬ j = wa185.heap.size := fun j hj => by
             rcases hloc with h | h
             · exact ne_y5 j (h ▸ hj)
             · rw [h] at hj; injection hj with hj; omega
           clear nl_y5
           replace hb := hb.trans hB
           clear hB hgr hloc row
           have row := row'
           clear row'
           refine hKK.out _ _ ?_ (fun hHeld => ?_)
           · exact (by first | exact hb | exact below_drew hb)
           clear hKK KK
           try simp only [Act.put, List.setIfInBounds_toArray, List.set_cons_zero, List.set_cons_succ]
           refine wpAnyH_ready (rs := [6]) (by kernel_rfl) (by simp) ?_
           refine AllReadyH.cons (by simp only [List.getElem?_toArray]; rfl) (fun KK hKK => ?_) AllReadyH.nil
           rw [if_pos (by kernel_rfl)]
           have nl_y4 := y4.lt
           have nl_y5 := y5.lt
           refine wp_appU (.tmp 87) (.tmp 88) rfl wz.heap.size (0 + k) v4 ([] ++ wholeM g M) rfl row nb NA (N.length) nc (N) rfl (Sl.ext hN9 hb) rfl (by omega) hb.size ?_
           intro v6 wa227 row' hgr hloc
           have hB := (Mod.of_grown hgr).below hb.size (fun i hi e => by have := (World.ownsRow.lt row i e).1; omega)
           replace y4 := y4.mod (Mod.of_grown hgr) (fun e => ne_y4 _ e rfl)
           replace ne_y4 : ∀ j, Value.ownBlock v6 = some j → ¬ j = wd2.heap.size := fun j hj => by
             rcases hloc with h | h
             · exact ne_y4 j (h ▸ hj)
             · rw [h] at hj; injection hj with hj; omega
           clear nl_y4
           replace y5 := y5.mod (Mod.of_grown hgr) (fun e => ne_y5 _ e rfl)
           replace ne_y5 : ∀ j, Value.ownBlock v6 = some j → ¬ j = wa185.heap.size := fun j hj => by
             rcases hloc with h | h
             · exact ne_y5 j (h ▸ hj)
             · rw [h] at hj; injection hj with hj; omega
           clear nl_y5
           replace hb := hb.trans hB
           clear hB hgr hloc row
           have row := row'
           clear row'
           refine hKK.out _ _ ?_ (fun hHeld => ?_)
           · exact (by first | exact hb | exact below_drew hb)
           clear hKK KK
           try simp only [Act.put, List.setIfInBounds_toArray, List.set_cons_zero, List.set_cons_succ]
           refine wpAnyH_ready (rs := [7]) (by kernel_rfl) (by simp) ?_
           refine AllReadyH.cons (by simp only [List.getElem?_toArray]; rfl) (fun KK hKK => ?_) AllReadyH.nil
           rw [if_pos (by kernel_rfl)]
           rcases row.2 with ⟨-, h0⟩ | ⟨g6, c6, cur6, hv6, -⟩
           · exact absurd h0 (by omega)
           subst hv6
           obtain ⟨g7, hs6, hg7⟩ := Sl.of_own row
           have e7 := hg7 g6 rfl
           subst e7
           have hP := hStep (some ⟨g6, 0, none⟩) (wholeM g M ++ N) c6 g6 wa227 (hi9.ext hb) (hT9.ext hb) hs6 (fun x hx => (List.mem_append.1 hx).elim (hwf x) (hfN x)) (by rw [List.length_append, hwl]; simp only [maxLen]; omega) HF3.out
           rw [show (wholeM g M ++ N).length = 0 + k + N.length by rw [List.length_append, hwl]; omega] at hP
           clear hg7 hs6 row ne_y4 ne_y5
           refine wp_callF 17 #[.agg (gmA g s), .agg (stA ⟨C, sd, 0⟩), .slice (some ⟨g6, 0, none⟩) (0 + k + N.length) c6] (by kernel_rfl) ?_
           refine hP.mono ?_
           rintro e wc228 ⟨sh3, rfl, hsh, h9⟩
           have hs3 : sh3.oneCell' = true := by
             rcases hsh.2 with ⟨rfl, -⟩ | ⟨_, _, _, rfl, -⟩ <;> rfl
           clear hsh hP
           replace y4 := y4.ext h9
           replace y5 := y5.ext h9
           replace hb := hb.trans (h9.mono hb.size)
           clear h9
           refine ⟨_, rfl, ?_⟩
           refine hKK.out _ _ ?_ (fun hHeld => ?_)
           · exact (by first | exact hb | exact below_drew hb)
           clear hKK KK
           try simp only [Act.put, List.setIfInBounds_toArray, List.set_cons_zero, List.set_cons_succ]
           refine wpAnyH_take (i := 8) (v := ?vt1230) (by simp only [List.getElem?_toArray]; rfl) (by kernel_rfl) (by kernel_rfl) (by kernel_rfl) (by exact fun _ _ _ h => h) (Or.inl ⟨by kernel_rfl, ?yt1230⟩) hHeld ?_
           case yt1230 => (intro ww hSw; (try dsimp only at hSw); clear hSw; go_simp; try (with_reducible rfl))
           try simp only [Act.put, List.setIfInBounds_toArray, List.set_cons_zero, List.set_cons_succ]
           refine wpAnyH_take (i := 9) (v := ?vt1231) (by simp only [List.getElem?_toArray]; rfl) (by kernel_rfl) (by kernel_rfl) (by kernel_rfl) (by exact fun _ _ _ h => h) (Or.inl ⟨by kernel_rfl, ?yt1231⟩) hHeld ?_
           case yt1231 => (intro ww hSw; (try dsimp only at hSw); clear hSw; go_simp; try (with_reducible rfl))
           try simp only [Act.put, List.setIfInBounds_toArray, List.set_cons_zero, List.set_cons_succ]
           refine wpAnyH_take (i := 10) (v := ?vt1232) (by simp only [List.getElem?_toArray]; rfl) (by kernel_rfl) (by kernel_rfl) (by kernel_rfl) (by exact fun _ _ _ h => h) (Or.inl ⟨by kernel_rfl, ?yt1232⟩) hHeld ?_
           case yt1232 => (intro ww hSw; (try dsimp only at hSw); clear hSw; go_simp; try (with_reducible rfl))
           try simp only [Act.put, List.setIfInBounds_toArray, List.set_cons_zero, List.set_cons_succ]
           refine wpAnyH_ready (rs := [13]) (by kernel_rfl) (by simp) ?_
           refine AllReadyH.cons (by simp only [List.getElem?_toArray]; rfl) (fun KK hKK => ?_) AllReadyH.nil
           rw [if_pos (by kernel_rfl)]
           refine wp_stS (.tmp 19) (.tmp 91) rfl (wd2.heap.size) S1 rfl rfl y4 ?_
           replace y4 := y4.row_ S1
           replace y5 := y5.mod (mod_setRow wc228 (wd2.heap.size) (stA S1)) (fun e => ne45 e.symm)
           replace hb := below_setRow hb (wd2.heap.size) (stA S1) nz_y4
           obtain ⟨ws233, hws⟩ : ∃ ws233, ws233 = wc228.setRow (wd2.heap.size) (stA S1) := ⟨_, rfl⟩
           rw [← hws] at y4 y5 hb ⊢
           clear hws
           refine hKK.out _ _ ?_ (fun hHeld => ?_)
           · exact (by first | exact hb | exact below_drew hb)
           clear hKK KK
           try simp only [Act.put]
           refine wpAnyH_ready (rs := [14]) (by kernel_rfl) (by simp) ?_
           refine AllReadyH.cons (by simp only [List.getElem?_toArray]; rfl) (fun KK hKK => ?_) AllReadyH.nil
           rw [if_pos (by kernel_rfl)]
           refine wp_stO (.tmp 20) (.tmp 92) rfl (wa185.heap.size) F.t sh3 F.e rfl rfl hs3 y5 ?_
           replace y5 := y5.row_ F.t sh3 F.e
           replace y4 := y4.mod (mod_setRow ws233 (wa185.heap.size) (otA F.t sh3 F.e)) ne45
           replace hb := below_setRow hb (wa185.heap.size) (otA F.t sh3 F.e) nz_y5
           obtain ⟨ws234, hws⟩ : ∃ ws234, ws234 = ws233.setRow (wa185.heap.size) (otA F.t sh3 F.e) := ⟨_, rfl⟩
           rw [← hws] at y4 y5 hb ⊢
           clear hws
           refine hKK.out _ _ ?_ (fun hHeld => ?_)
           · exact (by first | exact hb | exact below_drew hb)
           clear hKK KK
           try simp only [Act.put]
           refine wpAnyH_done (by kernel_rfl) ?_ _
           go_wp2_with fail
           go_meet
           exact ⟨_, _, sh3, _, rfl, rfl, rfl, y4, y5, hb⟩
         ·
          rw [if_pos (by kernel_rfl)]
          have nz_y5 : wz.heap.size ≤ wd2.heap.size := hb.size
          refine wp_alO rfl ?_
          obtain ⟨wa235, hwa⟩ : ∃ wa235, wa235 = wd2.alloc (.cells (otA 0 (.slice none 0 0) 0) 53) := ⟨_, rfl⟩
          have h9 : Below wd2.heap.size wd2 wa235 := by rw [hwa]; exact below_alloc1 _ _
          have y5 : OBox wa235 (wd2.heap.size) 0 (.slice none 0 0) 0 := by rw [hwa]; exact OBox.new_ _ _ _ _
          rw [← hwa]
          clear hwa
          replace hb := hb.trans (h9.mono hb.size)
          clear h9
          refine hKK.out _ _ ?_ (fun hHeld => ?_)
          · exact (by first | exact hb | exact below_drew hb)
          clear hKK KK
          try simp only [Act.put, List.setIfInBounds_toArray, List.set_cons_zero, List.set_cons_succ]
          refine wpAnyH_ready (rs := [2, 11]) (by kernel_rfl) (by simp) ?_
          refine AllReadyH.cons (by simp only [List.getElem?_toArray]; rfl) (fun KK hKK => ?_) (AllReadyH.cons (by simp only [List.getElem?_toArray]; rfl) (fun KK hKK => ?_) AllReadyH.nil)
          ·
           rw [if_pos (by kernel_rfl)]
           go_simp
           obtain ⟨wa236, hwa⟩ : ∃ wa236, wa236 = wa235.alloc (.cells #[] 22) := ⟨_, rfl⟩
           have h9 : Below wa235.heap.size wa235 wa236 := by rw [hwa]; exact below_alloc1 _ _
           have row : wa236.ownsRow wz.heap.size 22 1 (.slice (some ⟨wa235.heap.size, 0, none⟩) 0 0) 0 (ms []) := by rw [hwa]; exact World.ownsRow_made wa235 #[] 0 hb.size (by simp [maxLen]) rfl
           have ne_y5 : ∀ j, Value.ownBlock (.slice (some ⟨wa235.heap.size, 0, none⟩) 0 0) = some j → ¬ j = wd2.heap.size := fun j hj => by have e : wa235.heap.size = j := (by simpa [Value.ownBlock] using hj); have := y5.lt; omega
           rw [← hwa]
           clear hwa
           replace y5 := y5.ext h9
           replace hb := hb.trans (h9.mono hb.size)
           clear h9
           refine hKK.out _ _ ?_ (fun hHeld => ?_)
           · exact (by first | exact hb | exact below_drew hb)
           clear hKK KK
           try simp only [Act.put, List.setIfInBounds_toArray, List.set_cons_zero, List.set_cons_succ]
           refine wpAnyH_ready (rs := [4, 11]) (by kernel_rfl) (by simp) ?_
           refine AllReadyH.cons (by simp only [List.getElem?_toArray]; rfl) (fun KK hKK => ?_) (AllReadyH.cons (by simp only [List.getElem?_toArray]; rfl) (fun KK hKK => ?_) AllReadyH.nil)
           ·
            rw [if_pos (by kernel_rfl)]
            have nl_y5 := y5.lt
            refine wp_appU (.tmp 85) (.tmp 86) rfl wz.heap.size (0) (.slice (some ⟨wa235.heap.size, 0, none⟩) 0 0) ([]) rfl row gV (some ⟨gV, 0, none⟩) (k) cV (wholeM g M) rfl (Sl.ext hslV hb) hwl (by omega) hb.size ?_
            intro v4 wa237 row' hgr hloc
            have hB := (Mod.of_grown hgr).below hb.size (fun i hi e => by have := (World.ownsRow.lt row i e).1; omega)
            replace y5 := y5.mod (Mod.of_grown hgr) (fun e => ne_y5 _ e rfl)
            replace ne_y5 : ∀ j, Value.ownBlock v4 = some j → ¬ j = wd2.heap.size := fun j hj => by
              rcases hloc with h | h
              · exact ne_y5 j (h ▸ hj)
              · rw [h] at hj; injection hj with hj; omega
            clear nl_y5
            replace hb := hb.trans hB
            clear hB hgr hloc row
            have row := row'
            clear row'
            refine hKK.out _ _ ?_ (fun hHeld => ?_)
            · exact (by first | exact hb | exact below_drew hb)
            clear hKK KK
            try simp only [Act.put, List.setIfInBounds_toArray, List.set_cons_zero, List.set_cons_succ]
            refine wpAnyH_ready (rs := [6, 11]) (by kernel_rfl) (by simp) ?_
            refine AllReadyH.cons (by simp only [List.getElem?_toArray]; rfl) (fun KK hKK => ?_) (AllReadyH.cons (by simp only [List.getElem?_toArray]; rfl) (fun KK hKK => ?_) AllReadyH.nil)
            ·
             rw [if_pos (by kernel_rfl)]
             have nl_y5 := y5.lt
             refine wp_appU (.tmp 87) (.tmp 88) rfl wz.heap.size (0 + k) v4 ([] ++ wholeM g M) rfl row nb NA (N.length) nc (N) rfl (Sl.ext hN9 hb) rfl (by omega) hb.size ?_
             intro v6 wa238 row' hgr hloc
             have hB := (Mod.of_grown hgr).below hb.size (fun i hi e => by have := (World.ownsRow.lt row i e).1; omega)
             replace y5 := y5.mod (Mod.of_grown hgr) (fun e => ne_y5 _ e rfl)
             replace ne_y5 : ∀ j, Value.ownBlock v6 = some j → ¬ j = wd2.heap.size := fun j hj => by
               rcases hloc with h | h
               · exact ne_y5 j (h ▸ hj)
               · rw [h] at hj; injection hj with hj; omega
             clear nl_y5
             replace hb := hb.trans hB
             clear hB hgr hloc row
             have row := row'
             clear row'
             refine hKK.out _ _ ?_ (fun hHeld => ?_)
             · exact (by first | exact hb | exact below_drew hb)
             clear hKK KK
             try simp only [Act.put, List.setIfInBounds_toArray, List.set_cons_zero, List.set_cons_succ]
             refine wpAnyH_ready (rs := [7, 11]) (by kernel_rfl) (by simp) ?_
             refine AllReadyH.cons (by simp only [List.getElem?_toArray]; rfl) (fun KK hKK => ?_) (AllReadyH.cons (by simp only [List.getElem?_toArray]; rfl) (fun KK hKK => ?_) AllReadyH.nil)
             ·
              rw [if_pos (by kernel_rfl)]
              rcases row.2 with ⟨-, h0⟩ | ⟨g6, c6, cur6, hv6, -⟩
              · exact absurd h0 (by omega)
              subst hv6
              obtain ⟨g7, hs6, hg7⟩ := Sl.of_own row
              have e7 := hg7 g6 rfl
              subst e7
              have hP := hStep (some ⟨g6, 0, none⟩) (wholeM g M ++ N) c6 g6 wa238 (hi9.ext hb) (hT9.ext hb) hs6 (fun x hx => (List.mem_append.1 hx).elim (hwf x) (hfN x)) (by rw [List.length_append, hwl]; simp only [maxLen]; omega) HF3.out
              rw [show (wholeM g M ++ N).length = 0 + k + N.length by rw [List.length_append, hwl]; omega] at hP
              clear hg7 hs6 row ne_y5
              refine wp_callF 17 #[.agg (gmA g s), .agg (stA ⟨C, sd, 0⟩), .slice (some ⟨g6, 0, none⟩) (0 + k + N.length) c6] (by kernel_rfl) ?_
              refine hP.mono ?_
              rintro e wc239 ⟨sh3, rfl, hsh, h9⟩
              have hs3 : sh3.oneCell' = true := by
                rcases hsh.2 with ⟨rfl, -⟩ | ⟨_, _, _, rfl, -⟩ <;> rfl
              clear hsh hP
              replace y5 := y5.ext h9
              replace hb := hb.trans (h9.mono hb.size)
              clear h9
              refine ⟨_, rfl, ?_⟩
              refine hKK.out _ _ ?_ (fun hHeld => ?_)
              · exact (by first | exact hb | exact below_drew hb)
              clear hKK KK
              try simp only [Act.put, List.setIfInBounds_toArray, List.set_cons_zero, List.set_cons_succ]
              refine wpAnyH_take (i := 8) (v := ?vt1241) (by simp only [List.getElem?_toArray]; rfl) (by kernel_rfl) (by kernel_rfl) (by kernel_rfl) (by exact fun _ _ _ h => h) (Or.inl ⟨by kernel_rfl, ?yt1241⟩) hHeld ?_
              case yt1241 => (intro ww hSw; (try dsimp only at hSw); clear hSw; go_simp; try (with_reducible rfl))
              try simp only [Act.put, List.setIfInBounds_toArray, List.set_cons_zero, List.set_cons_succ]
              refine wpAnyH_take (i := 9) (v := ?vt1242) (by simp only [List.getElem?_toArray]; rfl) (by kernel_rfl) (by kernel_rfl) (by kernel_rfl) (by exact fun _ _ _ h => h) (Or.inl ⟨by kernel_rfl, ?yt1242⟩) hHeld ?_
              case yt1242 => (intro ww hSw; (try dsimp only at hSw); clear hSw; go_simp; try (with_reducible rfl))
              try simp only [Act.put, List.setIfInBounds_toArray, List.set_cons_zero, List.set_cons_succ]
              refine wpAnyH_take (i := 10) (v := ?vt1243) (by simp only [List.getElem?_toArray]; rfl) (by kernel_rfl) (by kernel_rfl) (by kernel_rfl) (by exact fun _ _ _ h => h) (Or.inl ⟨by kernel_rfl, ?yt1243⟩) hHeld ?_
              case yt1243 => (intro ww hSw; (try dsimp only at hSw); clear hSw; go_simp; try (with_reducible rfl))
              try simp only [Act.put, List.setIfInBounds_toArray, List.set_cons_zero, List.set_cons_succ]
              refine wpAnyH_ready (rs := [11]) (by kernel_rfl) (by simp) ?_
              refine AllReadyH.cons (by simp only [List.getElem?_toArray]; rfl) (fun KK hKK => ?_) AllReadyH.nil
              rw [if_pos (by kernel_rfl)]
              have ne45 : ¬ wc239.heap.size = wd2.heap.size := by have := y5.lt; omega
              have nz_y4 : wz.heap.size ≤ wc239.heap.size := hb.size
              refine wp_alSt rfl ?_
              obtain ⟨wa244, hwa⟩ : ∃ wa244, wa244 = wc239.alloc (.cells (stA zSt) 46) := ⟨_, rfl⟩
              have h9 : Below wc239.heap.size wc239 wa244 := by rw [hwa]; exact below_alloc1 _ _
              have y4 : BoxS wa244 (wc239.heap.size) zSt := by rw [hwa]; exact BoxS.new_ _ _
              rw [← hwa]
              clear hwa
              replace y5 := y5.ext h9
              replace hb := hb.trans (h9.mono hb.size)
              clear h9
              refine hKK.out _ _ ?_ (fun hHeld => ?_)
              · exact (by first | exact hb | exact below_drew hb)
              clear hKK KK
              try simp only [Act.put, List.setIfInBounds_toArray, List.set_cons_zero, List.set_cons_succ]
              refine wpAnyH_ready (rs := [13]) (by kernel_rfl) (by simp) ?_
              refine AllReadyH.cons (by simp only [List.getElem?_toArray]; rfl) (fun KK hKK => ?_) AllReadyH.nil
              rw [if_pos (by kernel_rfl)]
              refine wp_stS (.tmp 19) (.tmp 91) rfl (wc239.heap.size) S1 rfl rfl y4 ?_
              replace y4 := y4.row_ S1
              replace y5 := y5.mod (mod_setRow wa244 (wc239.heap.size) (stA S1)) (fun e => ne45 e.symm)
              replace hb := below_setRow hb (wc239.heap.size) (stA S1) nz_y4
              obtain ⟨ws245, hws⟩ : ∃ ws245, ws245 = wa244.setRow (wc239.heap.size) (stA S1) := ⟨_, rfl⟩
              rw [← hws] at y4 y5 hb ⊢
              clear hws
              refine hKK.out _ _ ?_ (fun hHeld => ?_)
              · exact (by first | exact hb | exact below_drew hb)
              clear hKK KK
              try simp only [Act.put]
              refine wpAnyH_ready (rs := [14]) (by kernel_rfl) (by simp) ?_
              refine AllReadyH.cons (by simp only [List.getElem?_toArray]; rfl) (fun KK hKK => ?_) AllReadyH.nil
              rw [if_pos (by kernel_rfl)]
              refine wp_stO (.tmp 20) (.tmp 92) rfl (wd2.heap.size) F.t sh3 F.e rfl rfl hs3 y5 ?_
              replace y5 := y5.row_ F.t sh3 F.e
              replace y4 := y4.mod (mod_setRow ws245 (wd2.heap.size) (otA F.t sh3 F.e)) ne45
              replace hb := below_setRow hb (wd2.heap.size) (otA F.t sh3 F.e) nz_y5
              obtain ⟨ws246, hws⟩ : ∃ ws246, ws246 = ws245.setRow (wd2.heap.size) (otA F.t sh3 F.e) := ⟨_, rfl⟩
              rw [← hws] at y4 y5 hb ⊢
              clear hws
              refine hKK.out _ _ ?_ (fun hHeld => ?_)
              · exact (by first | exact hb | exact below_drew hb)
              clear hKK KK
              try simp only [Act.put]
              refine wpAnyH_done (by kernel_rfl) ?_ _
              go_wp2_with fail
              go_meet
              exact ⟨_, _, sh3, _, rfl, rfl, rfl, y4, y5, hb⟩
             ·
              rw [if_pos (by kernel_rfl)]
              have ne45 : ¬ wa238.heap.size = wd2.heap.size := by have := y5.lt; omega
              have ne_y4 : ∀ j, Value.ownBlock v6 = some j → ¬ j = wa238.heap.size := fun j hj => by have := (World.ownsRow.lt row j hj).2; omega
              have nz_y4 : wz.heap.size ≤ wa238.heap.size := hb.size
              refine wp_alSt rfl ?_
              obtain ⟨wa247, hwa⟩ : ∃ wa247, wa247 = wa238.alloc (.cells (stA zSt) 46) := ⟨_, rfl⟩
              have h9 : Below wa238.heap.size wa238 wa247 := by rw [hwa]; exact below_alloc1 _ _
              have y4 : BoxS wa247 (wa238.heap.size) zSt := by rw [hwa]; exact BoxS.new_ _ _
              rw [← hwa]
              clear hwa
              replace y5 := y5.ext h9
              replace row := own_ext row h9
              replace hb := hb.trans (h9.mono hb.size)
              clear h9
              refine hKK.out _ _ ?_ (fun hHeld => ?_)
              · exact (by first | exact hb | exact below_drew hb)
              clear hKK KK
              try simp only [Act.put, List.setIfInBounds_toArray, List.set_cons_zero, List.set_cons_succ]
              refine wpAnyH_ready (rs := [7]) (by kernel_rfl) (by simp) ?_
              refine AllReadyH.cons (by simp only [List.getElem?_toArray]; rfl) (fun KK hKK => ?_) AllReadyH.nil
              rw [if_pos (by kernel_rfl)]
              rcases row.2 with ⟨-, h0⟩ | ⟨g6, c6, cur6, hv6, -⟩
              · exact absurd h0 (by omega)
              subst hv6
              obtain ⟨g7, hs6, hg7⟩ := Sl.of_own row
              have e7 := hg7 g6 rfl
              subst e7
              have hP := hStep (some ⟨g6, 0, none⟩) (wholeM g M ++ N) c6 g6 wa247 (hi9.ext hb) (hT9.ext hb) hs6 (fun x hx => (List.mem_append.1 hx).elim (hwf x) (hfN x)) (by rw [List.length_append, hwl]; simp only [maxLen]; omega) HF3.out
              rw [show (wholeM g M ++ N).length = 0 + k + N.length by rw [List.length_append, hwl]; omega] at hP
              clear hg7 hs6 row ne_y4 ne_y5
              refine wp_callF 17 #[.agg (gmA g s), .agg (stA ⟨C, sd, 0⟩), .slice (some ⟨g6, 0, none⟩) (0 + k + N.length) c6] (by kernel_rfl) ?_
              refine hP.mono ?_
              rintro e wc248 ⟨sh3, rfl, hsh, h9⟩
              have hs3 : sh3.oneCell' = true := by
                rcases hsh.2 with ⟨rfl, -⟩ | ⟨_, _, _, rfl, -⟩ <;> rfl
              clear hsh hP
              replace y5 := y5.ext h9
              replace y4 := y4.ext h9
              replace hb := hb.trans (h9.mono hb.size)
              clear h9
              refine ⟨_, rfl, ?_⟩
              refine hKK.out _ _ ?_ (fun hHeld => ?_)
              · exact (by first | exact hb | exact below_drew hb)
              clear hKK KK
              try simp only [Act.put, List.setIfInBounds_toArray, List.set_cons_zero, List.set_cons_succ]
              refine wpAnyH_take (i := 8) (v := ?vt1250) (by simp only [List.getElem?_toArray]; rfl) (by kernel_rfl) (by kernel_rfl) (by kernel_rfl) (by exact fun _ _ _ h => h) (Or.inl ⟨by kernel_rfl, ?yt1250⟩) hHeld ?_
              case yt1250 => (intro ww hSw; (try dsimp only at hSw); clear hSw; go_simp; try (with_reducible rfl))
              try simp only [Act.put, List.setIfInBounds_toArray, List.set_cons_zero, List.set_cons_succ]
              refine wpAnyH_take (i := 9) (v := ?vt1251) (by simp only [List.getElem?_toArray]; rfl) (by kernel_rfl) (by kernel_rfl) (by kernel_rfl) (by exact fun _ _ _ h => h) (Or.inl ⟨by kernel_rfl, ?yt1251⟩) hHeld ?_
              case yt1251 => (intro ww hSw; (try dsimp only at hSw); clear hSw; go_simp; try (with_reducible rfl))
              try simp only [Act.put, List.setIfInBounds_toArray, List.set_cons_zero, List.set_cons_succ]
              refine wpAnyH_take (i := 10) (v := ?vt1252) (by simp only [List.getElem?_toArray]; rfl) (by kernel_rfl) (by kernel_rfl) (by kernel_rfl) (by exact fun _ _ _ h => h) (Or.inl ⟨by kernel_rfl, ?yt1252⟩) hHeld ?_
              case yt1252 => (intro ww hSw; (try dsimp only at hSw); clear hSw; go_simp; try (with_reducible rfl))
              try simp only [Act.put, List.setIfInBounds_toArray, List.set_cons_zero, List.set_cons_succ]
              refine wpAnyH_ready (rs := [13]) (by kernel_rfl) (by simp) ?_
              refine AllReadyH.cons (by simp only [List.getElem?_toArray]; rfl) (fun KK hKK => ?_) AllReadyH.nil
              rw [if_pos (by kernel_rfl)]
              refine wp_stS (.tmp 19) (.tmp 91) rfl (wa238.heap.size) S1 rfl rfl y4 ?_
              replace y4 := y4.row_ S1
              replace y5 := y5.mod (mod_setRow wc248 (wa238.heap.size) (stA S1)) (fun e => ne45 e.symm)
              replace hb := below_setRow hb (wa238.heap.size) (stA S1) nz_y4
              obtain ⟨ws253, hws⟩ : ∃ ws253, ws253 = wc248.setRow (wa238.heap.size) (stA S1) := ⟨_, rfl⟩
              rw [← hws] at y4 y5 hb ⊢
              clear hws
              refine hKK.out _ _ ?_ (fun hHeld => ?_)
              · exact (by first | exact hb | exact below_drew hb)
              clear hKK KK
              try simp only [Act.put]
              refine wpAnyH_ready (rs := [14]) (by kernel_rfl) (by simp) ?_
              refine AllReadyH.cons (by simp only [List.getElem?_toArray]; rfl) (fun KK hKK => ?_) AllReadyH.nil
              rw [if_pos (by kernel_rfl)]
              refine wp_stO (.tmp 20) (.tmp 92) rfl (wd2.heap.size) F.t sh3 F.e rfl rfl hs3 y5 ?_
              replace y5 := y5.row_ F.t sh3 F.e
              replace y4 := y4.mod (mod_setRow ws253 (wd2.heap.size) (otA F.t sh3 F.e)) ne45
              replace hb := below_setRow hb (wd2.heap.size) (otA F.t sh3 F.e) nz_y5
              obtain ⟨ws254, hws⟩ : ∃ ws254, ws254 = ws253.setRow (wd2.heap.size) (otA F.t sh3 F.e) := ⟨_, rfl⟩
              rw [← hws] at y4 y5 hb ⊢
              clear hws
              refine hKK.out _ _ ?_ (fun hHeld => ?_)
              · exact (by first | exact hb | exact below_drew hb)
              clear hKK KK
              try simp only [Act.put]
              refine wpAnyH_done (by kernel_rfl) ?_ _
              go_wp2_with fail
              go_meet
              exact ⟨_, _, sh3, _, rfl, rfl, rfl, y4, y5, hb⟩
            ·
             rw [if_pos (by kernel_rfl)]
             have ne45 : ¬ wa237.heap.size = wd2.heap.size := by have := y5.lt; omega
             have ne_y4 : ∀ j, Value.ownBlock v4 = some j → ¬ j = wa237.heap.size := fun j hj => by have := (World.ownsRow.lt row j hj).2; omega
             have nz_y4 : wz.heap.size ≤ wa237.heap.size := hb.size
             refine wp_alSt rfl ?_
             obtain ⟨wa255, hwa⟩ : ∃ wa255, wa255 = wa237.alloc (.cells (stA zSt) 46) := ⟨_, rfl⟩
             have h9 : Below wa237.heap.size wa237 wa255 := by rw [hwa]; exact below_alloc1 _ _
             have y4 : BoxS wa255 (wa237.heap.size) zSt := by rw [hwa]; exact BoxS.new_ _ _
             rw [← hwa]
             clear hwa
             replace y5 := y5.ext h9
             replace row := own_ext row h9
             replace hb := hb.trans (h9.mono hb.size)
             clear h9
             refine hKK.out _ _ ?_ (fun hHeld => ?_)
             · exact (by first | exact hb | exact below_drew hb)
             clear hKK KK
             try simp only [Act.put, List.setIfInBounds_toArray, List.set_cons_zero, List.set_cons_succ]
             refine wpAnyH_ready (rs := [6]) (by kernel_rfl) (by simp) ?_
             refine AllReadyH.cons (by simp only [List.getElem?_toArray]; rfl) (fun KK hKK => ?_) AllReadyH.nil
             rw [if_pos (by kernel_rfl)]
             have nl_y4 := y4.lt
             have nl_y5 := y5.lt
             refine wp_appU (.tmp 87) (.tmp 88) rfl wz.heap.size (0 + k) v4 ([] ++ wholeM g M) rfl row nb NA (N.length) nc (N) rfl (Sl.ext hN9 hb) rfl (by omega) hb.size ?_
             intro v6 wa256 row' hgr hloc
             have hB := (Mod.of_grown hgr).below hb.size (fun i hi e => by have := (World.ownsRow.lt row i e).1; omega)
             replace y4 := y4.mod (Mod.of_grown hgr) (fun e => ne_y4 _ e rfl)
             replace ne_y4 : ∀ j, Value.ownBlock v6 = some j → ¬ j = wa237.heap.size := fun j hj => by
               rcases hloc with h | h
               · exact ne_y4 j (h ▸ hj)
               · rw [h] at hj; injection hj with hj; omega
             clear nl_y4
             replace y5 := y5.mod (Mod.of_grown hgr) (fun e => ne_y5 _ e rfl)
             replace ne_y5 : ∀ j, Value.ownBlock v6 = some j → ¬ j = wd2.heap.size := fun j hj => by
               rcases hloc with h | h
               · exact ne_y5 j (h ▸ hj)
               · rw [h] at hj; injection hj with hj; omega
             clear nl_y5
             replace hb := hb.trans hB
             clear hB hgr hloc row
             have row := row'
             clear row'
             refine hKK.out _ _ ?_ (fun hHeld => ?_)
             · exact (by first | exact hb | exact below_drew hb)
             clear hKK KK
             try simp only [Act.put, List.setIfInBounds_toArray, List.set_cons_zero, List.set_cons_succ]
             refine wpAnyH_ready (rs := [7]) (by kernel_rfl) (by simp) ?_
             refine AllReadyH.cons (by simp only [List.getElem?_toArray]; rfl) (fun KK hKK => ?_) AllReadyH.nil
             rw [if_pos (by kernel_rfl)]
             rcases row.2 with ⟨-, h0⟩ | ⟨g6, c6, cur6, hv6, -⟩
             · exact absurd h0 (by omega)
             subst hv6
             obtain ⟨g7, hs6, hg7⟩ := Sl.of_own row
             have e7 := hg7 g6 rfl
             subst e7
             have hP := hStep (some ⟨g6, 0, none⟩) (wholeM g M ++ N) c6 g6 wa256 (hi9.ext hb) (hT9.ext hb) hs6 (fun x hx => (List.mem_append.1 hx).elim (hwf x) (hfN x)) (by rw [List.length_append, hwl]; simp only [maxLen]; omega) HF3.out
             rw [show (wholeM g M ++ N).length = 0 + k + N.length by rw [List.length_append, hwl]; omega] at hP
             clear hg7 hs6 row ne_y4 ne_y5
             refine wp_callF 17 #[.agg (gmA g s), .agg (stA ⟨C, sd, 0⟩), .slice (some ⟨g6, 0, none⟩) (0 + k + N.length) c6] (by kernel_rfl) ?_
             refine hP.mono ?_
             rintro e wc257 ⟨sh3, rfl, hsh, h9⟩
             have hs3 : sh3.oneCell' = true := by
               rcases hsh.2 with ⟨rfl, -⟩ | ⟨_, _, _, rfl, -⟩ <;> rfl
             clear hsh hP
             replace y5 := y5.ext h9
             replace y4 := y4.ext h9
             replace hb := hb.trans (h9.mono hb.size)
             clear h9
             refine ⟨_, rfl, ?_⟩
             refine hKK.out _ _ ?_ (fun hHeld => ?_)
             · exact (by first | exact hb | exact below_drew hb)
             clear hKK KK
             try simp only [Act.put, List.setIfInBounds_toArray, List.set_cons_zero, List.set_cons_succ]
             refine wpAnyH_take (i := 8) (v := ?vt1259) (by simp only [List.getElem?_toArray]; rfl) (by kernel_rfl) (by kernel_rfl) (by kernel_rfl) (by exact fun _ _ _ h => h) (Or.inl ⟨by kernel_rfl, ?yt1259⟩) hHeld ?_
             case yt1259 => (intro ww hSw; (try dsimp only at hSw); clear hSw; go_simp; try (with_reducible rfl))
             try simp only [Act.put, List.setIfInBounds_toArray, List.set_cons_zero, List.set_cons_succ]
             refine wpAnyH_take (i := 9) (v := ?vt1260) (by simp only [List.getElem?_toArray]; rfl) (by kernel_rfl) (by kernel_rfl) (by kernel_rfl) (by exact fun _ _ _ h => h) (Or.inl ⟨by kernel_rfl, ?yt1260⟩) hHeld ?_
             case yt1260 => (intro ww hSw; (try dsimp only at hSw); clear hSw; go_simp; try (with_reducible rfl))
             try simp only [Act.put, List.setIfInBounds_toArray, List.set_cons_zero, List.set_cons_succ]
             refine wpAnyH_take (i := 10) (v := ?vt1261) (by simp only [List.getElem?_toArray]; rfl) (by kernel_rfl) (by kernel_rfl) (by kernel_rfl) (by exact fun _ _ _ h => h) (Or.inl ⟨by kernel_rfl, ?yt1261⟩) hHeld ?_
             case yt1261 => (intro ww hSw; (try dsimp only at hSw); clear hSw; go_simp; try (with_reducible rfl))
             try simp only [Act.put, List.setIfInBounds_toArray, List.set_cons_zero, List.set_cons_succ]
             refine wpAnyH_ready (rs := [13]) (by kernel_rfl) (by simp) ?_
             refine AllReadyH.cons (by simp only [List.getElem?_toArray]; rfl) (fun KK hKK => ?_) AllReadyH.nil
             rw [if_pos (by kernel_rfl)]
             refine wp_stS (.tmp 19) (.tmp 91) rfl (wa237.heap.size) S1 rfl rfl y4 ?_
             replace y4 := y4.row_ S1
             replace y5 := y5.mod (mod_setRow wc257 (wa237.heap.size) (stA S1)) (fun e => ne45 e.symm)
             replace hb := below_setRow hb (wa237.heap.size) (stA S1) nz_y4
             obtain ⟨ws262, hws⟩ : ∃ ws262, ws262 = wc257.setRow (wa237.heap.size) (stA S1) := ⟨_, rfl⟩
             rw [← hws] at y4 y5 hb ⊢
             clear hws
             refine hKK.out _ _ ?_ (fun hHeld => ?_)
             · exact (by first | exact hb | exact below_drew hb)
             clear hKK KK
             try simp only [Act.put]
             refine wpAnyH_ready (rs := [14]) (by kernel_rfl) (by simp) ?_
             refine AllReadyH.cons (by simp only [List.getElem?_toArray]; rfl) (fun KK hKK => ?_) AllReadyH.nil
             rw [if_pos (by kernel_rfl)]
             refine wp_stO (.tmp 20) (.tmp 92) rfl (wd2.heap.size) F.t sh3 F.e rfl rfl hs3 y5 ?_
             replace y5 := y5.row_ F.t sh3 F.e
             replace y4 := y4.mod (mod_setRow ws262 (wd2.heap.size) (otA F.t sh3 F.e)) ne45
             replace hb := below_setRow hb (wd2.heap.size) (otA F.t sh3 F.e) nz_y5
             obtain ⟨ws263, hws⟩ : ∃ ws263, ws263 = ws262.setRow (wd2.heap.size) (otA F.t sh3 F.e) := ⟨_, rfl⟩
             rw [← hws] at y4 y5 hb ⊢
             clear hws
             refine hKK.out _ _ ?_ (fun hHeld => ?_)
             · exact (by first | exact hb | exact below_drew hb)
             clear hKK KK
             try simp only [Act.put]
             refine wpAnyH_done (by kernel_rfl) ?_ _
             go_wp2_with fail
             go_meet
             exact ⟨_, _, sh3, _, rfl, rfl, rfl, y4, y5, hb⟩
           ·
            rw [if_pos (by kernel_rfl)]
            have ne45 : ¬ wa236.heap.size = wd2.heap.size := by have := y5.lt; omega
            have ne_y4 : ∀ j, Value.ownBlock (.slice (some ⟨wa235.heap.size, 0, none⟩) 0 0) = some j → ¬ j = wa236.heap.size := fun j hj => by have := (World.ownsRow.lt row j hj).2; omega
            have nz_y4 : wz.heap.size ≤ wa236.heap.size := hb.size
            refine wp_alSt rfl ?_
            obtain ⟨wa264, hwa⟩ : ∃ wa264, wa264 = wa236.alloc (.cells (stA zSt) 46) := ⟨_, rfl⟩
            have h9 : Below wa236.heap.size wa236 wa264 := by rw [hwa]; exact below_alloc1 _ _
            have y4 : BoxS wa264 (wa236.heap.size) zSt := by rw [hwa]; exact BoxS.new_ _ _
            rw [← hwa]
            clear hwa
            replace y5 := y5.ext h9
            replace row := own_ext row h9
            replace hb := hb.trans (h9.mono hb.size)
            clear h9
            refine hKK.out _ _ ?_ (fun hHeld => ?_)
            · exact (by first | exact hb | exact below_drew hb)
            clear hKK KK
            try simp only [Act.put, List.setIfInBounds_toArray, List.set_cons_zero, List.set_cons_succ]
            refine wpAnyH_ready (rs := [4]) (by kernel_rfl) (by simp) ?_
            refine AllReadyH.cons (by simp only [List.getElem?_toArray]; rfl) (fun KK hKK => ?_) AllReadyH.nil
            rw [if_pos (by kernel_rfl)]
            have nl_y4 := y4.lt
            have nl_y5 := y5.lt
            refine wp_appU (.tmp 85) (.tmp 86) rfl wz.heap.size (0) (.slice (some ⟨wa235.heap.size, 0, none⟩) 0 0) ([]) rfl row gV (some ⟨gV, 0, none⟩) (k) cV (wholeM g M) rfl (Sl.ext hslV hb) hwl (by omega) hb.size ?_
            intro v4 wa265 row' hgr hloc
            have hB := (Mod.of_grown hgr).below hb.size (fun i hi e => by have := (World.ownsRow.lt row i e).1; omega)
            replace y4 := y4.mod (Mod.of_grown hgr) (fun e => ne_y4 _ e rfl)
            replace ne_y4 : ∀ j, Value.ownBlock v4 = some j → ¬ j = wa236.heap.size := fun j hj => by
              rcases hloc with h | h
              · exact ne_y4 j (h ▸ hj)
              · rw [h] at hj; injection hj with hj; omega
            clear nl_y4
            replace y5 := y5.mod (Mod.of_grown hgr) (fun e => ne_y5 _ e rfl)
            replace ne_y5 : ∀ j, Value.ownBlock v4 = some j → ¬ j = wd2.heap.size := fun j hj => by
              rcases hloc with h | h
              · exact ne_y5 j (h ▸ hj)
              · rw [h] at hj; injection hj with hj; omega
            clear nl_y5
            replace hb := hb.trans hB
            clear hB hgr hloc row
            have row := row'
            clear row'
            refine hKK.out _ _ ?_ (fun hHeld => ?_)
            · exact (by first | exact hb | exact below_drew hb)
            clear hKK KK
            try simp only [Act.put, List.setIfInBounds_toArray, List.set_cons_zero, List.set_cons_succ]
            refine wpAnyH_ready (rs := [6]) (by kernel_rfl) (by simp) ?_
            refine AllReadyH.cons (by simp only [List.getElem?_toArray]; rfl) (fun KK hKK => ?_) AllReadyH.nil
            rw [if_pos (by kernel_rfl)]
            have nl_y4 := y4.lt
            have nl_y5 := y5.lt
            refine wp_appU (.tmp 87) (.tmp 88) rfl wz.heap.size (0 + k) v4 ([] ++ wholeM g M) rfl row nb NA (N.length) nc (N) rfl (Sl.ext hN9 hb) rfl (by omega) hb.size ?_
            intro v6 wa266 row' hgr hloc
            have hB := (Mod.of_grown hgr).below hb.size (fun i hi e => by have := (World.ownsRow.lt row i e).1; omega)
            replace y4 := y4.mod (Mod.of_grown hgr) (fun e => ne_y4 _ e rfl)
            replace ne_y4 : ∀ j, Value.ownBlock v6 = some j → ¬ j = wa236.heap.size := fun j hj => by
              rcases hloc with h | h
              · exact ne_y4 j (h ▸ hj)
              · rw [h] at hj; injection hj with hj; omega
            clear nl_y4
            replace y5 := y5.mod (Mod.of_grown hgr) (fun e => ne_y5 _ e rfl)
            replace ne_y5 : ∀ j, Value.ownBlock v6 = some j → ¬ j = wd2.heap.size := fun j hj => by
              rcases hloc with h | h
              · exact ne_y5 j (h ▸ hj)
              · rw [h] at hj; injection hj with hj; omega
            clear nl_y5
            replace hb := hb.trans hB
            clear hB hgr hloc row
            have row := row'
            clear row'
            refine hKK.out _ _ ?_ (fun hHeld => ?_)
            · exact (by first | exact hb | exact below_drew hb)
            clear hKK KK
            try simp only [Act.put, List.setIfInBounds_toArray, List.set_cons_zero, List.set_cons_succ]
            refine wpAnyH_ready (rs := [7]) (by kernel_rfl) (by simp) ?_
            refine AllReadyH.cons (by simp only [List.getElem?_toArray]; rfl) (fun KK hKK => ?_) AllReadyH.nil
            rw [if_pos (by kernel_rfl)]
            rcases row.2 with ⟨-, h0⟩ | ⟨g6, c6, cur6, hv6, -⟩
            · exact absurd h0 (by omega)
            subst hv6
            obtain ⟨g7, hs6, hg7⟩ := Sl.of_own row
            have e7 := hg7 g6 rfl
            subst e7
            have hP := hStep (some ⟨g6, 0, none⟩) (wholeM g M ++ N) c6 g6 wa266 (hi9.ext hb) (hT9.ext hb) hs6 (fun x hx => (List.mem_append.1 hx).elim (hwf x) (hfN x)) (by rw [List.length_append, hwl]; simp only [maxLen]; omega) HF3.out
            rw [show (wholeM g M ++ N).length = 0 + k + N.length by rw [List.length_append, hwl]; omega] at hP
            clear hg7 hs6 row ne_y4 ne_y5
            refine wp_callF 17 #[.agg (gmA g s), .agg (stA ⟨C, sd, 0⟩), .slice (some ⟨g6, 0, none⟩) (0 + k + N.length) c6] (by kernel_rfl) ?_
            refine hP.mono ?_
            rintro e wc267 ⟨sh3, rfl, hsh, h9⟩
            have hs3 : sh3.oneCell' = true := by
              rcases hsh.2 with ⟨rfl, -⟩ | ⟨_, _, _, rfl, -⟩ <;> rfl
            clear hsh hP
            replace y5 := y5.ext h9
            replace y4 := y4.ext h9
            replace hb := hb.trans (h9.mono hb.size)
            clear h9
            refine ⟨_, rfl, ?_⟩
            refine hKK.out _ _ ?_ (fun hHeld => ?_)
            · exact (by first | exact hb | exact below_drew hb)
            clear hKK KK
            try simp only [Act.put, List.setIfInBounds_toArray, List.set_cons_zero, List.set_cons_succ]
            refine wpAnyH_take (i := 8) (v := ?vt1269) (by simp only [List.getElem?_toArray]; rfl) (by kernel_rfl) (by kernel_rfl) (by kernel_rfl) (by exact fun _ _ _ h => h) (Or.inl ⟨by kernel_rfl, ?yt1269⟩) hHeld ?_
            case yt1269 => (intro ww hSw; (try dsimp only at hSw); clear hSw; go_simp; try (with_reducible rfl))
            try simp only [Act.put, List.setIfInBounds_toArray, List.set_cons_zero, List.set_cons_succ]
            refine wpAnyH_take (i := 9) (v := ?vt1270) (by simp only [List.getElem?_toArray]; rfl) (by kernel_rfl) (by kernel_rfl) (by kernel_rfl) (by exact fun _ _ _ h => h) (Or.inl ⟨by kernel_rfl, ?yt1270⟩) hHeld ?_
            case yt1270 => (intro ww hSw; (try dsimp only at hSw); clear hSw; go_simp; try (with_reducible rfl))
            try simp only [Act.put, List.setIfInBounds_toArray, List.set_cons_zero, List.set_cons_succ]
            refine wpAnyH_take (i := 10) (v := ?vt1271) (by simp only [List.getElem?_toArray]; rfl) (by kernel_rfl) (by kernel_rfl) (by kernel_rfl) (by exact fun _ _ _ h => h) (Or.inl ⟨by kernel_rfl, ?yt1271⟩) hHeld ?_
            case yt1271 => (intro ww hSw; (try dsimp only at hSw); clear hSw; go_simp; try (with_reducible rfl))
            try simp only [Act.put, List.setIfInBounds_toArray, List.set_cons_zero, List.set_cons_succ]
            refine wpAnyH_ready (rs := [13]) (by kernel_rfl) (by simp) ?_
            refine AllReadyH.cons (by simp only [List.getElem?_toArray]; rfl) (fun KK hKK => ?_) AllReadyH.nil
            rw [if_pos (by kernel_rfl)]
            refine wp_stS (.tmp 19) (.tmp 91) rfl (wa236.heap.size) S1 rfl rfl y4 ?_
            replace y4 := y4.row_ S1
            replace y5 := y5.mod (mod_setRow wc267 (wa236.heap.size) (stA S1)) (fun e => ne45 e.symm)
            replace hb := below_setRow hb (wa236.heap.size) (stA S1) nz_y4
            obtain ⟨ws272, hws⟩ : ∃ ws272, ws272 = wc267.setRow (wa236.heap.size) (stA S1) := ⟨_, rfl⟩
            rw [← hws] at y4 y5 hb ⊢
            clear hws
            refine hKK.out _ _ ?_ (fun hHeld => ?_)
            · exact (by first | exact hb | exact below_drew hb)
            clear hKK KK
            try simp only [Act.put]
            refine wpAnyH_ready (rs := [14]) (by kernel_rfl) (by simp) ?_
            refine AllReadyH.cons (by simp only [List.getElem?_toArray]; rfl) (fun KK hKK => ?_) AllReadyH.nil
            rw [if_pos (by kernel_rfl)]
            refine wp_stO (.tmp 20) (.tmp 92) rfl (wd2.heap.size) F.t sh3 F.e rfl rfl hs3 y5 ?_
            replace y5 := y5.row_ F.t sh3 F.e
            replace y4 := y4.mod (mod_setRow ws272 (wd2.heap.size) (otA F.t sh3 F.e)) ne45
            replace hb := below_setRow hb (wd2.heap.size) (otA F.t sh3 F.e) nz_y5
            obtain ⟨ws273, hws⟩ : ∃ ws273, ws273 = ws272.setRow (wd2.heap.size) (otA F.t sh3 F.e) := ⟨_, rfl⟩
            rw [← hws] at y4 y5 hb ⊢
            clear hws
            refine hKK.out _ _ ?_ (fun hHeld => ?_)
            · exact (by first | exact hb | exact below_drew hb)
            clear hKK KK
            try simp only [Act.put]
            refine wpAnyH_done (by kernel_rfl) ?_ _
            go_wp2_with fail
            go_meet
            exact ⟨_, _, sh3, _, rfl, rfl, rfl, y4, y5, hb⟩
          ·
           rw [if_pos (by kernel_rfl)]
           have ne45 : ¬ wa235.heap.size = wd2.heap.size := by have := y5.lt; omega
           have nz_y4 : wz.heap.size ≤ wa235.heap.size := hb.size
           refine wp_alSt rfl ?_
           obtain ⟨wa274, hwa⟩ : ∃ wa274, wa274 = wa235.alloc (.cells (stA zSt) 46) := ⟨_, rfl⟩
           have h9 : Below wa235.heap.size wa235 wa274 := by rw [hwa]; exact below_alloc1 _ _
           have y4 : BoxS wa274 (wa235.heap.size) zSt := by rw [hwa]; exact BoxS.new_ _ _
           rw [← hwa]
           clear hwa
           replace y5 := y5.ext h9
           replace hb := hb.trans (h9.mono hb.size)
           clear h9
           refine hKK.out _ _ ?_ (fun hHeld => ?_)
           · exact (by first | exact hb | exact below_drew hb)
           clear hKK KK
           try simp only [Act.put, List.setIfInBounds_toArray, List.set_cons_zero, List.set_cons_succ]
           refine wpAnyH_ready (rs := [2]) (by kernel_rfl) (by simp) ?_
           refine AllReadyH.cons (by simp only [List.getElem?_toArray]; rfl) (fun KK hKK => ?_) AllReadyH.nil
           rw [if_pos (by kernel_rfl)]
           go_simp
           obtain ⟨wa275, hwa⟩ : ∃ wa275, wa275 = wa274.alloc (.cells #[] 22) := ⟨_, rfl⟩
           have h9 : Below wa274.heap.size wa274 wa275 := by rw [hwa]; exact below_alloc1 _ _
           have row : wa275.ownsRow wz.heap.size 22 1 (.slice (some ⟨wa274.heap.size, 0, none⟩) 0 0) 0 (ms []) := by rw [hwa]; exact World.ownsRow_made wa274 #[] 0 hb.size (by simp [maxLen]) rfl
           have ne_y4 : ∀ j, Value.ownBlock (.slice (some ⟨wa274.heap.size, 0, none⟩) 0 0) = some j → ¬ j = wa235.heap.size := fun j hj => by have e : wa274.heap.size = j := (by simpa [Value.ownBlock] using hj); have := y4.lt; omega
           have ne_y5 : ∀ j, Value.ownBlock (.slice (some ⟨wa274.heap.size, 0, none⟩) 0 0) = some j → ¬ j = wd2.heap.size := fun j hj => by have e : wa274.heap.size = j := (by simpa [Value.ownBlock] using hj); have := y5.lt; omega
           rw [← hwa]
           clear hwa
           replace y5 := y5.ext h9
           replace y4 := y4.ext h9
           replace hb := hb.trans (h9.mono hb.size)
           clear h9
           refine hKK.out _ _ ?_ (fun hHeld => ?_)
           · exact (by first | exact hb | exact below_drew hb)
           clear hKK KK
           try simp only [Act.put, List.setIfInBounds_toArray, List.set_cons_zero, List.set_cons_succ]
           refine wpAnyH_ready (rs := [4]) (by kernel_rfl) (by simp) ?_
           refine AllReadyH.cons (by simp only [List.getElem?_toArray]; rfl) (fun KK hKK => ?_) AllReadyH.nil
           rw [if_pos (by kernel_rfl)]
           have nl_y4 := y4.lt
           have nl_y5 := y5.lt
           refine wp_appU (.tmp 85) (.tmp 86) rfl wz.heap.size (0) (.slice (some ⟨wa274.heap.size, 0, none⟩) 0 0) ([]) rfl row gV (some ⟨gV, 0, none⟩) (k) cV (wholeM g M) rfl (Sl.ext hslV hb) hwl (by omega) hb.size ?_
           intro v4 wa276 row' hgr hloc
           have hB := (Mod.of_grown hgr).below hb.size (fun i hi e => by have := (World.ownsRow.lt row i e).1; omega)
           replace y4 := y4.mod (Mod.of_grown hgr) (fun e => ne_y4 _ e rfl)
           replace ne_y4 : ∀ j, Value.ownBlock v4 = some j → ¬ j = wa235.heap.size := fun j hj => by
             rcases hloc with h | h
             · exact ne_y4 j (h ▸ hj)
             · rw [h] at hj; injection hj with hj; omega
           clear nl_y4
           replace y5 := y5.mod (Mod.of_grown hgr) (fun e => ne_y5 _ e rfl)
           replace ne_y5 : ∀ j, Value.ownBlock v4 = some j → ¬ j = wd2.heap.size := fun j hj => by
             rcases hloc with h | h
             · exact ne_y5 j (h ▸ hj)
             · rw [h] at hj; injection hj with hj; omega
           clear nl_y5
           replace hb := hb.trans hB
           clear hB hgr hloc row
           have row := row'
           clear row'
           refine hKK.out _ _ ?_ (fun hHeld => ?_)
           · exact (by first | exact hb | exact below_drew hb)
           clear hKK KK
           try simp only [Act.put, List.setIfInBounds_toArray, List.set_cons_zero, List.set_cons_succ]
           refine wpAnyH_ready (rs := [6]) (by kernel_rfl) (by simp) ?_
           refine AllReadyH.cons (by simp only [List.getElem?_toArray]; rfl) (fun KK hKK => ?_) AllReadyH.nil
           rw [if_pos (by kernel_rfl)]
           have nl_y4 := y4.lt
           have nl_y5 := y5.lt
           refine wp_appU (.tmp 87) (.tmp 88) rfl wz.heap.size (0 + k) v4 ([] ++ wholeM g M) rfl row nb NA (N.length) nc (N) rfl (Sl.ext hN9 hb) rfl (by omega) hb.size ?_
           intro v6 wa277 row' hgr hloc
           have hB := (Mod.of_grown hgr).below hb.size (fun i hi e => by have := (World.ownsRow.lt row i e).1; omega)
           replace y4 := y4.mod (Mod.of_grown hgr) (fun e => ne_y4 _ e rfl)
           replace ne_y4 : ∀ j, Value.ownBlock v6 = some j → ¬ j = wa235.heap.size := fun j hj => by
             rcases hloc with h | h
             · exact ne_y4 j (h ▸ hj)
             · rw [h] at hj; injection hj with hj; omega
           clear nl_y4
           replace y5 := y5.mod (Mod.of_grown hgr) (fun e => ne_y5 _ e rfl)
           replace ne_y5 : ∀ j, Value.ownBlock v6 = some j → ¬ j = wd2.heap.size := fun j hj => by
             rcases hloc with h | h
             · exact ne_y5 j (h ▸ hj)
             · rw [h] at hj; injection hj with hj; omega
           clear nl_y5
           replace hb := hb.trans hB
           clear hB hgr hloc row
           have row := row'
           clear row'
           refine hKK.out _ _ ?_ (fun hHeld => ?_)
           · exact (by first | exact hb | exact below_drew hb)
           clear hKK KK
           try simp only [Act.put, List.setIfInBounds_toArray, List.set_cons_zero, List.set_cons_succ]
           refine wpAnyH_ready (rs := [7]) (by kernel_rfl) (by simp) ?_
           refine AllReadyH.cons (by simp only [List.getElem?_toArray]; rfl) (fun KK hKK => ?_) AllReadyH.nil
           rw [if_pos (by kernel_rfl)]
           rcases row.2 with ⟨-, h0⟩ | ⟨g6, c6, cur6, hv6, -⟩
           · exact absurd h0 (by omega)
           subst hv6
           obtain ⟨g7, hs6, hg7⟩ := Sl.of_own row
           have e7 := hg7 g6 rfl
           subst e7
           have hP := hStep (some ⟨g6, 0, none⟩) (wholeM g M ++ N) c6 g6 wa277 (hi9.ext hb) (hT9.ext hb) hs6 (fun x hx => (List.mem_append.1 hx).elim (hwf x) (hfN x)) (by rw [List.length_append, hwl]; simp only [maxLen]; omega) HF3.out
           rw [show (wholeM g M ++ N).length = 0 + k + N.length by rw [List.length_append, hwl]; omega] at hP
           clear hg7 hs6 row ne_y4 ne_y5
           refine wp_callF 17 #[.agg (gmA g s), .agg (stA ⟨C, sd, 0⟩), .slice (some ⟨g6, 0, none⟩) (0 + k + N.length) c6] (by kernel_rfl) ?_
           refine hP.mono ?_
           rintro e wc278 ⟨sh3, rfl, hsh, h9⟩
           have hs3 : sh3.oneCell' = true := by
             rcases hsh.2 with ⟨rfl, -⟩ | ⟨_, _, _, rfl, -⟩ <;> rfl
           clear hsh hP
           replace y5 := y5.ext h9
           replace y4 := y4.ext h9
           replace hb := hb.trans (h9.mono hb.size)
           clear h9
           refine ⟨_, rfl, ?_⟩
           refine hKK.out _ _ ?_ (fun hHeld => ?_)
           · exact (by first | exact hb | exact below_drew hb)
           clear hKK KK
           try simp only [Act.put, List.setIfInBounds_toArray, List.set_cons_zero, List.set_cons_succ]
           refine wpAnyH_take (i := 8) (v := ?vt1280) (by simp only [List.getElem?_toArray]; rfl) (by kernel_rfl) (by kernel_rfl) (by kernel_rfl) (by exact fun _ _ _ h => h) (Or.inl ⟨by kernel_rfl, ?yt1280⟩) hHeld ?_
           case yt1280 => (intro ww hSw; (try dsimp only at hSw); clear hSw; go_simp; try (with_reducible rfl))
           try simp only [Act.put, List.setIfInBounds_toArray, List.set_cons_zero, List.set_cons_succ]
           refine wpAnyH_take (i := 9) (v := ?vt1281) (by simp only [List.getElem?_toArray]; rfl) (by kernel_rfl) (by kernel_rfl) (by kernel_rfl) (by exact fun _ _ _ h => h) (Or.inl ⟨by kernel_rfl, ?yt1281⟩) hHeld ?_
           case yt1281 => (intro ww hSw; (try dsimp only at hSw); clear hSw; go_simp; try (with_reducible rfl))
           try simp only [Act.put, List.setIfInBounds_toArray, List.set_cons_zero, List.set_cons_succ]
           refine wpAnyH_take (i := 10) (v := ?vt1282) (by simp only [List.getElem?_toArray]; rfl) (by kernel_rfl) (by kernel_rfl) (by kernel_rfl) (by exact fun _ _ _ h => h) (Or.inl ⟨by kernel_rfl, ?yt1282⟩) hHeld ?_
           case yt1282 => (intro ww hSw; (try dsimp only at hSw); clear hSw; go_simp; try (with_reducible rfl))
           try simp only [Act.put, List.setIfInBounds_toArray, List.set_cons_zero, List.set_cons_succ]
           refine wpAnyH_ready (rs := [13]) (by kernel_rfl) (by simp) ?_
           refine AllReadyH.cons (by simp only [List.getElem?_toArray]; rfl) (fun KK hKK => ?_) AllReadyH.nil
           rw [if_pos (by kernel_rfl)]
           refine wp_stS (.tmp 19) (.tmp 91) rfl (wa235.heap.size) S1 rfl rfl y4 ?_
           replace y4 := y4.row_ S1
           replace y5 := y5.mod (mod_setRow wc278 (wa235.heap.size) (stA S1)) (fun e => ne45 e.symm)
           replace hb := below_setRow hb (wa235.heap.size) (stA S1) nz_y4
           obtain ⟨ws283, hws⟩ : ∃ ws283, ws283 = wc278.setRow (wa235.heap.size) (stA S1) := ⟨_, rfl⟩
           rw [← hws] at y4 y5 hb ⊢
           clear hws
           refine hKK.out _ _ ?_ (fun hHeld => ?_)
           · exact (by first | exact hb | exact below_drew hb)
           clear hKK KK
           try simp only [Act.put]
           refine wpAnyH_ready (rs := [14]) (by kernel_rfl) (by simp) ?_
           refine AllReadyH.cons (by simp only [List.getElem?_toArray]; rfl) (fun KK hKK => ?_) AllReadyH.nil
           rw [if_pos (by kernel_rfl)]
           refine wp_stO (.tmp 20) (.tmp 92) rfl (wd2.heap.size) F.t sh3 F.e rfl rfl hs3 y5 ?_
           replace y5 := y5.row_ F.t sh3 F.e
           replace y4 := y4.mod (mod_setRow ws283 (wd2.heap.size) (otA F.t sh3 F.e)) ne45
           replace hb := below_setRow hb (wd2.heap.size) (otA F.t sh3 F.e) nz_y5
           obtain ⟨ws284, hws⟩ : ∃ ws284, ws284 = ws283.setRow (wd2.heap.size) (otA F.t sh3 F.e) := ⟨_, rfl⟩
           rw [← hws] at y4 y5 hb ⊢
           clear hws
           refine hKK.out _ _ ?_ (fun hHeld => ?_)
           · exact (by first | exact hb | exact below_drew hb)
           clear hKK KK
           try simp only [Act.put]
           refine wpAnyH_done (by kernel_rfl) ?_ _
           go_wp2_with fail
           go_meet
           exact ⟨_, _, sh3, _, rfl, rfl, rfl, y4, y5, hb⟩
        case rest =>
          obtain ⟨K3, K4, sh3, wy, rfl, rfl, rfl, c4, c5, hbz⟩ := hcut
          have k1 := a4.ext hbz
          have o1 := a5.ext hbz
          have k2 := b4.ext hbz
          have o2 := b5.ext hbz
          have hb2 := hb9.trans (hbz.mono hb9.size)
          clear hbz a4 a5 b4 b5 hb9 hG9 hi9 hx9 hT9 hN9 hslV hStep HF2 HF3
          have e1 := ob_e o1
          have e2 := ob_e o2
          have e3 := ob_e c5
          have f1 := ob_t o1
          have f3 := ob_t c5
          have y1 := k1.cK
          have q1 : ((S1.tk : Int) == 1) = true := by rw [HS1.out]; rfl
          go_wp2_with (first | ((with_reducible refine at_ld 46 15 ?_); refine wpList_ldSw (by first | rfl | simp [Region.wanted, yielded]) (.tmp 15) rfl K1 rfl k1 ?_) | ((with_reducible refine at_ld 46 17 ?_); refine wpList_ldSw (by first | rfl | simp [Region.wanted, yielded]) (.tmp 17) rfl K2 rfl k2 ?_) | ((with_reducible refine at_ld 46 19 ?_); refine wpList_ldSw (by first | rfl | simp [Region.wanted, yielded]) (.tmp 19) rfl K3 rfl c4 ?_) | ((with_reducible refine at_bi 95 .eql 46 46 (.tmp 93) (.tmp 94) ?_); refine wpList_eql_st (by first | rfl | simp [Region.wanted, yielded]) (.tmp 93) (.tmp 94) rfl S1 rfl rfl ?_) | ((with_reducible refine at_bi 99 .eql 46 46 (.tmp 97) (.tmp 98) ?_); refine wpList_eql_st (by first | rfl | simp [Region.wanted, yielded]) (.tmp 97) (.tmp 98) rfl S1 rfl rfl ?_))
          go_ret
          exact ⟨rfl, hb2⟩
end Go.Proofs.YtinkngjbfhkhnaaDoor
