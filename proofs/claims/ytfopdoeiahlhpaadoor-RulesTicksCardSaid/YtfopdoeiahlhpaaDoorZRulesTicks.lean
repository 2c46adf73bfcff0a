/- RulesTicks: the walk. Conditions: the numbers fit; the table lies. -/
import Derived.Test.YtfopdoeiahlhpaaDoorZRuBase08
namespace Go.Proofs.YtfopdoeiahlhpaaDoor
open Go.RowKit
set_option linter.unusedVariables false

set_option maxHeartbeats 16000000 in
set_option maxRecDepth 20000 in
theorem RulesTicks_walk (g0 : Gm) (s0 : Gs) (sd : Nat) (SA : Option Addr) (ls : List (List Nat)) (vs : List Value) (sn sc se : Nat) (w : World) (hT : CTab w) (hr0 : GRaw g0 s0) (hi0 : GIn w g0 s0) (hsd : sd ≤ 18446744073709551615) (hS0 : Sl w se SA vs) (hl : ls.length = sn) (hm : sn ≤ maxLen) (hy0 : Mss w vs ls) (ho : ∀ l ∈ ls, l.length ≤ maxLen ∧ ∀ x ∈ l, x ≤ 4294967295) :
    Calls Tryd.prog 10 #[.agg (gmA g0 s0), .int .u64 (sd : Int), .slice SA sn sc] w fun e w' => e = .returned (.bool true) ∧ Below w.heap.size w w' := by
  have hb := below_alloc1 w (.cells (gmA g0 s0) 26)
  have hG := GBox.new_ w g0 s0
  have hi := hi0.ext hb
  have hA := awake_calls _ (hT.ext hb)
  clear hi0
  go_enter Tryd.func10, Tryd.ntmps10
  go_wp2_with fail
  refine hA.mono ?_
  rintro e w1 ⟨rfl, h1⟩
  replace hG := hG.ext h1
  replace hi := hi.ext h1
  replace hb := hb.trans (h1.mono hb.size)
  have hw1s : w.heap.size < w1.heap.size := hG.lt
  clear hA h1
  have hF := FewG_calls g0 s0 w1 hi hr0
  have z0 := hG.c0
  have z1 := hG.c1
  have z2 := hG.c2
  have z3 := hG.c3
  have z4 := hG.c4
  have z5 := hG.c5
  go_wp2_with fail
  refine hF.mono ?_
  rintro e w2 ⟨s, rfl, hi2, hok, hsb, h1⟩
  obtain ⟨g, hg⟩ : ∃ g, g = fewG g0 := ⟨_, rfl⟩
  rw [← hg] at hi2 hok ⊢
  replace hG := hG.ext h1
  replace hb := hb.trans (h1.mono hb.size)
  clear hF h1 hg hi z0 z1 z2 z3 z4 z5
  have z0 := hG.c0
  have z1 := hG.c1
  have z2 := hG.c2
  have z3 := hG.c3
  have z4 := hG.c4
  have z5 := hG.c5
  have hfz := hG.free
  go_upto_region 4 with fail
  obtain ⟨h9, m9⟩ := six_set6 (.int .i64 g.ob) (.int .i64 g.pl) (.int .u32 (g.mv : Int)) (.int .u32 (g.df : Int)) (.slice s.A g.L.length s.c) (.slice s.A' g.K.length s.c') hG
  obtain ⟨w3, hw3⟩ : ∃ w3, w3 = ((((((w2.setCell ⟨w.heap.size, 0, none⟩ (.int .i64 g.ob)).setCell ⟨w.heap.size, 1, none⟩ (.int .i64 g.pl)).setCell ⟨w.heap.size, 2, none⟩ (.int .u32 (g.mv : Int))).setCell ⟨w.heap.size, 3, none⟩ (.int .u32 (g.df : Int))).setCell ⟨w.heap.size, 4, none⟩ (.slice s.A g.L.length s.c)).setCell ⟨w.heap.size, 5, none⟩ (.slice s.A' g.K.length s.c')) := ⟨_, rfl⟩
  rw [← hw3] at h9 m9 ⊢
  have hb3 : Below w.heap.size w w3 := hb.trans (m9.below hb.size (fun i hi e => by have e : i = w.heap.size := e; omega))
  replace hi2 : GIn w3 g s := gin_mod1 hi2 m9 hsb.1 hsb.2 hw1s
  have hG : GBox w3 w.heap.size g s := h9
  clear hw3 h9 m9 hb hfz z0 z1 z2 z3 z4 z5 hsb hw1s
  obtain ⟨R, hRr⟩ : ∃ R, R = rightB g := ⟨_, rfl⟩
  have HR := Lib.hid hRr
  cases R with
  | false =>
    have z0 := hG.c0
    have z1 := hG.c1
    have z2 := hG.c2
    have z3 := hG.c3
    have z4 := hG.c4
    have z5 := hG.c5
    have hS := Start_bad g s sd [] none 0 w3 hi2 hok (hT.ext hb3) hRr.symm
    clear hRr
    go_wp2_with fail
    refine hS.mono ?_
    rintro e w4 ⟨rfl, h1⟩
    replace hG := hG.ext h1
    replace hi2 := hi2.ext h1
    replace hb3 := hb3.trans (h1.mono hb3.size)
    clear hS h1 z0 z1 z2 z3 z4 z5
    go_upto_region 5 with (first | ((with_reducible refine at_al 46 7 ?_); refine wpList_alS rfl rfl (some 7) rfl w4.heap.size rfl ?_) | ((with_reducible refine at_st 46 7 21 ?_); refine wpList_stS rfl (.tmp 7) (.tmp 21) rfl w4.heap.size zSt rfl rfl zSt (BoxS.new_ _ _) ?_))
    rw [made_row]
    have h1 := below_alloc1 w4 (.cells (stA zSt) 46)
    have hx := BoxS.new_ w4 zSt
    obtain ⟨Y, hY⟩ : ∃ Y, Y = w4.heap.size := ⟨_, rfl⟩
    obtain ⟨w5, hw5⟩ : ∃ w5, w5 = w4.alloc (.cells (stA zSt) 46) := ⟨_, rfl⟩
    rw [← hw5] at h1 hx ⊢
    rw [← hY] at hx ⊢
    have HY := Lib.hid hY
    clear hw5 hY
    have hb := hb3.trans (h1.mono hb3.size)
    go_wp2_with fail
    go_ret
    exact ⟨rfl, hb⟩
  | true =>
    have h48 := right48 hRr.symm
    have z0 := hG.c0
    have z1 := hG.c1
    have z2 := hG.c2
    have z3 := hG.c3
    have z4 := hG.c4
    have z5 := hG.c5
    have hS := Start_good g s sd [] none 0 w3 hi2 hok (hT.ext hb3) 0 (Sl.nil_ _ _ _) (by simp [maxLen]) (fun x hx => by cases hx) hRr.symm
    clear hRr
    obtain ⟨C, hC⟩ : ∃ C, C = startC g [] := ⟨_, rfl⟩
    rw [← hC] at hS
    have HC := Lib.hid hC
    clear hC
    go_wp2_with fail
    refine hS.mono ?_
    rintro e w4 ⟨rfl, h1⟩
    replace hG := hG.ext h1
    replace hi2 := hi2.ext h1
    replace hb3 := hb3.trans (h1.mono hb3.size)
    clear hS h1 z0 z1 z2 z3 z4 z5
    go_upto_region 5 with (first | ((with_reducible refine at_al 46 7 ?_); refine wpList_alS rfl rfl (some 7) rfl w4.heap.size rfl ?_) | ((with_reducible refine at_st 46 7 21 ?_); refine wpList_stS rfl (.tmp 7) (.tmp 21) rfl w4.heap.size ⟨C, sd, 0⟩ rfl rfl zSt (BoxS.new_ _ _) ?_))
    rw [made_row]
    have h1 := below_alloc1 w4 (.cells (stA ⟨C, sd, 0⟩) 46)
    have hx := BoxS.new_ w4 ⟨C, sd, 0⟩
    obtain ⟨Y, hY⟩ : ∃ Y, Y = w4.heap.size := ⟨_, rfl⟩
    obtain ⟨w5, hw5⟩ : ∃ w5, w5 = w4.alloc (.cells (stA ⟨C, sd, 0⟩) 46) := ⟨_, rfl⟩
    rw [← hw5] at h1 hx ⊢
    rw [← hY] at hx ⊢
    have HY := Lib.hid hY
    clear hw5 hY
    have oC : okC C := by rw [HC.out]; exact stK_ok _ hok.oL (fun x hx => by cases hx)
    obtain ⟨NL, hCN⟩ : ∃ NL, C.length = NL := ⟨_, rfl⟩
    have hN48 : NL ≤ 48 := by rw [← hCN, HC.out]; simp [startC]; exact h48
    have HLS := Lib.hid hl
    clear h48 hl
    go_wp2_with fail
    go_loopw [9, 10, 11, 12, 27] (fun _ _ _ _ i wr => ∃ (k : Nat) (st : St), k ≤ sn ∧ k ≤ 20 ∧ i = .int .i64 k ∧ st.tk = k ∧ st.L.length = NL ∧ okC st.L ∧ BoxS wr Y st ∧ Below w4.heap.size w4 wr) (fun _ _ _ _ i _ => sn - (intOf i).toNat)
    case atStart => exact ⟨0, ⟨C, sd, 0⟩, Nat.zero_le _, by omega, rfl, rfl, hCN, oC, hx, h1⟩
    case round =>
      clear hx h1 hCN oC
      obtain ⟨k, st, hk, hk20, rfl, htk, hLN, oL, hx, hbe⟩ := hrel
      have HTK := Lib.hid htk
      have HLN := Lib.hid hLN
      clear htk hLN
      have hbw : Below w.heap.size w wr := hb3.trans (hbe.mono hb3.size)
      by_cases hlt : k < sn
      · have ej : (k : Int) < (sn : Int) := by omega
        have hkl : k < ls.length := by rw [HLS.out]; exact hlt
        obtain ⟨MA, mc, mb, hvk, hM⟩ := (hy0.ext hbw).2 k ls[k] (List.getElem?_eq_getElem hkl)
        obtain ⟨off, hof, hce⟩ := (Sl.ext hS0 hbw) (by intro h0; rw [h0] at hvk; simp at hvk)
        have hc0 := hce k _ hvk
        have hMo := ho _ (List.getElem_mem hkl)
        obtain ⟨M, hMM⟩ : ∃ M, M = ls[k] := ⟨_, rfl⟩
        rw [← hMM] at hc0 hMo hM
        subst hof
        clear hMM hvk hce hkl
        by_cases h20 : k = 20
        · have e20 : (20 : Int) ≤ (k : Int) := by omega
          clear h20
          go_wp2_with fail
          go_ret
          exact ⟨rfl, hbw⟩
        · have e20 : ¬ (20 : Int) ≤ (k : Int) := by omega
          clear h20
          obtain ⟨F, hF⟩ : ∃ F, F = wholeV compN (stepP g st M) st.L st.d := ⟨_, rfl⟩
          have hP := Step_good g s st M MA mc mb wr (hi2.ext hbe) hok (hT.ext hbw) hM HR.out.symm hMo.2 hMo.1 (by rw [HLN.out]; exact hN48) oL (by rw [HTK.out]; omega) hF
          obtain ⟨-, hlen, -, okF, herr, -⟩ := whole_keep (comp := compN) (P := stepP g st M) (L := st.L) (d := st.d) comp_fit (allN_lt g.ob) (cntL_fit g M) hok.oK oL
          rw [← hF] at hlen okF herr
          obtain ⟨S1, hS1⟩ : ∃ S1 : St, S1 = ⟨F.L, F.d, (st.tk + 1) % 4294967296⟩ := ⟨_, rfl⟩
          rw [← hS1] at hP
          have h1L : S1.L = F.L := by rw [hS1]
          have h1d : S1.d = F.d := by rw [hS1]
          have h1k : S1.tk = k + 1 := by rw [hS1]; show (st.tk + 1) % 4294967296 = k + 1; rw [HTK.out]; omega
          have ewr : IntKind.u32.wrap ((st.tk : Int) + 1) = (S1.tk : Int) := by rw [h1k, HTK.out, IntKind.wrap_u32]; omega
          have HLEN := Lib.hid (show S1.L.length = NL by rw [h1L, hlen, HLN.out])
          have HOK := Lib.hid (show okC S1.L by rw [h1L]; exact okF)
          have HK1 := Lib.hid h1k
          have HEWR := Lib.hid ewr
          have HERR := Lib.hid (show F.e ≠ 0 → S1.L = st.L ∧ S1.d = st.d ∧ F.t = 0 from fun h => by rw [h1L, h1d]; exact herr h)
          have hG := hG.ext hbe
          have z0 := hG.c0
          have z1 := hG.c1
          have z2 := hG.c2
          have z3 := hG.c3
          have z4 := hG.c4
          have z5 := hG.c5
          clear h1L h1d h1k ewr hlen okF herr hS1 hF
          go_wp2_with ((with_reducible refine at_ld 46 7 ?_); refine wpList_ldS rfl (.tmp 7) rfl Y rfl hx ?_)
          refine hP.mono ?_
          rintro e wa ⟨sh, rfl, hsh, h1⟩
          replace hx := hx.ext h1
          replace hbe := hbe.trans (h1.mono hbe.size)
          clear hP h1 z0 z1 z2 z3 z4 z5 hc0
          have hs1 : sh.oneCell' = true := by
            rcases hsh.2 with ⟨rfl, -⟩ | ⟨_, _, _, rfl, -⟩ <;> rfl
          have h5 := below_alloc1 (wa.alloc (.cells (stA zSt) 46)) (.cells #[.int .u64 0, .slice none 0 0, .int .i64 0] 53)
          have y4 := (BoxS.new_ wa zSt).ext h5
          have y5 : OBox ((wa.alloc (.cells (stA zSt) 46)).alloc (.cells #[.int .u64 0, .slice none 0 0, .int .i64 0] 53)) (wa.heap.size + 1) 0 (.slice none 0 0) 0 := by
            have h := OBox.new_ (wa.alloc (.cells (stA zSt) 46)) 0 (.slice none 0 0) 0
            rw [World.size_alloc] at h
            exact h
          clear h5
          have hsh := Lib.hid hsh
          go_upto_region 12 with (first | ((with_reducible refine at_al 46 11 ?_); refine wpList_alS rfl rfl (some 11) rfl wa.heap.size rfl ?_) | ((with_reducible refine at_st 46 11 39 ?_); refine wpList_stS rfl (.tmp 11) (.tmp 39) rfl wa.heap.size S1 rfl rfl zSt y4 ?_) | ((with_reducible refine at_st 53 12 40 ?_); refine wpList_stO rfl (.tmp 12) (.tmp 40) rfl (wa.heap.size + 1) F.t sh F.e rfl rfl hs1 (y5.mod (mod_setRow _ wa.heap.size _) (by show ¬ wa.heap.size + 1 = wa.heap.size; omega)) ?_))
          have r4 := (y4.row_ S1).mod (mod_setRow (((wa.alloc (.cells (stA zSt) 46)).alloc (.cells #[.int .u64 0, .slice none 0 0, .int .i64 0] 53)).setRow wa.heap.size (stA S1)) (wa.heap.size + 1) (otA F.t sh F.e)) (by show ¬ wa.heap.size = wa.heap.size + 1; omega)
          have r5 := (y5.mod (mod_setRow ((wa.alloc (.cells (stA zSt) 46)).alloc (.cells #[.int .u64 0, .slice none 0 0, .int .i64 0] 53)) wa.heap.size (stA S1)) (by show ¬ wa.heap.size + 1 = wa.heap.size; omega)).row_ F.t sh F.e
          have hbo : Below wa.heap.size wa _ := below_setRow (below_setRow (below_alloc2 wa (.cells (stA zSt) 46) (.cells #[.int .u64 0, .slice none 0 0, .int .i64 0] 53)) wa.heap.size (stA S1) (Nat.le_refl _)) (wa.heap.size + 1) (otA F.t sh F.e) (Nat.le_succ _)
          obtain ⟨wb, hWo⟩ : ∃ wb, wb = ((((wa.alloc (.cells (stA zSt) 46)).alloc (.cells #[.int .u64 0, .slice none 0 0, .int .i64 0] 53)).setRow wa.heap.size (stA S1)).setRow (wa.heap.size + 1) (otA F.t sh F.e)) := ⟨_, rfl⟩
          rw [← hWo] at r4 r5 hbo
          go_frame
          rw [← hWo]
          clear hWo y4 y5 hs1
          have hsh := rows_ext hsh.out hbo
          replace hx := hx.ext hbo
          replace hbe := hbe.trans (hbo.mono hbe.size)
          obtain ⟨K1, hK⟩ : ∃ K1, K1 = wa.heap.size := ⟨_, rfl⟩
          rw [← hK] at r4 r5 ⊢
          have hYw := HY.out
          have hLn1 := fun W => Len_calls S1.L W
          have hLn2 := fun W => Len_calls st.L W
          rw [HLEN.out] at hLn1
          rw [HLN.out] at hLn2
          clear hbo hsh hYw
          by_cases he : F.e = 0
          · have he9 : ((F.e : Int) != 0) = false := by simp; omega
            refine wp_region_held_drew (S := fun w' => Below wb.heap.size wb w') (by kernel_rfl) ?_ (fun hHeld => ?_)
            · exact below_drew (Below.refl _ _)
            refine wpAnyH_take (i := 0) (by simp only [List.getElem?_toArray]; rfl) (by kernel_rfl) (by kernel_rfl) (by kernel_rfl) (by exact fun _ _ _ h => h) (by exact yk (.pointer (some ⟨K1, 98, none⟩)) (by kernel_rfl) (fun _ => by kernel_rfl)) hHeld ?_
            refine wpAnyH_take (i := 1) (by simp only [List.getElem?_toArray]; rfl) (by kernel_rfl) (by kernel_rfl) (by kernel_rfl) (by exact fun _ _ _ h => h) (by exact yk_ldW (by kernel_rfl) (.tmp 41) rfl ⟨K1, 98, none⟩ (.int .u32 (S1.tk : Int)) (by kernel_rfl) (fun _ h => (r4.ext h).cK)) hHeld ?_
            refine wpAnyH_take (i := 2) (by simp only [List.getElem?_toArray]; rfl) (by kernel_rfl) (by kernel_rfl) (by kernel_rfl) (by exact fun _ _ _ h => h) (by exact yk (.pointer (some ⟨Y, 98, none⟩)) (by kernel_rfl) (fun _ => by kernel_rfl)) hHeld ?_
            refine wpAnyH_take (i := 3) (by simp only [List.getElem?_toArray]; rfl) (by kernel_rfl) (by kernel_rfl) (by kernel_rfl) (by exact fun _ _ _ h => h) (by exact yk_ldW (by kernel_rfl) (.tmp 43) rfl ⟨Y, 98, none⟩ (.int .u32 (st.tk : Int)) (by kernel_rfl) (fun _ h => (hx.ext h).cK)) hHeld ?_
            refine wpAnyH_take (i := 4) (by simp only [List.getElem?_toArray]; rfl) (by kernel_rfl) (by kernel_rfl) (by kernel_rfl) (by exact fun _ _ _ h => h) (by exact yk_addW (by kernel_rfl) (.tmp 44) (.const (.int .u32 1)) rfl (st.tk : Int) 1 (S1.tk : Int) (by kernel_rfl) (by kernel_rfl) HEWR.out) hHeld ?_
            refine wpAnyH_take (i := 5) (by simp only [List.getElem?_toArray]; rfl) (by kernel_rfl) (by kernel_rfl) (by kernel_rfl) (by exact fun _ _ _ h => h) (by exact yk_ne (by kernel_rfl) .u32 22 (.tmp 42) (.tmp 45) _ rfl (S1.tk : Int) (S1.tk : Int) (by kernel_rfl) (by kernel_rfl) false (by simp)) hHeld ?_
            refine wpAnyH_take (i := 6) (by simp only [List.getElem?_toArray]; rfl) (by kernel_rfl) (by kernel_rfl) (by kernel_rfl) (by exact fun _ _ _ h => h) (by exact yk (.bool false) (by kernel_rfl) (fun _ => by kernel_rfl)) hHeld ?_
            refine wpAnyH_take (i := 7) (by simp only [List.getElem?_toArray]; rfl) (by kernel_rfl) (by kernel_rfl) (by kernel_rfl) (by exact fun _ _ _ h => h) (by exact yk (.pointer (some ⟨(K1 + 1), 2, none⟩)) (by kernel_rfl) (fun _ => by kernel_rfl)) hHeld ?_
            refine wpAnyH_take (i := 8) (by simp only [List.getElem?_toArray]; rfl) (by kernel_rfl) (by kernel_rfl) (by kernel_rfl) (by exact fun _ _ _ h => h) (by exact yk_ldE (by kernel_rfl) (.tmp 48) rfl ⟨K1 + 1, 2, none⟩ (.int .i64 (F.e : Int)) (by kernel_rfl) (fun _ h => ob_e (r5.ext h))) hHeld ?_
            refine wpAnyH_take (i := 9) (by simp only [List.getElem?_toArray]; rfl) (by kernel_rfl) (by kernel_rfl) (by kernel_rfl) (by exact fun _ _ _ h => h) (by exact yk_ne (by kernel_rfl) .i64 47 (.tmp 49) (.const (.int .i64 0)) _ rfl (F.e : Int) (0) (by kernel_rfl) (by kernel_rfl) false (he9)) hHeld ?_
            refine wpAnyH_take (i := 10) (by simp only [List.getElem?_toArray]; rfl) (by kernel_rfl) (by kernel_rfl) (by kernel_rfl) (by exact fun _ _ _ h => h) (by exact yk (.bool false) (by kernel_rfl) (fun _ => by kernel_rfl)) hHeld ?_
            refine wpAnyH_take (i := 11) (by simp only [List.getElem?_toArray]; rfl) (by kernel_rfl) (by kernel_rfl) (by kernel_rfl) (by exact fun _ _ _ h => h) (by exact yk_no (by kernel_rfl)) hHeld ?_
            refine wpAnyH_take (i := 12) (by simp only [List.getElem?_toArray]; rfl) (by kernel_rfl) (by kernel_rfl) (by kernel_rfl) (by exact fun _ _ _ h => h) (by exact yk_no (by kernel_rfl)) hHeld ?_
            refine wpAnyH_take (i := 13) (by simp only [List.getElem?_toArray]; rfl) (by kernel_rfl) (by kernel_rfl) (by kernel_rfl) (by exact fun _ _ _ h => h) (by exact yk_no (by kernel_rfl)) hHeld ?_
            refine wpAnyH_take (i := 14) (by simp only [List.getElem?_toArray]; rfl) (by kernel_rfl) (by kernel_rfl) (by kernel_rfl) (by exact fun _ _ _ h => h) (by exact yk_no (by kernel_rfl)) hHeld ?_
            refine wpAnyH_take (i := 15) (by simp only [List.getElem?_toArray]; rfl) (by kernel_rfl) (by kernel_rfl) (by kernel_rfl) (by exact fun _ _ _ h => h) (by exact yk_no (by kernel_rfl)) hHeld ?_
            refine wpAnyH_take (i := 16) (by simp only [List.getElem?_toArray]; rfl) (by kernel_rfl) (by kernel_rfl) (by kernel_rfl) (by exact fun _ _ _ h => h) (by exact yk_no (by kernel_rfl)) hHeld ?_
            refine wpAnyH_take (i := 17) (by simp only [List.getElem?_toArray]; rfl) (by kernel_rfl) (by kernel_rfl) (by kernel_rfl) (by exact fun _ _ _ h => h) (by exact yk_no (by kernel_rfl)) hHeld ?_
            refine wpAnyH_take (i := 18) (by simp only [List.getElem?_toArray]; rfl) (by kernel_rfl) (by kernel_rfl) (by kernel_rfl) (by exact fun _ _ _ h => h) (by exact yk_no (by kernel_rfl)) hHeld ?_
            refine wpAnyH_take (i := 19) (by simp only [List.getElem?_toArray]; rfl) (by kernel_rfl) (by kernel_rfl) (by kernel_rfl) (by exact fun _ _ _ h => h) (by exact yk_no (by kernel_rfl)) hHeld ?_
            refine wpAnyH_take (i := 20) (by simp only [List.getElem?_toArray]; rfl) (by kernel_rfl) (by kernel_rfl) (by kernel_rfl) (by exact fun _ _ _ h => h) (by exact yk_no (by kernel_rfl)) hHeld ?_
            refine wpAnyH_take (i := 21) (by simp only [List.getElem?_toArray]; rfl) (by kernel_rfl) (by kernel_rfl) (by kernel_rfl) (by exact fun _ _ _ h => h) (by exact yk_no (by kernel_rfl)) hHeld ?_
            refine wpAnyH_take (i := 22) (by simp only [List.getElem?_toArray]; rfl) (by kernel_rfl) (by kernel_rfl) (by kernel_rfl) (by exact fun _ _ _ h => h) (by exact yk_no (by kernel_rfl)) hHeld ?_
            refine wpAnyH_take (i := 23) (by simp only [List.getElem?_toArray]; rfl) (by kernel_rfl) (by kernel_rfl) (by kernel_rfl) (by exact fun _ _ _ h => h) (by exact yk_no (by kernel_rfl)) hHeld ?_
            refine wpAnyH_take (i := 24) (by simp only [List.getElem?_toArray]; rfl) (by kernel_rfl) (by kernel_rfl) (by kernel_rfl) (by exact fun _ _ _ h => h) (by exact yk_no (by kernel_rfl)) hHeld ?_
            refine wpAnyH_take (i := 25) (by simp only [List.getElem?_toArray]; rfl) (by kernel_rfl) (by kernel_rfl) (by kernel_rfl) (by exact fun _ _ _ h => h) (by exact yk_no (by kernel_rfl)) hHeld ?_
            refine wpAnyH_take (i := 26) (by simp only [List.getElem?_toArray]; rfl) (by kernel_rfl) (by kernel_rfl) (by kernel_rfl) (by exact fun _ _ _ h => h) (by exact yk_no (by kernel_rfl)) hHeld ?_
            refine wpAnyH_take (i := 27) (by simp only [List.getElem?_toArray]; rfl) (by kernel_rfl) (by kernel_rfl) (by kernel_rfl) (by exact fun _ _ _ h => h) (by exact yk_no (by kernel_rfl)) hHeld ?_
            refine wpAnyH_take (i := 28) (by simp only [List.getElem?_toArray]; rfl) (by kernel_rfl) (by kernel_rfl) (by kernel_rfl) (by exact fun _ _ _ h => h) (by exact yk (.bool false) (by kernel_rfl) (fun _ => by kernel_rfl)) hHeld ?_
            refine wpAnyH_take (i := 29) (by simp only [List.getElem?_toArray]; rfl) (by kernel_rfl) (by kernel_rfl) (by kernel_rfl) (by exact fun _ _ _ h => h) (by exact yk (.bool false) (by kernel_rfl) (fun _ => by kernel_rfl)) hHeld ?_
            refine wpAnyH_take (i := 30) (by simp only [List.getElem?_toArray]; rfl) (by kernel_rfl) (by kernel_rfl) (by kernel_rfl) (by exact fun _ _ _ h => h) (by exact yk (.bool false) (by kernel_rfl) (fun _ => by kernel_rfl)) hHeld ?_
            refine wpAnyH_take (i := 31) (by simp only [List.getElem?_toArray]; rfl) (by kernel_rfl) (by kernel_rfl) (by kernel_rfl) (by exact fun _ _ _ h => h) (by exact yk (.pointer (some ⟨K1, 0, none⟩)) (by kernel_rfl) (fun _ => by kernel_rfl)) hHeld ?_
            refine wpAnyH_take (i := 32) (by simp only [List.getElem?_toArray]; rfl) (by kernel_rfl) (by kernel_rfl) (by kernel_rfl) (by exact fun _ _ _ h => h) (by exact yieldsIf_ldSB (by kernel_rfl) (.tmp 72) rfl (K1) (by kernel_rfl) (fun _ h => r4.ext h)) hHeld ?_
            refine wpAnyH_take (i := 34) (by simp only [List.getElem?_toArray]; rfl) (by kernel_rfl) (by kernel_rfl) (by kernel_rfl) (by exact fun _ _ _ h => h) (by exact yk (.pointer (some ⟨Y, 0, none⟩)) (by kernel_rfl) (fun _ => by kernel_rfl)) hHeld ?_
            refine wpAnyH_take (i := 35) (by simp only [List.getElem?_toArray]; rfl) (by kernel_rfl) (by kernel_rfl) (by kernel_rfl) (by exact fun _ _ _ h => h) (by exact yieldsIf_ldSB (by kernel_rfl) (.tmp 75) rfl (Y) (by kernel_rfl) (fun _ h => hx.ext h)) hHeld ?_
            refine wpAnyH_ready (rs := [33]) (by kernel_rfl) (by simp) ?_
            refine AllReadyH.cons (by simp only [List.getElem?_toArray]; rfl) (fun KK hKK => ?_) AllReadyH.nil
            rw [if_pos (by kernel_rfl)]
            refine wp_callF 40 #[.agg (bdL S1.L)] (by kernel_rfl) ?_
            refine (hLn1 _).mono ?_
            rintro e wc ⟨rfl, ha⟩
            have hbr := below_undrew2 ha
            refine ⟨_, rfl, ?_⟩
            refine hKK.out _ _ ?_ (fun hHeld => ?_)
            · exact hbr
            clear hKK KK
            refine wpAnyH_ready (rs := [36]) (by kernel_rfl) (by simp) ?_
            refine AllReadyH.cons (by simp only [List.getElem?_toArray]; rfl) (fun KK hKK => ?_) AllReadyH.nil
            rw [if_pos (by kernel_rfl)]
            refine wp_callF 40 #[.agg (bdL st.L)] (by kernel_rfl) ?_
            refine (hLn2 _).mono ?_
            rintro e wd ⟨rfl, ha⟩
            have hbr := hbr.trans (ha.mono hbr.size)
            refine ⟨_, rfl, ?_⟩
            refine hKK.out _ _ ?_ (fun hHeld => ?_)
            · exact hbr
            clear hKK KK
            refine wpAnyH_take (i := 37) (by simp only [List.getElem?_toArray]; rfl) (by kernel_rfl) (by kernel_rfl) (by kernel_rfl) (by exact fun _ _ _ h => h) (by exact yk_ne (by kernel_rfl) .i64 3 (.tmp 74) (.tmp 77) _ rfl (NL : Int) (NL : Int) (by kernel_rfl) (by kernel_rfl) false (by simp)) hHeld ?_
            refine wpAnyH_take (i := 38) (by simp only [List.getElem?_toArray]; rfl) (by kernel_rfl) (by kernel_rfl) (by kernel_rfl) (by exact fun _ _ _ h => h) (by exact yk (.bool false) (by kernel_rfl) (fun _ => by kernel_rfl)) hHeld ?_
            refine wpAnyH_done (by kernel_rfl) ?_ _
            try simp only [Act.put, List.setIfInBounds_toArray, List.set_cons_zero, List.set_cons_succ]
            have r4 := r4.ext hbr
            have hx := hx.ext hbr
            have hbe := hbe.trans (hbr.mono hbe.size)
            go_wp2_with (first | ((with_reducible refine at_ld 46 11 ?_); refine wpList_ldS rfl (.tmp 11) rfl K1 rfl r4 ?_) | ((with_reducible refine at_st 46 7 80 ?_); refine wpList_stS rfl (.tmp 7) (.tmp 80) rfl Y S1 rfl rfl st hx ?_))
            go_roundw
            case rel => exact ⟨k + 1, S1, by omega, by omega, by go_num, HK1.out, HLEN.out, HOK.out, hx.row_ S1, below_setRow hbe _ _ (by have := HY.out; omega)⟩
            case measure => simp [intOf]; omega
          · have he9 : ((F.e : Int) != 0) = true := by simp; omega
            obtain ⟨eL, eD, eT⟩ := HERR.out he
            have eT9 : ((F.t : Int) != 0) = false := by simp; omega
            refine wp_region_held_drew (S := fun w' => Below wb.heap.size wb w') (by kernel_rfl) ?_ (fun hHeld => ?_)
            · exact below_drew (Below.refl _ _)
            refine wpAnyH_take (i := 0) (by simp only [List.getElem?_toArray]; rfl) (by kernel_rfl) (by kernel_rfl) (by kernel_rfl) (by exact fun _ _ _ h => h) (by exact yk (.pointer (some ⟨K1, 98, none⟩)) (by kernel_rfl) (fun _ => by kernel_rfl)) hHeld ?_
            refine wpAnyH_take (i := 1) (by simp only [List.getElem?_toArray]; rfl) (by kernel_rfl) (by kernel_rfl) (by kernel_rfl) (by exact fun _ _ _ h => h) (by exact yk_ldW (by kernel_rfl) (.tmp 41) rfl ⟨K1, 98, none⟩ (.int .u32 (S1.tk : Int)) (by kernel_rfl) (fun _ h => (r4.ext h).cK)) hHeld ?_
            refine wpAnyH_take (i := 2) (by simp only [List.getElem?_toArray]; rfl) (by kernel_rfl) (by kernel_rfl) (by kernel_rfl) (by exact fun _ _ _ h => h) (by exact yk (.pointer (some ⟨Y, 98, none⟩)) (by kernel_rfl) (fun _ => by kernel_rfl)) hHeld ?_
            refine wpAnyH_take (i := 3) (by simp only [List.getElem?_toArray]; rfl) (by kernel_rfl) (by kernel_rfl) (by kernel_rfl) (by exact fun _ _ _ h => h) (by exact yk_ldW (by kernel_rfl) (.tmp 43) rfl ⟨Y, 98, none⟩ (.int .u32 (st.tk : Int)) (by kernel_rfl) (fun _ h => (hx.ext h).cK)) hHeld ?_
            refine wpAnyH_take (i := 4) (by simp only [List.getElem?_toArray]; rfl) (by kernel_rfl) (by kernel_rfl) (by kernel_rfl) (by exact fun _ _ _ h => h) (by exact yk_addW (by kernel_rfl) (.tmp 44) (.const (.int .u32 1)) rfl (st.tk : Int) 1 (S1.tk : Int) (by kernel_rfl) (by kernel_rfl) HEWR.out) hHeld ?_
            refine wpAnyH_take (i := 5) (by simp only [List.getElem?_toArray]; rfl) (by kernel_rfl) (by kernel_rfl) (by kernel_rfl) (by exact fun _ _ _ h => h) (by exact yk_ne (by kernel_rfl) .u32 22 (.tmp 42) (.tmp 45) _ rfl (S1.tk : Int) (S1.tk : Int) (by kernel_rfl) (by kernel_rfl) false (by simp)) hHeld ?_
            refine wpAnyH_take (i := 6) (by simp only [List.getElem?_toArray]; rfl) (by kernel_rfl) (by kernel_rfl) (by kernel_rfl) (by exact fun _ _ _ h => h) (by exact yk (.bool false) (by kernel_rfl) (fun _ => by kernel_rfl)) hHeld ?_
            refine wpAnyH_take (i := 7) (by simp only [List.getElem?_toArray]; rfl) (by kernel_rfl) (by kernel_rfl) (by kernel_rfl) (by exact fun _ _ _ h => h) (by exact yk (.pointer (some ⟨(K1 + 1), 2, none⟩)) (by kernel_rfl) (fun _ => by kernel_rfl)) hHeld ?_
            refine wpAnyH_take (i := 8) (by simp only [List.getElem?_toArray]; rfl) (by kernel_rfl) (by kernel_rfl) (by kernel_rfl) (by exact fun _ _ _ h => h) (by exact yk_ldE (by kernel_rfl) (.tmp 48) rfl ⟨K1 + 1, 2, none⟩ (.int .i64 (F.e : Int)) (by kernel_rfl) (fun _ h => ob_e (r5.ext h))) hHeld ?_
            refine wpAnyH_take (i := 9) (by simp only [List.getElem?_toArray]; rfl) (by kernel_rfl) (by kernel_rfl) (by kernel_rfl) (by exact fun _ _ _ h => h) (by exact yk_ne (by kernel_rfl) .i64 47 (.tmp 49) (.const (.int .i64 0)) _ rfl (F.e : Int) (0) (by kernel_rfl) (by kernel_rfl) true (he9)) hHeld ?_
            refine wpAnyH_take (i := 10) (by simp only [List.getElem?_toArray]; rfl) (by kernel_rfl) (by kernel_rfl) (by kernel_rfl) (by exact fun _ _ _ h => h) (by exact yk (.bool true) (by kernel_rfl) (fun _ => by kernel_rfl)) hHeld ?_
            refine wpAnyH_take (i := 11) (by simp only [List.getElem?_toArray]; rfl) (by kernel_rfl) (by kernel_rfl) (by kernel_rfl) (by exact fun _ _ _ h => h) (by exact yk (.pointer (some ⟨K1, 0, none⟩)) (by kernel_rfl) (fun _ => by kernel_rfl)) hHeld ?_
            refine wpAnyH_take (i := 12) (by simp only [List.getElem?_toArray]; rfl) (by kernel_rfl) (by kernel_rfl) (by kernel_rfl) (by exact fun _ _ _ h => h) (by exact yieldsIf_ldSB (by kernel_rfl) (.tmp 52) rfl (K1) (by kernel_rfl) (fun _ h => r4.ext h)) hHeld ?_
            refine wpAnyH_take (i := 13) (by simp only [List.getElem?_toArray]; rfl) (by kernel_rfl) (by kernel_rfl) (by kernel_rfl) (by exact fun _ _ _ h => h) (by exact yk (.pointer (some ⟨Y, 0, none⟩)) (by kernel_rfl) (fun _ => by kernel_rfl)) hHeld ?_
            refine wpAnyH_take (i := 14) (by simp only [List.getElem?_toArray]; rfl) (by kernel_rfl) (by kernel_rfl) (by kernel_rfl) (by exact fun _ _ _ h => h) (by exact yieldsIf_ldSB (by kernel_rfl) (.tmp 54) rfl (Y) (by kernel_rfl) (fun _ h => hx.ext h)) hHeld ?_
            refine wpAnyH_take (i := 15) (by simp only [List.getElem?_toArray]; rfl) (by kernel_rfl) (by kernel_rfl) (by kernel_rfl) (by exact fun _ _ _ h => h) (by exact yk_neBd (by kernel_rfl) (.tmp 53) (.tmp 55) rfl S1.L st.L (by kernel_rfl) (by kernel_rfl) eL) hHeld ?_
            refine wpAnyH_take (i := 16) (by simp only [List.getElem?_toArray]; rfl) (by kernel_rfl) (by kernel_rfl) (by kernel_rfl) (by exact fun _ _ _ h => h) (by exact yk (.bool false) (by kernel_rfl) (fun _ => by kernel_rfl)) hHeld ?_
            refine wpAnyH_take (i := 17) (by simp only [List.getElem?_toArray]; rfl) (by kernel_rfl) (by kernel_rfl) (by kernel_rfl) (by exact fun _ _ _ h => h) (by exact yk (.pointer (some ⟨K1, 97, none⟩)) (by kernel_rfl) (fun _ => by kernel_rfl)) hHeld ?_
            refine wpAnyH_take (i := 18) (by simp only [List.getElem?_toArray]; rfl) (by kernel_rfl) (by kernel_rfl) (by kernel_rfl) (by exact fun _ _ _ h => h) (by exact yk_ldD (by kernel_rfl) (.tmp 58) rfl ⟨K1, 97, none⟩ (.int .u64 (S1.d : Int)) (by kernel_rfl) (fun _ h => (r4.ext h).cD)) hHeld ?_
            refine wpAnyH_take (i := 19) (by simp only [List.getElem?_toArray]; rfl) (by kernel_rfl) (by kernel_rfl) (by kernel_rfl) (by exact fun _ _ _ h => h) (by exact yk (.pointer (some ⟨Y, 97, none⟩)) (by kernel_rfl) (fun _ => by kernel_rfl)) hHeld ?_
            refine wpAnyH_take (i := 20) (by simp only [List.getElem?_toArray]; rfl) (by kernel_rfl) (by kernel_rfl) (by kernel_rfl) (by exact fun _ _ _ h => h) (by exact yk_ldD (by kernel_rfl) (.tmp 60) rfl ⟨Y, 97, none⟩ (.int .u64 (st.d : Int)) (by kernel_rfl) (fun _ h => (hx.ext h).cD)) hHeld ?_
            refine wpAnyH_take (i := 21) (by simp only [List.getElem?_toArray]; rfl) (by kernel_rfl) (by kernel_rfl) (by kernel_rfl) (by exact fun _ _ _ h => h) (by exact yk_neDi (by kernel_rfl) (.tmp 59) (.tmp 61) rfl S1.d st.d (by kernel_rfl) (by kernel_rfl) eD) hHeld ?_
            refine wpAnyH_take (i := 22) (by simp only [List.getElem?_toArray]; rfl) (by kernel_rfl) (by kernel_rfl) (by kernel_rfl) (by exact fun _ _ _ h => h) (by exact yk (.bool false) (by kernel_rfl) (fun _ => by kernel_rfl)) hHeld ?_
            refine wpAnyH_take (i := 23) (by simp only [List.getElem?_toArray]; rfl) (by kernel_rfl) (by kernel_rfl) (by kernel_rfl) (by exact fun _ _ _ h => h) (by exact yk (.bool false) (by kernel_rfl) (fun _ => by kernel_rfl)) hHeld ?_
            refine wpAnyH_take (i := 24) (by simp only [List.getElem?_toArray]; rfl) (by kernel_rfl) (by kernel_rfl) (by kernel_rfl) (by exact fun _ _ _ h => h) (by exact yk (.pointer (some ⟨(K1 + 1), 0, none⟩)) (by kernel_rfl) (fun _ => by kernel_rfl)) hHeld ?_
            refine wpAnyH_take (i := 25) (by simp only [List.getElem?_toArray]; rfl) (by kernel_rfl) (by kernel_rfl) (by kernel_rfl) (by exact fun _ _ _ h => h) (by exact yk_ldU (by kernel_rfl) (.tmp 65) rfl ⟨K1 + 1, 0, none⟩ (.int .u64 (F.t : Int)) (by kernel_rfl) (fun _ h => ob_t (r5.ext h))) hHeld ?_
            refine wpAnyH_take (i := 26) (by simp only [List.getElem?_toArray]; rfl) (by kernel_rfl) (by kernel_rfl) (by kernel_rfl) (by exact fun _ _ _ h => h) (by exact yk_ne (by kernel_rfl) .u64 27 (.tmp 66) (.const (.int .u64 0)) _ rfl (F.t : Int) (0) (by kernel_rfl) (by kernel_rfl) false (eT9)) hHeld ?_
            refine wpAnyH_take (i := 27) (by simp only [List.getElem?_toArray]; rfl) (by kernel_rfl) (by kernel_rfl) (by kernel_rfl) (by exact fun _ _ _ h => h) (by exact yk (.bool false) (by kernel_rfl) (fun _ => by kernel_rfl)) hHeld ?_
            refine wpAnyH_take (i := 28) (by simp only [List.getElem?_toArray]; rfl) (by kernel_rfl) (by kernel_rfl) (by kernel_rfl) (by exact fun _ _ _ h => h) (by exact yk (.bool false) (by kernel_rfl) (fun _ => by kernel_rfl)) hHeld ?_
            refine wpAnyH_take (i := 29) (by simp only [List.getElem?_toArray]; rfl) (by kernel_rfl) (by kernel_rfl) (by kernel_rfl) (by exact fun _ _ _ h => h) (by exact yk (.bool false) (by kernel_rfl) (fun _ => by kernel_rfl)) hHeld ?_
            refine wpAnyH_take (i := 30) (by simp only [List.getElem?_toArray]; rfl) (by kernel_rfl) (by kernel_rfl) (by kernel_rfl) (by exact fun _ _ _ h => h) (by exact yk (.bool false) (by kernel_rfl) (fun _ => by kernel_rfl)) hHeld ?_
            refine wpAnyH_take (i := 31) (by simp only [List.getElem?_toArray]; rfl) (by kernel_rfl) (by kernel_rfl) (by kernel_rfl) (by exact fun _ _ _ h => h) (by exact yk (.pointer (some ⟨K1, 0, none⟩)) (by kernel_rfl) (fun _ => by kernel_rfl)) hHeld ?_
            refine wpAnyH_take (i := 32) (by simp only [List.getElem?_toArray]; rfl) (by kernel_rfl) (by kernel_rfl) (by kernel_rfl) (by exact fun _ _ _ h => h) (by exact yieldsIf_ldSB (by kernel_rfl) (.tmp 72) rfl (K1) (by kernel_rfl) (fun _ h => r4.ext h)) hHeld ?_
            refine wpAnyH_take (i := 34) (by simp only [List.getElem?_toArray]; rfl) (by kernel_rfl) (by kernel_rfl) (by kernel_rfl) (by exact fun _ _ _ h => h) (by exact yk (.pointer (some ⟨Y, 0, none⟩)) (by kernel_rfl) (fun _ => by kernel_rfl)) hHeld ?_
            refine wpAnyH_take (i := 35) (by simp only [List.getElem?_toArray]; rfl) (by kernel_rfl) (by kernel_rfl) (by kernel_rfl) (by exact fun _ _ _ h => h) (by exact yieldsIf_ldSB (by kernel_rfl) (.tmp 75) rfl (Y) (by kernel_rfl) (fun _ h => hx.ext h)) hHeld ?_
            refine wpAnyH_ready (rs := [33]) (by kernel_rfl) (by simp) ?_
            refine AllReadyH.cons (by simp only [List.getElem?_toArray]; rfl) (fun KK hKK => ?_) AllReadyH.nil
            rw [if_pos (by kernel_rfl)]
            refine wp_callF 40 #[.agg (bdL S1.L)] (by kernel_rfl) ?_
            refine (hLn1 _).mono ?_
            rintro e wc ⟨rfl, ha⟩
            have hbr := below_undrew2 ha
            refine ⟨_, rfl, ?_⟩
            refine hKK.out _ _ ?_ (fun hHeld => ?_)
            · exact hbr
            clear hKK KK
            refine wpAnyH_ready (rs := [36]) (by kernel_rfl) (by simp) ?_
            refine AllReadyH.cons (by simp only [List.getElem?_toArray]; rfl) (fun KK hKK => ?_) AllReadyH.nil
            rw [if_pos (by kernel_rfl)]
            refine wp_callF 40 #[.agg (bdL st.L)] (by kernel_rfl) ?_
            refine (hLn2 _).mono ?_
            rintro e wd ⟨rfl, ha⟩
            have hbr := hbr.trans (ha.mono hbr.size)
            refine ⟨_, rfl, ?_⟩
            refine hKK.out _ _ ?_ (fun hHeld => ?_)
            · exact hbr
            clear hKK KK
            refine wpAnyH_take (i := 37) (by simp only [List.getElem?_toArray]; rfl) (by kernel_rfl) (by kernel_rfl) (by kernel_rfl) (by exact fun _ _ _ h => h) (by exact yk_ne (by kernel_rfl) .i64 3 (.tmp 74) (.tmp 77) _ rfl (NL : Int) (NL : Int) (by kernel_rfl) (by kernel_rfl) false (by simp)) hHeld ?_
            refine wpAnyH_take (i := 38) (by simp only [List.getElem?_toArray]; rfl) (by kernel_rfl) (by kernel_rfl) (by kernel_rfl) (by exact fun _ _ _ h => h) (by exact yk (.bool false) (by kernel_rfl) (fun _ => by kernel_rfl)) hHeld ?_
            refine wpAnyH_done (by kernel_rfl) ?_ _
            try simp only [Act.put, List.setIfInBounds_toArray, List.set_cons_zero, List.set_cons_succ]
            have r4 := r4.ext hbr
            have hx := hx.ext hbr
            have hbe := hbe.trans (hbr.mono hbe.size)
            go_wp2_with (first | ((with_reducible refine at_ld 46 11 ?_); refine wpList_ldS rfl (.tmp 11) rfl K1 rfl r4 ?_) | ((with_reducible refine at_st 46 7 80 ?_); refine wpList_stS rfl (.tmp 7) (.tmp 80) rfl Y S1 rfl rfl st hx ?_))
            go_roundw
            case rel => exact ⟨k + 1, S1, by omega, by omega, by go_num, HK1.out, HLEN.out, HOK.out, hx.row_ S1, below_setRow hbe _ _ (by have := HY.out; omega)⟩
            case measure => simp [intOf]; omega
      · go_wp2_with fail
        go_ret
        exact ⟨rfl, hbw⟩
end Go.Proofs.YtfopdoeiahlhpaaDoor
