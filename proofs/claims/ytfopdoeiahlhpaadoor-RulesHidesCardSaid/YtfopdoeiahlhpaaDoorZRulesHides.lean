/- RulesHides: the walk. Conditions: the numbers fit; the table lies. -/
import Derived.Test.YtfopdoeiahlhpaaDoorZRuBase08
namespace Go.Proofs.YtfopdoeiahlhpaaDoor
open Go.RowKit
set_option linter.unusedVariables false
theorem start_vw (g : Gm) (H O : List Int) (v : Nat → Bool) (hv : v 0 = false) : (startC g H).map (vw v) = (startC g O).map (vw v) := by
  unfold startC
  apply List.ext_getElem (by simp)
  intro j h1 h2
  have hj : j < g.L.length := by simpa using h1
  have q : ∀ c : Int × Nat, c.2 = 0 → vw v c = (0, 0) := fun c hc => by
    unfold vw
    rw [hc, hv]
    rfl
  rw [List.getElem_map, List.getElem_map, stK_got hj hj, stK_got hj hj]
  by_cases h0 : g.L[j].2 = 0
  · have e : ∀ X : List Int, (stAt g.L X g.L[j] j).2 = 0 := fun X => by
      unfold stAt
      split
      · exact h0
      · exact h0
    rw [q _ (e H), q _ (e O)]
  · unfold stAt
    rw [if_neg (fun h => h0 h.1), if_neg (fun h => h0 h.1)]

set_option maxHeartbeats 16000000 in
set_option maxRecDepth 20000 in
theorem RulesHides_walk (g0 : Gm) (s0 : Gs) (sa sb : Nat) (HA : Option Addr) (H : List Int) (hn hcp hbk : Nat) (OA : Option Addr) (O : List Int) (on ocp obk : Nat) (SA : Option Addr) (ls : List (List Nat)) (vs : List Value) (sn sc se : Nat) (oo : Nat) (w : World) (hT : CTab w) (hr0 : GRaw g0 s0) (hi0 : GIn w g0 s0) (hsa : sa ≤ 18446744073709551615) (hsb2 : sb ≤ 18446744073709551615) (hsH : Is w hbk HA H) (hlH : H.length = hn) (hmH : hn ≤ maxLen) (hcH : hn ≤ hcp) (hoH : ∀ x ∈ H, -2147483648 ≤ x ∧ x ≤ 2147483647) (hsO : Is w obk OA O) (hlO : O.length = on) (hmO : on ≤ maxLen) (hcO : on ≤ ocp) (hoO : ∀ x ∈ O, -2147483648 ≤ x ∧ x ≤ 2147483647) (hS0 : Sl w se SA vs) (hl : ls.length = sn) (hm : sn ≤ maxLen) (hy0 : Mss w vs ls) (ho : ∀ l ∈ ls, l.length ≤ maxLen ∧ ∀ x ∈ l, x ≤ 4294967295) (hoo : oo ≤ 255) :
    Calls Tryd.prog 5 #[.agg (gmA g0 s0), .int .u64 (sa : Int), .int .u64 (sb : Int), .slice HA hn hcp, .slice OA on ocp, .slice SA sn sc, .int .u8 (oo : Int)] w fun e w' => e = .returned (.bool true) ∧ Below w.heap.size w w' := by
  subst hlH; subst hlO
  have hb := below_alloc1 w (.cells (gmA g0 s0) 26)
  have hG := GBox.new_ w g0 s0
  have hi := hi0.ext hb
  have hA := awake_calls _ (hT.ext hb)
  clear hi0
  go_enter Tryd.func5, Tryd.ntmps5
  go_wp2_with fail
  refine hA.mono ?_
  rintro e w1 ⟨rfl, h1⟩
  replace hG := hG.ext h1
  replace hi := hi.ext h1
  replace hb := hb.trans (h1.mono hb.size)
  have hw1s : w.heap.size < w1.heap.size := hG.lt
  clear hA h1
  have hF := FewG_calls g0 s0 w1 hi hr0
  have z0 := hG.c0
  have z1 := hG.c1
  have z2 := hG.c2
  have z3 := hG.c3
  have z4 := hG.c4
  have z5 := hG.c5
  go_wp2_with fail
  refine hF.mono ?_
  rintro e w2 ⟨s, rfl, hi2, hok, hsb, h1⟩
  obtain ⟨g, hg⟩ : ∃ g, g = fewG g0 := ⟨_, rfl⟩
  rw [← hg] at hi2 hok ⊢
  replace hG := hG.ext h1
  replace hb := hb.trans (h1.mono hb.size)
  clear hF h1 hg hi z0 z1 z2 z3 z4 z5
  have z0 := hG.c0
  have z1 := hG.c1
  have z2 := hG.c2
  have z3 := hG.c3
  have z4 := hG.c4
  have z5 := hG.c5
  have hfz := hG.free
  go_upto_region 4 with fail
  obtain ⟨h9, m9⟩ := six_set6 (.int .i64 g.ob) (.int .i64 g.pl) (.int .u32 (g.mv : Int)) (.int .u32 (g.df : Int)) (.slice s.A g.L.length s.c) (.slice s.A' g.K.length s.c') hG
  obtain ⟨w3, hw3⟩ : ∃ w3, w3 = ((((((w2.setCell ⟨w.heap.size, 0, none⟩ (.int .i64 g.ob)).setCell ⟨w.heap.size, 1, none⟩ (.int .i64 g.pl)).setCell ⟨w.heap.size, 2, none⟩ (.int .u32 (g.mv : Int))).setCell ⟨w.heap.size, 3, none⟩ (.int .u32 (g.df : Int))).setCell ⟨w.heap.size, 4, none⟩ (.slice s.A g.L.length s.c)).setCell ⟨w.heap.size, 5, none⟩ (.slice s.A' g.K.length s.c')) := ⟨_, rfl⟩
  rw [← hw3] at h9 m9 ⊢
  have hb3 : Below w.heap.size w w3 := hb.trans (m9.below hb.size (fun i hi e => by have e : i = w.heap.size := e; omega))
  replace hi2 : GIn w3 g s := gin_mod1 hi2 m9 hsb.1 hsb.2 hw1s
  have hG : GBox w3 w.heap.size g s := h9
  clear hw3 h9 m9 hb hfz z0 z1 z2 z3 z4 z5 hsb hw1s
  obtain ⟨R, hRr⟩ : ∃ R, R = rightB g := ⟨_, rfl⟩
  have HR := Lib.hid hRr
  cases R with
  | false =>
    have hR := GRight_calls g s w3 hi2 hok (hT.ext hb3)
    rw [← HR.out] at hR
    have z0 := hG.c0
    have z1 := hG.c1
    have z2 := hG.c2
    have z3 := hG.c3
    have z4 := hG.c4
    have z5 := hG.c5
    clear hRr
    go_wp2_with fail
    refine hR.mono ?_
    rintro e w4 ⟨rfl, h1⟩
    have hb := hb3.trans (h1.mono hb3.size)
    clear hR h1 z0 z1 z2 z3 z4 z5
    go_wp2_with fail
    go_ret
    exact ⟨rfl, hb⟩
  | true =>
    have h48 := right48 hRr.symm
    obtain ⟨hp1, -, -, -, -⟩ := right_parts hRr.symm
    have hR := GRight_calls g s w3 hi2 hok (hT.ext hb3)
    rw [← HR.out] at hR
    have z0 := hG.c0
    have z1 := hG.c1
    have z2 := hG.c2
    have z3 := hG.c3
    have z4 := hG.c4
    have z5 := hG.c5
    clear hRr
    go_wp2_with fail
    refine hR.mono ?_
    rintro e wq ⟨rfl, h1⟩
    replace hG := hG.ext h1
    replace hi2 := hi2.ext h1
    replace hb3 := hb3.trans (h1.mono hb3.size)
    clear hR h1 z0 z1 z2 z3 z4 z5
    obtain ⟨q, hq⟩ := Int.eq_ofNat_of_zero_le (show 0 ≤ g.ob by omega)
    have hq1 : 1 ≤ q ∧ q ≤ 32 := by omega
    have z0 := hG.c0
    rw [hq] at z0
    have HQ := Lib.hid hq
    obtain ⟨p, hp⟩ : ∃ p : Nat, p = oo % q := ⟨_, rfl⟩
    have hpq : p < q := by rw [hp]; exact Nat.mod_lt _ (by omega)
    have hp32 : p < 32 := by omega
    have e2 : (oo : Int).tmod (q : Int) = (p : Int) := by rw [Int.tmod_eq_emod_of_nonneg (by omega), hp]; rfl
    have e3 : ((q : Int) == 0) = false := by simp; omega
    have alb : (allN g.ob).testBit p = true := by rw [allN_bit _ _ hp32, hq]; simp; omega
    have all32 := allN_lt g.ob
    clear hp hq hp1
    go_upto_region 7 with fail
    clear z0 e2 e3
    have hRr := HR.out
    have z0 := hG.c0
    have z1 := hG.c1
    have z2 := hG.c2
    have z3 := hG.c3
    have z4 := hG.c4
    have z5 := hG.c5
    have hS := Start_good g s sa H HA hcp wq hi2 hok (hT.ext hb3) hbk (Sl.ext hsH hb3) hmH hoH hRr.symm
    clear hRr
    obtain ⟨C, hC⟩ : ∃ C, C = startC g H := ⟨_, rfl⟩
    rw [← hC] at hS
    have HC := Lib.hid hC
    clear hC
    go_wp2_with fail
    refine hS.mono ?_
    rintro e w4 ⟨rfl, h1⟩
    replace hG := hG.ext h1
    replace hi2 := hi2.ext h1
    replace hb3 := hb3.trans (h1.mono hb3.size)
    clear hS h1 z0 z1 z2 z3 z4 z5
    go_upto_region 8 with (first | ((with_reducible refine at_al 46 16 ?_); refine wpList_alS rfl rfl (some 16) rfl w4.heap.size rfl ?_) | ((with_reducible refine at_st 46 16 44 ?_); refine wpList_stS rfl (.tmp 16) (.tmp 44) rfl w4.heap.size ⟨C, sa, 0⟩ rfl rfl zSt (BoxS.new_ _ _) ?_))
    rw [made_row]
    have h1 := below_alloc1 w4 (.cells (stA ⟨C, sa, 0⟩) 46)
    have hx := BoxS.new_ w4 ⟨C, sa, 0⟩
    obtain ⟨Y1, hY⟩ : ∃ Y1, Y1 = w4.heap.size := ⟨_, rfl⟩
    obtain ⟨w5, hw5⟩ : ∃ w5, w5 = w4.alloc (.cells (stA ⟨C, sa, 0⟩) 46) := ⟨_, rfl⟩
    rw [← hw5] at h1 hx ⊢
    rw [← hY] at hx ⊢
    have HY := Lib.hid hY
    clear hw5 hY
    have hbw5 := hb3.trans (h1.mono hb3.size)
    have oC : okC C := by rw [HC.out]; exact stK_ok _ hok.oL hoH
    have hCN : C.length = g.L.length := by rw [HC.out]; simp [startC]
    have HY1 := HY
    have hG5 := hG.ext h1
    have z0 := hG5.c0
    have z1 := hG5.c1
    have z2 := hG5.c2
    have z3 := hG5.c3
    have z4 := hG5.c4
    have z5 := hG5.c5
    have hS := Start_good g s sb O OA ocp w5 (hi2.ext h1) hok (hT.ext hbw5) obk (Sl.ext hsO hbw5) hmO hoO HR.out.symm
    obtain ⟨C2, hC2⟩ : ∃ C2, C2 = startC g O := ⟨_, rfl⟩
    rw [← hC2] at hS
    have oC2 : okC C2 := by rw [hC2]; exact stK_ok _ hok.oL hoO
    have hCN2 : C2.length = g.L.length := by rw [hC2]; simp [startC]
    have hrel0 : C.map (vw fun m => m.testBit p) = C2.map (vw fun m => m.testBit p) := by rw [hC2, HC.out]; exact start_vw g H O _ (Nat.zero_testBit p)
    clear hC2 hG5 HC HY
    go_wp2_with fail
    refine hS.mono ?_
    rintro e w6 ⟨rfl, h2⟩
    replace hx := hx.ext h2
    replace h1 := h1.trans (h2.mono h1.size)
    have hz6 := h2.size
    clear hS h2 z0 z1 z2 z3 z4 z5 hbw5
    have hxl := hx.lt
    go_upto_region 9 with (first | ((with_reducible refine at_al 46 18 ?_); refine wpList_alS rfl rfl (some 18) rfl w6.heap.size rfl ?_) | ((with_reducible refine at_st 46 18 51 ?_); refine wpList_stS rfl (.tmp 18) (.tmp 51) rfl w6.heap.size ⟨C2, sb, 0⟩ rfl rfl zSt (BoxS.new_ _ _) ?_))
    rw [made_row]
    have h2 := below_alloc1 w6 (.cells (stA ⟨C2, sb, 0⟩) 46)
    have hx2 := BoxS.new_ w6 ⟨C2, sb, 0⟩
    replace hx := hx.ext h2
    have h46 := h1.size
    replace h1 := h1.trans (h2.mono h1.size)
    obtain ⟨Y2, hY2⟩ : ∃ Y2, Y2 = w6.heap.size := ⟨_, rfl⟩
    obtain ⟨w7, hw7⟩ : ∃ w7, w7 = w6.alloc (.cells (stA ⟨C2, sb, 0⟩) 46) := ⟨_, rfl⟩
    rw [← hw7] at h1 hx hx2 ⊢
    rw [← hY2] at hx2 hxl h46 ⊢
    have hYY : w4.heap.size ≤ Y1 ∧ w4.heap.size ≤ Y2 ∧ Y1 < Y2 := ⟨by rw [HY1.out]; exact Nat.le_refl _, h46, hxl⟩
    clear hw7 hY2 h2 hz6 hxl h46 HY1
    obtain ⟨NL, hNL⟩ : ∃ NL, g.L.length = NL := ⟨_, rfl⟩
    rw [hNL] at hCN hCN2 h48
    have HLS := Lib.hid hl
    clear hl hNL
    go_wp2_with fail
    go_loopw [20, 21, 22, 23, 24, 25, 26, 55] (fun _ _ _ _ _ _ _ i wr => ∃ (k : Nat) (st sz : St), k ≤ sn ∧ k ≤ 20 ∧ i = .int .i64 k ∧ (st.tk = k ∧ sz.tk = k) ∧ (st.L.length = NL ∧ sz.L.length = NL) ∧ (okC st.L ∧ okC sz.L) ∧ st.L.map (vw fun m => m.testBit p) = sz.L.map (vw fun m => m.testBit p) ∧ BoxS wr Y1 st ∧ BoxS wr Y2 sz ∧ Below w4.heap.size w4 wr) (fun _ _ _ _ _ _ _ i _ => sn - (intOf i).toNat)
    case atStart => exact ⟨0, ⟨C, sa, 0⟩, ⟨C2, sb, 0⟩, Nat.zero_le _, by omega, rfl, ⟨rfl, rfl⟩, ⟨hCN, hCN2⟩, ⟨oC, oC2⟩, hrel0, hx, hx2, h1⟩
    case round =>
      clear hx hx2 h1 hCN hCN2 oC oC2 hrel0
      obtain ⟨k, st, sz, hk, hk20, rfl, htk, hLN, oL, hvw, hx, hx2, hbe⟩ := hrel
      have HTK := Lib.hid htk
      have HLN := Lib.hid hLN
      have HVW := Lib.hid hvw
      have hV1 := fun W => StView_calls st (p : Int) W (by rw [hLN.1]; exact h48) oL.1
      have hV2 := fun W => StView_calls sz (p : Int) W (by rw [hLN.2]; exact h48) oL.2
      obtain ⟨VW, hVW⟩ : ∃ VW : St, VW = ⟨viewL (p : Int) st.L, 0, st.tk⟩ := ⟨_, rfl⟩
      have hVW2 : (⟨viewL (p : Int) sz.L, 0, sz.tk⟩ : St) = VW := by rw [hVW, view_vw hp32, view_vw hp32, hvw, htk.1, htk.2]
      rw [← hVW] at hV1
      rw [hVW2] at hV2
      clear htk hLN hvw hVW hVW2
      have hbw : Below w.heap.size w wr := hb3.trans (hbe.mono hb3.size)
      by_cases hlt : k < sn
      · have ej : (k : Int) < (sn : Int) := by omega
        have hkl : k < ls.length := by rw [HLS.out]; exact hlt
        obtain ⟨MA, mc, mb, hvk, hM⟩ := (hy0.ext hbw).2 k ls[k] (List.getElem?_eq_getElem hkl)
        obtain ⟨off, hof, hce⟩ := (Sl.ext hS0 hbw) (by intro h0; rw [h0] at hvk; simp at hvk)
        have hc0 := hce k _ hvk
        have hMo := ho _ (List.getElem_mem hkl)
        obtain ⟨M, hMM⟩ : ∃ M, M = ls[k] := ⟨_, rfl⟩
        rw [← hMM] at hc0 hMo hM
        subst hof
        clear hMM hvk hce hkl
        by_cases h20 : k = 20
        · have e20 : (20 : Int) ≤ (k : Int) := by omega
          clear h20
          go_wp2_with fail
          refine wp_region_held_drew (S := fun w' => Below wr.heap.size wr w') (by kernel_rfl) ?_ (fun hHeld => ?_)
          · exact below_drew (Below.refl _ _)
          refine wpAnyH_take (i := 0) (by simp only [List.getElem?_toArray]; rfl) (by kernel_rfl) (by kernel_rfl) (by kernel_rfl) (by exact fun _ _ _ h => h) (by exact yieldsIf_ldS (by kernel_rfl) (.tmp 16) rfl (Y1) (by kernel_rfl) (fun _ h => hx.ext h)) hHeld ?_
          refine wpAnyH_take (i := 1) (by simp only [List.getElem?_toArray]; rfl) (by kernel_rfl) (by kernel_rfl) (by kernel_rfl) (by exact fun _ _ _ h => h) (by exact yk (.int .i64 (p : Int)) (by kernel_rfl) (fun _ => by kernel_rfl)) hHeld ?_
          refine wpAnyH_take (i := 3) (by simp only [List.getElem?_toArray]; rfl) (by kernel_rfl) (by kernel_rfl) (by kernel_rfl) (by exact fun _ _ _ h => h) (by exact yieldsIf_ldS (by kernel_rfl) (.tmp 18) rfl (Y2) (by kernel_rfl) (fun _ h => hx2.ext h)) hHeld ?_
          refine wpAnyH_take (i := 4) (by simp only [List.getElem?_toArray]; rfl) (by kernel_rfl) (by kernel_rfl) (by kernel_rfl) (by exact fun _ _ _ h => h) (by exact yk (.int .i64 (p : Int)) (by kernel_rfl) (fun _ => by kernel_rfl)) hHeld ?_
          refine wpAnyH_ready (rs := [2]) (by kernel_rfl) (by simp) ?_
          refine AllReadyH.cons (by simp only [List.getElem?_toArray]; rfl) (fun KK hKK => ?_) AllReadyH.nil
          rw [if_pos (by kernel_rfl)]
          refine wp_callF 22 #[.agg (stA st), .int .i64 (p : Int)] (by kernel_rfl) ?_
          refine (hV1 _).mono ?_
          rintro e we0 ⟨rfl, ha⟩
          have hbr0 := below_undrew2 ha
          clear ha
          refine ⟨_, rfl, ?_⟩
          refine hKK.out _ _ ?_ (fun hHeld => ?_)
          · exact hbr0
          clear hKK KK
          refine wpAnyH_ready (rs := [5]) (by kernel_rfl) (by simp) ?_
          refine AllReadyH.cons (by simp only [List.getElem?_toArray]; rfl) (fun KK hKK => ?_) AllReadyH.nil
          rw [if_pos (by kernel_rfl)]
          refine wp_callF 22 #[.agg (stA sz), .int .i64 (p : Int)] (by kernel_rfl) ?_
          refine (hV2 _).mono ?_
          rintro e we ⟨rfl, ha⟩
          have hbr := hbr0.trans (ha.mono hbr0.size)
          clear ha
          refine ⟨_, rfl, ?_⟩
          refine hKK.out _ _ ?_ (fun hHeld => ?_)
          · exact hbr
          clear hKK KK
          refine wpAnyH_take (i := 6) (by simp only [List.getElem?_toArray]; rfl) (by kernel_rfl) (by kernel_rfl) (by kernel_rfl) (by exact fun _ _ _ h => h) (by exact yk_eqSt (by kernel_rfl) (.tmp 171) (.tmp 174) rfl VW (by kernel_rfl) (by kernel_rfl)) hHeld ?_
          refine wpAnyH_take (i := 7) (by simp only [List.getElem?_toArray]; rfl) (by kernel_rfl) (by kernel_rfl) (by kernel_rfl) (by exact fun _ _ _ h => h) (by exact yk (.bool true) (by kernel_rfl) (fun _ => by kernel_rfl)) hHeld ?_
          refine wpAnyH_done (by kernel_rfl) ?_ _
          try simp only [Act.put, List.setIfInBounds_toArray, List.set_cons_zero, List.set_cons_succ]
          go_wp2_with fail
          go_ret
          exact ⟨rfl, hbw.trans (hbr.mono hbw.size)⟩
        · have e20 : ¬ (20 : Int) ≤ (k : Int) := by omega
          clear h20
          go_wp2_with fail
          refine wp_region_held_drew (S := fun w' => Below wr.heap.size wr w') (by kernel_rfl) ?_ (fun hHeld => ?_)
          · exact below_drew (Below.refl _ _)
          refine wpAnyH_take (i := 0) (by simp only [List.getElem?_toArray]; rfl) (by kernel_rfl) (by kernel_rfl) (by kernel_rfl) (by exact fun _ _ _ h => h) (by exact yieldsIf_ldS (by kernel_rfl) (.tmp 16) rfl (Y1) (by kernel_rfl) (fun _ h => hx.ext h)) hHeld ?_
          refine wpAnyH_take (i := 1) (by simp only [List.getElem?_toArray]; rfl) (by kernel_rfl) (by kernel_rfl) (by kernel_rfl) (by exact fun _ _ _ h => h) (by exact yk (.int .i64 (p : Int)) (by kernel_rfl) (fun _ => by kernel_rfl)) hHeld ?_
          refine wpAnyH_take (i := 3) (by simp only [List.getElem?_toArray]; rfl) (by kernel_rfl) (by kernel_rfl) (by kernel_rfl) (by exact fun _ _ _ h => h) (by exact yieldsIf_ldS (by kernel_rfl) (.tmp 18) rfl (Y2) (by kernel_rfl) (fun _ h => hx2.ext h)) hHeld ?_
          refine wpAnyH_take (i := 4) (by simp only [List.getElem?_toArray]; rfl) (by kernel_rfl) (by kernel_rfl) (by kernel_rfl) (by exact fun _ _ _ h => h) (by exact yk (.int .i64 (p : Int)) (by kernel_rfl) (fun _ => by kernel_rfl)) hHeld ?_
          refine wpAnyH_ready (rs := [2]) (by kernel_rfl) (by simp) ?_
          refine AllReadyH.cons (by simp only [List.getElem?_toArray]; rfl) (fun KK hKK => ?_) AllReadyH.nil
          rw [if_pos (by kernel_rfl)]
          refine wp_callF 22 #[.agg (stA st), .int .i64 (p : Int)] (by kernel_rfl) ?_
          refine (hV1 _).mono ?_
          rintro e wv0 ⟨rfl, ha⟩
          have hbr0 := below_undrew2 ha
          clear ha
          refine ⟨_, rfl, ?_⟩
          refine hKK.out _ _ ?_ (fun hHeld => ?_)
          · exact hbr0
          clear hKK KK
          refine wpAnyH_ready (rs := [5]) (by kernel_rfl) (by simp) ?_
          refine AllReadyH.cons (by simp only [List.getElem?_toArray]; rfl) (fun KK hKK => ?_) AllReadyH.nil
          rw [if_pos (by kernel_rfl)]
          refine wp_callF 22 #[.agg (stA sz), .int .i64 (p : Int)] (by kernel_rfl) ?_
          refine (hV2 _).mono ?_
          rintro e wv ⟨rfl, ha⟩
          have hbr := hbr0.trans (ha.mono hbr0.size)
          clear ha
          refine ⟨_, rfl, ?_⟩
          refine hKK.out _ _ ?_ (fun hHeld => ?_)
          · exact hbr
          clear hKK KK
          refine wpAnyH_take (i := 6) (by simp only [List.getElem?_toArray]; rfl) (by kernel_rfl) (by kernel_rfl) (by kernel_rfl) (by exact fun _ _ _ h => h) (by exact yk_neSt (by kernel_rfl) (.tmp 64) (.tmp 67) rfl VW (by kernel_rfl) (by kernel_rfl)) hHeld ?_
          refine wpAnyH_done (by kernel_rfl) ?_ _
          try simp only [Act.put, List.setIfInBounds_toArray, List.set_cons_zero, List.set_cons_succ]
          replace hx := hx.ext hbr
          replace hx2 := hx2.ext hbr
          replace hbe := hbe.trans (hbr.mono hbe.size)
          replace hbw := hbw.trans (hbr.mono hbw.size)
          replace hM := Sl.ext hM hbr
          clear hbr hbr0 hV1 hV2 hc0
          obtain ⟨F, hF⟩ : ∃ F, F = wholeV compN (stepP g st M) st.L st.d := ⟨_, rfl⟩
          obtain ⟨F2, hF2⟩ : ∃ F2, F2 = wholeV compN (stepP g sz M) sz.L sz.d := ⟨_, rfl⟩
          have hrw := whole_rel (comp := compN) (code := g.K) (mv := cntL g M) (mw := cntL g M) (tk := (st.tk + 1) % 4294967296) (al := allN g.ob) (vis_bit hp32 alb) (.inl ⟨p, hp32, rfl⟩) comp_fit all32 (cntL_fit g M) hok.oK (fun _ _ _ _ => rfl) rfl oL.1 HVW.out st.d sz.d
          rw [show (⟨g.K, cntL g M, (st.tk + 1) % 4294967296, allN g.ob⟩ : VP) = stepP g st M from rfl, ← hF, show stepP g st M = stepP g sz M by simp only [stepP, HTK.out.1, HTK.out.2], ← hF2] at hrw
          obtain ⟨K0, hK0⟩ := shows_rel hrw
          have HK := Lib.hid hK0
          have hsok := whole_shok compN (stepP g st M) all32 st.L st.d
          have hwl := whole_len (P := stepP g st M) (L := st.L) (d := st.d) all32 (cntL_fit g M) hok.oK oL.1
          have hwl2 := whole_len (P := stepP g sz M) (L := sz.L) (d := sz.d) all32 (cntL_fit g M) hok.oK oL.2
          rw [← hF] at hsok hwl
          rw [← hF2] at hwl2
          have HOK := Lib.hid hsok
          obtain ⟨S1, hS1⟩ : ∃ S1 : St, S1 = ⟨F.L, F.d, (st.tk + 1) % 4294967296⟩ := ⟨_, rfl⟩
          obtain ⟨S2, hS2⟩ : ∃ S2 : St, S2 = ⟨F2.L, F2.d, (sz.tk + 1) % 4294967296⟩ := ⟨_, rfl⟩
          have HE1 := Lib.hid (show S1.L = F.L ∧ S1.tk = k + 1 ∧ S1.L.length = NL ∧ okC S1.L from ⟨by rw [hS1], by rw [hS1]; show (st.tk + 1) % 4294967296 = k + 1; rw [HTK.out.1]; omega, by rw [hS1]; exact hwl.1.trans HLN.out.1, by rw [hS1]; exact hwl.2⟩)
          have HE2 := Lib.hid (show S2.L = F2.L ∧ S2.tk = k + 1 ∧ S2.L.length = NL ∧ okC S2.L from ⟨by rw [hS2], by rw [hS2]; show (sz.tk + 1) % 4294967296 = k + 1; rw [HTK.out.2]; omega, by rw [hS2]; exact hwl2.1.trans HLN.out.2, by rw [hS2]; exact hwl2.2⟩)
          have hP := Step_good g s st M MA mc mb wv (hi2.ext hbe) hok (hT.ext hbw) hM HR.out.symm hMo.2 hMo.1 (by rw [HLN.out.1]; exact h48) oL.1 (by rw [HTK.out.1]; omega) hF
          rw [← hS1] at hP
          have HF2 := Lib.hid hF2
          have HS2 := Lib.hid hS2
          have hG8 := hG.ext hbe
          have z0 := hG8.c0
          have z1 := hG8.c1
          have z2 := hG8.c2
          have z3 := hG8.c3
          have z4 := hG8.c4
          have z5 := hG8.c5
          clear hrw hK0 hsok hwl hwl2 hS1 hS2 hF hF2 hG8
          go_wp2_with ((with_reducible refine at_ld 46 16 ?_); refine wpList_ldS rfl (.tmp 16) rfl Y1 rfl hx ?_)
          refine hP.mono ?_
          rintro e wa ⟨sh, rfl, hsh, h1⟩
          replace hx := hx.ext h1
          replace hx2 := hx2.ext h1
          replace hbe := hbe.trans (h1.mono hbe.size)
          replace hbw := hbw.trans (h1.mono hbw.size)
          replace hM := Sl.ext hM h1
          clear hP h1 z0 z1 z2 z3 z4 z5
          have hk1 := (⟨hx.lt, hx2.lt⟩ : Y1 < wa.heap.size ∧ Y2 < wa.heap.size)
          have hs1 : sh.oneCell' = true := by
            rcases hsh.2 with ⟨rfl, -⟩ | ⟨_, _, _, rfl, -⟩ <;> rfl
          have h5 := below_alloc1 (wa.alloc (.cells (stA zSt) 46)) (.cells #[.int .u64 0, .slice none 0 0, .int .i64 0] 53)
          have y4 := (BoxS.new_ wa zSt).ext h5
          have y5 : OBox ((wa.alloc (.cells (stA zSt) 46)).alloc (.cells #[.int .u64 0, .slice none 0 0, .int .i64 0] 53)) (wa.heap.size + 1) 0 (.slice none 0 0) 0 := by
            have h := OBox.new_ (wa.alloc (.cells (stA zSt) 46)) 0 (.slice none 0 0) 0
            rw [World.size_alloc] at h
            exact h
          clear h5
          have hsh := Lib.hid hsh
          go_upto_region 16 with (first | ((with_reducible refine at_al 46 22 ?_); refine wpList_alS rfl rfl (some 22) rfl wa.heap.size rfl ?_) | ((with_reducible refine at_st 46 22 74 ?_); refine wpList_stS rfl (.tmp 22) (.tmp 74) rfl wa.heap.size S1 rfl rfl zSt y4 ?_) | ((with_reducible refine at_st 53 23 75 ?_); refine wpList_stO rfl (.tmp 23) (.tmp 75) rfl (wa.heap.size + 1) F.t sh F.e rfl rfl hs1 (y5.mod (mod_setRow _ wa.heap.size _) (by show ¬ wa.heap.size + 1 = wa.heap.size; omega)) ?_))
          have r4 := (y4.row_ S1).mod (mod_setRow (((wa.alloc (.cells (stA zSt) 46)).alloc (.cells #[.int .u64 0, .slice none 0 0, .int .i64 0] 53)).setRow wa.heap.size (stA S1)) (wa.heap.size + 1) (otA F.t sh F.e)) (by show ¬ wa.heap.size = wa.heap.size + 1; omega)
          have r5 := (y5.mod (mod_setRow ((wa.alloc (.cells (stA zSt) 46)).alloc (.cells #[.int .u64 0, .slice none 0 0, .int .i64 0] 53)) wa.heap.size (stA S1)) (by show ¬ wa.heap.size + 1 = wa.heap.size; omega)).row_ F.t sh F.e
          have hbo : Below wa.heap.size wa _ := below_setRow (below_setRow (below_alloc2 wa (.cells (stA zSt) 46) (.cells #[.int .u64 0, .slice none 0 0, .int .i64 0] 53)) wa.heap.size (stA S1) (Nat.le_refl _)) (wa.heap.size + 1) (otA F.t sh F.e) (Nat.le_succ _)
          obtain ⟨wb, hWo⟩ : ∃ wb, wb = ((((wa.alloc (.cells (stA zSt) 46)).alloc (.cells #[.int .u64 0, .slice none 0 0, .int .i64 0] 53)).setRow wa.heap.size (stA S1)).setRow (wa.heap.size + 1) (otA F.t sh F.e)) := ⟨_, rfl⟩
          rw [← hWo] at r4 r5 hbo
          go_frame
          rw [← hWo]
          clear hWo y4 y5 hs1
          have hsh := rows_ext hsh.out hbo
          replace hx := hx.ext hbo
          replace hx2 := hx2.ext hbo
          replace hbe := hbe.trans (hbo.mono hbe.size)
          replace hbw := hbw.trans (hbo.mono hbw.size)
          replace hM := Sl.ext hM hbo
          obtain ⟨K1, hK⟩ : ∃ K1, K1 = wa.heap.size := ⟨_, rfl⟩
          rw [← hK] at r4 r5 hk1 ⊢
          clear hK
          have a4 := r4
          have a5 := r5
          have hshA := hsh
          clear r4 r5 hsh hbo
          have hP := Step_good g s sz M MA mc mb wb (hi2.ext hbe) hok (hT.ext hbw) hM HR.out.symm hMo.2 hMo.1 (by rw [HLN.out.2]; exact h48) oL.2 (by rw [HTK.out.2]; omega) HF2.out
          rw [← HS2.out] at hP
          have hG8 := hG.ext hbe
          have z0 := hG8.c0
          have z1 := hG8.c1
          have z2 := hG8.c2
          have z3 := hG8.c3
          have z4 := hG8.c4
          have z5 := hG8.c5
          clear hG8
          go_wp2_with ((with_reducible refine at_ld 46 18 ?_); refine wpList_ldS rfl (.tmp 18) rfl Y2 rfl hx2 ?_)
          refine hP.mono ?_
          rintro e wc ⟨sh2, rfl, hsh, h1⟩
          replace hx := hx.ext h1
          replace hx2 := hx2.ext h1
          replace hbe := hbe.trans (h1.mono hbe.size)
          replace hbw := hbw.trans (h1.mono hbw.size)
          replace hM := Sl.ext hM h1
          replace a4 := a4.ext h1
          replace a5 := a5.ext h1
          replace hshA := rows_ext hshA h1
          clear hP h1 z0 z1 z2 z3 z4 z5
          have hk2 := (⟨hx.lt, hx2.lt⟩ : Y1 < wc.heap.size ∧ Y2 < wc.heap.size)
          have hs1 : sh2.oneCell' = true := by
            rcases hsh.2 with ⟨rfl, -⟩ | ⟨_, _, _, rfl, -⟩ <;> rfl
          have h5 := below_alloc1 (wc.alloc (.cells (stA zSt) 46)) (.cells #[.int .u64 0, .slice none 0 0, .int .i64 0] 53)
          have y4 := (BoxS.new_ wc zSt).ext h5
          have y5 : OBox ((wc.alloc (.cells (stA zSt) 46)).alloc (.cells #[.int .u64 0, .slice none 0 0, .int .i64 0] 53)) (wc.heap.size + 1) 0 (.slice none 0 0) 0 := by
            have h := OBox.new_ (wc.alloc (.cells (stA zSt) 46)) 0 (.slice none 0 0) 0
            rw [World.size_alloc] at h
            exact h
          clear h5
          have hsh := Lib.hid hsh
          go_upto_region 17 with (first | ((with_reducible refine at_al 46 24 ?_); refine wpList_alS rfl rfl (some 24) rfl wc.heap.size rfl ?_) | ((with_reducible refine at_st 46 24 81 ?_); refine wpList_stS rfl (.tmp 24) (.tmp 81) rfl wc.heap.size S2 rfl rfl zSt y4 ?_) | ((with_reducible refine at_st 53 25 82 ?_); refine wpList_stO rfl (.tmp 25) (.tmp 82) rfl (wc.heap.size + 1) F2.t sh2 F2.e rfl rfl hs1 (y5.mod (mod_setRow _ wc.heap.size _) (by show ¬ wc.heap.size + 1 = wc.heap.size; omega)) ?_))
          have r4 := (y4.row_ S2).mod (mod_setRow (((wc.alloc (.cells (stA zSt) 46)).alloc (.cells #[.int .u64 0, .slice none 0 0, .int .i64 0] 53)).setRow wc.heap.size (stA S2)) (wc.heap.size + 1) (otA F2.t sh2 F2.e)) (by show ¬ wc.heap.size = wc.heap.size + 1; omega)
          have r5 := (y5.mod (mod_setRow ((wc.alloc (.cells (stA zSt) 46)).alloc (.cells #[.int .u64 0, .slice none 0 0, .int .i64 0] 53)) wc.heap.size (stA S2)) (by show ¬ wc.heap.size + 1 = wc.heap.size; omega)).row_ F2.t sh2 F2.e
          have hbo : Below wc.heap.size wc _ := below_setRow (below_setRow (below_alloc2 wc (.cells (stA zSt) 46) (.cells #[.int .u64 0, .slice none 0 0, .int .i64 0] 53)) wc.heap.size (stA S2) (Nat.le_refl _)) (wc.heap.size + 1) (otA F2.t sh2 F2.e) (Nat.le_succ _)
          obtain ⟨wd, hWo⟩ : ∃ wd, wd = ((((wc.alloc (.cells (stA zSt) 46)).alloc (.cells #[.int .u64 0, .slice none 0 0, .int .i64 0] 53)).setRow wc.heap.size (stA S2)).setRow (wc.heap.size + 1) (otA F2.t sh2 F2.e)) := ⟨_, rfl⟩
          rw [← hWo] at r4 r5 hbo
          go_frame
          rw [← hWo]
          clear hWo y4 y5 hs1
          have hsh := rows_ext hsh.out hbo
          replace hx := hx.ext hbo
          replace hx2 := hx2.ext hbo
          replace hbe := hbe.trans (hbo.mono hbe.size)
          replace hbw := hbw.trans (hbo.mono hbw.size)
          replace hM := Sl.ext hM hbo
          replace a4 := a4.ext hbo
          replace a5 := a5.ext hbo
          replace hshA := rows_ext hshA hbo
          obtain ⟨K2, hK⟩ : ∃ K2, K2 = wc.heap.size := ⟨_, rfl⟩
          rw [← hK] at r4 r5 hk2 ⊢
          clear hK
          have b4 := r4
          have b5 := r5
          have hshB := hsh
          clear r4 r5 hsh hbo hM
          obtain ⟨A8, c8, b8, rfl, hc8, hm8, hs8⟩ := rowS_sl hshA
          obtain ⟨B8, d8, b8', rfl, -, -, hs9⟩ := rowS_sl hshB
          obtain ⟨nS, hnS⟩ : ∃ nS, nS = F.sh.length := ⟨_, rfl⟩
          obtain ⟨nT, hnT⟩ : ∃ nT, nT = F2.sh.length := ⟨_, rfl⟩
          rw [← hnS] at a5
          rw [← hnT] at b5
          rw [← hnS]
          rw [← hnT]
          have HNS := Lib.hid hnS
          have HNT := Lib.hid hnT
          have a1 := ob_s a5
          have a2 := ob_s b5
          obtain ⟨mn, hmn⟩ : ∃ mn, mn = min nS nT := ⟨_, rfl⟩
          have hmin : (if (nT : Int) < (nS : Int) then (nT : Int) else (nS : Int)) = (mn : Int) := by split <;> omega
          have hmin2 : min (nS : Int) (nT : Int) = (mn : Int) := by omega
          have hmin3 : (if (nS : Int) ≤ (nT : Int) then (nS : Int) else (nT : Int)) = (mn : Int) := by split <;> omega
          have hmnS : mn ≤ nS ∧ mn ≤ nT := by omega
          have HMN := Lib.hid hmn
          have hm64 : mn ≤ 9223372036854775807 := by omega
          clear hshA hshB hnS hnT hmn hc8 hm8
          go_wp2_with fail
          clear a1 a2 hmin hmin2 hmin3
          obtain ⟨wk, hwk⟩ : ∃ wk, wk = wd := ⟨_, rfl⟩
          rw [← hwk] at a4 a5 b4 b5 hs8 hs9 hx hx2 hbe hbw ⊢
          clear hwk
          go_loopw [26, 90] (fun _ i wr => ∃ j : Nat, j ≤ mn ∧ i = .int .i64 j ∧ j ≤ K0 ∧ Below wk.heap.size wk wr) (fun _ i _ => mn - (intOf i).toNat)
          case atStart => exact ⟨0, Nat.zero_le _, rfl, Nat.zero_le _, Below.refl _ _⟩
          case round =>
            obtain ⟨j, hj, rfl, hjK, hbk⟩ := hrel
            by_cases hlj : j < mn
            · have ejj : (j : Int) < (mn : Int) := by omega
              have hkS : j < F.sh.length := by rw [← HNS.out]; omega
              have hkT : j < F2.sh.length := by rw [← HNT.out]; omega
              have ekS : (j : Int) < (nS : Int) := by omega
              have ekT : (j : Int) < (nT : Int) := by omega
              obtain ⟨off8, rfl, hc⟩ := (Sl.ext hs8 hbk) (by intro h0; have h5 := congrArg List.length h0; rw [sv_length, List.length_nil] at h5; omega)
              obtain ⟨off9, rfl, hc'⟩ := (Sl.ext hs9 hbk) (by intro h0; have h5 := congrArg List.length h0; rw [sv_length, List.length_nil] at h5; omega)
              obtain ⟨g0', g1', g2'⟩ := sv_get hkS
              have c0 := hc _ _ g0'
              have c1 := hc _ _ g1'
              have c2 := hc _ _ g2'
              rw [← Nat.add_assoc] at c1 c2
              obtain ⟨j0, j1, j2⟩ := sv_get hkT
              have d0 := hc' _ _ j0
              have d1 := hc' _ _ j1
              have d2' := hc' _ _ j2
              rw [← Nat.add_assoc] at d1 d2'
              have hsame := HK.out.same j hkS hkT hjK
              have hml := HOK.out _ (List.getElem_mem hkS)
              obtain ⟨⟨x1, x2, x3⟩, hxq⟩ : ∃ q, q = F.sh[j] := ⟨_, rfl⟩
              obtain ⟨⟨y1, y2, y3⟩, hyq⟩ : ∃ q, q = F2.sh[j] := ⟨_, rfl⟩
              rw [← hxq] at c0 c1 c2 hml
              rw [← hyq] at d0 d1 d2'
              rw [← hxq, ← hyq] at hsame
              simp only at c0 c1 c2 d0 d1 d2' hml hsame
              obtain ⟨rfl, rfl, -⟩ := hsame
              have HGO := Lib.hid (show (x2.testBit p = true → x3 = y3) → j < K0 from fun h => by
                rcases Nat.lt_or_ge j K0 with h1 | h1
                · exact h1
                · obtain rfl : j = K0 := by omega
                  rcases HK.out.ends with ⟨e, -, -⟩ | ⟨h1, h2, h3, h4⟩
                  · omega
                  · rw [← hxq] at h3 h4
                    rw [← hyq] at h4
                    exact absurd (h h3) h4)
              have hHo := fun W => MHas_calls x2 (p : Int) W hml
              rw [sees_of x2 hp32] at hHo
              obtain ⟨tb, htb⟩ : ∃ tb, tb = x2.testBit p := ⟨_, rfl⟩
              rw [← htb] at hHo HGO
              have a1 := ob_s (a5.ext hbk)
              have a2 := ob_s (b5.ext hbk)
              clear hxq hyq htb hc hc' g0' g1' g2' j0 j1 j2 hkS hkT hml hjK
              cases tb with
              | true =>
                by_cases hxy : x3 = y3
                · subst hxy
                  go_wp2_with fail
                  refine wp_region_held_drew (S := fun w' => Below wr.heap.size wr w') (by kernel_rfl) ?_ (fun hHeld => ?_)
                  · exact (by repeat (first | exact Below.refl _ _ | refine below_drewN ?_ _ | refine below_drew ?_))
                  refine wpAnyH_take (i := 0) (by simp only [List.getElem?_toArray]; rfl) (by kernel_rfl) (by kernel_rfl) (by kernel_rfl) (by exact fun _ _ _ h => h) (by exact yk (.pointer (some ⟨(K1 + 1), 1, none⟩)) (by kernel_rfl) (fun _ => by kernel_rfl)) hHeld ?_
                  refine wpAnyH_take (i := 1) (by simp only [List.getElem?_toArray]; rfl) (by kernel_rfl) (by kernel_rfl) (by kernel_rfl) (by exact fun _ _ _ h => h) (by exact yk_ldS (by kernel_rfl) (.tmp 93) rfl ⟨(K1 + 1), 1, none⟩ (.slice (some ⟨b8, off8, none⟩) nS c8) (by kernel_rfl) (fun w h => sl_same h a1)) hHeld ?_
                  refine wpAnyH_take (i := 2) (by simp only [List.getElem?_toArray]; rfl) (by kernel_rfl) (by kernel_rfl) (by kernel_rfl) (by exact fun _ _ _ h => h) (by exact yk (.int .i64 (j : Int)) (by kernel_rfl) (fun _ => by kernel_rfl)) hHeld ?_
                  refine wpAnyH_take (i := 3) (by simp only [List.getElem?_toArray]; rfl) (by kernel_rfl) (by kernel_rfl) (by kernel_rfl) (by exact fun _ _ _ h => h) (by exact yk_ix (by kernel_rfl) (.tmp 94) (.tmp 95) rfl b8 (off8) nS c8 j (by kernel_rfl) (by kernel_rfl) ekS) hHeld ?_
                  refine wpAnyH_take (i := 4) (by simp only [List.getElem?_toArray]; rfl) (by kernel_rfl) (by kernel_rfl) (by kernel_rfl) (by exact fun _ _ _ h => h) (by exact yk (.pointer (some ⟨b8, off8 + j * 3, none⟩)) (by kernel_rfl) (fun _ => by kernel_rfl)) hHeld ?_
                  refine wpAnyH_take (i := 5) (by simp only [List.getElem?_toArray]; rfl) (by kernel_rfl) (by kernel_rfl) (by kernel_rfl) (by exact fun _ _ _ h => h) (by exact yk_ldI (by kernel_rfl) (.tmp 97) rfl ⟨b8, off8 + j * 3, none⟩ (.int .i64 (x1 : Int)) (by kernel_rfl) (fun w h => sl_same h c0)) hHeld ?_
                  refine wpAnyH_take (i := 6) (by simp only [List.getElem?_toArray]; rfl) (by kernel_rfl) (by kernel_rfl) (by kernel_rfl) (by exact fun _ _ _ h => h) (by exact yk (.pointer (some ⟨(K2 + 1), 1, none⟩)) (by kernel_rfl) (fun _ => by kernel_rfl)) hHeld ?_
                  refine wpAnyH_take (i := 7) (by simp only [List.getElem?_toArray]; rfl) (by kernel_rfl) (by kernel_rfl) (by kernel_rfl) (by exact fun _ _ _ h => h) (by exact yk_ldS (by kernel_rfl) (.tmp 99) rfl ⟨(K2 + 1), 1, none⟩ (.slice (some ⟨b8', off9, none⟩) nT d8) (by kernel_rfl) (fun w h => sl_same h a2)) hHeld ?_
                  refine wpAnyH_take (i := 8) (by simp only [List.getElem?_toArray]; rfl) (by kernel_rfl) (by kernel_rfl) (by kernel_rfl) (by exact fun _ _ _ h => h) (by exact yk (.int .i64 (j : Int)) (by kernel_rfl) (fun _ => by kernel_rfl)) hHeld ?_
                  refine wpAnyH_take (i := 9) (by simp only [List.getElem?_toArray]; rfl) (by kernel_rfl) (by kernel_rfl) (by kernel_rfl) (by exact fun _ _ _ h => h) (by exact yk_ix (by kernel_rfl) (.tmp 100) (.tmp 101) rfl b8' (off9) nT d8 j (by kernel_rfl) (by kernel_rfl) ekT) hHeld ?_
                  refine wpAnyH_take (i := 10) (by simp only [List.getElem?_toArray]; rfl) (by kernel_rfl) (by kernel_rfl) (by kernel_rfl) (by exact fun _ _ _ h => h) (by exact yk (.pointer (some ⟨b8', off9 + j * 3, none⟩)) (by kernel_rfl) (fun _ => by kernel_rfl)) hHeld ?_
                  refine wpAnyH_take (i := 11) (by simp only [List.getElem?_toArray]; rfl) (by kernel_rfl) (by kernel_rfl) (by kernel_rfl) (by exact fun _ _ _ h => h) (by exact yk_ldI (by kernel_rfl) (.tmp 103) rfl ⟨b8', off9 + j * 3, none⟩ (.int .i64 (x1 : Int)) (by kernel_rfl) (fun w h => sl_same h d0)) hHeld ?_
                  refine wpAnyH_take (i := 12) (by simp only [List.getElem?_toArray]; rfl) (by kernel_rfl) (by kernel_rfl) (by kernel_rfl) (by exact fun _ _ _ h => h) (by exact yk_ne (by kernel_rfl) .i64 3 (.tmp 98) (.tmp 104) _ rfl ((x1 : Int)) ((x1 : Int)) (by kernel_rfl) (by kernel_rfl) false (by simp)) hHeld ?_
                  refine wpAnyH_take (i := 13) (by simp only [List.getElem?_toArray]; rfl) (by kernel_rfl) (by kernel_rfl) (by kernel_rfl) (by exact fun _ _ _ h => h) (by exact yk (.bool false) (by kernel_rfl) (fun _ => by kernel_rfl)) hHeld ?_
                  refine wpAnyH_take (i := 14) (by simp only [List.getElem?_toArray]; rfl) (by kernel_rfl) (by kernel_rfl) (by kernel_rfl) (by exact fun _ _ _ h => h) (by exact yk (.pointer (some ⟨(K1 + 1), 1, none⟩)) (by kernel_rfl) (fun _ => by kernel_rfl)) hHeld ?_
                  refine wpAnyH_take (i := 15) (by simp only [List.getElem?_toArray]; rfl) (by kernel_rfl) (by kernel_rfl) (by kernel_rfl) (by exact fun _ _ _ h => h) (by exact yk_ldS (by kernel_rfl) (.tmp 107) rfl ⟨(K1 + 1), 1, none⟩ (.slice (some ⟨b8, off8, none⟩) nS c8) (by kernel_rfl) (fun w h => sl_same h a1)) hHeld ?_
                  refine wpAnyH_take (i := 16) (by simp only [List.getElem?_toArray]; rfl) (by kernel_rfl) (by kernel_rfl) (by kernel_rfl) (by exact fun _ _ _ h => h) (by exact yk (.int .i64 (j : Int)) (by kernel_rfl) (fun _ => by kernel_rfl)) hHeld ?_
                  refine wpAnyH_take (i := 17) (by simp only [List.getElem?_toArray]; rfl) (by kernel_rfl) (by kernel_rfl) (by kernel_rfl) (by exact fun _ _ _ h => h) (by exact yk_ix (by kernel_rfl) (.tmp 108) (.tmp 109) rfl b8 (off8) nS c8 j (by kernel_rfl) (by kernel_rfl) ekS) hHeld ?_
                  refine wpAnyH_take (i := 18) (by simp only [List.getElem?_toArray]; rfl) (by kernel_rfl) (by kernel_rfl) (by kernel_rfl) (by exact fun _ _ _ h => h) (by exact yk (.pointer (some ⟨b8, off8 + j * 3 + 1, none⟩)) (by kernel_rfl) (fun _ => by kernel_rfl)) hHeld ?_
                  refine wpAnyH_take (i := 19) (by simp only [List.getElem?_toArray]; rfl) (by kernel_rfl) (by kernel_rfl) (by kernel_rfl) (by exact fun _ _ _ h => h) (by exact yk_ldM (by kernel_rfl) (.tmp 111) rfl ⟨b8, off8 + j * 3 + 1, none⟩ (.int .u32 (x2 : Int)) (by kernel_rfl) (fun w h => sl_same h c1)) hHeld ?_
                  refine wpAnyH_take (i := 20) (by simp only [List.getElem?_toArray]; rfl) (by kernel_rfl) (by kernel_rfl) (by kernel_rfl) (by exact fun _ _ _ h => h) (by exact yk (.pointer (some ⟨(K2 + 1), 1, none⟩)) (by kernel_rfl) (fun _ => by kernel_rfl)) hHeld ?_
                  refine wpAnyH_take (i := 21) (by simp only [List.getElem?_toArray]; rfl) (by kernel_rfl) (by kernel_rfl) (by kernel_rfl) (by exact fun _ _ _ h => h) (by exact yk_ldS (by kernel_rfl) (.tmp 113) rfl ⟨(K2 + 1), 1, none⟩ (.slice (some ⟨b8', off9, none⟩) nT d8) (by kernel_rfl) (fun w h => sl_same h a2)) hHeld ?_
                  refine wpAnyH_take (i := 22) (by simp only [List.getElem?_toArray]; rfl) (by kernel_rfl) (by kernel_rfl) (by kernel_rfl) (by exact fun _ _ _ h => h) (by exact yk (.int .i64 (j : Int)) (by kernel_rfl) (fun _ => by kernel_rfl)) hHeld ?_
                  refine wpAnyH_take (i := 23) (by simp only [List.getElem?_toArray]; rfl) (by kernel_rfl) (by kernel_rfl) (by kernel_rfl) (by exact fun _ _ _ h => h) (by exact yk_ix (by kernel_rfl) (.tmp 114) (.tmp 115) rfl b8' (off9) nT d8 j (by kernel_rfl) (by kernel_rfl) ekT) hHeld ?_
                  refine wpAnyH_take (i := 24) (by simp only [List.getElem?_toArray]; rfl) (by kernel_rfl) (by kernel_rfl) (by kernel_rfl) (by exact fun _ _ _ h => h) (by exact yk (.pointer (some ⟨b8', off9 + j * 3 + 1, none⟩)) (by kernel_rfl) (fun _ => by kernel_rfl)) hHeld ?_
                  refine wpAnyH_take (i := 25) (by simp only [List.getElem?_toArray]; rfl) (by kernel_rfl) (by kernel_rfl) (by kernel_rfl) (by exact fun _ _ _ h => h) (by exact yk_ldM (by kernel_rfl) (.tmp 117) rfl ⟨b8', off9 + j * 3 + 1, none⟩ (.int .u32 (x2 : Int)) (by kernel_rfl) (fun w h => sl_same h d1)) hHeld ?_
                  refine wpAnyH_take (i := 26) (by simp only [List.getElem?_toArray]; rfl) (by kernel_rfl) (by kernel_rfl) (by kernel_rfl) (by exact fun _ _ _ h => h) (by exact yk_ne (by kernel_rfl) .u32 37 (.tmp 112) (.tmp 118) _ rfl ((x2 : Int)) ((x2 : Int)) (by kernel_rfl) (by kernel_rfl) false (by simp)) hHeld ?_
                  refine wpAnyH_take (i := 27) (by simp only [List.getElem?_toArray]; rfl) (by kernel_rfl) (by kernel_rfl) (by kernel_rfl) (by exact fun _ _ _ h => h) (by exact yk (.bool false) (by kernel_rfl) (fun _ => by kernel_rfl)) hHeld ?_
                  refine wpAnyH_done (by kernel_rfl) ?_ _
                  try simp only [Act.put, List.setIfInBounds_toArray, List.set_cons_zero, List.set_cons_succ]
                  go_wp2_with fail
                  refine wp_region_held_drew (S := fun w' => Below wr.heap.size wr w') (by kernel_rfl) ?_ (fun hHeld => ?_)
                  · exact (by repeat (first | exact Below.refl _ _ | refine below_drewN ?_ _ | refine below_drew ?_))
                  refine wpAnyH_take (i := 0) (by simp only [List.getElem?_toArray]; rfl) (by kernel_rfl) (by kernel_rfl) (by kernel_rfl) (by exact fun _ _ _ h => h) (by exact yk (.pointer (some ⟨(K1 + 1), 1, none⟩)) (by kernel_rfl) (fun _ => by kernel_rfl)) hHeld ?_
                  refine wpAnyH_take (i := 1) (by simp only [List.getElem?_toArray]; rfl) (by kernel_rfl) (by kernel_rfl) (by kernel_rfl) (by exact fun _ _ _ h => h) (by exact yk_ldS (by kernel_rfl) (.tmp 121) rfl ⟨(K1 + 1), 1, none⟩ (.slice (some ⟨b8, off8, none⟩) nS c8) (by kernel_rfl) (fun w h => sl_same h a1)) hHeld ?_
                  refine wpAnyH_take (i := 2) (by simp only [List.getElem?_toArray]; rfl) (by kernel_rfl) (by kernel_rfl) (by kernel_rfl) (by exact fun _ _ _ h => h) (by exact yk (.int .i64 (j : Int)) (by kernel_rfl) (fun _ => by kernel_rfl)) hHeld ?_
                  refine wpAnyH_take (i := 3) (by simp only [List.getElem?_toArray]; rfl) (by kernel_rfl) (by kernel_rfl) (by kernel_rfl) (by exact fun _ _ _ h => h) (by exact yk_ix (by kernel_rfl) (.tmp 122) (.tmp 123) rfl b8 (off8) nS c8 j (by kernel_rfl) (by kernel_rfl) ekS) hHeld ?_
                  refine wpAnyH_take (i := 4) (by simp only [List.getElem?_toArray]; rfl) (by kernel_rfl) (by kernel_rfl) (by kernel_rfl) (by exact fun _ _ _ h => h) (by exact yk (.pointer (some ⟨b8, off8 + j * 3 + 1, none⟩)) (by kernel_rfl) (fun _ => by kernel_rfl)) hHeld ?_
                  refine wpAnyH_take (i := 5) (by simp only [List.getElem?_toArray]; rfl) (by kernel_rfl) (by kernel_rfl) (by kernel_rfl) (by exact fun _ _ _ h => h) (by exact yk_ldM (by kernel_rfl) (.tmp 125) rfl ⟨b8, off8 + j * 3 + 1, none⟩ (.int .u32 (x2 : Int)) (by kernel_rfl) (fun w h => sl_same h c1)) hHeld ?_
                  refine wpAnyH_take (i := 6) (by simp only [List.getElem?_toArray]; rfl) (by kernel_rfl) (by kernel_rfl) (by kernel_rfl) (by exact fun _ _ _ h => h) (by exact yk (.int .i64 (p : Int)) (by kernel_rfl) (fun _ => by kernel_rfl)) hHeld ?_
                  refine wpAnyH_ready (rs := [7]) (by kernel_rfl) (by simp) ?_
                  refine AllReadyH.cons (by simp only [List.getElem?_toArray]; rfl) (fun KK hKK => ?_) AllReadyH.nil
                  rw [if_pos (by kernel_rfl)]
                  refine wp_callF 26 #[.int .u32 (x2 : Int), .int .i64 (p : Int)] (by kernel_rfl) ?_
                  refine (hHo _).mono ?_
                  rintro e wx ⟨rfl, hwx⟩
                  subst hwx
                  refine ⟨_, rfl, ?_⟩
                  refine hKK.out _ _ ?_ (fun hHeld => ?_)
                  · exact (by repeat (first | exact Below.refl _ _ | refine below_drewN ?_ _ | refine below_drew ?_))
                  clear hKK KK
                  refine wpAnyH_take (i := 8) (by simp only [List.getElem?_toArray]; rfl) (by kernel_rfl) (by kernel_rfl) (by kernel_rfl) (by exact fun _ _ _ h => h) (by exact yk (.bool true) (by kernel_rfl) (fun _ => by kernel_rfl)) hHeld ?_
                  refine wpAnyH_take (i := 9) (by simp only [List.getElem?_toArray]; rfl) (by kernel_rfl) (by kernel_rfl) (by kernel_rfl) (by exact fun _ _ _ h => h) (by exact yk (.pointer (some ⟨(K1 + 1), 1, none⟩)) (by kernel_rfl) (fun _ => by kernel_rfl)) hHeld ?_
                  refine wpAnyH_take (i := 10) (by simp only [List.getElem?_toArray]; rfl) (by kernel_rfl) (by kernel_rfl) (by kernel_rfl) (by exact fun _ _ _ h => h) (by exact yk_ldS (by kernel_rfl) (.tmp 130) rfl ⟨(K1 + 1), 1, none⟩ (.slice (some ⟨b8, off8, none⟩) nS c8) (by kernel_rfl) (fun w h => sl_same h a1)) hHeld ?_
                  refine wpAnyH_take (i := 11) (by simp only [List.getElem?_toArray]; rfl) (by kernel_rfl) (by kernel_rfl) (by kernel_rfl) (by exact fun _ _ _ h => h) (by exact yk (.int .i64 (j : Int)) (by kernel_rfl) (fun _ => by kernel_rfl)) hHeld ?_
                  refine wpAnyH_take (i := 12) (by simp only [List.getElem?_toArray]; rfl) (by kernel_rfl) (by kernel_rfl) (by kernel_rfl) (by exact fun _ _ _ h => h) (by exact yk_ix (by kernel_rfl) (.tmp 131) (.tmp 132) rfl b8 (off8) nS c8 j (by kernel_rfl) (by kernel_rfl) ekS) hHeld ?_
                  refine wpAnyH_take (i := 13) (by simp only [List.getElem?_toArray]; rfl) (by kernel_rfl) (by kernel_rfl) (by kernel_rfl) (by exact fun _ _ _ h => h) (by exact yk (.pointer (some ⟨b8, off8 + j * 3 + 2, none⟩)) (by kernel_rfl) (fun _ => by kernel_rfl)) hHeld ?_
                  refine wpAnyH_take (i := 14) (by simp only [List.getElem?_toArray]; rfl) (by kernel_rfl) (by kernel_rfl) (by kernel_rfl) (by exact fun _ _ _ h => h) (by exact yk_ldV (by kernel_rfl) (.tmp 134) rfl ⟨b8, off8 + j * 3 + 2, none⟩ (.int .i32 x3) (by kernel_rfl) (fun w h => sl_same h c2)) hHeld ?_
                  refine wpAnyH_take (i := 15) (by simp only [List.getElem?_toArray]; rfl) (by kernel_rfl) (by kernel_rfl) (by kernel_rfl) (by exact fun _ _ _ h => h) (by exact yk (.pointer (some ⟨(K2 + 1), 1, none⟩)) (by kernel_rfl) (fun _ => by kernel_rfl)) hHeld ?_
                  refine wpAnyH_take (i := 16) (by simp only [List.getElem?_toArray]; rfl) (by kernel_rfl) (by kernel_rfl) (by kernel_rfl) (by exact fun _ _ _ h => h) (by exact yk_ldS (by kernel_rfl) (.tmp 136) rfl ⟨(K2 + 1), 1, none⟩ (.slice (some ⟨b8', off9, none⟩) nT d8) (by kernel_rfl) (fun w h => sl_same h a2)) hHeld ?_
                  refine wpAnyH_take (i := 17) (by simp only [List.getElem?_toArray]; rfl) (by kernel_rfl) (by kernel_rfl) (by kernel_rfl) (by exact fun _ _ _ h => h) (by exact yk (.int .i64 (j : Int)) (by kernel_rfl) (fun _ => by kernel_rfl)) hHeld ?_
                  refine wpAnyH_take (i := 18) (by simp only [List.getElem?_toArray]; rfl) (by kernel_rfl) (by kernel_rfl) (by kernel_rfl) (by exact fun _ _ _ h => h) (by exact yk_ix (by kernel_rfl) (.tmp 137) (.tmp 138) rfl b8' (off9) nT d8 j (by kernel_rfl) (by kernel_rfl) ekT) hHeld ?_
                  refine wpAnyH_take (i := 19) (by simp only [List.getElem?_toArray]; rfl) (by kernel_rfl) (by kernel_rfl) (by kernel_rfl) (by exact fun _ _ _ h => h) (by exact yk (.pointer (some ⟨b8', off9 + j * 3 + 2, none⟩)) (by kernel_rfl) (fun _ => by kernel_rfl)) hHeld ?_
                  refine wpAnyH_take (i := 20) (by simp only [List.getElem?_toArray]; rfl) (by kernel_rfl) (by kernel_rfl) (by kernel_rfl) (by exact fun _ _ _ h => h) (by exact yk_ldV (by kernel_rfl) (.tmp 140) rfl ⟨b8', off9 + j * 3 + 2, none⟩ (.int .i32 x3) (by kernel_rfl) (fun w h => sl_same h d2')) hHeld ?_
                  refine wpAnyH_take (i := 21) (by simp only [List.getElem?_toArray]; rfl) (by kernel_rfl) (by kernel_rfl) (by kernel_rfl) (by exact fun _ _ _ h => h) (by exact yk_ne (by kernel_rfl) .i32 21 (.tmp 135) (.tmp 141) _ rfl (x3) (x3) (by kernel_rfl) (by kernel_rfl) false (by simp)) hHeld ?_
                  refine wpAnyH_take (i := 22) (by simp only [List.getElem?_toArray]; rfl) (by kernel_rfl) (by kernel_rfl) (by kernel_rfl) (by exact fun _ _ _ h => h) (by exact yk (.bool false) (by kernel_rfl) (fun _ => by kernel_rfl)) hHeld ?_
                  refine wpAnyH_done (by kernel_rfl) ?_ _
                  try simp only [Act.put, List.setIfInBounds_toArray, List.set_cons_zero, List.set_cons_succ]
                  go_wp2_with fail
                  go_roundw
                  case rel => exact ⟨j + 1, by omega, by go_num, HGO.out (by simp), (by repeat (first | exact hbk | refine below_drewN ?_ _ | refine below_drew ?_))⟩
                  case measure => simp [intOf]; omega
                · have exy : (x3 != y3) = true := by simp; exact hxy
                  clear hxy
                  go_wp2_with fail
                  refine wp_region_held_drew (S := fun w' => Below wr.heap.size wr w') (by kernel_rfl) ?_ (fun hHeld => ?_)
                  · exact (by repeat (first | exact Below.refl _ _ | refine below_drewN ?_ _ | refine below_drew ?_))
                  refine wpAnyH_take (i := 0) (by simp only [List.getElem?_toArray]; rfl) (by kernel_rfl) (by kernel_rfl) (by kernel_rfl) (by exact fun _ _ _ h => h) (by exact yk (.pointer (some ⟨(K1 + 1), 1, none⟩)) (by kernel_rfl) (fun _ => by kernel_rfl)) hHeld ?_
                  refine wpAnyH_take (i := 1) (by simp only [List.getElem?_toArray]; rfl) (by kernel_rfl) (by kernel_rfl) (by kernel_rfl) (by exact fun _ _ _ h => h) (by exact yk_ldS (by kernel_rfl) (.tmp 93) rfl ⟨(K1 + 1), 1, none⟩ (.slice (some ⟨b8, off8, none⟩) nS c8) (by kernel_rfl) (fun w h => sl_same h a1)) hHeld ?_
                  refine wpAnyH_take (i := 2) (by simp only [List.getElem?_toArray]; rfl) (by kernel_rfl) (by kernel_rfl) (by kernel_rfl) (by exact fun _ _ _ h => h) (by exact yk (.int .i64 (j : Int)) (by kernel_rfl) (fun _ => by kernel_rfl)) hHeld ?_
                  refine wpAnyH_take (i := 3) (by simp only [List.getElem?_toArray]; rfl) (by kernel_rfl) (by kernel_rfl) (by kernel_rfl) (by exact fun _ _ _ h => h) (by exact yk_ix (by kernel_rfl) (.tmp 94) (.tmp 95) rfl b8 (off8) nS c8 j (by kernel_rfl) (by kernel_rfl) ekS) hHeld ?_
                  refine wpAnyH_take (i := 4) (by simp only [List.getElem?_toArray]; rfl) (by kernel_rfl) (by kernel_rfl) (by kernel_rfl) (by exact fun _ _ _ h => h) (by exact yk (.pointer (some ⟨b8, off8 + j * 3, none⟩)) (by kernel_rfl) (fun _ => by kernel_rfl)) hHeld ?_
                  refine wpAnyH_take (i := 5) (by simp only [List.getElem?_toArray]; rfl) (by kernel_rfl) (by kernel_rfl) (by kernel_rfl) (by exact fun _ _ _ h => h) (by exact yk_ldI (by kernel_rfl) (.tmp 97) rfl ⟨b8, off8 + j * 3, none⟩ (.int .i64 (x1 : Int)) (by kernel_rfl) (fun w h => sl_same h c0)) hHeld ?_
                  refine wpAnyH_take (i := 6) (by simp only [List.getElem?_toArray]; rfl) (by kernel_rfl) (by kernel_rfl) (by kernel_rfl) (by exact fun _ _ _ h => h) (by exact yk (.pointer (some ⟨(K2 + 1), 1, none⟩)) (by kernel_rfl) (fun _ => by kernel_rfl)) hHeld ?_
                  refine wpAnyH_take (i := 7) (by simp only [List.getElem?_toArray]; rfl) (by kernel_rfl) (by kernel_rfl) (by kernel_rfl) (by exact fun _ _ _ h => h) (by exact yk_ldS (by kernel_rfl) (.tmp 99) rfl ⟨(K2 + 1), 1, none⟩ (.slice (some ⟨b8', off9, none⟩) nT d8) (by kernel_rfl) (fun w h => sl_same h a2)) hHeld ?_
                  refine wpAnyH_take (i := 8) (by simp only [List.getElem?_toArray]; rfl) (by kernel_rfl) (by kernel_rfl) (by kernel_rfl) (by exact fun _ _ _ h => h) (by exact yk (.int .i64 (j : Int)) (by kernel_rfl) (fun _ => by kernel_rfl)) hHeld ?_
                  refine wpAnyH_take (i := 9) (by simp only [List.getElem?_toArray]; rfl) (by kernel_rfl) (by kernel_rfl) (by kernel_rfl) (by exact fun _ _ _ h => h) (by exact yk_ix (by kernel_rfl) (.tmp 100) (.tmp 101) rfl b8' (off9) nT d8 j (by kernel_rfl) (by kernel_rfl) ekT) hHeld ?_
                  refine wpAnyH_take (i := 10) (by simp only [List.getElem?_toArray]; rfl) (by kernel_rfl) (by kernel_rfl) (by kernel_rfl) (by exact fun _ _ _ h => h) (by exact yk (.pointer (some ⟨b8', off9 + j * 3, none⟩)) (by kernel_rfl) (fun _ => by kernel_rfl)) hHeld ?_
                  refine wpAnyH_take (i := 11) (by simp only [List.getElem?_toArray]; rfl) (by kernel_rfl) (by kernel_rfl) (by kernel_rfl) (by exact fun _ _ _ h => h) (by exact yk_ldI (by kernel_rfl) (.tmp 103) rfl ⟨b8', off9 + j * 3, none⟩ (.int .i64 (x1 : Int)) (by kernel_rfl) (fun w h => sl_same h d0)) hHeld ?_
                  refine wpAnyH_take (i := 12) (by simp only [List.getElem?_toArray]; rfl) (by kernel_rfl) (by kernel_rfl) (by kernel_rfl) (by exact fun _ _ _ h => h) (by exact yk_ne (by kernel_rfl) .i64 3 (.tmp 98) (.tmp 104) _ rfl ((x1 : Int)) ((x1 : Int)) (by kernel_rfl) (by kernel_rfl) false (by simp)) hHeld ?_
                  refine wpAnyH_take (i := 13) (by simp only [List.getElem?_toArray]; rfl) (by kernel_rfl) (by kernel_rfl) (by kernel_rfl) (by exact fun _ _ _ h => h) (by exact yk (.bool false) (by kernel_rfl) (fun _ => by kernel_rfl)) hHeld ?_
                  refine wpAnyH_take (i := 14) (by simp only [List.getElem?_toArray]; rfl) (by kernel_rfl) (by kernel_rfl) (by kernel_rfl) (by exact fun _ _ _ h => h) (by exact yk (.pointer (some ⟨(K1 + 1), 1, none⟩)) (by kernel_rfl) (fun _ => by kernel_rfl)) hHeld ?_
                  refine wpAnyH_take (i := 15) (by simp only [List.getElem?_toArray]; rfl) (by kernel_rfl) (by kernel_rfl) (by kernel_rfl) (by exact fun _ _ _ h => h) (by exact yk_ldS (by kernel_rfl) (.tmp 107) rfl ⟨(K1 + 1), 1, none⟩ (.slice (some ⟨b8, off8, none⟩) nS c8) (by kernel_rfl) (fun w h => sl_same h a1)) hHeld ?_
                  refine wpAnyH_take (i := 16) (by simp only [List.getElem?_toArray]; rfl) (by kernel_rfl) (by kernel_rfl) (by kernel_rfl) (by exact fun _ _ _ h => h) (by exact yk (.int .i64 (j : Int)) (by kernel_rfl) (fun _ => by kernel_rfl)) hHeld ?_
                  refine wpAnyH_take (i := 17) (by simp only [List.getElem?_toArray]; rfl) (by kernel_rfl) (by kernel_rfl) (by kernel_rfl) (by exact fun _ _ _ h => h) (by exact yk_ix (by kernel_rfl) (.tmp 108) (.tmp 109) rfl b8 (off8) nS c8 j (by kernel_rfl) (by kernel_rfl) ekS) hHeld ?_
                  refine wpAnyH_take (i := 18) (by simp only [List.getElem?_toArray]; rfl) (by kernel_rfl) (by kernel_rfl) (by kernel_rfl) (by exact fun _ _ _ h => h) (by exact yk (.pointer (some ⟨b8, off8 + j * 3 + 1, none⟩)) (by kernel_rfl) (fun _ => by kernel_rfl)) hHeld ?_
                  refine wpAnyH_take (i := 19) (by simp only [List.getElem?_toArray]; rfl) (by kernel_rfl) (by kernel_rfl) (by kernel_rfl) (by exact fun _ _ _ h => h) (by exact yk_ldM (by kernel_rfl) (.tmp 111) rfl ⟨b8, off8 + j * 3 + 1, none⟩ (.int .u32 (x2 : Int)) (by kernel_rfl) (fun w h => sl_same h c1)) hHeld ?_
                  refine wpAnyH_take (i := 20) (by simp only [List.getElem?_toArray]; rfl) (by kernel_rfl) (by kernel_rfl) (by kernel_rfl) (by exact fun _ _ _ h => h) (by exact yk (.pointer (some ⟨(K2 + 1), 1, none⟩)) (by kernel_rfl) (fun _ => by kernel_rfl)) hHeld ?_
                  refine wpAnyH_take (i := 21) (by simp only [List.getElem?_toArray]; rfl) (by kernel_rfl) (by kernel_rfl) (by kernel_rfl) (by exact fun _ _ _ h => h) (by exact yk_ldS (by kernel_rfl) (.tmp 113) rfl ⟨(K2 + 1), 1, none⟩ (.slice (some ⟨b8', off9, none⟩) nT d8) (by kernel_rfl) (fun w h => sl_same h a2)) hHeld ?_
                  refine wpAnyH_take (i := 22) (by simp only [List.getElem?_toArray]; rfl) (by kernel_rfl) (by kernel_rfl) (by kernel_rfl) (by exact fun _ _ _ h => h) (by exact yk (.int .i64 (j : Int)) (by kernel_rfl) (fun _ => by kernel_rfl)) hHeld ?_
                  refine wpAnyH_take (i := 23) (by simp only [List.getElem?_toArray]; rfl) (by kernel_rfl) (by kernel_rfl) (by kernel_rfl) (by exact fun _ _ _ h => h) (by exact yk_ix (by kernel_rfl) (.tmp 114) (.tmp 115) rfl b8' (off9) nT d8 j (by kernel_rfl) (by kernel_rfl) ekT) hHeld ?_
                  refine wpAnyH_take (i := 24) (by simp only [List.getElem?_toArray]; rfl) (by kernel_rfl) (by kernel_rfl) (by kernel_rfl) (by exact fun _ _ _ h => h) (by exact yk (.pointer (some ⟨b8', off9 + j * 3 + 1, none⟩)) (by kernel_rfl) (fun _ => by kernel_rfl)) hHeld ?_
                  refine wpAnyH_take (i := 25) (by simp only [List.getElem?_toArray]; rfl) (by kernel_rfl) (by kernel_rfl) (by kernel_rfl) (by exact fun _ _ _ h => h) (by exact yk_ldM (by kernel_rfl) (.tmp 117) rfl ⟨b8', off9 + j * 3 + 1, none⟩ (.int .u32 (x2 : Int)) (by kernel_rfl) (fun w h => sl_same h d1)) hHeld ?_
                  refine wpAnyH_take (i := 26) (by simp only [List.getElem?_toArray]; rfl) (by kernel_rfl) (by kernel_rfl) (by kernel_rfl) (by exact fun _ _ _ h => h) (by exact yk_ne (by kernel_rfl) .u32 37 (.tmp 112) (.tmp 118) _ rfl ((x2 : Int)) ((x2 : Int)) (by kernel_rfl) (by kernel_rfl) false (by simp)) hHeld ?_
                  refine wpAnyH_take (i := 27) (by simp only [List.getElem?_toArray]; rfl) (by kernel_rfl) (by kernel_rfl) (by kernel_rfl) (by exact fun _ _ _ h => h) (by exact yk (.bool false) (by kernel_rfl) (fun _ => by kernel_rfl)) hHeld ?_
                  refine wpAnyH_done (by kernel_rfl) ?_ _
                  try simp only [Act.put, List.setIfInBounds_toArray, List.set_cons_zero, List.set_cons_succ]
                  go_wp2_with fail
                  refine wp_region_held_drew (S := fun w' => Below wr.heap.size wr w') (by kernel_rfl) ?_ (fun hHeld => ?_)
                  · exact (by repeat (first | exact Below.refl _ _ | refine below_drewN ?_ _ | refine below_drew ?_))
                  refine wpAnyH_take (i := 0) (by simp only [List.getElem?_toArray]; rfl) (by kernel_rfl) (by kernel_rfl) (by kernel_rfl) (by exact fun _ _ _ h => h) (by exact yk (.pointer (some ⟨(K1 + 1), 1, none⟩)) (by kernel_rfl) (fun _ => by kernel_rfl)) hHeld ?_
                  refine wpAnyH_take (i := 1) (by simp only [List.getElem?_toArray]; rfl) (by kernel_rfl) (by kernel_rfl) (by kernel_rfl) (by exact fun _ _ _ h => h) (by exact yk_ldS (by kernel_rfl) (.tmp 121) rfl ⟨(K1 + 1), 1, none⟩ (.slice (some ⟨b8, off8, none⟩) nS c8) (by kernel_rfl) (fun w h => sl_same h a1)) hHeld ?_
                  refine wpAnyH_take (i := 2) (by simp only [List.getElem?_toArray]; rfl) (by kernel_rfl) (by kernel_rfl) (by kernel_rfl) (by exact fun _ _ _ h => h) (by exact yk (.int .i64 (j : Int)) (by kernel_rfl) (fun _ => by kernel_rfl)) hHeld ?_
                  refine wpAnyH_take (i := 3) (by simp only [List.getElem?_toArray]; rfl) (by kernel_rfl) (by kernel_rfl) (by kernel_rfl) (by exact fun _ _ _ h => h) (by exact yk_ix (by kernel_rfl) (.tmp 122) (.tmp 123) rfl b8 (off8) nS c8 j (by kernel_rfl) (by kernel_rfl) ekS) hHeld ?_
                  refine wpAnyH_take (i := 4) (by simp only [List.getElem?_toArray]; rfl) (by kernel_rfl) (by kernel_rfl) (by kernel_rfl) (by exact fun _ _ _ h => h) (by exact yk (.pointer (some ⟨b8, off8 + j * 3 + 1, none⟩)) (by kernel_rfl) (fun _ => by kernel_rfl)) hHeld ?_
                  refine wpAnyH_take (i := 5) (by simp only [List.getElem?_toArray]; rfl) (by kernel_rfl) (by kernel_rfl) (by kernel_rfl) (by exact fun _ _ _ h => h) (by exact yk_ldM (by kernel_rfl) (.tmp 125) rfl ⟨b8, off8 + j * 3 + 1, none⟩ (.int .u32 (x2 : Int)) (by kernel_rfl) (fun w h => sl_same h c1)) hHeld ?_
                  refine wpAnyH_take (i := 6) (by simp only [List.getElem?_toArray]; rfl) (by kernel_rfl) (by kernel_rfl) (by kernel_rfl) (by exact fun _ _ _ h => h) (by exact yk (.int .i64 (p : Int)) (by kernel_rfl) (fun _ => by kernel_rfl)) hHeld ?_
                  refine wpAnyH_ready (rs := [7]) (by kernel_rfl) (by simp) ?_
                  refine AllReadyH.cons (by simp only [List.getElem?_toArray]; rfl) (fun KK hKK => ?_) AllReadyH.nil
                  rw [if_pos (by kernel_rfl)]
                  refine wp_callF 26 #[.int .u32 (x2 : Int), .int .i64 (p : Int)] (by kernel_rfl) ?_
                  refine (hHo _).mono ?_
                  rintro e wx ⟨rfl, hwx⟩
                  subst hwx
                  refine ⟨_, rfl, ?_⟩
                  refine hKK.out _ _ ?_ (fun hHeld => ?_)
                  · exact (by repeat (first | exact Below.refl _ _ | refine below_drewN ?_ _ | refine below_drew ?_))
                  clear hKK KK
                  refine wpAnyH_take (i := 8) (by simp only [List.getElem?_toArray]; rfl) (by kernel_rfl) (by kernel_rfl) (by kernel_rfl) (by exact fun _ _ _ h => h) (by exact yk (.bool true) (by kernel_rfl) (fun _ => by kernel_rfl)) hHeld ?_
                  refine wpAnyH_take (i := 9) (by simp only [List.getElem?_toArray]; rfl) (by kernel_rfl) (by kernel_rfl) (by kernel_rfl) (by exact fun _ _ _ h => h) (by exact yk (.pointer (some ⟨(K1 + 1), 1, none⟩)) (by kernel_rfl) (fun _ => by kernel_rfl)) hHeld ?_
                  refine wpAnyH_take (i := 10) (by simp only [List.getElem?_toArray]; rfl) (by kernel_rfl) (by kernel_rfl) (by kernel_rfl) (by exact fun _ _ _ h => h) (by exact yk_ldS (by kernel_rfl) (.tmp 130) rfl ⟨(K1 + 1), 1, none⟩ (.slice (some ⟨b8, off8, none⟩) nS c8) (by kernel_rfl) (fun w h => sl_same h a1)) hHeld ?_
                  refine wpAnyH_take (i := 11) (by simp only [List.getElem?_toArray]; rfl) (by kernel_rfl) (by kernel_rfl) (by kernel_rfl) (by exact fun _ _ _ h => h) (by exact yk (.int .i64 (j : Int)) (by kernel_rfl) (fun _ => by kernel_rfl)) hHeld ?_
                  refine wpAnyH_take (i := 12) (by simp only [List.getElem?_toArray]; rfl) (by kernel_rfl) (by kernel_rfl) (by kernel_rfl) (by exact fun _ _ _ h => h) (by exact yk_ix (by kernel_rfl) (.tmp 131) (.tmp 132) rfl b8 (off8) nS c8 j (by kernel_rfl) (by kernel_rfl) ekS) hHeld ?_
                  refine wpAnyH_take (i := 13) (by simp only [List.getElem?_toArray]; rfl) (by kernel_rfl) (by kernel_rfl) (by kernel_rfl) (by exact fun _ _ _ h => h) (by exact yk (.pointer (some ⟨b8, off8 + j * 3 + 2, none⟩)) (by kernel_rfl) (fun _ => by kernel_rfl)) hHeld ?_
                  refine wpAnyH_take (i := 14) (by simp only [List.getElem?_toArray]; rfl) (by kernel_rfl) (by kernel_rfl) (by kernel_rfl) (by exact fun _ _ _ h => h) (by exact yk_ldV (by kernel_rfl) (.tmp 134) rfl ⟨b8, off8 + j * 3 + 2, none⟩ (.int .i32 x3) (by kernel_rfl) (fun w h => sl_same h c2)) hHeld ?_
                  refine wpAnyH_take (i := 15) (by simp only [List.getElem?_toArray]; rfl) (by kernel_rfl) (by kernel_rfl) (by kernel_rfl) (by exact fun _ _ _ h => h) (by exact yk (.pointer (some ⟨(K2 + 1), 1, none⟩)) (by kernel_rfl) (fun _ => by kernel_rfl)) hHeld ?_
                  refine wpAnyH_take (i := 16) (by simp only [List.getElem?_toArray]; rfl) (by kernel_rfl) (by kernel_rfl) (by kernel_rfl) (by exact fun _ _ _ h => h) (by exact yk_ldS (by kernel_rfl) (.tmp 136) rfl ⟨(K2 + 1), 1, none⟩ (.slice (some ⟨b8', off9, none⟩) nT d8) (by kernel_rfl) (fun w h => sl_same h a2)) hHeld ?_
                  refine wpAnyH_take (i := 17) (by simp only [List.getElem?_toArray]; rfl) (by kernel_rfl) (by kernel_rfl) (by kernel_rfl) (by exact fun _ _ _ h => h) (by exact yk (.int .i64 (j : Int)) (by kernel_rfl) (fun _ => by kernel_rfl)) hHeld ?_
                  refine wpAnyH_take (i := 18) (by simp only [List.getElem?_toArray]; rfl) (by kernel_rfl) (by kernel_rfl) (by kernel_rfl) (by exact fun _ _ _ h => h) (by exact yk_ix (by kernel_rfl) (.tmp 137) (.tmp 138) rfl b8' (off9) nT d8 j (by kernel_rfl) (by kernel_rfl) ekT) hHeld ?_
                  refine wpAnyH_take (i := 19) (by simp only [List.getElem?_toArray]; rfl) (by kernel_rfl) (by kernel_rfl) (by kernel_rfl) (by exact fun _ _ _ h => h) (by exact yk (.pointer (some ⟨b8', off9 + j * 3 + 2, none⟩)) (by kernel_rfl) (fun _ => by kernel_rfl)) hHeld ?_
                  refine wpAnyH_take (i := 20) (by simp only [List.getElem?_toArray]; rfl) (by kernel_rfl) (by kernel_rfl) (by kernel_rfl) (by exact fun _ _ _ h => h) (by exact yk_ldV (by kernel_rfl) (.tmp 140) rfl ⟨b8', off9 + j * 3 + 2, none⟩ (.int .i32 y3) (by kernel_rfl) (fun w h => sl_same h d2')) hHeld ?_
                  refine wpAnyH_take (i := 21) (by simp only [List.getElem?_toArray]; rfl) (by kernel_rfl) (by kernel_rfl) (by kernel_rfl) (by exact fun _ _ _ h => h) (by exact yk_ne (by kernel_rfl) .i32 21 (.tmp 135) (.tmp 141) _ rfl (x3) (y3) (by kernel_rfl) (by kernel_rfl) true (exy)) hHeld ?_
                  refine wpAnyH_take (i := 22) (by simp only [List.getElem?_toArray]; rfl) (by kernel_rfl) (by kernel_rfl) (by kernel_rfl) (by exact fun _ _ _ h => h) (by exact yk (.bool true) (by kernel_rfl) (fun _ => by kernel_rfl)) hHeld ?_
                  refine wpAnyH_done (by kernel_rfl) ?_ _
                  try simp only [Act.put, List.setIfInBounds_toArray, List.set_cons_zero, List.set_cons_succ]
                  go_wp2_with fail
                  go_ret
                  exact ⟨rfl, hbw.trans (((by repeat (first | exact hbk | refine below_drewN ?_ _ | refine below_drew ?_)) : Below wk.heap.size wk _).mono hbw.size)⟩
              | false =>
                go_wp2_with fail
                refine wp_region_held_drew (S := fun w' => Below wr.heap.size wr w') (by kernel_rfl) ?_ (fun hHeld => ?_)
                · exact (by repeat (first | exact Below.refl _ _ | refine below_drewN ?_ _ | refine below_drew ?_))
                refine wpAnyH_take (i := 0) (by simp only [List.getElem?_toArray]; rfl) (by kernel_rfl) (by kernel_rfl) (by kernel_rfl) (by exact fun _ _ _ h => h) (by exact yk (.pointer (some ⟨(K1 + 1), 1, none⟩)) (by kernel_rfl) (fun _ => by kernel_rfl)) hHeld ?_
                refine wpAnyH_take (i := 1) (by simp only [List.getElem?_toArray]; rfl) (by kernel_rfl) (by kernel_rfl) (by kernel_rfl) (by exact fun _ _ _ h => h) (by exact yk_ldS (by kernel_rfl) (.tmp 93) rfl ⟨(K1 + 1), 1, none⟩ (.slice (some ⟨b8, off8, none⟩) nS c8) (by kernel_rfl) (fun w h => sl_same h a1)) hHeld ?_
                refine wpAnyH_take (i := 2) (by simp only [List.getElem?_toArray]; rfl) (by kernel_rfl) (by kernel_rfl) (by kernel_rfl) (by exact fun _ _ _ h => h) (by exact yk (.int .i64 (j : Int)) (by kernel_rfl) (fun _ => by kernel_rfl)) hHeld ?_
                refine wpAnyH_take (i := 3) (by simp only [List.getElem?_toArray]; rfl) (by kernel_rfl) (by kernel_rfl) (by kernel_rfl) (by exact fun _ _ _ h => h) (by exact yk_ix (by kernel_rfl) (.tmp 94) (.tmp 95) rfl b8 (off8) nS c8 j (by kernel_rfl) (by kernel_rfl) ekS) hHeld ?_
                refine wpAnyH_take (i := 4) (by simp only [List.getElem?_toArray]; rfl) (by kernel_rfl) (by kernel_rfl) (by kernel_rfl) (by exact fun _ _ _ h => h) (by exact yk (.pointer (some ⟨b8, off8 + j * 3, none⟩)) (by kernel_rfl) (fun _ => by kernel_rfl)) hHeld ?_
                refine wpAnyH_take (i := 5) (by simp only [List.getElem?_toArray]; rfl) (by kernel_rfl) (by kernel_rfl) (by kernel_rfl) (by exact fun _ _ _ h => h) (by exact yk_ldI (by kernel_rfl) (.tmp 97) rfl ⟨b8, off8 + j * 3, none⟩ (.int .i64 (x1 : Int)) (by kernel_rfl) (fun w h => sl_same h c0)) hHeld ?_
                refine wpAnyH_take (i := 6) (by simp only [List.getElem?_toArray]; rfl) (by kernel_rfl) (by kernel_rfl) (by kernel_rfl) (by exact fun _ _ _ h => h) (by exact yk (.pointer (some ⟨(K2 + 1), 1, none⟩)) (by kernel_rfl) (fun _ => by kernel_rfl)) hHeld ?_
                refine wpAnyH_take (i := 7) (by simp only [List.getElem?_toArray]; rfl) (by kernel_rfl) (by kernel_rfl) (by kernel_rfl) (by exact fun _ _ _ h => h) (by exact yk_ldS (by kernel_rfl) (.tmp 99) rfl ⟨(K2 + 1), 1, none⟩ (.slice (some ⟨b8', off9, none⟩) nT d8) (by kernel_rfl) (fun w h => sl_same h a2)) hHeld ?_
                refine wpAnyH_take (i := 8) (by simp only [List.getElem?_toArray]; rfl) (by kernel_rfl) (by kernel_rfl) (by kernel_rfl) (by exact fun _ _ _ h => h) (by exact yk (.int .i64 (j : Int)) (by kernel_rfl) (fun _ => by kernel_rfl)) hHeld ?_
                refine wpAnyH_take (i := 9) (by simp only [List.getElem?_toArray]; rfl) (by kernel_rfl) (by kernel_rfl) (by kernel_rfl) (by exact fun _ _ _ h => h) (by exact yk_ix (by kernel_rfl) (.tmp 100) (.tmp 101) rfl b8' (off9) nT d8 j (by kernel_rfl) (by kernel_rfl) ekT) hHeld ?_
                refine wpAnyH_take (i := 10) (by simp only [List.getElem?_toArray]; rfl) (by kernel_rfl) (by kernel_rfl) (by kernel_rfl) (by exact fun _ _ _ h => h) (by exact yk (.pointer (some ⟨b8', off9 + j * 3, none⟩)) (by kernel_rfl) (fun _ => by kernel_rfl)) hHeld ?_
                refine wpAnyH_take (i := 11) (by simp only [List.getElem?_toArray]; rfl) (by kernel_rfl) (by kernel_rfl) (by kernel_rfl) (by exact fun _ _ _ h => h) (by exact yk_ldI (by kernel_rfl) (.tmp 103) rfl ⟨b8', off9 + j * 3, none⟩ (.int .i64 (x1 : Int)) (by kernel_rfl) (fun w h => sl_same h d0)) hHeld ?_
                refine wpAnyH_take (i := 12) (by simp only [List.getElem?_toArray]; rfl) (by kernel_rfl) (by kernel_rfl) (by kernel_rfl) (by exact fun _ _ _ h => h) (by exact yk_ne (by kernel_rfl) .i64 3 (.tmp 98) (.tmp 104) _ rfl ((x1 : Int)) ((x1 : Int)) (by kernel_rfl) (by kernel_rfl) false (by simp)) hHeld ?_
                refine wpAnyH_take (i := 13) (by simp only [List.getElem?_toArray]; rfl) (by kernel_rfl) (by kernel_rfl) (by kernel_rfl) (by exact fun _ _ _ h => h) (by exact yk (.bool false) (by kernel_rfl) (fun _ => by kernel_rfl)) hHeld ?_
                refine wpAnyH_take (i := 14) (by simp only [List.getElem?_toArray]; rfl) (by kernel_rfl) (by kernel_rfl) (by kernel_rfl) (by exact fun _ _ _ h => h) (by exact yk (.pointer (some ⟨(K1 + 1), 1, none⟩)) (by kernel_rfl) (fun _ => by kernel_rfl)) hHeld ?_
                refine wpAnyH_take (i := 15) (by simp only [List.getElem?_toArray]; rfl) (by kernel_rfl) (by kernel_rfl) (by kernel_rfl) (by exact fun _ _ _ h => h) (by exact yk_ldS (by kernel_rfl) (.tmp 107) rfl ⟨(K1 + 1), 1, none⟩ (.slice (some ⟨b8, off8, none⟩) nS c8) (by kernel_rfl) (fun w h => sl_same h a1)) hHeld ?_
                refine wpAnyH_take (i := 16) (by simp only [List.getElem?_toArray]; rfl) (by kernel_rfl) (by kernel_rfl) (by kernel_rfl) (by exact fun _ _ _ h => h) (by exact yk (.int .i64 (j : Int)) (by kernel_rfl) (fun _ => by kernel_rfl)) hHeld ?_
                refine wpAnyH_take (i := 17) (by simp only [List.getElem?_toArray]; rfl) (by kernel_rfl) (by kernel_rfl) (by kernel_rfl) (by exact fun _ _ _ h => h) (by exact yk_ix (by kernel_rfl) (.tmp 108) (.tmp 109) rfl b8 (off8) nS c8 j (by kernel_rfl) (by kernel_rfl) ekS) hHeld ?_
                refine wpAnyH_take (i := 18) (by simp only [List.getElem?_toArray]; rfl) (by kernel_rfl) (by kernel_rfl) (by kernel_rfl) (by exact fun _ _ _ h => h) (by exact yk (.pointer (some ⟨b8, off8 + j * 3 + 1, none⟩)) (by kernel_rfl) (fun _ => by kernel_rfl)) hHeld ?_
                refine wpAnyH_take (i := 19) (by simp only [List.getElem?_toArray]; rfl) (by kernel_rfl) (by kernel_rfl) (by kernel_rfl) (by exact fun _ _ _ h => h) (by exact yk_ldM (by kernel_rfl) (.tmp 111) rfl ⟨b8, off8 + j * 3 + 1, none⟩ (.int .u32 (x2 : Int)) (by kernel_rfl) (fun w h => sl_same h c1)) hHeld ?_
                refine wpAnyH_take (i := 20) (by simp only [List.getElem?_toArray]; rfl) (by kernel_rfl) (by kernel_rfl) (by kernel_rfl) (by exact fun _ _ _ h => h) (by exact yk (.pointer (some ⟨(K2 + 1), 1, none⟩)) (by kernel_rfl) (fun _ => by kernel_rfl)) hHeld ?_
                refine wpAnyH_take (i := 21) (by simp only [List.getElem?_toArray]; rfl) (by kernel_rfl) (by kernel_rfl) (by kernel_rfl) (by exact fun _ _ _ h => h) (by exact yk_ldS (by kernel_rfl) (.tmp 113) rfl ⟨(K2 + 1), 1, none⟩ (.slice (some ⟨b8', off9, none⟩) nT d8) (by kernel_rfl) (fun w h => sl_same h a2)) hHeld ?_
                refine wpAnyH_take (i := 22) (by simp only [List.getElem?_toArray]; rfl) (by kernel_rfl) (by kernel_rfl) (by kernel_rfl) (by exact fun _ _ _ h => h) (by exact yk (.int .i64 (j : Int)) (by kernel_rfl) (fun _ => by kernel_rfl)) hHeld ?_
                refine wpAnyH_take (i := 23) (by simp only [List.getElem?_toArray]; rfl) (by kernel_rfl) (by kernel_rfl) (by kernel_rfl) (by exact fun _ _ _ h => h) (by exact yk_ix (by kernel_rfl) (.tmp 114) (.tmp 115) rfl b8' (off9) nT d8 j (by kernel_rfl) (by kernel_rfl) ekT) hHeld ?_
                refine wpAnyH_take (i := 24) (by simp only [List.getElem?_toArray]; rfl) (by kernel_rfl) (by kernel_rfl) (by kernel_rfl) (by exact fun _ _ _ h => h) (by exact yk (.pointer (some ⟨b8', off9 + j * 3 + 1, none⟩)) (by kernel_rfl) (fun _ => by kernel_rfl)) hHeld ?_
                refine wpAnyH_take (i := 25) (by simp only [List.getElem?_toArray]; rfl) (by kernel_rfl) (by kernel_rfl) (by kernel_rfl) (by exact fun _ _ _ h => h) (by exact yk_ldM (by kernel_rfl) (.tmp 117) rfl ⟨b8', off9 + j * 3 + 1, none⟩ (.int .u32 (x2 : Int)) (by kernel_rfl) (fun w h => sl_same h d1)) hHeld ?_
                refine wpAnyH_take (i := 26) (by simp only [List.getElem?_toArray]; rfl) (by kernel_rfl) (by kernel_rfl) (by kernel_rfl) (by exact fun _ _ _ h => h) (by exact yk_ne (by kernel_rfl) .u32 37 (.tmp 112) (.tmp 118) _ rfl ((x2 : Int)) ((x2 : Int)) (by kernel_rfl) (by kernel_rfl) false (by simp)) hHeld ?_
                refine wpAnyH_take (i := 27) (by simp only [List.getElem?_toArray]; rfl) (by kernel_rfl) (by kernel_rfl) (by kernel_rfl) (by exact fun _ _ _ h => h) (by exact yk (.bool false) (by kernel_rfl) (fun _ => by kernel_rfl)) hHeld ?_
                refine wpAnyH_done (by kernel_rfl) ?_ _
                try simp only [Act.put, List.setIfInBounds_toArray, List.set_cons_zero, List.set_cons_succ]
                go_wp2_with fail
                refine wp_region_held_drew (S := fun w' => Below wr.heap.size wr w') (by kernel_rfl) ?_ (fun hHeld => ?_)
                · exact (by repeat (first | exact Below.refl _ _ | refine below_drewN ?_ _ | refine below_drew ?_))
                refine wpAnyH_take (i := 0) (by simp only [List.getElem?_toArray]; rfl) (by kernel_rfl) (by kernel_rfl) (by kernel_rfl) (by exact fun _ _ _ h => h) (by exact yk (.pointer (some ⟨(K1 + 1), 1, none⟩)) (by kernel_rfl) (fun _ => by kernel_rfl)) hHeld ?_
                refine wpAnyH_take (i := 1) (by simp only [List.getElem?_toArray]; rfl) (by kernel_rfl) (by kernel_rfl) (by kernel_rfl) (by exact fun _ _ _ h => h) (by exact yk_ldS (by kernel_rfl) (.tmp 121) rfl ⟨(K1 + 1), 1, none⟩ (.slice (some ⟨b8, off8, none⟩) nS c8) (by kernel_rfl) (fun w h => sl_same h a1)) hHeld ?_
                refine wpAnyH_take (i := 2) (by simp only [List.getElem?_toArray]; rfl) (by kernel_rfl) (by kernel_rfl) (by kernel_rfl) (by exact fun _ _ _ h => h) (by exact yk (.int .i64 (j : Int)) (by kernel_rfl) (fun _ => by kernel_rfl)) hHeld ?_
                refine wpAnyH_take (i := 3) (by simp only [List.getElem?_toArray]; rfl) (by kernel_rfl) (by kernel_rfl) (by kernel_rfl) (by exact fun _ _ _ h => h) (by exact yk_ix (by kernel_rfl) (.tmp 122) (.tmp 123) rfl b8 (off8) nS c8 j (by kernel_rfl) (by kernel_rfl) ekS) hHeld ?_
                refine wpAnyH_take (i := 4) (by simp only [List.getElem?_toArray]; rfl) (by kernel_rfl) (by kernel_rfl) (by kernel_rfl) (by exact fun _ _ _ h => h) (by exact yk (.pointer (some ⟨b8, off8 + j * 3 + 1, none⟩)) (by kernel_rfl) (fun _ => by kernel_rfl)) hHeld ?_
                refine wpAnyH_take (i := 5) (by simp only [List.getElem?_toArray]; rfl) (by kernel_rfl) (by kernel_rfl) (by kernel_rfl) (by exact fun _ _ _ h => h) (by exact yk_ldM (by kernel_rfl) (.tmp 125) rfl ⟨b8, off8 + j * 3 + 1, none⟩ (.int .u32 (x2 : Int)) (by kernel_rfl) (fun w h => sl_same h c1)) hHeld ?_
                refine wpAnyH_take (i := 6) (by simp only [List.getElem?_toArray]; rfl) (by kernel_rfl) (by kernel_rfl) (by kernel_rfl) (by exact fun _ _ _ h => h) (by exact yk (.int .i64 (p : Int)) (by kernel_rfl) (fun _ => by kernel_rfl)) hHeld ?_
                refine wpAnyH_ready (rs := [7]) (by kernel_rfl) (by simp) ?_
                refine AllReadyH.cons (by simp only [List.getElem?_toArray]; rfl) (fun KK hKK => ?_) AllReadyH.nil
                rw [if_pos (by kernel_rfl)]
                refine wp_callF 26 #[.int .u32 (x2 : Int), .int .i64 (p : Int)] (by kernel_rfl) ?_
                refine (hHo _).mono ?_
                rintro e wx ⟨rfl, hwx⟩
                subst hwx
                refine ⟨_, rfl, ?_⟩
                refine hKK.out _ _ ?_ (fun hHeld => ?_)
                · exact (by repeat (first | exact Below.refl _ _ | refine below_drewN ?_ _ | refine below_drew ?_))
                clear hKK KK
                refine wpAnyH_take (i := 8) (by simp only [List.getElem?_toArray]; rfl) (by kernel_rfl) (by kernel_rfl) (by kernel_rfl) (by exact fun _ _ _ h => h) (by exact yk (.bool false) (by kernel_rfl) (fun _ => by kernel_rfl)) hHeld ?_
                refine wpAnyH_take (i := 9) (by simp only [List.getElem?_toArray]; rfl) (by kernel_rfl) (by kernel_rfl) (by kernel_rfl) (by exact fun _ _ _ h => h) (by exact yk_no (by kernel_rfl)) hHeld ?_
                refine wpAnyH_take (i := 10) (by simp only [List.getElem?_toArray]; rfl) (by kernel_rfl) (by kernel_rfl) (by kernel_rfl) (by exact fun _ _ _ h => h) (by exact yk_no (by kernel_rfl)) hHeld ?_
                refine wpAnyH_take (i := 11) (by simp only [List.getElem?_toArray]; rfl) (by kernel_rfl) (by kernel_rfl) (by kernel_rfl) (by exact fun _ _ _ h => h) (by exact yk_no (by kernel_rfl)) hHeld ?_
                refine wpAnyH_take (i := 12) (by simp only [List.getElem?_toArray]; rfl) (by kernel_rfl) (by kernel_rfl) (by kernel_rfl) (by exact fun _ _ _ h => h) (by exact yk_no (by kernel_rfl)) hHeld ?_
                refine wpAnyH_take (i := 13) (by simp only [List.getElem?_toArray]; rfl) (by kernel_rfl) (by kernel_rfl) (by kernel_rfl) (by exact fun _ _ _ h => h) (by exact yk_no (by kernel_rfl)) hHeld ?_
                refine wpAnyH_take (i := 14) (by simp only [List.getElem?_toArray]; rfl) (by kernel_rfl) (by kernel_rfl) (by kernel_rfl) (by exact fun _ _ _ h => h) (by exact yk_no (by kernel_rfl)) hHeld ?_
                refine wpAnyH_take (i := 15) (by simp only [List.getElem?_toArray]; rfl) (by kernel_rfl) (by kernel_rfl) (by kernel_rfl) (by exact fun _ _ _ h => h) (by exact yk_no (by kernel_rfl)) hHeld ?_
                refine wpAnyH_take (i := 16) (by simp only [List.getElem?_toArray]; rfl) (by kernel_rfl) (by kernel_rfl) (by kernel_rfl) (by exact fun _ _ _ h => h) (by exact yk_no (by kernel_rfl)) hHeld ?_
                refine wpAnyH_take (i := 17) (by simp only [List.getElem?_toArray]; rfl) (by kernel_rfl) (by kernel_rfl) (by kernel_rfl) (by exact fun _ _ _ h => h) (by exact yk_no (by kernel_rfl)) hHeld ?_
                refine wpAnyH_take (i := 18) (by simp only [List.getElem?_toArray]; rfl) (by kernel_rfl) (by kernel_rfl) (by kernel_rfl) (by exact fun _ _ _ h => h) (by exact yk_no (by kernel_rfl)) hHeld ?_
                refine wpAnyH_take (i := 19) (by simp only [List.getElem?_toArray]; rfl) (by kernel_rfl) (by kernel_rfl) (by kernel_rfl) (by exact fun _ _ _ h => h) (by exact yk_no (by kernel_rfl)) hHeld ?_
                refine wpAnyH_take (i := 20) (by simp only [List.getElem?_toArray]; rfl) (by kernel_rfl) (by kernel_rfl) (by kernel_rfl) (by exact fun _ _ _ h => h) (by exact yk_no (by kernel_rfl)) hHeld ?_
                refine wpAnyH_take (i := 21) (by simp only [List.getElem?_toArray]; rfl) (by kernel_rfl) (by kernel_rfl) (by kernel_rfl) (by exact fun _ _ _ h => h) (by exact yk_no (by kernel_rfl)) hHeld ?_
                refine wpAnyH_take (i := 22) (by simp only [List.getElem?_toArray]; rfl) (by kernel_rfl) (by kernel_rfl) (by kernel_rfl) (by exact fun _ _ _ h => h) (by exact yk (.bool false) (by kernel_rfl) (fun _ => by kernel_rfl)) hHeld ?_
                refine wpAnyH_done (by kernel_rfl) ?_ _
                try simp only [Act.put, List.setIfInBounds_toArray, List.set_cons_zero, List.set_cons_succ]
                go_wp2_with fail
                go_roundw
                case rel => exact ⟨j + 1, by omega, by go_num, HGO.out (by simp), (by repeat (first | exact hbk | refine below_drewN ?_ _ | refine below_drew ?_))⟩
                case measure => simp [intOf]; omega
            · obtain rfl : mn = j := by omega
              have hall : F.sh.length = F2.sh.length ∧ RelV (fun m => m.testBit p) F F2 := by
                rcases HK.out.ends with ⟨e1, e2, h⟩ | ⟨h1, h2, -, -⟩
                · exact ⟨by omega, h⟩
                · have := HNS.out
                  have := HNT.out
                  have := HMN.out
                  omega
              obtain ⟨fl, hRV⟩ := hall
              obtain rfl : nT = nS := by rw [HNS.out, HNT.out, fl]
              have HV2 := Lib.hid (show S1.L.map (vw fun m => m.testBit p) = S2.L.map (vw fun m => m.testBit p) by rw [HE1.out.1, HE2.out.1]; exact hRV.L)
              have o1 := a5.ext hbk
              have o2 := b5.ext hbk
              rw [← hRV.e, ← hRV.t] at o2
              have a4 := a4.ext hbk
              have b4 := b4.ext hbk
              have hx := hx.ext hbk
              have hx2 := hx2.ext hbk
              have hbe := hbe.trans (hbk.mono hbe.size)
              have q1 := ob_e o1
              have q2 := ob_e o2
              have q3 := ob_t o1
              have q4 := ob_t o2
              have q5 := ob_s o1
              have q6 := ob_s o2
              clear fl hRV o1 o2 a5 b5 hs8 hs9 hjK hj hlj hmnS hbk
              go_wp2_with fail
              refine wp_region_held_drew (S := fun w' => BoxS w' K1 S1 ∧ BoxS w' K2 S2) (by kernel_rfl) ?_ (fun hHeld => ?_)
              · exact ⟨a4.ext (below_drew (Below.refl _ _)), b4.ext (below_drew (Below.refl _ _))⟩
              have hd0 : Below wr.heap.size wr (World.drew wr) := below_drew (Below.refl _ _)
              replace hx := hx.ext hd0
              replace hx2 := hx2.ext hd0
              replace a4 := a4.ext hd0
              replace b4 := b4.ext hd0
              replace hbe := hbe.trans (hd0.mono hbe.size)
              clear hd0
              refine wpAnyH_take (i := 0) (by simp only [List.getElem?_toArray]; rfl) (by kernel_rfl) (by kernel_rfl) (by kernel_rfl) (by exact fun _ _ _ h => h) (by exact yieldsIf_ldS (by kernel_rfl) (.tmp 22) rfl K1 (by kernel_rfl) (fun _ h => h.1)) hHeld ?_
              refine wpAnyH_take (i := 1) (by simp only [List.getElem?_toArray]; rfl) (by kernel_rfl) (by kernel_rfl) (by kernel_rfl) (by exact fun _ _ _ h => h) (by exact yieldsIf_ldS (by kernel_rfl) (.tmp 24) rfl K2 (by kernel_rfl) (fun _ h => h.2)) hHeld ?_
              try simp only [Act.put, List.setIfInBounds_toArray, List.set_cons_zero, List.set_cons_succ]
              refine wpAnyH_ready (rs := [2]) (by kernel_rfl) (by simp) ?_
              refine AllReadyH.cons (by simp only [List.getElem?_toArray]; rfl) (fun KK hKK => ?_) AllReadyH.nil
              refine wp_stS (.tmp 16) (.tmp 166) rfl Y1 S1 (by kernel_rfl) (by kernel_rfl) hx ?_
              replace hbe := below_setRow hbe Y1 (stA S1) hYY.1
              replace a4 := a4.mod (mod_setRow _ Y1 (stA S1)) (by show ¬ K1 = Y1; omega)
              replace b4 := b4.mod (mod_setRow _ Y1 (stA S1)) (by show ¬ K2 = Y1; omega)
              replace hx2 := hx2.mod (mod_setRow _ Y1 (stA S1)) (by show ¬ Y2 = Y1; omega)
              replace hx := hx.row_ S1
              refine hKK.out _ _ ?_ (fun hHeld => ?_)
              · exact ⟨a4, b4⟩
              clear hKK KK
              try simp only [Act.put]
              refine wpAnyH_ready (rs := [3]) (by kernel_rfl) (by simp) ?_
              refine AllReadyH.cons (by simp only [List.getElem?_toArray]; rfl) (fun KK hKK => ?_) AllReadyH.nil
              refine wp_stS (.tmp 18) (.tmp 167) rfl Y2 S2 (by kernel_rfl) (by kernel_rfl) hx2 ?_
              replace hbe := below_setRow hbe Y2 (stA S2) hYY.2.1
              replace a4 := a4.mod (mod_setRow _ Y2 (stA S2)) (by show ¬ K1 = Y2; omega)
              replace b4 := b4.mod (mod_setRow _ Y2 (stA S2)) (by show ¬ K2 = Y2; omega)
              replace hx := hx.mod (mod_setRow _ Y2 (stA S2)) (by show ¬ Y1 = Y2; omega)
              replace hx2 := hx2.row_ S2
              refine hKK.out _ _ ?_ (fun hHeld => ?_)
              · exact ⟨a4, b4⟩
              clear hKK KK
              refine wpAnyH_done (by kernel_rfl) ?_ _
              try simp only [Act.put]
              go_wp2_with fail
              go_roundw
              case rel => exact ⟨k + 1, S1, S2, by omega, by omega, by go_num, ⟨HE1.out.2.1, HE2.out.2.1⟩, ⟨HE1.out.2.2.1, HE2.out.2.2.1⟩, ⟨HE1.out.2.2.2, HE2.out.2.2.2⟩, HV2.out, hx, hx2, hbe⟩
              case measure => simp [intOf]; omega
      · go_wp2_with fail
        refine wp_region_held_drew (S := fun w' => Below wr.heap.size wr w') (by kernel_rfl) ?_ (fun hHeld => ?_)
        · exact below_drew (Below.refl _ _)
        refine wpAnyH_take (i := 0) (by simp only [List.getElem?_toArray]; rfl) (by kernel_rfl) (by kernel_rfl) (by kernel_rfl) (by exact fun _ _ _ h => h) (by exact yieldsIf_ldS (by kernel_rfl) (.tmp 16) rfl (Y1) (by kernel_rfl) (fun _ h => hx.ext h)) hHeld ?_
        refine wpAnyH_take (i := 1) (by simp only [List.getElem?_toArray]; rfl) (by kernel_rfl) (by kernel_rfl) (by kernel_rfl) (by exact fun _ _ _ h => h) (by exact yk (.int .i64 (p : Int)) (by kernel_rfl) (fun _ => by kernel_rfl)) hHeld ?_
        refine wpAnyH_take (i := 3) (by simp only [List.getElem?_toArray]; rfl) (by kernel_rfl) (by kernel_rfl) (by kernel_rfl) (by exact fun _ _ _ h => h) (by exact yieldsIf_ldS (by kernel_rfl) (.tmp 18) rfl (Y2) (by kernel_rfl) (fun _ h => hx2.ext h)) hHeld ?_
        refine wpAnyH_take (i := 4) (by simp only [List.getElem?_toArray]; rfl) (by kernel_rfl) (by kernel_rfl) (by kernel_rfl) (by exact fun _ _ _ h => h) (by exact yk (.int .i64 (p : Int)) (by kernel_rfl) (fun _ => by kernel_rfl)) hHeld ?_
        refine wpAnyH_ready (rs := [2]) (by kernel_rfl) (by simp) ?_
        refine AllReadyH.cons (by simp only [List.getElem?_toArray]; rfl) (fun KK hKK => ?_) AllReadyH.nil
        rw [if_pos (by kernel_rfl)]
        refine wp_callF 22 #[.agg (stA st), .int .i64 (p : Int)] (by kernel_rfl) ?_
        refine (hV1 _).mono ?_
        rintro e we0 ⟨rfl, ha⟩
        have hbr0 := below_undrew2 ha
        clear ha
        refine ⟨_, rfl, ?_⟩
        refine hKK.out _ _ ?_ (fun hHeld => ?_)
        · exact hbr0
        clear hKK KK
        refine wpAnyH_ready (rs := [5]) (by kernel_rfl) (by simp) ?_
        refine AllReadyH.cons (by simp only [List.getElem?_toArray]; rfl) (fun KK hKK => ?_) AllReadyH.nil
        rw [if_pos (by kernel_rfl)]
        refine wp_callF 22 #[.agg (stA sz), .int .i64 (p : Int)] (by kernel_rfl) ?_
        refine (hV2 _).mono ?_
        rintro e we ⟨rfl, ha⟩
        have hbr := hbr0.trans (ha.mono hbr0.size)
        clear ha
        refine ⟨_, rfl, ?_⟩
        refine hKK.out _ _ ?_ (fun hHeld => ?_)
        · exact hbr
        clear hKK KK
        refine wpAnyH_take (i := 6) (by simp only [List.getElem?_toArray]; rfl) (by kernel_rfl) (by kernel_rfl) (by kernel_rfl) (by exact fun _ _ _ h => h) (by exact yk_eqSt (by kernel_rfl) (.tmp 171) (.tmp 174) rfl VW (by kernel_rfl) (by kernel_rfl)) hHeld ?_
        refine wpAnyH_take (i := 7) (by simp only [List.getElem?_toArray]; rfl) (by kernel_rfl) (by kernel_rfl) (by kernel_rfl) (by exact fun _ _ _ h => h) (by exact yk (.bool true) (by kernel_rfl) (fun _ => by kernel_rfl)) hHeld ?_
        refine wpAnyH_done (by kernel_rfl) ?_ _
        try simp only [Act.put, List.setIfInBounds_toArray, List.set_cons_zero, List.set_cons_succ]
        go_wp2_with fail
        go_ret
        exact ⟨rfl, hbw.trans (hbr.mono hbw.size)⟩
end Go.Proofs.YtfopdoeiahlhpaaDoor
