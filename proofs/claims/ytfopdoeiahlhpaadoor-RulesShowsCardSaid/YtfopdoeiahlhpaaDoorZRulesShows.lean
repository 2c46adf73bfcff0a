/- RulesShows: the walk. Conditions: the numbers fit; the table lies. -/
import Derived.Test.YtfopdoeiahlhpaaDoorZRuBase08
namespace Go.Proofs.YtfopdoeiahlhpaaDoor
open Go.RowKit
set_option linter.unusedVariables false
/-- A cell in a variable. -/
def CBox (w : World) (g : Nat) (x : Int) (y : Nat) : Prop := w.heap[g]? = some (.cells #[.int .i32 x, .int .u32 (y : Int)] 39 (0, 0))
namespace CBox
variable {w w' : World} {g : Nat} {x : Int} {y : Nat}
theorem ext (h : CBox w g x y) (hb : Below w.heap.size w w') : CBox w' g x y := (hb.block g (Array.getElem?_eq_some_iff.1 h).1).trans h
theorem new_ (w : World) (x : Int) (y : Nat) : CBox (w.alloc (.cells #[.int .i32 x, .int .u32 (y : Int)] 39)) w.heap.size x y := heap_alloc_new w _
theorem c0 (h : CBox w g x y) : w.cell? ⟨g, 0, none⟩ = some (.int .i32 x) := by rw [cell_of_row w g _ _ _ _ h]; rfl
theorem c1 (h : CBox w g x y) : w.cell? ⟨g, 1, none⟩ = some (.int .u32 (y : Int)) := by rw [cell_of_row w g _ _ _ _ h]; rfl
end CBox
/-- A show in a variable. -/
def WBox (w : World) (g : Nat) (x y : Nat) (z : Int) : Prop := w.heap[g]? = some (.cells #[.int .i64 (x : Int), .int .u32 (y : Int), .int .i32 z] 72 (0, 0))
namespace WBox
variable {w w' : World} {g x y : Nat} {z : Int}
theorem ext (h : WBox w g x y z) (hb : Below w.heap.size w w') : WBox w' g x y z := (hb.block g (Array.getElem?_eq_some_iff.1 h).1).trans h
theorem new_ (w : World) (x y : Nat) (z : Int) : WBox (w.alloc (.cells #[.int .i64 (x : Int), .int .u32 (y : Int), .int .i32 z] 72)) w.heap.size x y z := heap_alloc_new w _
theorem c0 (h : WBox w g x y z) : w.cell? ⟨g, 0, none⟩ = some (.int .i64 (x : Int)) := by rw [cell_of_row w g _ _ _ _ h]; rfl
theorem c1 (h : WBox w g x y z) : w.cell? ⟨g, 1, none⟩ = some (.int .u32 (y : Int)) := by rw [cell_of_row w g _ _ _ _ h]; rfl
theorem c2 (h : WBox w g x y z) : w.cell? ⟨g, 2, none⟩ = some (.int .i32 z) := by rw [cell_of_row w g _ _ _ _ h]; rfl
end WBox
theorem wp_bsM {o : Oper} {a : Act} {w : World} {K : Act → World → Prop} {Q : Exit → Act → World → Prop} (x : Operand) (ho : o.op = .buildSlice 146 1 #[(0, x)]) (y : Nat) (hx : a.eval x = .int .u32 (y : Int))
    (h : K (a.put o.dst (.slice (some ⟨w.heap.size, 0, none⟩) 1 1)) (w.alloc (.cells #[.int .u32 (y : Int)] 37))) : o.wp Tryd.prog a w K Q := by
  have hz : (zeroValue 37).run Tryd.prog w = .ok (.int .u32 0) w := by kernel_rfl
  have hr : (Instr.buildSlice 146 1 #[(0, .int .u32 (y : Int))]).run Tryd.prog w = .ok (.slice (some ⟨w.heap.size, 0, none⟩) 1 1) (w.alloc (.cells #[.int .u32 (y : Int)] 37)) := by kernel_rfl
  unfold Oper.wp execOp
  simp only [ho, List.map_toArray, List.map_cons, List.map_nil, hx, Sem.run_bind, hr, Result.andThen_ok, Sem.run_pure]
  exact h
theorem less_bool {m q : Nat} (h : lessN m q = 0) : decide (lessN m q = 0) = true := decide_eq_true h

set_option maxHeartbeats 16000000 in
set_option maxRecDepth 20000 in
theorem RulesShows_walk (g0 : Gm) (s0 : Gs) (sd : Nat) (HA : Option Addr) (H : List Int) (hn hcp hbk : Nat) (SA : Option Addr) (ls : List (List Nat)) (vs : List Value) (sn sc se : Nat) (w : World) (hT : CTab w) (hr0 : GRaw g0 s0) (hi0 : GIn w g0 s0) (hsd : sd ≤ 18446744073709551615) (hsH : Is w hbk HA H) (hlH : H.length = hn) (hmH : hn ≤ maxLen) (hcH : hn ≤ hcp) (hoH : ∀ x ∈ H, -2147483648 ≤ x ∧ x ≤ 2147483647) (hS0 : Sl w se SA vs) (hl : ls.length = sn) (hm : sn ≤ maxLen) (hy0 : Mss w vs ls) (ho : ∀ l ∈ ls, l.length ≤ maxLen ∧ ∀ x ∈ l, x ≤ 4294967295) :
    Calls Tryd.prog 11 #[.agg (gmA g0 s0), .int .u64 (sd : Int), .slice HA hn hcp, .slice SA sn sc] w fun e w' => e = .returned (.bool true) ∧ Below w.heap.size w w' := by
  subst hlH
  have hb := below_alloc1 w (.cells (gmA g0 s0) 26)
  have hG := GBox.new_ w g0 s0
  have hi := hi0.ext hb
  have hA := awake_calls _ (hT.ext hb)
  clear hi0
  go_enter Tryd.func11, Tryd.ntmps11
  go_wp2_with fail
  refine hA.mono ?_
  rintro e w1 ⟨rfl, h1⟩
  replace hG := hG.ext h1
  replace hi := hi.ext h1
  replace hb := hb.trans (h1.mono hb.size)
  have hw1s : w.heap.size < w1.heap.size := hG.lt
  clear hA h1
  have hF := FewG_calls g0 s0 w1 hi hr0
  have z0 := hG.c0
  have z1 := hG.c1
  have z2 := hG.c2
  have z3 := hG.c3
  have z4 := hG.c4
  have z5 := hG.c5
  go_wp2_with fail
  refine hF.mono ?_
  rintro e w2 ⟨s, rfl, hi2, hok, hsb, h1⟩
  obtain ⟨g, hg⟩ : ∃ g, g = fewG g0 := ⟨_, rfl⟩
  rw [← hg] at hi2 hok ⊢
  replace hG := hG.ext h1
  replace hb := hb.trans (h1.mono hb.size)
  clear hF h1 hg hi z0 z1 z2 z3 z4 z5
  have z0 := hG.c0
  have z1 := hG.c1
  have z2 := hG.c2
  have z3 := hG.c3
  have z4 := hG.c4
  have z5 := hG.c5
  have hfz := hG.free
  go_upto_region 4 with fail
  obtain ⟨h9, m9⟩ := six_set6 (.int .i64 g.ob) (.int .i64 g.pl) (.int .u32 (g.mv : Int)) (.int .u32 (g.df : Int)) (.slice s.A g.L.length s.c) (.slice s.A' g.K.length s.c') hG
  obtain ⟨w3, hw3⟩ : ∃ w3, w3 = ((((((w2.setCell ⟨w.heap.size, 0, none⟩ (.int .i64 g.ob)).setCell ⟨w.heap.size, 1, none⟩ (.int .i64 g.pl)).setCell ⟨w.heap.size, 2, none⟩ (.int .u32 (g.mv : Int))).setCell ⟨w.heap.size, 3, none⟩ (.int .u32 (g.df : Int))).setCell ⟨w.heap.size, 4, none⟩ (.slice s.A g.L.length s.c)).setCell ⟨w.heap.size, 5, none⟩ (.slice s.A' g.K.length s.c')) := ⟨_, rfl⟩
  rw [← hw3] at h9 m9 ⊢
  have hb3 : Below w.heap.size w w3 := hb.trans (m9.below hb.size (fun i hi e => by have e : i = w.heap.size := e; omega))
  replace hi2 : GIn w3 g s := gin_mod1 hi2 m9 hsb.1 hsb.2 hw1s
  have hG : GBox w3 w.heap.size g s := h9
  clear hw3 h9 m9 hb hfz z0 z1 z2 z3 z4 z5 hsb hw1s
  obtain ⟨R, hRr⟩ : ∃ R, R = rightB g := ⟨_, rfl⟩
  have HR := Lib.hid hRr
  cases R with
  | false =>
    have z0 := hG.c0
    have z1 := hG.c1
    have z2 := hG.c2
    have z3 := hG.c3
    have z4 := hG.c4
    have z5 := hG.c5
    have hS := Start_bad g s sd H HA hcp w3 hi2 hok (hT.ext hb3) hRr.symm
    clear hRr
    go_wp2_with fail
    refine hS.mono ?_
    rintro e w4 ⟨rfl, h1⟩
    replace hG := hG.ext h1
    replace hi2 := hi2.ext h1
    replace hb3 := hb3.trans (h1.mono hb3.size)
    clear hS h1 z0 z1 z2 z3 z4 z5
    go_upto_region 5 with (first | ((with_reducible refine at_al 46 9 ?_); refine wpList_alS rfl rfl (some 9) rfl w4.heap.size rfl ?_) | ((with_reducible refine at_st 46 9 33 ?_); refine wpList_stS rfl (.tmp 9) (.tmp 33) rfl w4.heap.size zSt rfl rfl zSt (BoxS.new_ _ _) ?_))
    rw [made_row]
    have h1 := below_alloc1 w4 (.cells (stA zSt) 46)
    have hx := BoxS.new_ w4 zSt
    obtain ⟨Y, hY⟩ : ∃ Y, Y = w4.heap.size := ⟨_, rfl⟩
    obtain ⟨w5, hw5⟩ : ∃ w5, w5 = w4.alloc (.cells (stA zSt) 46) := ⟨_, rfl⟩
    rw [← hw5] at h1 hx ⊢
    rw [← hY] at hx ⊢
    have HY := Lib.hid hY
    clear hw5 hY
    have hb := hb3.trans (h1.mono hb3.size)
    go_wp2_with fail
    go_ret
    exact ⟨rfl, hb⟩
  | true =>
    have h48 := right48 hRr.symm
    have z0 := hG.c0
    have z1 := hG.c1
    have z2 := hG.c2
    have z3 := hG.c3
    have z4 := hG.c4
    have z5 := hG.c5
    have hS := Start_good g s sd H HA hcp w3 hi2 hok (hT.ext hb3) hbk (Sl.ext hsH hb3) hmH hoH hRr.symm
    clear hRr
    obtain ⟨C, hC⟩ : ∃ C, C = startC g H := ⟨_, rfl⟩
    rw [← hC] at hS
    have HC := Lib.hid hC
    clear hC
    go_wp2_with fail
    refine hS.mono ?_
    rintro e w4 ⟨rfl, h1⟩
    replace hG := hG.ext h1
    replace hi2 := hi2.ext h1
    replace hb3 := hb3.trans (h1.mono hb3.size)
    clear hS h1 z0 z1 z2 z3 z4 z5
    go_upto_region 5 with (first | ((with_reducible refine at_al 46 9 ?_); refine wpList_alS rfl rfl (some 9) rfl w4.heap.size rfl ?_) | ((with_reducible refine at_st 46 9 33 ?_); refine wpList_stS rfl (.tmp 9) (.tmp 33) rfl w4.heap.size ⟨C, sd, 0⟩ rfl rfl zSt (BoxS.new_ _ _) ?_))
    rw [made_row]
    have h1 := below_alloc1 w4 (.cells (stA ⟨C, sd, 0⟩) 46)
    have hx := BoxS.new_ w4 ⟨C, sd, 0⟩
    obtain ⟨Y, hY⟩ : ∃ Y, Y = w4.heap.size := ⟨_, rfl⟩
    obtain ⟨w5, hw5⟩ : ∃ w5, w5 = w4.alloc (.cells (stA ⟨C, sd, 0⟩) 46) := ⟨_, rfl⟩
    rw [← hw5] at h1 hx ⊢
    rw [← hY] at hx ⊢
    have HY := Lib.hid hY
    clear hw5 hY
    have oC : okC C := by rw [HC.out]; exact stK_ok _ hok.oL hoH
    obtain ⟨NL, hCN⟩ : ∃ NL, C.length = NL := ⟨_, rfl⟩
    have hN48 : NL ≤ 48 := by rw [← hCN, HC.out]; simp [startC]; exact h48
    have HLS := Lib.hid hl
    have all32 := allN_lt g.ob
    clear h48 hl HC
    have hG5 := hG.ext h1
    have z5 := hG5.c5
    have hsk := Sl.ext hi2.sk h1
    obtain ⟨KA, hKA⟩ : ∃ KA, KA = s.A' := ⟨_, rfl⟩
    obtain ⟨nK, hnK⟩ : ∃ nK, nK = g.K.length := ⟨_, rfl⟩
    rw [← hKA] at z5 hsk
    rw [← hnK] at z5
    have HNK := Lib.hid hnK
    have hK100 : nK ≤ 100 := by rw [HNK.out]; exact hok.lK
    clear hKA hnK hG5
    go_wp2_with fail
    clear z5
    go_loopw [11, 13, 40] (fun a _ i wr => ∃ j : Nat, j ≤ nK ∧ i = .int .i64 j ∧ a = .bool ((g.K.take j).any stores) ∧ Below w5.heap.size w5 wr) (fun _ _ i _ => nK - (intOf i).toNat)
    case atStart => exact ⟨0, Nat.zero_le _, rfl, rfl, Below.refl _ _⟩
    case round =>
      obtain ⟨j, hj, rfl, rfl, hb⟩ := hrel
      by_cases hlt : j < nK
      · have ej : (j : Int) < (nK : Int) := by omega
        have hjK : j < g.K.length := by rw [← HNK.out]; exact hlt
        obtain ⟨off, rfl, k0, k1, k2, k3, k4, k5⟩ := sl_code (Sl.ext hsk hb) hjK
        have HNX := Lib.hid (show (g.K.take (j + 1)).any stores = ((g.K.take j).any stores || stores g.K[j]) by rw [List.take_succ_eq_append_getElem hjK, List.any_append]; simp)
        have hoK := (hok.oK _ (List.getElem_mem hjK)).ho
        obtain ⟨⟨op, ca, cb, cc, cn, cm⟩, hcd⟩ : ∃ c, c = g.K[j] := ⟨_, rfl⟩
        rw [← hcd] at k0 k1 k2 k3 k4 k5 HNX hoK
        simp only at k0 k1 k2 k3 k4 k5 hoK
        obtain ⟨sb, hsb⟩ : ∃ sb, sb = (g.K.take j).any stores := ⟨_, rfl⟩
        rw [← hsb] at HNX ⊢
        clear hsb hcd hjK
        have hb2 := hb.alloc hb.size (.cells #[.int .u8 (op : Int), .int .u8 (ca : Int), .int .u8 (cb : Int), .int .u8 (cc : Int), .int .i32 cn, .int .u32 (cm : Int)] 102)
        cases sb with
        | true =>
          go_wp2_with fail
          go_roundw
          case rel => exact ⟨j + 1, by omega, by go_num, by rw [HNX.out]; rfl, hb2⟩
          case measure => simp [intOf]; omega
        | false =>
          by_cases o3 : op = 3
          · have e3 : ((op : Int) == 3) = true := by simp; omega
            have HST := Lib.hid (show stores ⟨op, ca, cb, cc, cn, cm⟩ = true by subst o3; rfl)
            clear o3
            go_wp2_with fail
            go_roundw
            case rel => exact ⟨j + 1, by omega, by go_num, by rw [HNX.out, HST.out]; rfl, hb2⟩
            case measure => simp [intOf]; omega
          · have e3 : ((op : Int) == 3) = false := by simp; omega
            by_cases o5 : op = 5
            · have e5 : ((op : Int) == 5) = true := by simp; omega
              have HST := Lib.hid (show stores ⟨op, ca, cb, cc, cn, cm⟩ = true by subst o5; rfl)
              clear o3 o5
              go_wp2_with fail
              go_roundw
              case rel => exact ⟨j + 1, by omega, by go_num, by rw [HNX.out, HST.out]; rfl, hb2⟩
              case measure => simp [intOf]; omega
            · have e5 : ((op : Int) == 5) = false := by simp; omega
              by_cases o24 : op = 24
              · have e24 : ((op : Int) == 24) = true := by simp; omega
                have HST := Lib.hid (show stores ⟨op, ca, cb, cc, cn, cm⟩ = true by subst o24; rfl)
                clear o3 o5 o24
                go_wp2_with fail
                go_roundw
                case rel => exact ⟨j + 1, by omega, by go_num, by rw [HNX.out, HST.out]; rfl, hb2⟩
                case measure => simp [intOf]; omega
              · have e24 : ((op : Int) == 24) = false := by simp; omega
                have HST := Lib.hid (show stores ⟨op, ca, cb, cc, cn, cm⟩ = false by unfold stores; simp [o3, o5, o24])
                clear o3 o5 o24
                go_wp2_with fail
                go_roundw
                case rel => exact ⟨j + 1, by omega, by go_num, by rw [HNX.out, HST.out]; rfl, hb2⟩
                case measure => simp [intOf]; omega
      · obtain rfl : nK = j := by omega
        have HSB := Lib.hid (show (g.K.take nK).any stores = false → ∀ c ∈ g.K, stores c = false from fun h c hc => by
          rw [HNK.out, List.take_length] at h
          exact List.any_eq_false.1 h c hc |> Bool.eq_false_iff.2)
        obtain ⟨SB, hSB⟩ : ∃ SB, SB = (g.K.take nK).any stores := ⟨_, rfl⟩
        rw [← hSB] at HSB ⊢
        replace hx := hx.ext hb
        replace h1 := h1.trans (hb.mono h1.size)
        obtain ⟨wq, hwq⟩ : ∃ wq, wq = wr := ⟨_, rfl⟩
        rw [← hwq] at hx h1 ⊢
        clear hSB hwq hb hsk hlt hj hK100
        go_wp2_with fail
        go_loopw [14, 15, 16, 17, 19, 20, 21, 22, 23, 63] (fun _ _ _ _ _ _ _ _ _ i wr => ∃ (k : Nat) (st : St), k ≤ sn ∧ k ≤ 12 ∧ i = .int .i64 k ∧ st.tk = k ∧ st.L.length = NL ∧ okC st.L ∧ BoxS wr Y st ∧ Below w4.heap.size w4 wr) (fun _ _ _ _ _ _ _ _ _ i _ => sn - (intOf i).toNat)
        case atStart => exact ⟨0, ⟨C, sd, 0⟩, Nat.zero_le _, by omega, rfl, rfl, hCN, oC, hx, h1⟩
        case round =>
          clear hx h1 hCN oC
          obtain ⟨k, st, hk, hk12, rfl, htk, hLN, oL, hx, hbe⟩ := hrel
          have HTK := Lib.hid htk
          have HLN := Lib.hid hLN
          clear htk hLN
          have hbw : Below w.heap.size w wr := hb3.trans (hbe.mono hb3.size)
          by_cases hlt : k < sn
          · have ej : (k : Int) < (sn : Int) := by omega
            have hkl : k < ls.length := by rw [HLS.out]; exact hlt
            obtain ⟨MA, mc, mb, hvk, hM⟩ := (hy0.ext hbw).2 k ls[k] (List.getElem?_eq_getElem hkl)
            obtain ⟨off, hof, hce⟩ := (Sl.ext hS0 hbw) (by intro h0; rw [h0] at hvk; simp at hvk)
            have hc0 := hce k _ hvk
            have hMo := ho _ (List.getElem_mem hkl)
            obtain ⟨M, hMM⟩ : ∃ M, M = ls[k] := ⟨_, rfl⟩
            rw [← hMM] at hc0 hMo hM
            subst hof
            clear hMM hvk hce hkl
            by_cases h20 : k = 12
            · have e20 : (12 : Int) ≤ (k : Int) := by omega
              clear h20
              go_wp2_with fail
              go_ret
              exact ⟨rfl, hbw⟩
            · have e20 : ¬ (12 : Int) ≤ (k : Int) := by omega
              clear h20
              obtain ⟨F, hF⟩ : ∃ F, F = wholeV compN (stepP g st M) st.L st.d := ⟨_, rfl⟩
              have hP := Step_good g s st M MA mc mb wr (hi2.ext hbe) hok (hT.ext hbw) hM HR.out.symm hMo.2 hMo.1 (by rw [HLN.out]; exact hN48) oL (by rw [HTK.out]; omega) hF
              have hwl := whole_len (P := stepP g st M) (L := st.L) (d := st.d) all32 (cntL_fit g M) hok.oK oL
              have hshn := whole_shin (comp := compN) (P := stepP g st M) (L := st.L) (d := st.d) comp_fit all32 (cntL_fit g M) hok.oK oL
              rw [← hF] at hwl hshn
              have HSI := Lib.hid hshn
              obtain ⟨S1, hS1⟩ : ∃ S1 : St, S1 = ⟨F.L, F.d, (st.tk + 1) % 4294967296⟩ := ⟨_, rfl⟩
              rw [← hS1] at hP
              have HE1 := Lib.hid (show S1.L = F.L ∧ S1.tk = k + 1 ∧ S1.L.length = NL ∧ okC S1.L from ⟨by rw [hS1], by rw [hS1]; show (st.tk + 1) % 4294967296 = k + 1; rw [HTK.out]; omega, by rw [hS1]; exact hwl.1.trans HLN.out, by rw [hS1]; exact hwl.2⟩)
              have hG8 := hG.ext hbe
              have z0 := hG8.c0
              have z1 := hG8.c1
              have z2 := hG8.c2
              have z3 := hG8.c3
              have z4 := hG8.c4
              have z5 := hG8.c5
              clear hwl hshn hS1 hF hG8
              go_wp2_with ((with_reducible refine at_ld 46 9 ?_); refine wpList_ldS rfl (.tmp 9) rfl Y rfl hx ?_)
              refine hP.mono ?_
              rintro e wa ⟨sh, rfl, hsh, h1⟩
              replace hx := hx.ext h1
              replace hbe := hbe.trans (h1.mono hbe.size)
              replace hbw := hbw.trans (h1.mono hbw.size)
              clear hP h1 z0 z1 z2 z3 z4 z5 hc0 hM
              have hs1 : sh.oneCell' = true := by
                rcases hsh.2 with ⟨rfl, -⟩ | ⟨_, _, _, rfl, -⟩ <;> rfl
              have h5 := below_alloc1 (wa.alloc (.cells (stA zSt) 46)) (.cells #[.int .u64 0, .slice none 0 0, .int .i64 0] 53)
              have y4 := (BoxS.new_ wa zSt).ext h5
              have y5 : OBox ((wa.alloc (.cells (stA zSt) 46)).alloc (.cells #[.int .u64 0, .slice none 0 0, .int .i64 0] 53)) (wa.heap.size + 1) 0 (.slice none 0 0) 0 := by
                have h := OBox.new_ (wa.alloc (.cells (stA zSt) 46)) 0 (.slice none 0 0) 0
                rw [World.size_alloc] at h
                exact h
              clear h5
              have hsh := Lib.hid hsh
              go_upto_region 18 with (first | ((with_reducible refine at_al 46 16 ?_); refine wpList_alS rfl rfl (some 16) rfl wa.heap.size rfl ?_) | ((with_reducible refine at_st 46 16 75 ?_); refine wpList_stS rfl (.tmp 16) (.tmp 75) rfl wa.heap.size S1 rfl rfl zSt y4 ?_) | ((with_reducible refine at_st 53 17 76 ?_); refine wpList_stO rfl (.tmp 17) (.tmp 76) rfl (wa.heap.size + 1) F.t sh F.e rfl rfl hs1 (y5.mod (mod_setRow _ wa.heap.size _) (by show ¬ wa.heap.size + 1 = wa.heap.size; omega)) ?_))
              have r4 := (y4.row_ S1).mod (mod_setRow (((wa.alloc (.cells (stA zSt) 46)).alloc (.cells #[.int .u64 0, .slice none 0 0, .int .i64 0] 53)).setRow wa.heap.size (stA S1)) (wa.heap.size + 1) (otA F.t sh F.e)) (by show ¬ wa.heap.size = wa.heap.size + 1; omega)
              have r5 := (y5.mod (mod_setRow ((wa.alloc (.cells (stA zSt) 46)).alloc (.cells #[.int .u64 0, .slice none 0 0, .int .i64 0] 53)) wa.heap.size (stA S1)) (by show ¬ wa.heap.size + 1 = wa.heap.size; omega)).row_ F.t sh F.e
              have hbo : Below wa.heap.size wa _ := below_setRow (below_setRow (below_alloc2 wa (.cells (stA zSt) 46) (.cells #[.int .u64 0, .slice none 0 0, .int .i64 0] 53)) wa.heap.size (stA S1) (Nat.le_refl _)) (wa.heap.size + 1) (otA F.t sh F.e) (Nat.le_succ _)
              obtain ⟨wb, hWo⟩ : ∃ wb, wb = ((((wa.alloc (.cells (stA zSt) 46)).alloc (.cells #[.int .u64 0, .slice none 0 0, .int .i64 0] 53)).setRow wa.heap.size (stA S1)).setRow (wa.heap.size + 1) (otA F.t sh F.e)) := ⟨_, rfl⟩
              rw [← hWo] at r4 r5 hbo
              go_frame
              rw [← hWo]
              clear hWo y4 y5 hs1
              have hsh := rows_ext hsh.out hbo
              replace hx := hx.ext hbo
              replace hbe := hbe.trans (hbo.mono hbe.size)
              replace hbw := hbw.trans (hbo.mono hbw.size)
              obtain ⟨K1, hK⟩ : ∃ K1, K1 = wa.heap.size := ⟨_, rfl⟩
              rw [← hK] at r4 r5 ⊢
              clear hK
              obtain ⟨A8, c8, b8, rfl, hc8, hm8, hs8⟩ := rowS_sl hsh
              obtain ⟨nS, hnS⟩ : ∃ nS, nS = F.sh.length := ⟨_, rfl⟩
              rw [← hnS] at r5
              rw [← hnS]
              have HNS := Lib.hid hnS
              have a1 := ob_s r5
              have hm64 : nS ≤ 9223372036854775807 := by omega
              have hG9 := hG.ext hbe
              clear hsh hnS hc8 hm8 hbo
              go_wp2_with fail
              clear a1
              go_loopw [19, 20, 21, 22, 23, 80] (fun _ _ _ _ _ i wr => ∃ j : Nat, j ≤ nS ∧ i = .int .i64 j ∧ Below wb.heap.size wb wr) (fun _ _ _ _ _ i _ => nS - (intOf i).toNat)
              case atStart => exact ⟨0, Nat.zero_le _, rfl, Below.refl _ _⟩
              case round =>
                obtain ⟨j, hj, rfl, hbk⟩ := hrel
                by_cases hlj : j < nS
                · have ejj : (j : Int) < (nS : Int) := by omega
                  have hkS : j < F.sh.length := by rw [← HNS.out]; exact hlj
                  obtain ⟨off8, rfl, hc⟩ := (Sl.ext hs8 hbk) (by intro h0; have h5 := congrArg List.length h0; rw [sv_length, List.length_nil] at h5; omega)
                  obtain ⟨g0', g1', g2'⟩ := sv_get hkS
                  have c0 := hc _ _ g0'
                  have c1 := hc _ _ g1'
                  have c2 := hc _ _ g2'
                  rw [← Nat.add_assoc] at c1 c2
                  have hsi := HSI.out.1 _ (List.getElem_mem hkS)
                  have hsq := fun h => HSI.out.2 h _ (List.getElem_mem hkS)
                  obtain ⟨⟨x1, x2, x3⟩, hxq⟩ : ∃ q, q = F.sh[j] := ⟨_, rfl⟩
                  rw [← hxq] at c0 c1 c2 hsi hsq
                  simp only at c0 c1 c2 hsi hsq
                  obtain ⟨hx1, hx2, hx3, hx4⟩ := hsi
                  have hx4 : lessN x2 (allN g.ob) = 0 := hx4
                  have h1S : x1 < S1.L.length := by rw [HE1.out.2.2.1, ← HLN.out]; exact hx1
                  have hAt1 := fun W => At_in st.L x1 W (by rw [HLN.out]; exact hN48) hx1
                  have hAt2 := fun W => At_in S1.L x1 W (by rw [HE1.out.2.2.1]; exact hN48) h1S
                  have m1 := (okC_get oL hx1).2
                  have m2 := (okC_get HE1.out.2.2.2 h1S).2
                  have hq1 : st.L.getD x1 (0, 0) = st.L[x1] := by simp [List.getD, hx1]
                  have hq2 : F.L.getD x1 (0, 0) = S1.L[x1] := by rw [← HE1.out.1]; simp [List.getD, h1S]
                  rw [hq1, hq2] at hsq
                  obtain ⟨⟨p1, p2⟩, hpq⟩ : ∃ q, q = st.L[x1] := ⟨_, rfl⟩
                  obtain ⟨⟨n1, n2⟩, hnq⟩ : ∃ q, q = S1.L[x1] := ⟨_, rfl⟩
                  rw [← hpq] at hAt1 m1 hsq
                  rw [← hnq] at hAt2 m2 hsq
                  simp only at hAt1 hAt2 m1 m2 hsq
                  have HSQ := Lib.hid hsq
                  have HX4 := Lib.hid hx4
                  have HW1 := Lib.hid (fun W => MWithin_calls x2 (allN g.ob) W hx3 all32)
                  have HW2 := Lib.hid (fun W => MWithin_calls x2 n2 W hx3 m2)
                  have HMT := Lib.hid (fun W A2 bb2 hs2 => MMeet_calls x2 A2 [p2] 1 1 bb2 W hx3 (by intro q hq; simp at hq; rw [hq]; exact m1) hs2 rfl (by omega))
                  have h1 := below_alloc1 wr (.cells #[.int .i64 (x1 : Int), .int .u32 (x2 : Int), .int .i32 x3] 72)
                  have qW := WBox.new_ wr x1 x2 x3
                  have hxk := hx.ext hbk
                  have hrk := r4.ext hbk
                  clear hxq hpq hnq hq1 hq2 hsq hc g0' g1' g2' hkS hx1 hx4 h1S
                  go_upto_region 21 with fail
                  replace hbk := hbk.trans (h1.mono hbk.size)
                  replace hxk := hxk.ext h1
                  replace hrk := hrk.ext h1
                  obtain ⟨B1, hB1⟩ : ∃ B1, B1 = wr.heap.size := ⟨_, rfl⟩
                  obtain ⟨wA, hwA⟩ : ∃ wA, wA = wr.alloc (.cells #[.int .i64 (x1 : Int), .int .u32 (x2 : Int), .int .i32 x3] 72) := ⟨_, rfl⟩
                  rw [← hwA] at hbk hxk hrk qW ⊢
                  rw [← hB1] at qW ⊢
                  clear hwA hB1 h1 c0 c1 c2
                  have q0 := qW.c0
                  go_wp2_with ((with_reducible refine at_ld 42 85 ?_); refine wpList_ldSB (by first | rfl | simp [Region.wanted, yielded]) (.tmp 85) rfl Y rfl hxk ?_)
                  refine (hAt1 _).mono ?_
                  rintro e wA2 ⟨rfl, h1⟩
                  replace hbk := hbk.trans (h1.mono hbk.size)
                  replace hxk := hxk.ext h1
                  replace hrk := hrk.ext h1
                  replace qW := qW.ext h1
                  clear hAt1 h1 q0
                  have h1 := below_alloc1 wA2 (.cells #[.int .i32 p1, .int .u32 (p2 : Int)] 39)
                  have qP := CBox.new_ wA2 p1 p2
                  go_upto_region 22 with fail
                  replace hbk := hbk.trans (h1.mono hbk.size)
                  replace hxk := hxk.ext h1
                  replace hrk := hrk.ext h1
                  replace qW := qW.ext h1
                  obtain ⟨B2, hB2⟩ : ∃ B2, B2 = wA2.heap.size := ⟨_, rfl⟩
                  obtain ⟨wB, hwB⟩ : ∃ wB, wB = wA2.alloc (.cells #[.int .i32 p1, .int .u32 (p2 : Int)] 39) := ⟨_, rfl⟩
                  rw [← hwB] at hbk hxk hrk qW qP ⊢
                  rw [← hB2] at qP ⊢
                  clear hwB hB2 h1
                  have q0 := qW.c0
                  go_wp2_with ((with_reducible refine at_ld 42 93 ?_); refine wpList_ldSB (by first | rfl | simp [Region.wanted, yielded]) (.tmp 93) rfl K1 rfl hrk ?_)
                  refine (hAt2 _).mono ?_
                  rintro e wB2 ⟨rfl, h1⟩
                  replace hbk := hbk.trans (h1.mono hbk.size)
                  replace qW := qW.ext h1
                  replace qP := qP.ext h1
                  clear hAt2 h1 q0 hxk hrk
                  have h1 := below_alloc1 wB2 (.cells #[.int .i32 n1, .int .u32 (n2 : Int)] 39)
                  have qN := CBox.new_ wB2 n1 n2
                  go_upto_region 23 with fail
                  replace hbk := hbk.trans (h1.mono hbk.size)
                  replace qW := qW.ext h1
                  replace qP := qP.ext h1
                  obtain ⟨B3, hB3⟩ : ∃ B3, B3 = wB2.heap.size := ⟨_, rfl⟩
                  obtain ⟨wC, hwC⟩ : ∃ wC, wC = wB2.alloc (.cells #[.int .i32 n1, .int .u32 (n2 : Int)] 39) := ⟨_, rfl⟩
                  rw [← hwC] at hbk qW qP qN ⊢
                  rw [← hB3] at qN ⊢
                  clear hwC hB3 h1
                  have hG9 := hG9.ext hbk
                  have hE9 := ob_e (r5.ext hbk)
                  have hA := fun W => AllG_calls g s W
                  have ex0 : ((x2 : Int) == 0) = false := by simp; omega
                  obtain ⟨al, hal⟩ : ∃ al, al = allN g.ob := ⟨_, rfl⟩
                  rw [← hal] at hA HW1 HX4
                  have hW1 := HW1.out
                  rw [less_bool HX4.out] at hW1
                  clear hal HW1
                  cases SB with
                  | true =>
                    refine wp_region_held_drew (S := fun w' => Below wC.heap.size wC w') (by kernel_rfl) ?_ (fun hHeld => ?_)
                    · exact below_drew (Below.refl _ _)
                    refine wpAnyH_take (i := 0) (by simp only [List.getElem?_toArray]; rfl) (by kernel_rfl) (by kernel_rfl) (by kernel_rfl) (by exact fun _ _ _ h => h) (by exact yk (.bool true) (by kernel_rfl) (fun _ => by kernel_rfl)) hHeld ?_
                    refine wpAnyH_take (i := 1) (by simp only [List.getElem?_toArray]; rfl) (by kernel_rfl) (by kernel_rfl) (by kernel_rfl) (by exact fun _ _ _ h => h) (by exact yk (.bool false) (by kernel_rfl) (fun _ => by kernel_rfl)) hHeld ?_
                    refine wpAnyH_take (i := 2) (by simp only [List.getElem?_toArray]; rfl) (by kernel_rfl) (by kernel_rfl) (by kernel_rfl) (by exact fun _ _ _ h => h) (by exact yk (.bool false) (by kernel_rfl) (fun _ => by kernel_rfl)) hHeld ?_
                    refine wpAnyH_take (i := 3) (by simp only [List.getElem?_toArray]; rfl) (by kernel_rfl) (by kernel_rfl) (by kernel_rfl) (by exact fun _ _ _ h => h) (by exact yk (.pointer (some ⟨B1, 1, none⟩)) (by kernel_rfl) (fun _ => by kernel_rfl)) hHeld ?_
                    refine wpAnyH_take (i := 4) (by simp only [List.getElem?_toArray]; rfl) (by kernel_rfl) (by kernel_rfl) (by kernel_rfl) (by exact fun _ _ _ h => h) (by exact yk_ldM (by kernel_rfl) (.tmp 103) rfl ⟨B1, 1, none⟩ (.int .u32 (x2 : Int)) (by kernel_rfl) (fun _ h => (qW.ext h).c1)) hHeld ?_
                    refine wpAnyH_take (i := 5) (by simp only [List.getElem?_toArray]; rfl) (by kernel_rfl) (by kernel_rfl) (by kernel_rfl) (by exact fun _ _ _ h => h) (by exact yk_eq (by kernel_rfl) .u32 37 (.tmp 104) (.const (.int .u32 0)) _ rfl ((x2 : Int)) (0) (by kernel_rfl) (by kernel_rfl) false (ex0)) hHeld ?_
                    refine wpAnyH_take (i := 6) (by simp only [List.getElem?_toArray]; rfl) (by kernel_rfl) (by kernel_rfl) (by kernel_rfl) (by exact fun _ _ _ h => h) (by exact yk (.bool false) (by kernel_rfl) (fun _ => by kernel_rfl)) hHeld ?_
                    refine wpAnyH_take (i := 7) (by simp only [List.getElem?_toArray]; rfl) (by kernel_rfl) (by kernel_rfl) (by kernel_rfl) (by exact fun _ _ _ h => h) (by exact yk (.bool false) (by kernel_rfl) (fun _ => by kernel_rfl)) hHeld ?_
                    refine wpAnyH_take (i := 8) (by simp only [List.getElem?_toArray]; rfl) (by kernel_rfl) (by kernel_rfl) (by kernel_rfl) (by exact fun _ _ _ h => h) (by exact yk (.pointer (some ⟨B1, 1, none⟩)) (by kernel_rfl) (fun _ => by kernel_rfl)) hHeld ?_
                    refine wpAnyH_take (i := 9) (by simp only [List.getElem?_toArray]; rfl) (by kernel_rfl) (by kernel_rfl) (by kernel_rfl) (by exact fun _ _ _ h => h) (by exact yk_ldM (by kernel_rfl) (.tmp 108) rfl ⟨B1, 1, none⟩ (.int .u32 (x2 : Int)) (by kernel_rfl) (fun _ h => (qW.ext h).c1)) hHeld ?_
                    refine wpAnyH_take (i := 10) (by simp only [List.getElem?_toArray]; rfl) (by kernel_rfl) (by kernel_rfl) (by kernel_rfl) (by exact fun _ _ _ h => h) (by exact yk_ldG (by kernel_rfl) (.tmp 4) rfl w.heap.size g s (by kernel_rfl) (fun _ h => hG9.ext h)) hHeld ?_
                    refine wpAnyH_ready (rs := [11]) (by kernel_rfl) (by simp) ?_
                    refine AllReadyH.cons (by simp only [List.getElem?_toArray]; rfl) (fun KK hKK => ?_) AllReadyH.nil
                    rw [if_pos (by kernel_rfl)]
                    refine wp_callF 35 #[.agg (gmA g s)] (by kernel_rfl) ?_
                    refine (hA _).mono ?_
                    rintro e wD ⟨rfl, ha⟩
                    have hbr := below_undrew2 ha
                    clear ha
                    refine ⟨_, rfl, ?_⟩
                    refine hKK.out _ _ ?_ (fun hHeld => ?_)
                    · exact hbr
                    clear hKK KK
                    refine wpAnyH_ready (rs := [12]) (by kernel_rfl) (by simp) ?_
                    refine AllReadyH.cons (by simp only [List.getElem?_toArray]; rfl) (fun KK hKK => ?_) AllReadyH.nil
                    rw [if_pos (by kernel_rfl)]
                    refine wp_callF 41 #[.int .u32 (x2 : Int), .int .u32 (al : Int)] (by kernel_rfl) ?_
                    refine (hW1 _).mono ?_
                    rintro e wx ⟨rfl, hwx⟩
                    subst hwx
                    refine ⟨_, rfl, ?_⟩
                    refine hKK.out _ _ ?_ (fun hHeld => ?_)
                    · exact hbr
                    clear hKK KK
                    refine wpAnyH_take (i := 13) (by simp only [List.getElem?_toArray]; rfl) (by kernel_rfl) (by kernel_rfl) (by kernel_rfl) (by exact fun _ _ _ h => h) (by exact yk (.bool false) (by kernel_rfl) (fun _ => by kernel_rfl)) hHeld ?_
                    refine wpAnyH_take (i := 14) (by simp only [List.getElem?_toArray]; rfl) (by kernel_rfl) (by kernel_rfl) (by kernel_rfl) (by exact fun _ _ _ h => h) (by exact yk (.bool false) (by kernel_rfl) (fun _ => by kernel_rfl)) hHeld ?_
                    refine wpAnyH_take (i := 15) (by simp only [List.getElem?_toArray]; rfl) (by kernel_rfl) (by kernel_rfl) (by kernel_rfl) (by exact fun _ _ _ h => h) (by exact yk (.bool false) (by kernel_rfl) (fun _ => by kernel_rfl)) hHeld ?_
                    refine wpAnyH_take (i := 16) (by simp only [List.getElem?_toArray]; rfl) (by kernel_rfl) (by kernel_rfl) (by kernel_rfl) (by exact fun _ _ _ h => h) (by exact yk (.bool true) (by kernel_rfl) (fun _ => by kernel_rfl)) hHeld ?_
                    refine wpAnyH_take (i := 17) (by simp only [List.getElem?_toArray]; rfl) (by kernel_rfl) (by kernel_rfl) (by kernel_rfl) (by exact fun _ _ _ h => h) (by exact yk (.bool false) (by kernel_rfl) (fun _ => by kernel_rfl)) hHeld ?_
                    refine wpAnyH_take (i := 18) (by simp only [List.getElem?_toArray]; rfl) (by kernel_rfl) (by kernel_rfl) (by kernel_rfl) (by exact fun _ _ _ h => h) (by exact yk (.bool false) (by kernel_rfl) (fun _ => by kernel_rfl)) hHeld ?_
                    refine wpAnyH_take (i := 19) (by simp only [List.getElem?_toArray]; rfl) (by kernel_rfl) (by kernel_rfl) (by kernel_rfl) (by exact fun _ _ _ h => h) (by exact yk_no (by kernel_rfl)) hHeld ?_
                    refine wpAnyH_take (i := 20) (by simp only [List.getElem?_toArray]; rfl) (by kernel_rfl) (by kernel_rfl) (by kernel_rfl) (by exact fun _ _ _ h => h) (by exact yk_no (by kernel_rfl)) hHeld ?_
                    refine wpAnyH_take (i := 21) (by simp only [List.getElem?_toArray]; rfl) (by kernel_rfl) (by kernel_rfl) (by kernel_rfl) (by exact fun _ _ _ h => h) (by exact yk_no (by kernel_rfl)) hHeld ?_
                    refine wpAnyH_take (i := 22) (by simp only [List.getElem?_toArray]; rfl) (by kernel_rfl) (by kernel_rfl) (by kernel_rfl) (by exact fun _ _ _ h => h) (by exact yk_no (by kernel_rfl)) hHeld ?_
                    refine wpAnyH_take (i := 23) (by simp only [List.getElem?_toArray]; rfl) (by kernel_rfl) (by kernel_rfl) (by kernel_rfl) (by exact fun _ _ _ h => h) (by exact yk_no (by kernel_rfl)) hHeld ?_
                    refine wpAnyH_take (i := 24) (by simp only [List.getElem?_toArray]; rfl) (by kernel_rfl) (by kernel_rfl) (by kernel_rfl) (by exact fun _ _ _ h => h) (by exact yk_no (by kernel_rfl)) hHeld ?_
                    refine wpAnyH_take (i := 25) (by simp only [List.getElem?_toArray]; rfl) (by kernel_rfl) (by kernel_rfl) (by kernel_rfl) (by exact fun _ _ _ h => h) (by exact yk_no (by kernel_rfl)) hHeld ?_
                    refine wpAnyH_take (i := 26) (by simp only [List.getElem?_toArray]; rfl) (by kernel_rfl) (by kernel_rfl) (by kernel_rfl) (by exact fun _ _ _ h => h) (by exact yk_no (by kernel_rfl)) hHeld ?_
                    refine wpAnyH_take (i := 27) (by simp only [List.getElem?_toArray]; rfl) (by kernel_rfl) (by kernel_rfl) (by kernel_rfl) (by exact fun _ _ _ h => h) (by exact yk_no (by kernel_rfl)) hHeld ?_
                    refine wpAnyH_take (i := 28) (by simp only [List.getElem?_toArray]; rfl) (by kernel_rfl) (by kernel_rfl) (by kernel_rfl) (by exact fun _ _ _ h => h) (by exact yk_no (by kernel_rfl)) hHeld ?_
                    refine wpAnyH_take (i := 29) (by simp only [List.getElem?_toArray]; rfl) (by kernel_rfl) (by kernel_rfl) (by kernel_rfl) (by exact fun _ _ _ h => h) (by exact yk_no (by kernel_rfl)) hHeld ?_
                    refine wpAnyH_take (i := 30) (by simp only [List.getElem?_toArray]; rfl) (by kernel_rfl) (by kernel_rfl) (by kernel_rfl) (by exact fun _ _ _ h => h) (by exact yk_no (by kernel_rfl)) hHeld ?_
                    refine wpAnyH_take (i := 31) (by simp only [List.getElem?_toArray]; rfl) (by kernel_rfl) (by kernel_rfl) (by kernel_rfl) (by exact fun _ _ _ h => h) (by exact yk_no (by kernel_rfl)) hHeld ?_
                    refine wpAnyH_take (i := 32) (by simp only [List.getElem?_toArray]; rfl) (by kernel_rfl) (by kernel_rfl) (by kernel_rfl) (by exact fun _ _ _ h => h) (by exact yk_no (by kernel_rfl)) hHeld ?_
                    refine wpAnyH_take (i := 33) (by simp only [List.getElem?_toArray]; rfl) (by kernel_rfl) (by kernel_rfl) (by kernel_rfl) (by exact fun _ _ _ h => h) (by exact yk_no (by kernel_rfl)) hHeld ?_
                    refine wpAnyH_take (i := 34) (by simp only [List.getElem?_toArray]; rfl) (by kernel_rfl) (by kernel_rfl) (by kernel_rfl) (by exact fun _ _ _ h => h) (by exact yk_no (by kernel_rfl)) hHeld ?_
                    refine wpAnyH_take (i := 35) (by simp only [List.getElem?_toArray]; rfl) (by kernel_rfl) (by kernel_rfl) (by kernel_rfl) (by exact fun _ _ _ h => h) (by exact yk_no (by kernel_rfl)) hHeld ?_
                    refine wpAnyH_take (i := 36) (by simp only [List.getElem?_toArray]; rfl) (by kernel_rfl) (by kernel_rfl) (by kernel_rfl) (by exact fun _ _ _ h => h) (by exact yk_no (by kernel_rfl)) hHeld ?_
                    refine wpAnyH_take (i := 37) (by simp only [List.getElem?_toArray]; rfl) (by kernel_rfl) (by kernel_rfl) (by kernel_rfl) (by exact fun _ _ _ h => h) (by exact yk_no (by kernel_rfl)) hHeld ?_
                    refine wpAnyH_take (i := 38) (by simp only [List.getElem?_toArray]; rfl) (by kernel_rfl) (by kernel_rfl) (by kernel_rfl) (by exact fun _ _ _ h => h) (by exact yk_no (by kernel_rfl)) hHeld ?_
                    refine wpAnyH_take (i := 39) (by simp only [List.getElem?_toArray]; rfl) (by kernel_rfl) (by kernel_rfl) (by kernel_rfl) (by exact fun _ _ _ h => h) (by exact yk_no (by kernel_rfl)) hHeld ?_
                    refine wpAnyH_take (i := 40) (by simp only [List.getElem?_toArray]; rfl) (by kernel_rfl) (by kernel_rfl) (by kernel_rfl) (by exact fun _ _ _ h => h) (by exact yk_no (by kernel_rfl)) hHeld ?_
                    refine wpAnyH_take (i := 41) (by simp only [List.getElem?_toArray]; rfl) (by kernel_rfl) (by kernel_rfl) (by kernel_rfl) (by exact fun _ _ _ h => h) (by exact yk_no (by kernel_rfl)) hHeld ?_
                    refine wpAnyH_take (i := 42) (by simp only [List.getElem?_toArray]; rfl) (by kernel_rfl) (by kernel_rfl) (by kernel_rfl) (by exact fun _ _ _ h => h) (by exact yk_no (by kernel_rfl)) hHeld ?_
                    refine wpAnyH_take (i := 43) (by simp only [List.getElem?_toArray]; rfl) (by kernel_rfl) (by kernel_rfl) (by kernel_rfl) (by exact fun _ _ _ h => h) (by exact yk_no (by kernel_rfl)) hHeld ?_
                    refine wpAnyH_take (i := 44) (by simp only [List.getElem?_toArray]; rfl) (by kernel_rfl) (by kernel_rfl) (by kernel_rfl) (by exact fun _ _ _ h => h) (by exact yk_no (by kernel_rfl)) hHeld ?_
                    refine wpAnyH_take (i := 45) (by simp only [List.getElem?_toArray]; rfl) (by kernel_rfl) (by kernel_rfl) (by kernel_rfl) (by exact fun _ _ _ h => h) (by exact yk_no (by kernel_rfl)) hHeld ?_
                    refine wpAnyH_take (i := 46) (by simp only [List.getElem?_toArray]; rfl) (by kernel_rfl) (by kernel_rfl) (by kernel_rfl) (by exact fun _ _ _ h => h) (by exact yk (.bool false) (by kernel_rfl) (fun _ => by kernel_rfl)) hHeld ?_
                    refine wpAnyH_take (i := 47) (by simp only [List.getElem?_toArray]; rfl) (by kernel_rfl) (by kernel_rfl) (by kernel_rfl) (by exact fun _ _ _ h => h) (by exact yk (.bool false) (by kernel_rfl) (fun _ => by kernel_rfl)) hHeld ?_
                    refine wpAnyH_done (by kernel_rfl) ?_ _
                    try simp only [Act.put, List.setIfInBounds_toArray, List.set_cons_zero, List.set_cons_succ]
                    have hbk := hbk.trans (hbr.mono hbk.size)
                    go_wp2_with fail
                    go_roundw
                    case rel => exact ⟨j + 1, by omega, by go_num, hbk⟩
                    case measure => simp [intOf]; omega
                  | false =>
                    obtain ⟨s1, s2, s3⟩ := HSQ.out (HSB.out (by trivial))
                    have hMt := HMT.out
                    rw [meet_one, s1] at hMt
                    have ex3 : (x3 != p1) = false := by rw [s2]; simp
                    clear s1 s2
                    by_cases he : F.e = 0
                    · have eE : ((F.e : Int) == 0) = true := by simp; omega
                      have hW2 := HW2.out
                      rw [less_bool (s3 he)] at hW2
                      clear s3 he
                      refine wp_region_held_drew (S := fun w' => Below wC.heap.size wC w') (by kernel_rfl) ?_ (fun hHeld => ?_)
                      · exact below_drew (Below.refl _ _)
                      refine wpAnyH_take (i := 0) (by simp only [List.getElem?_toArray]; rfl) (by kernel_rfl) (by kernel_rfl) (by kernel_rfl) (by exact fun _ _ _ h => h) (by exact yk (.bool true) (by kernel_rfl) (fun _ => by kernel_rfl)) hHeld ?_
                      refine wpAnyH_take (i := 1) (by simp only [List.getElem?_toArray]; rfl) (by kernel_rfl) (by kernel_rfl) (by kernel_rfl) (by exact fun _ _ _ h => h) (by exact yk (.bool false) (by kernel_rfl) (fun _ => by kernel_rfl)) hHeld ?_
                      refine wpAnyH_take (i := 2) (by simp only [List.getElem?_toArray]; rfl) (by kernel_rfl) (by kernel_rfl) (by kernel_rfl) (by exact fun _ _ _ h => h) (by exact yk (.bool false) (by kernel_rfl) (fun _ => by kernel_rfl)) hHeld ?_
                      refine wpAnyH_take (i := 3) (by simp only [List.getElem?_toArray]; rfl) (by kernel_rfl) (by kernel_rfl) (by kernel_rfl) (by exact fun _ _ _ h => h) (by exact yk (.pointer (some ⟨B1, 1, none⟩)) (by kernel_rfl) (fun _ => by kernel_rfl)) hHeld ?_
                      refine wpAnyH_take (i := 4) (by simp only [List.getElem?_toArray]; rfl) (by kernel_rfl) (by kernel_rfl) (by kernel_rfl) (by exact fun _ _ _ h => h) (by exact yk_ldM (by kernel_rfl) (.tmp 103) rfl ⟨B1, 1, none⟩ (.int .u32 (x2 : Int)) (by kernel_rfl) (fun _ h => (qW.ext h).c1)) hHeld ?_
                      refine wpAnyH_take (i := 5) (by simp only [List.getElem?_toArray]; rfl) (by kernel_rfl) (by kernel_rfl) (by kernel_rfl) (by exact fun _ _ _ h => h) (by exact yk_eq (by kernel_rfl) .u32 37 (.tmp 104) (.const (.int .u32 0)) _ rfl ((x2 : Int)) (0) (by kernel_rfl) (by kernel_rfl) false (ex0)) hHeld ?_
                      refine wpAnyH_take (i := 6) (by simp only [List.getElem?_toArray]; rfl) (by kernel_rfl) (by kernel_rfl) (by kernel_rfl) (by exact fun _ _ _ h => h) (by exact yk (.bool false) (by kernel_rfl) (fun _ => by kernel_rfl)) hHeld ?_
                      refine wpAnyH_take (i := 7) (by simp only [List.getElem?_toArray]; rfl) (by kernel_rfl) (by kernel_rfl) (by kernel_rfl) (by exact fun _ _ _ h => h) (by exact yk (.bool false) (by kernel_rfl) (fun _ => by kernel_rfl)) hHeld ?_
                      refine wpAnyH_take (i := 8) (by simp only [List.getElem?_toArray]; rfl) (by kernel_rfl) (by kernel_rfl) (by kernel_rfl) (by exact fun _ _ _ h => h) (by exact yk (.pointer (some ⟨B1, 1, none⟩)) (by kernel_rfl) (fun _ => by kernel_rfl)) hHeld ?_
                      refine wpAnyH_take (i := 9) (by simp only [List.getElem?_toArray]; rfl) (by kernel_rfl) (by kernel_rfl) (by kernel_rfl) (by exact fun _ _ _ h => h) (by exact yk_ldM (by kernel_rfl) (.tmp 108) rfl ⟨B1, 1, none⟩ (.int .u32 (x2 : Int)) (by kernel_rfl) (fun _ h => (qW.ext h).c1)) hHeld ?_
                      refine wpAnyH_take (i := 10) (by simp only [List.getElem?_toArray]; rfl) (by kernel_rfl) (by kernel_rfl) (by kernel_rfl) (by exact fun _ _ _ h => h) (by exact yk_ldG (by kernel_rfl) (.tmp 4) rfl w.heap.size g s (by kernel_rfl) (fun _ h => hG9.ext h)) hHeld ?_
                      refine wpAnyH_ready (rs := [11]) (by kernel_rfl) (by simp) ?_
                      refine AllReadyH.cons (by simp only [List.getElem?_toArray]; rfl) (fun KK hKK => ?_) AllReadyH.nil
                      rw [if_pos (by kernel_rfl)]
                      refine wp_callF 35 #[.agg (gmA g s)] (by kernel_rfl) ?_
                      refine (hA _).mono ?_
                      rintro e wD ⟨rfl, ha⟩
                      have hbr := below_undrew2 ha
                      clear ha
                      refine ⟨_, rfl, ?_⟩
                      refine hKK.out _ _ ?_ (fun hHeld => ?_)
                      · exact hbr
                      clear hKK KK
                      refine wpAnyH_ready (rs := [12]) (by kernel_rfl) (by simp) ?_
                      refine AllReadyH.cons (by simp only [List.getElem?_toArray]; rfl) (fun KK hKK => ?_) AllReadyH.nil
                      rw [if_pos (by kernel_rfl)]
                      refine wp_callF 41 #[.int .u32 (x2 : Int), .int .u32 (al : Int)] (by kernel_rfl) ?_
                      refine (hW1 _).mono ?_
                      rintro e wx ⟨rfl, hwx⟩
                      subst hwx
                      refine ⟨_, rfl, ?_⟩
                      refine hKK.out _ _ ?_ (fun hHeld => ?_)
                      · exact hbr
                      clear hKK KK
                      refine wpAnyH_take (i := 13) (by simp only [List.getElem?_toArray]; rfl) (by kernel_rfl) (by kernel_rfl) (by kernel_rfl) (by exact fun _ _ _ h => h) (by exact yk (.bool false) (by kernel_rfl) (fun _ => by kernel_rfl)) hHeld ?_
                      refine wpAnyH_take (i := 14) (by simp only [List.getElem?_toArray]; rfl) (by kernel_rfl) (by kernel_rfl) (by kernel_rfl) (by exact fun _ _ _ h => h) (by exact yk (.bool false) (by kernel_rfl) (fun _ => by kernel_rfl)) hHeld ?_
                      refine wpAnyH_take (i := 15) (by simp only [List.getElem?_toArray]; rfl) (by kernel_rfl) (by kernel_rfl) (by kernel_rfl) (by exact fun _ _ _ h => h) (by exact yk (.bool false) (by kernel_rfl) (fun _ => by kernel_rfl)) hHeld ?_
                      refine wpAnyH_take (i := 16) (by simp only [List.getElem?_toArray]; rfl) (by kernel_rfl) (by kernel_rfl) (by kernel_rfl) (by exact fun _ _ _ h => h) (by exact yk (.bool false) (by kernel_rfl) (fun _ => by kernel_rfl)) hHeld ?_
                      refine wpAnyH_take (i := 17) (by simp only [List.getElem?_toArray]; rfl) (by kernel_rfl) (by kernel_rfl) (by kernel_rfl) (by exact fun _ _ _ h => h) (by exact yk (.bool true) (by kernel_rfl) (fun _ => by kernel_rfl)) hHeld ?_
                      refine wpAnyH_take (i := 18) (by simp only [List.getElem?_toArray]; rfl) (by kernel_rfl) (by kernel_rfl) (by kernel_rfl) (by exact fun _ _ _ h => h) (by exact yk (.bool true) (by kernel_rfl) (fun _ => by kernel_rfl)) hHeld ?_
                      refine wpAnyH_take (i := 19) (by simp only [List.getElem?_toArray]; rfl) (by kernel_rfl) (by kernel_rfl) (by kernel_rfl) (by exact fun _ _ _ h => h) (by exact yk (.pointer (some ⟨B1, 1, none⟩)) (by kernel_rfl) (fun _ => by kernel_rfl)) hHeld ?_
                      refine wpAnyH_take (i := 20) (by simp only [List.getElem?_toArray]; rfl) (by kernel_rfl) (by kernel_rfl) (by kernel_rfl) (by exact fun _ _ _ h => h) (by exact yk_ldM (by kernel_rfl) (.tmp 119) rfl ⟨B1, 1, none⟩ (.int .u32 (x2 : Int)) (by kernel_rfl) (fun _ h => (qW.ext h).c1)) hHeld ?_
                      refine wpAnyH_take (i := 21) (by simp only [List.getElem?_toArray]; rfl) (by kernel_rfl) (by kernel_rfl) (by kernel_rfl) (by exact fun _ _ _ h => h) (by exact yk (.pointer (some ⟨B2, 1, none⟩)) (by kernel_rfl) (fun _ => by kernel_rfl)) hHeld ?_
                      refine wpAnyH_take (i := 22) (by simp only [List.getElem?_toArray]; rfl) (by kernel_rfl) (by kernel_rfl) (by kernel_rfl) (by exact fun _ _ _ h => h) (by exact yk_ldM (by kernel_rfl) (.tmp 121) rfl ⟨B2, 1, none⟩ (.int .u32 (p2 : Int)) (by kernel_rfl) (fun _ h => (qP.ext h).c1)) hHeld ?_
                      refine wpAnyH_ready (rs := [23]) (by kernel_rfl) (by simp) ?_
                      refine AllReadyH.cons (by simp only [List.getElem?_toArray]; rfl) (fun KK hKK => ?_) AllReadyH.nil
                      rw [if_pos (by kernel_rfl)]
                      refine wp_bsM (.tmp 122) rfl p2 (by kernel_rfl) ?_
                      have hs2 : Sl (wx.alloc (.cells #[.int .u32 (p2 : Int)] 37)) wx.heap.size (some ⟨wx.heap.size, 0, none⟩) (ms [p2]) := Sl.cells_new wx #[.int .u32 (p2 : Int)] 37
                      have ha := below_alloc1 wx (.cells #[.int .u32 (p2 : Int)] 37)
                      replace hbr := hbr.trans (ha.mono hbr.size)
                      clear ha
                      refine hKK.out _ _ ?_ (fun hHeld => ?_)
                      · exact hbr
                      clear hKK KK
                      refine wpAnyH_ready (rs := [24]) (by kernel_rfl) (by simp) ?_
                      refine AllReadyH.cons (by simp only [List.getElem?_toArray]; rfl) (fun KK hKK => ?_) AllReadyH.nil
                      rw [if_pos (by kernel_rfl)]
                      refine wp_callF 42 #[.int .u32 (x2 : Int), .slice (some ⟨wx.heap.size, 0, none⟩) 1 1] (by kernel_rfl) ?_
                      refine (hMt _ _ _ hs2).mono ?_
                      rintro e wy ⟨rfl, hwy⟩
                      subst hwy
                      refine ⟨_, rfl, ?_⟩
                      refine hKK.out _ _ ?_ (fun hHeld => ?_)
                      · exact hbr
                      clear hKK KK
                      refine wpAnyH_take (i := 25) (by simp only [List.getElem?_toArray]; rfl) (by kernel_rfl) (by kernel_rfl) (by kernel_rfl) (by exact fun _ _ _ h => h) (by exact yk_ne (by kernel_rfl) .u32 37 (.tmp 124) (.const (.int .u32 0)) _ rfl (((0 : Nat) : Int)) (0) (by kernel_rfl) (by kernel_rfl) false (rfl)) hHeld ?_
                      refine wpAnyH_take (i := 26) (by simp only [List.getElem?_toArray]; rfl) (by kernel_rfl) (by kernel_rfl) (by kernel_rfl) (by exact fun _ _ _ h => h) (by exact yk (.bool false) (by kernel_rfl) (fun _ => by kernel_rfl)) hHeld ?_
                      refine wpAnyH_take (i := 27) (by simp only [List.getElem?_toArray]; rfl) (by kernel_rfl) (by kernel_rfl) (by kernel_rfl) (by exact fun _ _ _ h => h) (by exact yk (.pointer (some ⟨B1, 2, none⟩)) (by kernel_rfl) (fun _ => by kernel_rfl)) hHeld ?_
                      refine wpAnyH_take (i := 28) (by simp only [List.getElem?_toArray]; rfl) (by kernel_rfl) (by kernel_rfl) (by kernel_rfl) (by exact fun _ _ _ h => h) (by exact yk_ldV (by kernel_rfl) (.tmp 127) rfl ⟨B1, 2, none⟩ (.int .i32 x3) (by kernel_rfl) (fun _ h => (qW.ext h).c2)) hHeld ?_
                      refine wpAnyH_take (i := 29) (by simp only [List.getElem?_toArray]; rfl) (by kernel_rfl) (by kernel_rfl) (by kernel_rfl) (by exact fun _ _ _ h => h) (by exact yk (.pointer (some ⟨B2, 0, none⟩)) (by kernel_rfl) (fun _ => by kernel_rfl)) hHeld ?_
                      refine wpAnyH_take (i := 30) (by simp only [List.getElem?_toArray]; rfl) (by kernel_rfl) (by kernel_rfl) (by kernel_rfl) (by exact fun _ _ _ h => h) (by exact yk_ldV (by kernel_rfl) (.tmp 129) rfl ⟨B2, 0, none⟩ (.int .i32 p1) (by kernel_rfl) (fun _ h => (qP.ext h).c0)) hHeld ?_
                      refine wpAnyH_take (i := 31) (by simp only [List.getElem?_toArray]; rfl) (by kernel_rfl) (by kernel_rfl) (by kernel_rfl) (by exact fun _ _ _ h => h) (by exact yk_ne (by kernel_rfl) .i32 21 (.tmp 128) (.tmp 130) _ rfl (x3) (p1) (by kernel_rfl) (by kernel_rfl) false (ex3)) hHeld ?_
                      refine wpAnyH_take (i := 32) (by simp only [List.getElem?_toArray]; rfl) (by kernel_rfl) (by kernel_rfl) (by kernel_rfl) (by exact fun _ _ _ h => h) (by exact yk (.bool false) (by kernel_rfl) (fun _ => by kernel_rfl)) hHeld ?_
                      refine wpAnyH_take (i := 33) (by simp only [List.getElem?_toArray]; rfl) (by kernel_rfl) (by kernel_rfl) (by kernel_rfl) (by exact fun _ _ _ h => h) (by exact yk (.bool false) (by kernel_rfl) (fun _ => by kernel_rfl)) hHeld ?_
                      refine wpAnyH_take (i := 34) (by simp only [List.getElem?_toArray]; rfl) (by kernel_rfl) (by kernel_rfl) (by kernel_rfl) (by exact fun _ _ _ h => h) (by exact yk (.pointer (some ⟨(K1 + 1), 2, none⟩)) (by kernel_rfl) (fun _ => by kernel_rfl)) hHeld ?_
                      refine wpAnyH_take (i := 35) (by simp only [List.getElem?_toArray]; rfl) (by kernel_rfl) (by kernel_rfl) (by kernel_rfl) (by exact fun _ _ _ h => h) (by exact yk_ldE (by kernel_rfl) (.tmp 134) rfl ⟨K1 + 1, 2, none⟩ (.int .i64 (F.e : Int)) (by kernel_rfl) (fun _ h => sl_same h hE9)) hHeld ?_
                      refine wpAnyH_take (i := 36) (by simp only [List.getElem?_toArray]; rfl) (by kernel_rfl) (by kernel_rfl) (by kernel_rfl) (by exact fun _ _ _ h => h) (by exact yk_eq (by kernel_rfl) .i64 47 (.tmp 135) (.const (.int .i64 0)) _ rfl ((F.e : Int)) (0) (by kernel_rfl) (by kernel_rfl) true (eE)) hHeld ?_
                      refine wpAnyH_take (i := 37) (by simp only [List.getElem?_toArray]; rfl) (by kernel_rfl) (by kernel_rfl) (by kernel_rfl) (by exact fun _ _ _ h => h) (by exact yk (.bool true) (by kernel_rfl) (fun _ => by kernel_rfl)) hHeld ?_
                      refine wpAnyH_take (i := 38) (by simp only [List.getElem?_toArray]; rfl) (by kernel_rfl) (by kernel_rfl) (by kernel_rfl) (by exact fun _ _ _ h => h) (by exact yk (.pointer (some ⟨B1, 1, none⟩)) (by kernel_rfl) (fun _ => by kernel_rfl)) hHeld ?_
                      refine wpAnyH_take (i := 39) (by simp only [List.getElem?_toArray]; rfl) (by kernel_rfl) (by kernel_rfl) (by kernel_rfl) (by exact fun _ _ _ h => h) (by exact yk_ldM (by kernel_rfl) (.tmp 138) rfl ⟨B1, 1, none⟩ (.int .u32 (x2 : Int)) (by kernel_rfl) (fun _ h => (qW.ext h).c1)) hHeld ?_
                      refine wpAnyH_take (i := 40) (by simp only [List.getElem?_toArray]; rfl) (by kernel_rfl) (by kernel_rfl) (by kernel_rfl) (by exact fun _ _ _ h => h) (by exact yk (.pointer (some ⟨B3, 1, none⟩)) (by kernel_rfl) (fun _ => by kernel_rfl)) hHeld ?_
                      refine wpAnyH_take (i := 41) (by simp only [List.getElem?_toArray]; rfl) (by kernel_rfl) (by kernel_rfl) (by kernel_rfl) (by exact fun _ _ _ h => h) (by exact yk_ldM (by kernel_rfl) (.tmp 140) rfl ⟨B3, 1, none⟩ (.int .u32 (n2 : Int)) (by kernel_rfl) (fun _ h => (qN.ext h).c1)) hHeld ?_
                      refine wpAnyH_ready (rs := [42]) (by kernel_rfl) (by simp) ?_
                      refine AllReadyH.cons (by simp only [List.getElem?_toArray]; rfl) (fun KK hKK => ?_) AllReadyH.nil
                      rw [if_pos (by kernel_rfl)]
                      refine wp_callF 41 #[.int .u32 (x2 : Int), .int .u32 (n2 : Int)] (by kernel_rfl) ?_
                      refine (hW2 _).mono ?_
                      rintro e wz ⟨rfl, hwz⟩
                      subst hwz
                      refine ⟨_, rfl, ?_⟩
                      refine hKK.out _ _ ?_ (fun hHeld => ?_)
                      · exact hbr
                      clear hKK KK
                      refine wpAnyH_take (i := 43) (by simp only [List.getElem?_toArray]; rfl) (by kernel_rfl) (by kernel_rfl) (by kernel_rfl) (by exact fun _ _ _ h => h) (by exact yk (.bool false) (by kernel_rfl) (fun _ => by kernel_rfl)) hHeld ?_
                      refine wpAnyH_take (i := 44) (by simp only [List.getElem?_toArray]; rfl) (by kernel_rfl) (by kernel_rfl) (by kernel_rfl) (by exact fun _ _ _ h => h) (by exact yk (.bool false) (by kernel_rfl) (fun _ => by kernel_rfl)) hHeld ?_
                      refine wpAnyH_take (i := 45) (by simp only [List.getElem?_toArray]; rfl) (by kernel_rfl) (by kernel_rfl) (by kernel_rfl) (by exact fun _ _ _ h => h) (by exact yk (.bool false) (by kernel_rfl) (fun _ => by kernel_rfl)) hHeld ?_
                      refine wpAnyH_take (i := 46) (by simp only [List.getElem?_toArray]; rfl) (by kernel_rfl) (by kernel_rfl) (by kernel_rfl) (by exact fun _ _ _ h => h) (by exact yk (.bool false) (by kernel_rfl) (fun _ => by kernel_rfl)) hHeld ?_
                      refine wpAnyH_take (i := 47) (by simp only [List.getElem?_toArray]; rfl) (by kernel_rfl) (by kernel_rfl) (by kernel_rfl) (by exact fun _ _ _ h => h) (by exact yk (.bool false) (by kernel_rfl) (fun _ => by kernel_rfl)) hHeld ?_
                      refine wpAnyH_done (by kernel_rfl) ?_ _
                      try simp only [Act.put, List.setIfInBounds_toArray, List.set_cons_zero, List.set_cons_succ]
                      have hbk := hbk.trans (hbr.mono hbk.size)
                      go_wp2_with fail
                      go_roundw
                      case rel => exact ⟨j + 1, by omega, by go_num, hbk⟩
                      case measure => simp [intOf]; omega
                    · have eE : ((F.e : Int) == 0) = false := by simp; omega
                      clear s3 he
                      refine wp_region_held_drew (S := fun w' => Below wC.heap.size wC w') (by kernel_rfl) ?_ (fun hHeld => ?_)
                      · exact below_drew (Below.refl _ _)
                      refine wpAnyH_take (i := 0) (by simp only [List.getElem?_toArray]; rfl) (by kernel_rfl) (by kernel_rfl) (by kernel_rfl) (by exact fun _ _ _ h => h) (by exact yk (.bool true) (by kernel_rfl) (fun _ => by kernel_rfl)) hHeld ?_
                      refine wpAnyH_take (i := 1) (by simp only [List.getElem?_toArray]; rfl) (by kernel_rfl) (by kernel_rfl) (by kernel_rfl) (by exact fun _ _ _ h => h) (by exact yk (.bool false) (by kernel_rfl) (fun _ => by kernel_rfl)) hHeld ?_
                      refine wpAnyH_take (i := 2) (by simp only [List.getElem?_toArray]; rfl) (by kernel_rfl) (by kernel_rfl) (by kernel_rfl) (by exact fun _ _ _ h => h) (by exact yk (.bool false) (by kernel_rfl) (fun _ => by kernel_rfl)) hHeld ?_
                      refine wpAnyH_take (i := 3) (by simp only [List.getElem?_toArray]; rfl) (by kernel_rfl) (by kernel_rfl) (by kernel_rfl) (by exact fun _ _ _ h => h) (by exact yk (.pointer (some ⟨B1, 1, none⟩)) (by kernel_rfl) (fun _ => by kernel_rfl)) hHeld ?_
                      refine wpAnyH_take (i := 4) (by simp only [List.getElem?_toArray]; rfl) (by kernel_rfl) (by kernel_rfl) (by kernel_rfl) (by exact fun _ _ _ h => h) (by exact yk_ldM (by kernel_rfl) (.tmp 103) rfl ⟨B1, 1, none⟩ (.int .u32 (x2 : Int)) (by kernel_rfl) (fun _ h => (qW.ext h).c1)) hHeld ?_
                      refine wpAnyH_take (i := 5) (by simp only [List.getElem?_toArray]; rfl) (by kernel_rfl) (by kernel_rfl) (by kernel_rfl) (by exact fun _ _ _ h => h) (by exact yk_eq (by kernel_rfl) .u32 37 (.tmp 104) (.const (.int .u32 0)) _ rfl ((x2 : Int)) (0) (by kernel_rfl) (by kernel_rfl) false (ex0)) hHeld ?_
                      refine wpAnyH_take (i := 6) (by simp only [List.getElem?_toArray]; rfl) (by kernel_rfl) (by kernel_rfl) (by kernel_rfl) (by exact fun _ _ _ h => h) (by exact yk (.bool false) (by kernel_rfl) (fun _ => by kernel_rfl)) hHeld ?_
                      refine wpAnyH_take (i := 7) (by simp only [List.getElem?_toArray]; rfl) (by kernel_rfl) (by kernel_rfl) (by kernel_rfl) (by exact fun _ _ _ h => h) (by exact yk (.bool false) (by kernel_rfl) (fun _ => by kernel_rfl)) hHeld ?_
                      refine wpAnyH_take (i := 8) (by simp only [List.getElem?_toArray]; rfl) (by kernel_rfl) (by kernel_rfl) (by kernel_rfl) (by exact fun _ _ _ h => h) (by exact yk (.pointer (some ⟨B1, 1, none⟩)) (by kernel_rfl) (fun _ => by kernel_rfl)) hHeld ?_
                      refine wpAnyH_take (i := 9) (by simp only [List.getElem?_toArray]; rfl) (by kernel_rfl) (by kernel_rfl) (by kernel_rfl) (by exact fun _ _ _ h => h) (by exact yk_ldM (by kernel_rfl) (.tmp 108) rfl ⟨B1, 1, none⟩ (.int .u32 (x2 : Int)) (by kernel_rfl) (fun _ h => (qW.ext h).c1)) hHeld ?_
                      refine wpAnyH_take (i := 10) (by simp only [List.getElem?_toArray]; rfl) (by kernel_rfl) (by kernel_rfl) (by kernel_rfl) (by exact fun _ _ _ h => h) (by exact yk_ldG (by kernel_rfl) (.tmp 4) rfl w.heap.size g s (by kernel_rfl) (fun _ h => hG9.ext h)) hHeld ?_
                      refine wpAnyH_ready (rs := [11]) (by kernel_rfl) (by simp) ?_
                      refine AllReadyH.cons (by simp only [List.getElem?_toArray]; rfl) (fun KK hKK => ?_) AllReadyH.nil
                      rw [if_pos (by kernel_rfl)]
                      refine wp_callF 35 #[.agg (gmA g s)] (by kernel_rfl) ?_
                      refine (hA _).mono ?_
                      rintro e wD ⟨rfl, ha⟩
                      have hbr := below_undrew2 ha
                      clear ha
                      refine ⟨_, rfl, ?_⟩
                      refine hKK.out _ _ ?_ (fun hHeld => ?_)
                      · exact hbr
                      clear hKK KK
                      refine wpAnyH_ready (rs := [12]) (by kernel_rfl) (by simp) ?_
                      refine AllReadyH.cons (by simp only [List.getElem?_toArray]; rfl) (fun KK hKK => ?_) AllReadyH.nil
                      rw [if_pos (by kernel_rfl)]
                      refine wp_callF 41 #[.int .u32 (x2 : Int), .int .u32 (al : Int)] (by kernel_rfl) ?_
                      refine (hW1 _).mono ?_
                      rintro e wx ⟨rfl, hwx⟩
                      subst hwx
                      refine ⟨_, rfl, ?_⟩
                      refine hKK.out _ _ ?_ (fun hHeld => ?_)
                      · exact hbr
                      clear hKK KK
                      refine wpAnyH_take (i := 13) (by simp only [List.getElem?_toArray]; rfl) (by kernel_rfl) (by kernel_rfl) (by kernel_rfl) (by exact fun _ _ _ h => h) (by exact yk (.bool false) (by kernel_rfl) (fun _ => by kernel_rfl)) hHeld ?_
                      refine wpAnyH_take (i := 14) (by simp only [List.getElem?_toArray]; rfl) (by kernel_rfl) (by kernel_rfl) (by kernel_rfl) (by exact fun _ _ _ h => h) (by exact yk (.bool false) (by kernel_rfl) (fun _ => by kernel_rfl)) hHeld ?_
                      refine wpAnyH_take (i := 15) (by simp only [List.getElem?_toArray]; rfl) (by kernel_rfl) (by kernel_rfl) (by kernel_rfl) (by exact fun _ _ _ h => h) (by exact yk (.bool false) (by kernel_rfl) (fun _ => by kernel_rfl)) hHeld ?_
                      refine wpAnyH_take (i := 16) (by simp only [List.getElem?_toArray]; rfl) (by kernel_rfl) (by kernel_rfl) (by kernel_rfl) (by exact fun _ _ _ h => h) (by exact yk (.bool false) (by kernel_rfl) (fun _ => by kernel_rfl)) hHeld ?_
                      refine wpAnyH_take (i := 17) (by simp only [List.getElem?_toArray]; rfl) (by kernel_rfl) (by kernel_rfl) (by kernel_rfl) (by exact fun _ _ _ h => h) (by exact yk (.bool true) (by kernel_rfl) (fun _ => by kernel_rfl)) hHeld ?_
                      refine wpAnyH_take (i := 18) (by simp only [List.getElem?_toArray]; rfl) (by kernel_rfl) (by kernel_rfl) (by kernel_rfl) (by exact fun _ _ _ h => h) (by exact yk (.bool true) (by kernel_rfl) (fun _ => by kernel_rfl)) hHeld ?_
                      refine wpAnyH_take (i := 19) (by simp only [List.getElem?_toArray]; rfl) (by kernel_rfl) (by kernel_rfl) (by kernel_rfl) (by exact fun _ _ _ h => h) (by exact yk (.pointer (some ⟨B1, 1, none⟩)) (by kernel_rfl) (fun _ => by kernel_rfl)) hHeld ?_
                      refine wpAnyH_take (i := 20) (by simp only [List.getElem?_toArray]; rfl) (by kernel_rfl) (by kernel_rfl) (by kernel_rfl) (by exact fun _ _ _ h => h) (by exact yk_ldM (by kernel_rfl) (.tmp 119) rfl ⟨B1, 1, none⟩ (.int .u32 (x2 : Int)) (by kernel_rfl) (fun _ h => (qW.ext h).c1)) hHeld ?_
                      refine wpAnyH_take (i := 21) (by simp only [List.getElem?_toArray]; rfl) (by kernel_rfl) (by kernel_rfl) (by kernel_rfl) (by exact fun _ _ _ h => h) (by exact yk (.pointer (some ⟨B2, 1, none⟩)) (by kernel_rfl) (fun _ => by kernel_rfl)) hHeld ?_
                      refine wpAnyH_take (i := 22) (by simp only [List.getElem?_toArray]; rfl) (by kernel_rfl) (by kernel_rfl) (by kernel_rfl) (by exact fun _ _ _ h => h) (by exact yk_ldM (by kernel_rfl) (.tmp 121) rfl ⟨B2, 1, none⟩ (.int .u32 (p2 : Int)) (by kernel_rfl) (fun _ h => (qP.ext h).c1)) hHeld ?_
                      refine wpAnyH_ready (rs := [23]) (by kernel_rfl) (by simp) ?_
                      refine AllReadyH.cons (by simp only [List.getElem?_toArray]; rfl) (fun KK hKK => ?_) AllReadyH.nil
                      rw [if_pos (by kernel_rfl)]
                      refine wp_bsM (.tmp 122) rfl p2 (by kernel_rfl) ?_
                      have hs2 : Sl (wx.alloc (.cells #[.int .u32 (p2 : Int)] 37)) wx.heap.size (some ⟨wx.heap.size, 0, none⟩) (ms [p2]) := Sl.cells_new wx #[.int .u32 (p2 : Int)] 37
                      have ha := below_alloc1 wx (.cells #[.int .u32 (p2 : Int)] 37)
                      replace hbr := hbr.trans (ha.mono hbr.size)
                      clear ha
                      refine hKK.out _ _ ?_ (fun hHeld => ?_)
                      · exact hbr
                      clear hKK KK
                      refine wpAnyH_ready (rs := [24]) (by kernel_rfl) (by simp) ?_
                      refine AllReadyH.cons (by simp only [List.getElem?_toArray]; rfl) (fun KK hKK => ?_) AllReadyH.nil
                      rw [if_pos (by kernel_rfl)]
                      refine wp_callF 42 #[.int .u32 (x2 : Int), .slice (some ⟨wx.heap.size, 0, none⟩) 1 1] (by kernel_rfl) ?_
                      refine (hMt _ _ _ hs2).mono ?_
                      rintro e wy ⟨rfl, hwy⟩
                      subst hwy
                      refine ⟨_, rfl, ?_⟩
                      refine hKK.out _ _ ?_ (fun hHeld => ?_)
                      · exact hbr
                      clear hKK KK
                      refine wpAnyH_take (i := 25) (by simp only [List.getElem?_toArray]; rfl) (by kernel_rfl) (by kernel_rfl) (by kernel_rfl) (by exact fun _ _ _ h => h) (by exact yk_ne (by kernel_rfl) .u32 37 (.tmp 124) (.const (.int .u32 0)) _ rfl (((0 : Nat) : Int)) (0) (by kernel_rfl) (by kernel_rfl) false (rfl)) hHeld ?_
                      refine wpAnyH_take (i := 26) (by simp only [List.getElem?_toArray]; rfl) (by kernel_rfl) (by kernel_rfl) (by kernel_rfl) (by exact fun _ _ _ h => h) (by exact yk (.bool false) (by kernel_rfl) (fun _ => by kernel_rfl)) hHeld ?_
                      refine wpAnyH_take (i := 27) (by simp only [List.getElem?_toArray]; rfl) (by kernel_rfl) (by kernel_rfl) (by kernel_rfl) (by exact fun _ _ _ h => h) (by exact yk (.pointer (some ⟨B1, 2, none⟩)) (by kernel_rfl) (fun _ => by kernel_rfl)) hHeld ?_
                      refine wpAnyH_take (i := 28) (by simp only [List.getElem?_toArray]; rfl) (by kernel_rfl) (by kernel_rfl) (by kernel_rfl) (by exact fun _ _ _ h => h) (by exact yk_ldV (by kernel_rfl) (.tmp 127) rfl ⟨B1, 2, none⟩ (.int .i32 x3) (by kernel_rfl) (fun _ h => (qW.ext h).c2)) hHeld ?_
                      refine wpAnyH_take (i := 29) (by simp only [List.getElem?_toArray]; rfl) (by kernel_rfl) (by kernel_rfl) (by kernel_rfl) (by exact fun _ _ _ h => h) (by exact yk (.pointer (some ⟨B2, 0, none⟩)) (by kernel_rfl) (fun _ => by kernel_rfl)) hHeld ?_
                      refine wpAnyH_take (i := 30) (by simp only [List.getElem?_toArray]; rfl) (by kernel_rfl) (by kernel_rfl) (by kernel_rfl) (by exact fun _ _ _ h => h) (by exact yk_ldV (by kernel_rfl) (.tmp 129) rfl ⟨B2, 0, none⟩ (.int .i32 p1) (by kernel_rfl) (fun _ h => (qP.ext h).c0)) hHeld ?_
                      refine wpAnyH_take (i := 31) (by simp only [List.getElem?_toArray]; rfl) (by kernel_rfl) (by kernel_rfl) (by kernel_rfl) (by exact fun _ _ _ h => h) (by exact yk_ne (by kernel_rfl) .i32 21 (.tmp 128) (.tmp 130) _ rfl (x3) (p1) (by kernel_rfl) (by kernel_rfl) false (ex3)) hHeld ?_
                      refine wpAnyH_take (i := 32) (by simp only [List.getElem?_toArray]; rfl) (by kernel_rfl) (by kernel_rfl) (by kernel_rfl) (by exact fun _ _ _ h => h) (by exact yk (.bool false) (by kernel_rfl) (fun _ => by kernel_rfl)) hHeld ?_
                      refine wpAnyH_take (i := 33) (by simp only [List.getElem?_toArray]; rfl) (by kernel_rfl) (by kernel_rfl) (by kernel_rfl) (by exact fun _ _ _ h => h) (by exact yk (.bool false) (by kernel_rfl) (fun _ => by kernel_rfl)) hHeld ?_
                      refine wpAnyH_take (i := 34) (by simp only [List.getElem?_toArray]; rfl) (by kernel_rfl) (by kernel_rfl) (by kernel_rfl) (by exact fun _ _ _ h => h) (by exact yk (.pointer (some ⟨(K1 + 1), 2, none⟩)) (by kernel_rfl) (fun _ => by kernel_rfl)) hHeld ?_
                      refine wpAnyH_take (i := 35) (by simp only [List.getElem?_toArray]; rfl) (by kernel_rfl) (by kernel_rfl) (by kernel_rfl) (by exact fun _ _ _ h => h) (by exact yk_ldE (by kernel_rfl) (.tmp 134) rfl ⟨K1 + 1, 2, none⟩ (.int .i64 (F.e : Int)) (by kernel_rfl) (fun _ h => sl_same h hE9)) hHeld ?_
                      refine wpAnyH_take (i := 36) (by simp only [List.getElem?_toArray]; rfl) (by kernel_rfl) (by kernel_rfl) (by kernel_rfl) (by exact fun _ _ _ h => h) (by exact yk_eq (by kernel_rfl) .i64 47 (.tmp 135) (.const (.int .i64 0)) _ rfl ((F.e : Int)) (0) (by kernel_rfl) (by kernel_rfl) false (eE)) hHeld ?_
                      refine wpAnyH_take (i := 37) (by simp only [List.getElem?_toArray]; rfl) (by kernel_rfl) (by kernel_rfl) (by kernel_rfl) (by exact fun _ _ _ h => h) (by exact yk (.bool false) (by kernel_rfl) (fun _ => by kernel_rfl)) hHeld ?_
                      refine wpAnyH_take (i := 38) (by simp only [List.getElem?_toArray]; rfl) (by kernel_rfl) (by kernel_rfl) (by kernel_rfl) (by exact fun _ _ _ h => h) (by exact yk_no (by kernel_rfl)) hHeld ?_
                      refine wpAnyH_take (i := 39) (by simp only [List.getElem?_toArray]; rfl) (by kernel_rfl) (by kernel_rfl) (by kernel_rfl) (by exact fun _ _ _ h => h) (by exact yk_no (by kernel_rfl)) hHeld ?_
                      refine wpAnyH_take (i := 40) (by simp only [List.getElem?_toArray]; rfl) (by kernel_rfl) (by kernel_rfl) (by kernel_rfl) (by exact fun _ _ _ h => h) (by exact yk_no (by kernel_rfl)) hHeld ?_
                      refine wpAnyH_take (i := 41) (by simp only [List.getElem?_toArray]; rfl) (by kernel_rfl) (by kernel_rfl) (by kernel_rfl) (by exact fun _ _ _ h => h) (by exact yk_no (by kernel_rfl)) hHeld ?_
                      refine wpAnyH_take (i := 42) (by simp only [List.getElem?_toArray]; rfl) (by kernel_rfl) (by kernel_rfl) (by kernel_rfl) (by exact fun _ _ _ h => h) (by exact yk_no (by kernel_rfl)) hHeld ?_
                      refine wpAnyH_take (i := 43) (by simp only [List.getElem?_toArray]; rfl) (by kernel_rfl) (by kernel_rfl) (by kernel_rfl) (by exact fun _ _ _ h => h) (by exact yk_no (by kernel_rfl)) hHeld ?_
                      refine wpAnyH_take (i := 44) (by simp only [List.getElem?_toArray]; rfl) (by kernel_rfl) (by kernel_rfl) (by kernel_rfl) (by exact fun _ _ _ h => h) (by exact yk (.bool false) (by kernel_rfl) (fun _ => by kernel_rfl)) hHeld ?_
                      refine wpAnyH_take (i := 45) (by simp only [List.getElem?_toArray]; rfl) (by kernel_rfl) (by kernel_rfl) (by kernel_rfl) (by exact fun _ _ _ h => h) (by exact yk (.bool false) (by kernel_rfl) (fun _ => by kernel_rfl)) hHeld ?_
                      refine wpAnyH_take (i := 46) (by simp only [List.getElem?_toArray]; rfl) (by kernel_rfl) (by kernel_rfl) (by kernel_rfl) (by exact fun _ _ _ h => h) (by exact yk (.bool false) (by kernel_rfl) (fun _ => by kernel_rfl)) hHeld ?_
                      refine wpAnyH_take (i := 47) (by simp only [List.getElem?_toArray]; rfl) (by kernel_rfl) (by kernel_rfl) (by kernel_rfl) (by exact fun _ _ _ h => h) (by exact yk (.bool false) (by kernel_rfl) (fun _ => by kernel_rfl)) hHeld ?_
                      refine wpAnyH_done (by kernel_rfl) ?_ _
                      try simp only [Act.put, List.setIfInBounds_toArray, List.set_cons_zero, List.set_cons_succ]
                      have hbk := hbk.trans (hbr.mono hbk.size)
                      go_wp2_with fail
                      go_roundw
                      case rel => exact ⟨j + 1, by omega, by go_num, hbk⟩
                      case measure => simp [intOf]; omega
                · have hbe := hbe.trans (hbk.mono hbe.size)
                  have r4 := r4.ext hbk
                  have hx := hx.ext hbk
                  go_wp2_with (first | ((with_reducible refine at_ld 46 16 ?_); refine wpList_ldS rfl (.tmp 16) rfl K1 rfl r4 ?_) | ((with_reducible refine at_st 46 9 149 ?_); refine wpList_stS rfl (.tmp 9) (.tmp 149) rfl Y S1 rfl rfl st hx ?_))
                  go_roundw
                  case rel => exact ⟨k + 1, S1, by omega, by omega, by go_num, HE1.out.2.1, HE1.out.2.2.1, HE1.out.2.2.2, hx.row_ S1, below_setRow hbe _ _ (by have := HY.out; omega)⟩
                  case measure => simp [intOf]; omega
          · go_wp2_with fail
            go_ret
            exact ⟨rfl, hbw⟩
end Go.Proofs.YtfopdoeiahlhpaaDoor
