/- RulesNarrow: the walk. Conditions: the numbers fit; the table lies. -/
import Derived.Test.YtfopdoeiahlhpaaDoorZRuP
import Derived.Test.YtfopdoeiahlhpaaDoorZRuBase08
namespace Go.Proofs.YtfopdoeiahlhpaaDoor
open Go.RowKit
set_option linter.unusedVariables false
/-- A show in a variable. -/
def WBox (w : World) (g : Nat) (x y : Nat) (z : Int) : Prop := w.heap[g]? = some (.cells #[.int .i64 (x : Int), .int .u32 (y : Int), .int .i32 z] 72 (0, 0))
theorem WBox.new_ (w : World) (x y : Nat) (z : Int) : WBox (w.alloc (.cells #[.int .i64 (x : Int), .int .u32 (y : Int), .int .i32 z] 72)) w.heap.size x y z := heap_alloc_new w _
theorem WBox.c1 {w : World} {g x y : Nat} {z : Int} (h : WBox w g x y z) : w.cell? ⟨g, 1, none⟩ = some (.int .u32 (y : Int)) := by rw [cell_of_row w g _ _ _ _ h]; rfl
theorem made_u32 (n : Nat) : (madeCells (Value.int .u32 0).cells (n * 1)).toList = ms (List.replicate n 0) := by
  apply List.ext_getElem (by simp [madeCells])
  intro j h1 h2
  simp [madeCells, Value.cells, ms]
  rw [Nat.mod_one]
  rfl
theorem ms_set (l : List Nat) (k x : Nat) : (ms l).set k (.int .u32 (x : Int)) = ms (l.set k x) := by simp [ms, List.map_set]
theorem fillP_set {k n : Nat} (d : Nat) (hk : k < n) : (List.replicate k d ++ List.replicate (n - k) 0).set k d = List.replicate (k + 1) d ++ List.replicate (n - (k + 1)) 0 := by
  rw [List.set_append_right _ _ (by simp)]
  obtain ⟨j, hj⟩ : ∃ j, n - k = j + 1 := ⟨n - k - 1, by omega⟩
  rw [hj, show n - (k + 1) = j by omega, List.length_replicate, Nat.sub_self, List.replicate_succ, List.set_cons_zero, List.replicate_succ', List.append_assoc]
  rfl
theorem cntL_pred {g : Gm} {p m : Nat} {L : List Nat} (h6 : g.pl.toNat ≤ 6) (hl : L.length = g.pl.toNat) (hv : ∀ i (h : i < L.length), L[i] = if i = p then m else g.df) : cntL g L = cntL g (predM g (p : Int) m) := by
  unfold cntL
  apply List.map_congr_left
  intro i hi
  have hi : i < g.pl.toNat := List.mem_range.1 hi
  have h1 : L.getD i 0 = if i = p then m else g.df := by rw [← hv i (by omega)]; simp [List.getD, hl, hi]
  have h2 : (predM g (p : Int) m).getD i 0 = if i = p then m else g.df := by
    unfold predM
    by_cases hp : (0 : Int) ≤ (p : Int) ∧ (p : Int) < 6
    · rw [if_pos hp]
      have hi6 : i < 6 := by omega
      by_cases e : i = p
      · subst e
        rw [if_pos rfl, List.getD_eq_getElem?_getD, Int.toNat_natCast, List.getElem?_set_self (by simp; omega)]
        rfl
      · rw [if_neg e, List.getD_eq_getElem?_getD, Int.toNat_natCast, List.getElem?_set_ne (fun h => e h.symm), List.getElem?_replicate, if_pos hi6]
        rfl
    · rw [if_neg hp]
      have hi6 : i < 6 := by omega
      rw [if_neg (by omega), List.getD_eq_getElem?_getD, List.getElem?_replicate, if_pos hi6]
      rfl
  have h3 : mvAt g L i = mvAt g (predM g (p : Int) m) i := by
    unfold mvAt
    rw [h1, h2, predM_len, hl]
    have a : i < 6 := by omega
    simp only [hi, a, true_and]
  rw [h3]

set_option maxHeartbeats 16000000 in
set_option maxRecDepth 20000 in
theorem RulesNarrow_walk (g0 : Gm) (s0 : Gs) (sa : Nat) (HA : Option Addr) (H : List Int) (hn hcp hbk : Nat) (NA : Option Addr) (N : List Nat) (nn nc nb : Nat) (oo : Nat) (w : World) (hT : CTab w) (hr0 : GRaw g0 s0) (hi0 : GIn w g0 s0) (hsa : sa ≤ 18446744073709551615) (hsH : Is w hbk HA H) (hlH : H.length = hn) (hmH : hn ≤ maxLen) (hcH : hn ≤ hcp) (hoH : ∀ x ∈ H, -2147483648 ≤ x ∧ x ≤ 2147483647) (hN0 : Sl w nb NA (ms N)) (hnl : N.length = nn) (hnm : nn ≤ maxLen) (hnc : nn ≤ nc) (hfN : ∀ x ∈ N, x ≤ 4294967295) (hoo : oo ≤ 255) :
    Calls Tryd.prog 4 #[.agg (gmA g0 s0), .int .u64 (sa : Int), .slice HA hn hcp, .slice NA nn nc, .int .u8 (oo : Int)] w fun e w' => e = .returned (.bool true) ∧ Below w.heap.size w w' := by
  subst hlH
  have hb := below_alloc1 w (.cells (gmA g0 s0) 26)
  have hG := GBox.new_ w g0 s0
  have hi := hi0.ext hb
  have hA := awake_calls _ (hT.ext hb)
  clear hi0
  go_enter Tryd.func4, Tryd.ntmps4
  go_wp2_with fail
  refine hA.mono ?_
  rintro e w1 ⟨rfl, h1⟩
  replace hG := hG.ext h1
  replace hi := hi.ext h1
  replace hb := hb.trans (h1.mono hb.size)
  have hw1s : w.heap.size < w1.heap.size := hG.lt
  clear hA h1
  have hF := FewG_calls g0 s0 w1 hi hr0
  have z0 := hG.c0
  have z1 := hG.c1
  have z2 := hG.c2
  have z3 := hG.c3
  have z4 := hG.c4
  have z5 := hG.c5
  go_wp2_with fail
  refine hF.mono ?_
  rintro e w2 ⟨s, rfl, hi2, hok, hsb, h1⟩
  obtain ⟨g, hg⟩ : ∃ g, g = fewG g0 := ⟨_, rfl⟩
  rw [← hg] at hi2 hok ⊢
  replace hG := hG.ext h1
  replace hb := hb.trans (h1.mono hb.size)
  clear hF h1 hg hi z0 z1 z2 z3 z4 z5
  have z0 := hG.c0
  have z1 := hG.c1
  have z2 := hG.c2
  have z3 := hG.c3
  have z4 := hG.c4
  have z5 := hG.c5
  have hfz := hG.free
  go_upto_region 4 with fail
  obtain ⟨h9, m9⟩ := six_set6 (.int .i64 g.ob) (.int .i64 g.pl) (.int .u32 (g.mv : Int)) (.int .u32 (g.df : Int)) (.slice s.A g.L.length s.c) (.slice s.A' g.K.length s.c') hG
  obtain ⟨w3, hw3⟩ : ∃ w3, w3 = ((((((w2.setCell ⟨w.heap.size, 0, none⟩ (.int .i64 g.ob)).setCell ⟨w.heap.size, 1, none⟩ (.int .i64 g.pl)).setCell ⟨w.heap.size, 2, none⟩ (.int .u32 (g.mv : Int))).setCell ⟨w.heap.size, 3, none⟩ (.int .u32 (g.df : Int))).setCell ⟨w.heap.size, 4, none⟩ (.slice s.A g.L.length s.c)).setCell ⟨w.heap.size, 5, none⟩ (.slice s.A' g.K.length s.c')) := ⟨_, rfl⟩
  rw [← hw3] at h9 m9 ⊢
  have hb3 : Below w.heap.size w w3 := hb.trans (m9.below hb.size (fun i hi e => by have e : i = w.heap.size := e; omega))
  replace hi2 : GIn w3 g s := gin_mod1 hi2 m9 hsb.1 hsb.2 hw1s
  have hG : GBox w3 w.heap.size g s := h9
  clear hw3 h9 m9 hb hfz z0 z1 z2 z3 z4 z5 hsb hw1s
  obtain ⟨R, hRr⟩ : ∃ R, R = rightB g := ⟨_, rfl⟩
  have HR := Lib.hid hRr
  cases R with
  | false =>
    have hR := GRight_calls g s w3 hi2 hok (hT.ext hb3)
    rw [← HR.out] at hR
    have z0 := hG.c0
    have z1 := hG.c1
    have z2 := hG.c2
    have z3 := hG.c3
    have z4 := hG.c4
    have z5 := hG.c5
    clear hRr
    go_wp2_with fail
    refine hR.mono ?_
    rintro e w4 ⟨rfl, h1⟩
    have hb := hb3.trans (h1.mono hb3.size)
    clear hR h1 z0 z1 z2 z3 z4 z5
    go_wp2_with fail
    go_ret
    exact ⟨rfl, hb⟩
  | true =>
    have h48 := right48 hRr.symm
    obtain ⟨hp1, hp2, hdf, -, -⟩ := right_parts hRr.symm
    have hR := GRight_calls g s w3 hi2 hok (hT.ext hb3)
    rw [← HR.out] at hR
    have z0 := hG.c0
    have z1 := hG.c1
    have z2 := hG.c2
    have z3 := hG.c3
    have z4 := hG.c4
    have z5 := hG.c5
    clear hRr
    go_wp2_with fail
    refine hR.mono ?_
    rintro e wq ⟨rfl, h1⟩
    replace hG := hG.ext h1
    replace hi2 := hi2.ext h1
    replace hb3 := hb3.trans (h1.mono hb3.size)
    clear hR h1 z0 z1 z2 z3 z4 z5
    obtain ⟨q, hq⟩ := Int.eq_ofNat_of_zero_le (show 0 ≤ g.ob by omega)
    obtain ⟨pl, hpl⟩ := Int.eq_ofNat_of_zero_le (show 0 ≤ g.pl by omega)
    have hq1 : 1 ≤ q ∧ q ≤ 32 := by omega
    have hpl6 : 1 ≤ pl ∧ pl ≤ 6 := by omega
    have HPN := Lib.hid (show g.pl.toNat = pl by rw [hpl]; rfl)
    have z0 := hG.c0
    rw [hq] at z0
    obtain ⟨p, hp⟩ : ∃ p : Nat, p = oo % q := ⟨_, rfl⟩
    have hpq : p < q := by rw [hp]; exact Nat.mod_lt _ (by omega)
    have hp32 : p < 32 := by omega
    have e2 : (oo : Int).tmod (q : Int) = (p : Int) := by rw [Int.tmod_eq_emod_of_nonneg (by omega), hp]; rfl
    have e3 : ((q : Int) == 0) = false := by simp; omega
    have alb : (allN g.ob).testBit p = true := by rw [allN_bit _ _ hp32, hq]; simp; omega
    have all32 := allN_lt g.ob
    have HPL := Lib.hid hpl
    clear hp hq hpl hp1 hp2
    go_upto_region 7 with fail
    clear z0 e2 e3
    have hRr := HR.out
    have z0 := hG.c0
    have z1 := hG.c1
    have z2 := hG.c2
    have z3 := hG.c3
    have z4 := hG.c4
    have z5 := hG.c5
    have hS := Start_good g s sa H HA hcp wq hi2 hok (hT.ext hb3) hbk (Sl.ext hsH hb3) hmH hoH hRr.symm
    clear hRr
    obtain ⟨C, hC⟩ : ∃ C, C = startC g H := ⟨_, rfl⟩
    rw [← hC] at hS
    have HC := Lib.hid hC
    clear hC
    go_wp2_with fail
    refine hS.mono ?_
    rintro e w4 ⟨rfl, h1⟩
    replace hG := hG.ext h1
    replace hi2 := hi2.ext h1
    replace hb3 := hb3.trans (h1.mono hb3.size)
    clear hS h1 z0 z1 z2 z3 z4 z5
    go_upto_region 8 with (first | ((with_reducible refine at_al 46 12 ?_); refine wpList_alS rfl rfl (some 12) rfl w4.heap.size rfl ?_) | ((with_reducible refine at_st 46 12 39 ?_); refine wpList_stS rfl (.tmp 12) (.tmp 39) rfl w4.heap.size ⟨C, sa, 0⟩ rfl rfl zSt (BoxS.new_ _ _) ?_))
    rw [made_row]
    have h1 := below_alloc1 w4 (.cells (stA ⟨C, sa, 0⟩) 46)
    have hx := BoxS.new_ w4 ⟨C, sa, 0⟩
    obtain ⟨Y, hY⟩ : ∃ Y, Y = w4.heap.size := ⟨_, rfl⟩
    obtain ⟨w5, hw5⟩ : ∃ w5, w5 = w4.alloc (.cells (stA ⟨C, sa, 0⟩) 46) := ⟨_, rfl⟩
    rw [← hw5] at h1 hx ⊢
    rw [← hY] at hx ⊢
    have HY := Lib.hid hY
    clear hw5 hY
    have oC : okC C := by rw [HC.out]; exact stK_ok _ hok.oL hoH
    obtain ⟨NL, hCN⟩ : ∃ NL, C.length = NL := ⟨_, rfl⟩
    have hN48 : NL ≤ 48 := by rw [← hCN, HC.out]; simp [startC]; exact h48
    have HNL := Lib.hid hnl
    have HDF := Lib.hid hdf
    have hdf32 := hok.d1
    obtain ⟨df, hdfe⟩ : ∃ df, df = g.df := ⟨_, rfl⟩
    have HDE := Lib.hid hdfe
    rw [← hdfe] at hdf32
    clear h48 hnl HC hdf hdfe
    go_wp2_with fail
    go_loopw [14, 15, 16, 17, 18, 19, 21, 41] (fun _ _ _ _ _ _ _ i wr => ∃ (k : Nat) (st : St), k ≤ 12 ∧ i = .int .i64 k ∧ st.tk = k ∧ st.L.length = NL ∧ okC st.L ∧ BoxS wr Y st ∧ Below w4.heap.size w4 wr) (fun _ _ _ _ _ _ _ i _ => 12 - (intOf i).toNat)
    case atStart => exact ⟨0, ⟨C, sa, 0⟩, by omega, rfl, rfl, hCN, oC, hx, h1⟩
    case round =>
      clear hx h1 hCN oC
      obtain ⟨k, st, hk, rfl, htk, hLN, oL, hx, hbe⟩ := hrel
      have HTK := Lib.hid htk
      have HLN := Lib.hid hLN
      clear htk hLN
      have hbw : Below w.heap.size w wr := hb3.trans (hbe.mono hb3.size)
      by_cases hlt : k < 12
      · have ej : (k : Int) < 12 := by omega
        have hGr := hG.ext hbe
        have z1 := hGr.c1
        rw [HPL.out] at z1
        obtain ⟨i0, hi0, hz0, hz1, hz2⟩ := info_parts u32_infoR
        obtain ⟨w9, hmk, hrow, hgrow⟩ := run_make_full (P := Tryd.prog) wr wr.heap.size 60 22 i0 (.int .u32 0) 1 Tryd.underlying60 hi0 hz0 hz1 .i64 .i64 pl (by rw [hz2]; omega) (by simp only [maxLen]; omega) (Nat.le_refl _)
        have h9 : Below wr.heap.size wr w9 := (Mod.of_grown hgrow).below (Nat.le_refl _) (fun i _ h => by cases h)
        rw [made_u32] at hrow
        clear hi0 hz0 hz1 hz2 hgrow
        go_upto_region 12 with fail
        clear z1 hmk
        replace hGr := hGr.ext h9
        have hxl := hx.lt
        have hwr4 : w4.heap.size ≤ wr.heap.size := hbe.size
        replace hx := hx.ext h9
        replace hbe := hbe.trans (h9.mono hbe.size)
        replace hbw := hbw.trans (h9.mono hbw.size)
        have h9s := h9.size
        obtain ⟨X, hX⟩ : ∃ X, X = wr.heap.size := ⟨_, rfl⟩
        rw [← hX] at hrow hxl h9s hwr4 ⊢
        have HX := Lib.hid (show w4.heap.size ≤ X from hwr4)
        clear hX h9
        go_wp2_with fail
        go_loopw [16, 49] (fun _ i wv => ∃ j : Nat, j ≤ pl ∧ i = .int .i64 j ∧ wv.ownsRow X 22 1 (.slice (some ⟨X, 0, none⟩) pl pl) pl (ms (List.replicate j df ++ List.replicate (pl - j) 0)) ∧ Below X w9 wv) (fun _ i _ => pl - (intOf i).toNat)
        case atStart => exact ⟨0, Nat.zero_le _, rfl, hrow, Below.refl _ _⟩
        case round =>
          clear hrow
          obtain ⟨j, hj, rfl, hrow, hbv⟩ := hrel
          have hG9 : GBox wr w.heap.size g s := hGr.below hbv (by have := hG.lt; have := HX.out; omega)
          by_cases hlj : j < pl
          · have ejj : (j : Int) < (pl : Int) := by omega
            have z3 := hG9.c3
            rw [← HDE.out] at z3
            obtain ⟨gg, cap, hv9, -, -, -, hcl, kf, kset⟩ := own_set hrow (by omega)
            injection hv9 with hvA hvn hvc
            injection hvA with hvA
            injection hvA with hvA
            subst hvA
            clear hvn hvc
            have kf0 := kf j
            obtain ⟨vk, ck⟩ : ∃ v, wr.cell? ⟨X, j, none⟩ = some v := by
              have hl : j < (ms (List.replicate j df ++ List.replicate (pl - j) 0)).length := by simp [ms]; omega
              exact ⟨_, hcl j _ (List.getElem?_eq_getElem hl)⟩
            have HS := Lib.hid (kset j (.int .u32 (df : Int)) (wr.setCell ⟨X, j, none⟩ (.int .u32 (df : Int))) rfl)
            have HFS := Lib.hid (fillP_set df hlj)
            clear hcl kf kset
            go_wp2_with fail
            go_roundw
            case rel => exact ⟨j + 1, by omega, by go_num, by rw [← HFS.out, ← ms_set]; exact HS.out, hbv.setCell (p := ⟨X, j, none⟩) (Nat.le_refl _) _⟩
            case measure => simp [intOf]; omega
          · obtain rfl : pl = j := by omega
            rw [Nat.sub_self, List.replicate_zero, List.append_nil] at hrow
            have z1 := hG9.c1
            rw [HPL.out] at z1
            have z3 := hG9.c3
            rw [← HDE.out] at z3
            have hx := hx.below hbv hxl
            have hbe : Below w4.heap.size w4 wr := hbe.trans (hbv.mono HX.out)
            have hbw : Below w.heap.size w wr := hbw.trans (hbv.mono (by have := HX.out; have := hb3.size; omega))
            obtain ⟨wm, hwm⟩ : ∃ wm, wm = wr := ⟨_, rfl⟩
            rw [← hwm] at hrow hG9 z1 z3 hx hbe hbw ⊢
            clear hwm hlj hj hbv hGr
            obtain ⟨gg, cap, hv9, -, hgl, -, hcl, kf, kset⟩ := own_set hrow (by omega)
            injection hv9 with hvA hvn hvc
            injection hvA with hvA
            injection hvA with hvA
            subst hvA
            clear hvn hvc
            by_cases hpp : p < pl
            · have epp : (p : Int) < (pl : Int) := by omega
              have epd : decide ((p : Int) < (pl : Int)) = true := decide_eq_true epp
              have kf0 := kf p
              have ck : wm.cell? ⟨X, p, none⟩ = some (.int .u32 (df : Int)) := hcl p _ (by simp [ms, hpp])
              by_cases hkn : k < N.length
              · have ekn : (k : Int) < (nn : Int) := by rw [← HNL.out]; omega
                have ekd : decide ((k : Int) < (nn : Int)) = true := decide_eq_true ekn
                obtain ⟨off, hof, hce⟩ := (Sl.ext hN0 hbw) (by intro h0; have h5 := congrArg List.length h0; rw [ms_length, List.length_nil] at h5; omega)
                have hn0 := hce k _ (ms_get? (List.getElem?_eq_getElem hkn))
                obtain ⟨x, hxe⟩ : ∃ x, x = N[k] := ⟨_, rfl⟩
                have hfx : x ≤ 4294967295 := by rw [hxe]; exact hfN _ (List.getElem_mem hkn)
                rw [← hxe] at hn0
                subst hof
                have hrow2 := kset p (.int .u32 (x : Int)) (wm.setCell ⟨X, p, none⟩ (.int .u32 (x : Int))) rfl
                rw [ms_set] at hrow2
                have hvv : ∀ i (h : i < ((List.replicate pl df).set p x).length), ((List.replicate pl df).set p x)[i] = if i = p then x else g.df := fun i h => by
                  rw [List.getElem_set]
                  by_cases e : i = p
                  · rw [if_pos e.symm, if_pos e]
                  · rw [if_neg (fun h => e h.symm), if_neg e, List.getElem_replicate, HDE.out]
                have hx := hx.mod (Mod.setCell wm ⟨X, p, none⟩ (.int .u32 (x : Int))) (by show ¬ Y = X; omega)
                have hG9 : GBox (wm.setCell ⟨X, p, none⟩ (.int .u32 (x : Int))) w.heap.size g s := hG9.below ((Below.refl X wm).setCell (p := ⟨X, p, none⟩) (Nat.le_refl _) (.int .u32 (x : Int))) (by have := hG.lt; have := HX.out; omega)
                have hbe := hbe.setCell (p := ⟨X, p, none⟩) HX.out (.int .u32 (x : Int))
                have hbw := hbw.setCell (p := ⟨X, p, none⟩) (by show w.heap.size ≤ X; have := HX.out; have := hb3.size; omega) (.int .u32 (x : Int))
                obtain ⟨M, hMe⟩ : ∃ M, M = (List.replicate pl df).set p x := ⟨_, rfl⟩
                have hMl : M.length = pl := by rw [hMe]; simp
                have hMf : ∀ y ∈ M, y ≤ 4294967295 := fun y hy => by
                  rw [hMe] at hy
                  rcases List.mem_or_eq_of_mem_set hy with h | h
                  · rw [List.eq_of_mem_replicate h]; exact hdf32
                  · rw [h]; exact hfx
                rw [← hMe] at hrow2
                have HVV := Lib.hid (show ∀ i (h : i < M.length), M[i] = if i = p then x else g.df from by subst hMe; exact hvv)
                clear hxe hMe hvv hrow hcl kf kset hce hkn
                go_upto_region 19 with fail
                obtain ⟨wz, hwz⟩ : ∃ wz, wz = wm.setCell ⟨X, p, none⟩ (.int .u32 (x : Int)) := ⟨_, rfl⟩
                rw [← hwz] at hrow2 hx hG9 hbe hbw ⊢
                clear hwz z1 z3 ck kf0 hn0 epd ekd
                obtain ⟨gg, cap, hv9, -, hgl, -, hcl, -, -⟩ := own_set hrow2 (by omega)
                injection hv9 with hvA hvn hvc
                injection hvA with hvA
                injection hvA with hvA
                subst hvA
                clear hvn hvc
                have hcm : wz.cell? ⟨X, p, none⟩ = some (.int .u32 (x : Int)) := hcl p _ (by
                  rw [ms_get? (List.getElem?_eq_getElem (by omega)), HVV.out p (by omega), if_pos rfl])
                have hsM := hrow2
                obtain ⟨m, hm⟩ : ∃ m, m = x := ⟨_, rfl⟩
                rw [← hm] at hcm HVV hfx
                clear hm hrow2 hcl
                have z1 := hG9.c1
                rw [HPL.out] at z1
                have z3 := hG9.c3
                rw [← HDE.out] at z3
                obtain ⟨F, hF⟩ : ∃ F, F = wholeV compN (stepP g st M) st.L st.d := ⟨_, rfl⟩
                obtain ⟨sv, hsv⟩ : ∃ sv : St, sv = ⟨viewL (p : Int) st.L, 0, st.tk⟩ := ⟨_, rfl⟩
                have hsl : sv.L.length = NL := by rw [hsv]; show (viewL (p : Int) st.L).length = NL; rw [viewL_length]; exact HLN.out
                have hso : okC sv.L := by rw [hsv]; exact okC_view oL (p : Int)
                have hst : sv.tk = k := by rw [hsv]; exact HTK.out
                obtain ⟨G, hG2⟩ : ∃ G, G = wholeV compN (stepP g sv (predM g (p : Int) m)) sv.L sv.d := ⟨_, rfl⟩
                have hcnt : cntL g M = cntL g (predM g (p : Int) m) := cntL_pred (by rw [HPN.out]; omega) (by rw [HPN.out]; exact hMl) HVV.out
                have hrw := whole_rel (comp := compN) (code := g.K) (mv := cntL g M) (mw := cntL g M) (tk := (st.tk + 1) % 4294967296) (al := allN g.ob) (L := st.L) (M := sv.L) (vis_bit hp32 alb) (.inl ⟨p, hp32, rfl⟩) comp_fit all32 (cntL_fit g M) hok.oK (fun _ _ _ _ => rfl) rfl oL (by rw [hsv]; exact (view_map_vw hp32 st.L).symm) st.d sv.d
                rw [show (⟨g.K, cntL g M, (st.tk + 1) % 4294967296, allN g.ob⟩ : VP) = stepP g st M from rfl, ← hF, show stepP g st M = stepP g sv (predM g (p : Int) m) by simp only [stepP, hcnt, hst, HTK.out], ← hG2] at hrw
                have HREL := Lib.hid (show (∃ x ∈ F.sh, x.2.1.testBit p = true) ∨ viewL (p : Int) G.L = viewL (p : Int) F.L from by
                  rcases hrw with h3 | ⟨a, x, y, hx, hy, e1, e2, e3, e4, e5⟩
                  · right
                    rw [view_vw hp32, view_vw hp32, h3.L]
                  · left
                    obtain ⟨hk1, rfl⟩ := List.getElem?_eq_some_iff.1 hx
                    exact ⟨_, List.getElem_mem hk1, e3⟩)
                have hsok := whole_shok compN (stepP g st M) all32 st.L st.d
                have hwl := whole_len (P := stepP g st M) (L := st.L) (d := st.d) all32 (cntL_fit g M) hok.oK oL
                rw [← hF] at hsok hwl
                have HOK := Lib.hid hsok
                obtain ⟨S1, hS1⟩ : ∃ S1 : St, S1 = ⟨F.L, F.d, (st.tk + 1) % 4294967296⟩ := ⟨_, rfl⟩
                have HE1 := Lib.hid (show S1.L = F.L ∧ S1.tk = k + 1 ∧ S1.L.length = NL ∧ okC S1.L from ⟨by rw [hS1], by rw [hS1]; show (st.tk + 1) % 4294967296 = k + 1; rw [HTK.out]; omega, by rw [hS1]; exact hwl.1.trans HLN.out, by rw [hS1]; exact hwl.2⟩)
                have hPm := own_is hsM
                have hP := Step_good g s st M (some ⟨X, 0, none⟩) pl X wz (hi2.ext hbe) hok (hT.ext hbw) hPm HR.out.symm hMf (by rw [hMl]; simp only [maxLen]; omega) (by rw [HLN.out]; exact hN48) oL (by rw [HTK.out]; omega) hF
                rw [← hS1, hMl] at hP
                have hPr := fun W hin hT => Predict_good g s sv (p : Int) m W hin hok hT HR.out.symm hfx (by rw [hsl]; exact hN48) hso (by rw [hst]; omega) (by omega) hG2
                have hV1 := fun W => StView_calls st (p : Int) W (by rw [HLN.out]; exact hN48) oL
                rw [← hsv] at hV1
                have hV2 := fun W => StView_calls S1 (p : Int) W (by rw [HE1.out.2.2.1]; exact hN48) HE1.out.2.2.2
                obtain ⟨VW, hVW⟩ : ∃ VW : St, VW = ⟨viewL (p : Int) S1.L, 0, S1.tk⟩ := ⟨_, rfl⟩
                rw [← hVW] at hV2
                have HVW := Lib.hid (show viewL (p : Int) G.L = viewL (p : Int) F.L → (⟨viewL (p : Int) G.L, 0, (sv.tk + 1) % 4294967296⟩ : St) = VW from fun h => by rw [hVW, h, HE1.out.1, HE1.out.2.1, hst]; simp only [St.mk.injEq, true_and]; omega)
                have HPR := Lib.hid hPr
                have HV1 := Lib.hid hV1
                have HV2 := Lib.hid hV2
                have z0 := hG9.c0
                have z1' := hG9.c1
                have z2 := hG9.c2
                have z4 := hG9.c4
                have z5 := hG9.c5
                clear hF hG2 hsv hsl hso hst hcnt hrw hsok hwl hS1 hPm hsM hPr hV1 hV2 hVW hMf
                go_upto_region 22 with fail
                clear z1 z3 hcm
                have z3 := hG9.c3
                have z1 := z1'
                clear z1'
                go_wp2_with ((with_reducible refine at_ld 46 12 ?_); refine wpList_ldS rfl (.tmp 12) rfl Y rfl hx ?_)
                refine hP.mono ?_
                rintro e wa ⟨sh, rfl, hsh, h1⟩
                replace hx := hx.ext h1
                replace hbe := hbe.trans (h1.mono hbe.size)
                replace hbw := hbw.trans (h1.mono hbw.size)
                clear hP h1 z0 z1 z2 z3 z4 z5
                have hs1 : sh.oneCell' = true := by
                  rcases hsh.2 with ⟨rfl, -⟩ | ⟨_, _, _, rfl, -⟩ <;> rfl
                have h5 := below_alloc1 (wa.alloc (.cells (stA zSt) 46)) (.cells #[.int .u64 0, .slice none 0 0, .int .i64 0] 53)
                have y4 := (BoxS.new_ wa zSt).ext h5
                have y5 : OBox ((wa.alloc (.cells (stA zSt) 46)).alloc (.cells #[.int .u64 0, .slice none 0 0, .int .i64 0] 53)) (wa.heap.size + 1) 0 (.slice none 0 0) 0 := by
                  have h := OBox.new_ (wa.alloc (.cells (stA zSt) 46)) 0 (.slice none 0 0) 0
                  rw [World.size_alloc] at h
                  exact h
                clear h5
                have hsh := Lib.hid hsh
                go_upto_region 23 with (first | ((with_reducible refine at_al 46 18 ?_); refine wpList_alS rfl rfl (some 18) rfl wa.heap.size rfl ?_) | ((with_reducible refine at_st 46 18 90 ?_); refine wpList_stS rfl (.tmp 18) (.tmp 90) rfl wa.heap.size S1 rfl rfl zSt y4 ?_) | ((with_reducible refine at_st 53 19 91 ?_); refine wpList_stO rfl (.tmp 19) (.tmp 91) rfl (wa.heap.size + 1) F.t sh F.e rfl rfl hs1 (y5.mod (mod_setRow _ wa.heap.size _) (by show ¬ wa.heap.size + 1 = wa.heap.size; omega)) ?_))
                have r4 := (y4.row_ S1).mod (mod_setRow (((wa.alloc (.cells (stA zSt) 46)).alloc (.cells #[.int .u64 0, .slice none 0 0, .int .i64 0] 53)).setRow wa.heap.size (stA S1)) (wa.heap.size + 1) (otA F.t sh F.e)) (by show ¬ wa.heap.size = wa.heap.size + 1; omega)
                have r5 := (y5.mod (mod_setRow ((wa.alloc (.cells (stA zSt) 46)).alloc (.cells #[.int .u64 0, .slice none 0 0, .int .i64 0] 53)) wa.heap.size (stA S1)) (by show ¬ wa.heap.size + 1 = wa.heap.size; omega)).row_ F.t sh F.e
                have hbo : Below wa.heap.size wa _ := below_setRow (below_setRow (below_alloc2 wa (.cells (stA zSt) 46) (.cells #[.int .u64 0, .slice none 0 0, .int .i64 0] 53)) wa.heap.size (stA S1) (Nat.le_refl _)) (wa.heap.size + 1) (otA F.t sh F.e) (Nat.le_succ _)
                obtain ⟨wb, hWo⟩ : ∃ wb, wb = ((((wa.alloc (.cells (stA zSt) 46)).alloc (.cells #[.int .u64 0, .slice none 0 0, .int .i64 0] 53)).setRow wa.heap.size (stA S1)).setRow (wa.heap.size + 1) (otA F.t sh F.e)) := ⟨_, rfl⟩
                rw [← hWo] at r4 r5 hbo
                go_frame
                rw [← hWo]
                clear hWo y4 y5 hs1
                have hsh := rows_ext hsh.out hbo
                replace hx := hx.ext hbo
                replace hbe := hbe.trans (hbo.mono hbe.size)
                replace hbw := hbw.trans (hbo.mono hbw.size)
                obtain ⟨K1, hK⟩ : ∃ K1, K1 = wa.heap.size := ⟨_, rfl⟩
                rw [← hK] at r4 r5 ⊢
                clear hK
                obtain ⟨A8, c8, b8, rfl, hc8, hm8, hs8⟩ := rowS_sl hsh
                obtain ⟨nS, hnS⟩ : ∃ nS, nS = F.sh.length := ⟨_, rfl⟩
                rw [← hnS] at r5
                rw [← hnS]
                have HNS := Lib.hid hnS
                have a1 := ob_s r5
                have hm64 : nS ≤ 9223372036854775807 := by omega
                clear hsh hnS hc8 hm8 hbo
                go_wp2_with fail
                clear a1
                go_loopw [21, 95] (fun _ i wr => ∃ j : Nat, j ≤ nS ∧ i = .int .i64 j ∧ (∀ i (h : i < F.sh.length), i < j → F.sh[i].2.1.testBit p = false) ∧ Below wb.heap.size wb wr) (fun _ i _ => nS - (intOf i).toNat)
                case atStart => exact ⟨0, Nat.zero_le _, rfl, fun i h h2 => by omega, Below.refl _ _⟩
                case round =>
                  obtain ⟨j, hj, rfl, hall, hbk⟩ := hrel
                  have HALL := Lib.hid hall
                  clear hall
                  by_cases hlj : j < nS
                  · have ejj : (j : Int) < (nS : Int) := by omega
                    have hkS : j < F.sh.length := by rw [← HNS.out]; exact hlj
                    obtain ⟨off8, rfl, hc⟩ := (Sl.ext hs8 hbk) (by intro h0; have h5 := congrArg List.length h0; rw [sv_length, List.length_nil] at h5; omega)
                    obtain ⟨g0', g1', g2'⟩ := sv_get hkS
                    have c0 := hc _ _ g0'
                    have c1 := hc _ _ g1'
                    have c2 := hc _ _ g2'
                    rw [← Nat.add_assoc] at c1 c2
                    have hml := HOK.out _ (List.getElem_mem hkS)
                    have HNX := Lib.hid (show F.sh[j].2.1.testBit p = false → ∀ i (h : i < F.sh.length), i < j + 1 → F.sh[i].2.1.testBit p = false from fun h i h1 h2 => by
                      by_cases e : i = j
                      · subst e; exact h
                      · exact HALL.out i h1 (by omega))
                    obtain ⟨⟨x1, x2, x3⟩, hxq⟩ : ∃ q, q = F.sh[j] := ⟨_, rfl⟩
                    rw [← hxq] at c0 c1 c2 hml HNX
                    simp only at c0 c1 c2 hml
                    have hHo := fun W => MHas_calls x2 (p : Int) W hml
                    rw [sees_of x2 hp32] at hHo
                    obtain ⟨tb, htb⟩ : ∃ tb, tb = x2.testBit p := ⟨_, rfl⟩
                    have htb2 : (x1, x2, x3).2.1.testBit p = tb := htb.symm
                    rw [htb2] at HNX
                    rw [← htb] at hHo
                    clear hxq htb htb2 hc g0' g1' g2' hkS
                    have h1 := below_alloc1 wr (.cells #[.int .i64 (x1 : Int), .int .u32 (x2 : Int), .int .i32 x3] 72)
                    have qW := (WBox.new_ wr x1 x2 x3).c1
                    go_upto_region 26 with fail
                    replace hbk := hbk.trans (h1.mono hbk.size)
                    obtain ⟨B1, hB1⟩ : ∃ B1, B1 = wr.heap.size := ⟨_, rfl⟩
                    obtain ⟨wA, hwA⟩ : ∃ wA, wA = wr.alloc (.cells #[.int .i64 (x1 : Int), .int .u32 (x2 : Int), .int .i32 x3] 72) := ⟨_, rfl⟩
                    rw [← hwA] at hbk qW ⊢
                    rw [← hB1] at qW ⊢
                    clear hwA hB1 h1 c0 c1 c2
                    cases tb with
                    | true =>
                      go_wp2_with fail
                      refine (hHo _).mono ?_
                      rintro e wx ⟨rfl, hwx⟩
                      have hwx := hwx.symm
                      subst hwx
                      have hbq := hbw.trans (hbk.mono hbw.size)
                      go_wp2_with fail
                      go_ret
                      exact ⟨rfl, hbq⟩
                    | false =>
                      go_wp2_with fail
                      refine (hHo _).mono ?_
                      rintro e wx ⟨rfl, hwx⟩
                      have hwx := hwx.symm
                      subst hwx
                      go_wp2_with fail
                      go_roundw
                      case rel => exact ⟨j + 1, by omega, by go_num, HNX.out (by trivial), hbk⟩
                      case measure => simp [intOf]; omega
                  · obtain rfl : nS = j := by omega
                    have HVE := HVW.out (by
                      rcases HREL.out with ⟨x, hx, hb⟩ | h
                      · obtain ⟨i, hi, rfl⟩ := List.getElem_of_mem hx
                        rw [HALL.out i hi (by rw [HNS.out]; exact hi)] at hb
                        cases hb
                      · exact h)
                    have hPr := HPR.out
                    rw [HVE] at hPr
                    have hV1 := HV1.out
                    have hV2 := HV2.out
                    have hG9 := hG.ext (hbe.trans (hbk.mono hbe.size))
                    have hx := hx.ext hbk
                    have r4 := r4.ext hbk
                    have hbe := hbe.trans (hbk.mono hbe.size)
                    have hbw := hbw.trans (hbk.mono hbw.size)
                    have hin9 := hi2.ext hbe
                    have hT9 := hT.ext hbw
                    clear HVE hlj hj r5 hs8
                    go_wp2_with fail
                    refine wp_region_held_drew (S := fun w' => Below wr.heap.size wr w') (by kernel_rfl) ?_ (fun hHeld => ?_)
                    · exact below_drew (Below.refl _ _)
                    refine wpAnyH_take (i := 0) (by simp only [List.getElem?_toArray]; rfl) (by kernel_rfl) (by kernel_rfl) (by kernel_rfl) (by exact fun _ _ _ h => h) (by exact yk_ldG (by kernel_rfl) (.tmp 5) rfl w.heap.size g s (by kernel_rfl) (fun _ h => hG9.ext h)) hHeld ?_
                    refine wpAnyH_take (i := 1) (by simp only [List.getElem?_toArray]; rfl) (by kernel_rfl) (by kernel_rfl) (by kernel_rfl) (by exact fun _ _ _ h => h) (by exact yieldsIf_ldS (by kernel_rfl) (.tmp 12) rfl (Y) (by kernel_rfl) (fun _ h => hx.ext h)) hHeld ?_
                    refine wpAnyH_take (i := 2) (by simp only [List.getElem?_toArray]; rfl) (by kernel_rfl) (by kernel_rfl) (by kernel_rfl) (by exact fun _ _ _ h => h) (by exact yk (.int .i64 (p : Int)) (by kernel_rfl) (fun _ => by kernel_rfl)) hHeld ?_
                    refine wpAnyH_take (i := 4) (by simp only [List.getElem?_toArray]; rfl) (by kernel_rfl) (by kernel_rfl) (by kernel_rfl) (by exact fun _ _ _ h => h) (by exact yk (.int .i64 (p : Int)) (by kernel_rfl) (fun _ => by kernel_rfl)) hHeld ?_
                    refine wpAnyH_take (i := 5) (by simp only [List.getElem?_toArray]; rfl) (by kernel_rfl) (by kernel_rfl) (by kernel_rfl) (by exact fun _ _ _ h => h) (by exact yk (.int .u32 (m : Int)) (by kernel_rfl) (fun _ => by kernel_rfl)) hHeld ?_
                    refine wpAnyH_take (i := 7) (by simp only [List.getElem?_toArray]; rfl) (by kernel_rfl) (by kernel_rfl) (by kernel_rfl) (by exact fun _ _ _ h => h) (by exact yieldsIf_ldS (by kernel_rfl) (.tmp 18) rfl (K1) (by kernel_rfl) (fun _ h => r4.ext h)) hHeld ?_
                    refine wpAnyH_take (i := 8) (by simp only [List.getElem?_toArray]; rfl) (by kernel_rfl) (by kernel_rfl) (by kernel_rfl) (by exact fun _ _ _ h => h) (by exact yk (.int .i64 (p : Int)) (by kernel_rfl) (fun _ => by kernel_rfl)) hHeld ?_
                    refine wpAnyH_ready (rs := [3]) (by kernel_rfl) (by simp) ?_
                    refine AllReadyH.cons (by simp only [List.getElem?_toArray]; rfl) (fun KK hKK => ?_) AllReadyH.nil
                    rw [if_pos (by kernel_rfl)]
                    refine wp_callF 22 #[.agg (stA st), .int .i64 (p : Int)] (by kernel_rfl) ?_
                    refine (hV1 _).mono ?_
                    rintro e we1 ⟨rfl, ha⟩
                    have hbr := below_undrew2 ha
                    clear ha
                    refine ⟨_, rfl, ?_⟩
                    refine hKK.out _ _ ?_ (fun hHeld => ?_)
                    · exact hbr
                    clear hKK KK
                    refine wpAnyH_ready (rs := [6]) (by kernel_rfl) (by simp) ?_
                    refine AllReadyH.cons (by simp only [List.getElem?_toArray]; rfl) (fun KK hKK => ?_) AllReadyH.nil
                    rw [if_pos (by kernel_rfl)]
                    refine wp_callF 21 #[.agg (gmA g s), .agg (stA sv), .int .i64 (p : Int), .int .u32 (m : Int)] (by kernel_rfl) ?_
                    refine (hPr _ (hin9.ext hbr) (hT9.ext hbr)).mono ?_
                    rintro e we2 ⟨rfl, ha⟩
                    have hbr := hbr.trans (ha.mono hbr.size)
                    clear ha
                    refine ⟨_, rfl, ?_⟩
                    refine hKK.out _ _ ?_ (fun hHeld => ?_)
                    · exact hbr
                    clear hKK KK
                    refine wpAnyH_ready (rs := [9]) (by kernel_rfl) (by simp) ?_
                    refine AllReadyH.cons (by simp only [List.getElem?_toArray]; rfl) (fun KK hKK => ?_) AllReadyH.nil
                    rw [if_pos (by kernel_rfl)]
                    refine wp_callF 22 #[.agg (stA S1), .int .i64 (p : Int)] (by kernel_rfl) ?_
                    refine (hV2 _).mono ?_
                    rintro e we3 ⟨rfl, ha⟩
                    have hbr := hbr.trans (ha.mono hbr.size)
                    clear ha
                    refine ⟨_, rfl, ?_⟩
                    refine hKK.out _ _ ?_ (fun hHeld => ?_)
                    · exact hbr
                    clear hKK KK
                    refine wpAnyH_take (i := 10) (by simp only [List.getElem?_toArray]; rfl) (by kernel_rfl) (by kernel_rfl) (by kernel_rfl) (by exact fun _ _ _ h => h) (by exact yk_neSt (by kernel_rfl) (.tmp 110) (.tmp 113) rfl VW (by kernel_rfl) (by kernel_rfl)) hHeld ?_
                    refine wpAnyH_done (by kernel_rfl) ?_ _
                    try simp only [Act.put, List.setIfInBounds_toArray, List.set_cons_zero, List.set_cons_succ]
                    replace hx := hx.ext hbr
                    replace r4 := r4.ext hbr
                    replace hbe := hbe.trans (hbr.mono hbe.size)
                    go_wp2_with (first | ((with_reducible refine at_ld 46 18 ?_); refine wpList_ldS rfl (.tmp 18) rfl K1 rfl r4 ?_) | ((with_reducible refine at_st 46 12 115 ?_); refine wpList_stS rfl (.tmp 12) (.tmp 115) rfl Y S1 rfl rfl st hx ?_))
                    go_roundw
                    case rel => exact ⟨k + 1, S1, by omega, by go_num, HE1.out.2.1, HE1.out.2.2.1, HE1.out.2.2.2, hx.row_ S1, below_setRow hbe _ _ (by have := HY.out; omega)⟩
                    case measure => simp [intOf]; omega
              · have ekn : ¬ (k : Int) < (nn : Int) := by rw [← HNL.out]; omega
                have ekd : decide ((k : Int) < (nn : Int)) = false := decide_eq_false ekn
                go_upto_region 19 with fail
                obtain ⟨wz, hwz⟩ : ∃ wz, wz = wm := ⟨_, rfl⟩
                rw [← hwz] at hrow hx hG9 hbe hbw z1 z3 ck ⊢
                clear hwz kf0 epd ekd hcl kf kset
                obtain ⟨M, hMe⟩ : ∃ M, M = List.replicate pl df := ⟨_, rfl⟩
                have hMl : M.length = pl := by rw [hMe]; simp
                have hMf : ∀ y ∈ M, y ≤ 4294967295 := fun y hy => by
                  rw [hMe] at hy
                  rw [List.eq_of_mem_replicate hy]; exact hdf32
                obtain ⟨m, hm⟩ : ∃ m, m = df := ⟨_, rfl⟩
                have HVV := Lib.hid (show ∀ i (h : i < M.length), M[i] = if i = p then m else g.df from fun i h => by
                  simp only [hMe, List.getElem_replicate]
                  rw [hm, HDE.out]
                  split <;> rfl)
                have hfx : m ≤ 4294967295 := by rw [hm]; exact hdf32
                have hcm : wz.cell? ⟨X, p, none⟩ = some (.int .u32 (m : Int)) := by rw [hm]; exact ck
                rw [← hMe] at hrow
                have hsM := hrow
                clear hm hMe hrow ck
                obtain ⟨F, hF⟩ : ∃ F, F = wholeV compN (stepP g st M) st.L st.d := ⟨_, rfl⟩
                obtain ⟨sv, hsv⟩ : ∃ sv : St, sv = ⟨viewL (p : Int) st.L, 0, st.tk⟩ := ⟨_, rfl⟩
                have hsl : sv.L.length = NL := by rw [hsv]; show (viewL (p : Int) st.L).length = NL; rw [viewL_length]; exact HLN.out
                have hso : okC sv.L := by rw [hsv]; exact okC_view oL (p : Int)
                have hst : sv.tk = k := by rw [hsv]; exact HTK.out
                obtain ⟨G, hG2⟩ : ∃ G, G = wholeV compN (stepP g sv (predM g (p : Int) m)) sv.L sv.d := ⟨_, rfl⟩
                have hcnt : cntL g M = cntL g (predM g (p : Int) m) := cntL_pred (by rw [HPN.out]; omega) (by rw [HPN.out]; exact hMl) HVV.out
                have hrw := whole_rel (comp := compN) (code := g.K) (mv := cntL g M) (mw := cntL g M) (tk := (st.tk + 1) % 4294967296) (al := allN g.ob) (L := st.L) (M := sv.L) (vis_bit hp32 alb) (.inl ⟨p, hp32, rfl⟩) comp_fit all32 (cntL_fit g M) hok.oK (fun _ _ _ _ => rfl) rfl oL (by rw [hsv]; exact (view_map_vw hp32 st.L).symm) st.d sv.d
                rw [show (⟨g.K, cntL g M, (st.tk + 1) % 4294967296, allN g.ob⟩ : VP) = stepP g st M from rfl, ← hF, show stepP g st M = stepP g sv (predM g (p : Int) m) by simp only [stepP, hcnt, hst, HTK.out], ← hG2] at hrw
                have HREL := Lib.hid (show (∃ x ∈ F.sh, x.2.1.testBit p = true) ∨ viewL (p : Int) G.L = viewL (p : Int) F.L from by
                  rcases hrw with h3 | ⟨a, x, y, hx, hy, e1, e2, e3, e4, e5⟩
                  · right
                    rw [view_vw hp32, view_vw hp32, h3.L]
                  · left
                    obtain ⟨hk1, rfl⟩ := List.getElem?_eq_some_iff.1 hx
                    exact ⟨_, List.getElem_mem hk1, e3⟩)
                have hsok := whole_shok compN (stepP g st M) all32 st.L st.d
                have hwl := whole_len (P := stepP g st M) (L := st.L) (d := st.d) all32 (cntL_fit g M) hok.oK oL
                rw [← hF] at hsok hwl
                have HOK := Lib.hid hsok
                obtain ⟨S1, hS1⟩ : ∃ S1 : St, S1 = ⟨F.L, F.d, (st.tk + 1) % 4294967296⟩ := ⟨_, rfl⟩
                have HE1 := Lib.hid (show S1.L = F.L ∧ S1.tk = k + 1 ∧ S1.L.length = NL ∧ okC S1.L from ⟨by rw [hS1], by rw [hS1]; show (st.tk + 1) % 4294967296 = k + 1; rw [HTK.out]; omega, by rw [hS1]; exact hwl.1.trans HLN.out, by rw [hS1]; exact hwl.2⟩)
                have hPm := own_is hsM
                have hP := Step_good g s st M (some ⟨X, 0, none⟩) pl X wz (hi2.ext hbe) hok (hT.ext hbw) hPm HR.out.symm hMf (by rw [hMl]; simp only [maxLen]; omega) (by rw [HLN.out]; exact hN48) oL (by rw [HTK.out]; omega) hF
                rw [← hS1, hMl] at hP
                have hPr := fun W hin hT => Predict_good g s sv (p : Int) m W hin hok hT HR.out.symm hfx (by rw [hsl]; exact hN48) hso (by rw [hst]; omega) (by omega) hG2
                have hV1 := fun W => StView_calls st (p : Int) W (by rw [HLN.out]; exact hN48) oL
                rw [← hsv] at hV1
                have hV2 := fun W => StView_calls S1 (p : Int) W (by rw [HE1.out.2.2.1]; exact hN48) HE1.out.2.2.2
                obtain ⟨VW, hVW⟩ : ∃ VW : St, VW = ⟨viewL (p : Int) S1.L, 0, S1.tk⟩ := ⟨_, rfl⟩
                rw [← hVW] at hV2
                have HVW := Lib.hid (show viewL (p : Int) G.L = viewL (p : Int) F.L → (⟨viewL (p : Int) G.L, 0, (sv.tk + 1) % 4294967296⟩ : St) = VW from fun h => by rw [hVW, h, HE1.out.1, HE1.out.2.1, hst]; simp only [St.mk.injEq, true_and]; omega)
                have HPR := Lib.hid hPr
                have HV1 := Lib.hid hV1
                have HV2 := Lib.hid hV2
                have z0 := hG9.c0
                have z1' := hG9.c1
                have z2 := hG9.c2
                have z4 := hG9.c4
                have z5 := hG9.c5
                clear hF hG2 hsv hsl hso hst hcnt hrw hsok hwl hS1 hPm hsM hPr hV1 hV2 hVW hMf
                go_upto_region 22 with fail
                clear z1 z3 hcm
                have z3 := hG9.c3
                have z1 := z1'
                clear z1'
                go_wp2_with ((with_reducible refine at_ld 46 12 ?_); refine wpList_ldS rfl (.tmp 12) rfl Y rfl hx ?_)
                refine hP.mono ?_
                rintro e wa ⟨sh, rfl, hsh, h1⟩
                replace hx := hx.ext h1
                replace hbe := hbe.trans (h1.mono hbe.size)
                replace hbw := hbw.trans (h1.mono hbw.size)
                clear hP h1 z0 z1 z2 z3 z4 z5
                have hs1 : sh.oneCell' = true := by
                  rcases hsh.2 with ⟨rfl, -⟩ | ⟨_, _, _, rfl, -⟩ <;> rfl
                have h5 := below_alloc1 (wa.alloc (.cells (stA zSt) 46)) (.cells #[.int .u64 0, .slice none 0 0, .int .i64 0] 53)
                have y4 := (BoxS.new_ wa zSt).ext h5
                have y5 : OBox ((wa.alloc (.cells (stA zSt) 46)).alloc (.cells #[.int .u64 0, .slice none 0 0, .int .i64 0] 53)) (wa.heap.size + 1) 0 (.slice none 0 0) 0 := by
                  have h := OBox.new_ (wa.alloc (.cells (stA zSt) 46)) 0 (.slice none 0 0) 0
                  rw [World.size_alloc] at h
                  exact h
                clear h5
                have hsh := Lib.hid hsh
                go_upto_region 23 with (first | ((with_reducible refine at_al 46 18 ?_); refine wpList_alS rfl rfl (some 18) rfl wa.heap.size rfl ?_) | ((with_reducible refine at_st 46 18 90 ?_); refine wpList_stS rfl (.tmp 18) (.tmp 90) rfl wa.heap.size S1 rfl rfl zSt y4 ?_) | ((with_reducible refine at_st 53 19 91 ?_); refine wpList_stO rfl (.tmp 19) (.tmp 91) rfl (wa.heap.size + 1) F.t sh F.e rfl rfl hs1 (y5.mod (mod_setRow _ wa.heap.size _) (by show ¬ wa.heap.size + 1 = wa.heap.size; omega)) ?_))
                have r4 := (y4.row_ S1).mod (mod_setRow (((wa.alloc (.cells (stA zSt) 46)).alloc (.cells #[.int .u64 0, .slice none 0 0, .int .i64 0] 53)).setRow wa.heap.size (stA S1)) (wa.heap.size + 1) (otA F.t sh F.e)) (by show ¬ wa.heap.size = wa.heap.size + 1; omega)
                have r5 := (y5.mod (mod_setRow ((wa.alloc (.cells (stA zSt) 46)).alloc (.cells #[.int .u64 0, .slice none 0 0, .int .i64 0] 53)) wa.heap.size (stA S1)) (by show ¬ wa.heap.size + 1 = wa.heap.size; omega)).row_ F.t sh F.e
                have hbo : Below wa.heap.size wa _ := below_setRow (below_setRow (below_alloc2 wa (.cells (stA zSt) 46) (.cells #[.int .u64 0, .slice none 0 0, .int .i64 0] 53)) wa.heap.size (stA S1) (Nat.le_refl _)) (wa.heap.size + 1) (otA F.t sh F.e) (Nat.le_succ _)
                obtain ⟨wb, hWo⟩ : ∃ wb, wb = ((((wa.alloc (.cells (stA zSt) 46)).alloc (.cells #[.int .u64 0, .slice none 0 0, .int .i64 0] 53)).setRow wa.heap.size (stA S1)).setRow (wa.heap.size + 1) (otA F.t sh F.e)) := ⟨_, rfl⟩
                rw [← hWo] at r4 r5 hbo
                go_frame
                rw [← hWo]
                clear hWo y4 y5 hs1
                have hsh := rows_ext hsh.out hbo
                replace hx := hx.ext hbo
                replace hbe := hbe.trans (hbo.mono hbe.size)
                replace hbw := hbw.trans (hbo.mono hbw.size)
                obtain ⟨K1, hK⟩ : ∃ K1, K1 = wa.heap.size := ⟨_, rfl⟩
                rw [← hK] at r4 r5 ⊢
                clear hK
                obtain ⟨A8, c8, b8, rfl, hc8, hm8, hs8⟩ := rowS_sl hsh
                obtain ⟨nS, hnS⟩ : ∃ nS, nS = F.sh.length := ⟨_, rfl⟩
                rw [← hnS] at r5
                rw [← hnS]
                have HNS := Lib.hid hnS
                have a1 := ob_s r5
                have hm64 : nS ≤ 9223372036854775807 := by omega
                clear hsh hnS hc8 hm8 hbo
                go_wp2_with fail
                clear a1
                go_loopw [21, 95] (fun _ i wr => ∃ j : Nat, j ≤ nS ∧ i = .int .i64 j ∧ (∀ i (h : i < F.sh.length), i < j → F.sh[i].2.1.testBit p = false) ∧ Below wb.heap.size wb wr) (fun _ i _ => nS - (intOf i).toNat)
                case atStart => exact ⟨0, Nat.zero_le _, rfl, fun i h h2 => by omega, Below.refl _ _⟩
                case round =>
                  obtain ⟨j, hj, rfl, hall, hbk⟩ := hrel
                  have HALL := Lib.hid hall
                  clear hall
                  by_cases hlj : j < nS
                  · have ejj : (j : Int) < (nS : Int) := by omega
                    have hkS : j < F.sh.length := by rw [← HNS.out]; exact hlj
                    obtain ⟨off8, rfl, hc⟩ := (Sl.ext hs8 hbk) (by intro h0; have h5 := congrArg List.length h0; rw [sv_length, List.length_nil] at h5; omega)
                    obtain ⟨g0', g1', g2'⟩ := sv_get hkS
                    have c0 := hc _ _ g0'
                    have c1 := hc _ _ g1'
                    have c2 := hc _ _ g2'
                    rw [← Nat.add_assoc] at c1 c2
                    have hml := HOK.out _ (List.getElem_mem hkS)
                    have HNX := Lib.hid (show F.sh[j].2.1.testBit p = false → ∀ i (h : i < F.sh.length), i < j + 1 → F.sh[i].2.1.testBit p = false from fun h i h1 h2 => by
                      by_cases e : i = j
                      · subst e; exact h
                      · exact HALL.out i h1 (by omega))
                    obtain ⟨⟨x1, x2, x3⟩, hxq⟩ : ∃ q, q = F.sh[j] := ⟨_, rfl⟩
                    rw [← hxq] at c0 c1 c2 hml HNX
                    simp only at c0 c1 c2 hml
                    have hHo := fun W => MHas_calls x2 (p : Int) W hml
                    rw [sees_of x2 hp32] at hHo
                    obtain ⟨tb, htb⟩ : ∃ tb, tb = x2.testBit p := ⟨_, rfl⟩
                    have htb2 : (x1, x2, x3).2.1.testBit p = tb := htb.symm
                    rw [htb2] at HNX
                    rw [← htb] at hHo
                    clear hxq htb htb2 hc g0' g1' g2' hkS
                    have h1 := below_alloc1 wr (.cells #[.int .i64 (x1 : Int), .int .u32 (x2 : Int), .int .i32 x3] 72)
                    have qW := (WBox.new_ wr x1 x2 x3).c1
                    go_upto_region 26 with fail
                    replace hbk := hbk.trans (h1.mono hbk.size)
                    obtain ⟨B1, hB1⟩ : ∃ B1, B1 = wr.heap.size := ⟨_, rfl⟩
                    obtain ⟨wA, hwA⟩ : ∃ wA, wA = wr.alloc (.cells #[.int .i64 (x1 : Int), .int .u32 (x2 : Int), .int .i32 x3] 72) := ⟨_, rfl⟩
                    rw [← hwA] at hbk qW ⊢
                    rw [← hB1] at qW ⊢
                    clear hwA hB1 h1 c0 c1 c2
                    cases tb with
                    | true =>
                      go_wp2_with fail
                      refine (hHo _).mono ?_
                      rintro e wx ⟨rfl, hwx⟩
                      have hwx := hwx.symm
                      subst hwx
                      have hbq := hbw.trans (hbk.mono hbw.size)
                      go_wp2_with fail
                      go_ret
                      exact ⟨rfl, hbq⟩
                    | false =>
                      go_wp2_with fail
                      refine (hHo _).mono ?_
                      rintro e wx ⟨rfl, hwx⟩
                      have hwx := hwx.symm
                      subst hwx
                      go_wp2_with fail
                      go_roundw
                      case rel => exact ⟨j + 1, by omega, by go_num, HNX.out (by trivial), hbk⟩
                      case measure => simp [intOf]; omega
                  · obtain rfl : nS = j := by omega
                    have HVE := HVW.out (by
                      rcases HREL.out with ⟨x, hx, hb⟩ | h
                      · obtain ⟨i, hi, rfl⟩ := List.getElem_of_mem hx
                        rw [HALL.out i hi (by rw [HNS.out]; exact hi)] at hb
                        cases hb
                      · exact h)
                    have hPr := HPR.out
                    rw [HVE] at hPr
                    have hV1 := HV1.out
                    have hV2 := HV2.out
                    have hG9 := hG.ext (hbe.trans (hbk.mono hbe.size))
                    have hx := hx.ext hbk
                    have r4 := r4.ext hbk
                    have hbe := hbe.trans (hbk.mono hbe.size)
                    have hbw := hbw.trans (hbk.mono hbw.size)
                    have hin9 := hi2.ext hbe
                    have hT9 := hT.ext hbw
                    clear HVE hlj hj r5 hs8
                    go_wp2_with fail
                    refine wp_region_held_drew (S := fun w' => Below wr.heap.size wr w') (by kernel_rfl) ?_ (fun hHeld => ?_)
                    · exact below_drew (Below.refl _ _)
                    refine wpAnyH_take (i := 0) (by simp only [List.getElem?_toArray]; rfl) (by kernel_rfl) (by kernel_rfl) (by kernel_rfl) (by exact fun _ _ _ h => h) (by exact yk_ldG (by kernel_rfl) (.tmp 5) rfl w.heap.size g s (by kernel_rfl) (fun _ h => hG9.ext h)) hHeld ?_
                    refine wpAnyH_take (i := 1) (by simp only [List.getElem?_toArray]; rfl) (by kernel_rfl) (by kernel_rfl) (by kernel_rfl) (by exact fun _ _ _ h => h) (by exact yieldsIf_ldS (by kernel_rfl) (.tmp 12) rfl (Y) (by kernel_rfl) (fun _ h => hx.ext h)) hHeld ?_
                    refine wpAnyH_take (i := 2) (by simp only [List.getElem?_toArray]; rfl) (by kernel_rfl) (by kernel_rfl) (by kernel_rfl) (by exact fun _ _ _ h => h) (by exact yk (.int .i64 (p : Int)) (by kernel_rfl) (fun _ => by kernel_rfl)) hHeld ?_
                    refine wpAnyH_take (i := 4) (by simp only [List.getElem?_toArray]; rfl) (by kernel_rfl) (by kernel_rfl) (by kernel_rfl) (by exact fun _ _ _ h => h) (by exact yk (.int .i64 (p : Int)) (by kernel_rfl) (fun _ => by kernel_rfl)) hHeld ?_
                    refine wpAnyH_take (i := 5) (by simp only [List.getElem?_toArray]; rfl) (by kernel_rfl) (by kernel_rfl) (by kernel_rfl) (by exact fun _ _ _ h => h) (by exact yk (.int .u32 (m : Int)) (by kernel_rfl) (fun _ => by kernel_rfl)) hHeld ?_
                    refine wpAnyH_take (i := 7) (by simp only [List.getElem?_toArray]; rfl) (by kernel_rfl) (by kernel_rfl) (by kernel_rfl) (by exact fun _ _ _ h => h) (by exact yieldsIf_ldS (by kernel_rfl) (.tmp 18) rfl (K1) (by kernel_rfl) (fun _ h => r4.ext h)) hHeld ?_
                    refine wpAnyH_take (i := 8) (by simp only [List.getElem?_toArray]; rfl) (by kernel_rfl) (by kernel_rfl) (by kernel_rfl) (by exact fun _ _ _ h => h) (by exact yk (.int .i64 (p : Int)) (by kernel_rfl) (fun _ => by kernel_rfl)) hHeld ?_
                    refine wpAnyH_ready (rs := [3]) (by kernel_rfl) (by simp) ?_
                    refine AllReadyH.cons (by simp only [List.getElem?_toArray]; rfl) (fun KK hKK => ?_) AllReadyH.nil
                    rw [if_pos (by kernel_rfl)]
                    refine wp_callF 22 #[.agg (stA st), .int .i64 (p : Int)] (by kernel_rfl) ?_
                    refine (hV1 _).mono ?_
                    rintro e we1 ⟨rfl, ha⟩
                    have hbr := below_undrew2 ha
                    clear ha
                    refine ⟨_, rfl, ?_⟩
                    refine hKK.out _ _ ?_ (fun hHeld => ?_)
                    · exact hbr
                    clear hKK KK
                    refine wpAnyH_ready (rs := [6]) (by kernel_rfl) (by simp) ?_
                    refine AllReadyH.cons (by simp only [List.getElem?_toArray]; rfl) (fun KK hKK => ?_) AllReadyH.nil
                    rw [if_pos (by kernel_rfl)]
                    refine wp_callF 21 #[.agg (gmA g s), .agg (stA sv), .int .i64 (p : Int), .int .u32 (m : Int)] (by kernel_rfl) ?_
                    refine (hPr _ (hin9.ext hbr) (hT9.ext hbr)).mono ?_
                    rintro e we2 ⟨rfl, ha⟩
                    have hbr := hbr.trans (ha.mono hbr.size)
                    clear ha
                    refine ⟨_, rfl, ?_⟩
                    refine hKK.out _ _ ?_ (fun hHeld => ?_)
                    · exact hbr
                    clear hKK KK
                    refine wpAnyH_ready (rs := [9]) (by kernel_rfl) (by simp) ?_
                    refine AllReadyH.cons (by simp only [List.getElem?_toArray]; rfl) (fun KK hKK => ?_) AllReadyH.nil
                    rw [if_pos (by kernel_rfl)]
                    refine wp_callF 22 #[.agg (stA S1), .int .i64 (p : Int)] (by kernel_rfl) ?_
                    refine (hV2 _).mono ?_
                    rintro e we3 ⟨rfl, ha⟩
                    have hbr := hbr.trans (ha.mono hbr.size)
                    clear ha
                    refine ⟨_, rfl, ?_⟩
                    refine hKK.out _ _ ?_ (fun hHeld => ?_)
                    · exact hbr
                    clear hKK KK
                    refine wpAnyH_take (i := 10) (by simp only [List.getElem?_toArray]; rfl) (by kernel_rfl) (by kernel_rfl) (by kernel_rfl) (by exact fun _ _ _ h => h) (by exact yk_neSt (by kernel_rfl) (.tmp 110) (.tmp 113) rfl VW (by kernel_rfl) (by kernel_rfl)) hHeld ?_
                    refine wpAnyH_done (by kernel_rfl) ?_ _
                    try simp only [Act.put, List.setIfInBounds_toArray, List.set_cons_zero, List.set_cons_succ]
                    replace hx := hx.ext hbr
                    replace r4 := r4.ext hbr
                    replace hbe := hbe.trans (hbr.mono hbe.size)
                    go_wp2_with (first | ((with_reducible refine at_ld 46 18 ?_); refine wpList_ldS rfl (.tmp 18) rfl K1 rfl r4 ?_) | ((with_reducible refine at_st 46 12 115 ?_); refine wpList_stS rfl (.tmp 12) (.tmp 115) rfl Y S1 rfl rfl st hx ?_))
                    go_roundw
                    case rel => exact ⟨k + 1, S1, by omega, by go_num, HE1.out.2.1, HE1.out.2.2.1, HE1.out.2.2.2, hx.row_ S1, below_setRow hbe _ _ (by have := HY.out; omega)⟩
                    case measure => simp [intOf]; omega
            · have epp : ¬ (p : Int) < (pl : Int) := by omega
              have epd : decide ((p : Int) < (pl : Int)) = false := decide_eq_false epp
              go_upto_region 19 with fail
              obtain ⟨wz, hwz⟩ : ∃ wz, wz = wm := ⟨_, rfl⟩
              rw [← hwz] at hrow hx hG9 hbe hbw z1 z3 ⊢
              clear hwz epd hcl kf kset
              obtain ⟨M, hMe⟩ : ∃ M, M = List.replicate pl df := ⟨_, rfl⟩
              have hMl : M.length = pl := by rw [hMe]; simp
              have hMf : ∀ y ∈ M, y ≤ 4294967295 := fun y hy => by
                rw [hMe] at hy
                rw [List.eq_of_mem_replicate hy]; exact hdf32
              obtain ⟨m, hm⟩ : ∃ m, m = df := ⟨_, rfl⟩
              have HVV := Lib.hid (show ∀ i (h : i < M.length), M[i] = if i = p then m else g.df from fun i h => by
                simp only [hMe, List.getElem_replicate]
                rw [hm, HDE.out]
                split <;> rfl)
              have hfx : m ≤ 4294967295 := by rw [hm]; exact hdf32
              rw [← hMe] at hrow
              rw [← hm] at z3
              have hsM := hrow
              clear hm hMe hrow
              obtain ⟨F, hF⟩ : ∃ F, F = wholeV compN (stepP g st M) st.L st.d := ⟨_, rfl⟩
              obtain ⟨sv, hsv⟩ : ∃ sv : St, sv = ⟨viewL (p : Int) st.L, 0, st.tk⟩ := ⟨_, rfl⟩
              have hsl : sv.L.length = NL := by rw [hsv]; show (viewL (p : Int) st.L).length = NL; rw [viewL_length]; exact HLN.out
              have hso : okC sv.L := by rw [hsv]; exact okC_view oL (p : Int)
              have hst : sv.tk = k := by rw [hsv]; exact HTK.out
              obtain ⟨G, hG2⟩ : ∃ G, G = wholeV compN (stepP g sv (predM g (p : Int) m)) sv.L sv.d := ⟨_, rfl⟩
              have hcnt : cntL g M = cntL g (predM g (p : Int) m) := cntL_pred (by rw [HPN.out]; omega) (by rw [HPN.out]; exact hMl) HVV.out
              have hrw := whole_rel (comp := compN) (code := g.K) (mv := cntL g M) (mw := cntL g M) (tk := (st.tk + 1) % 4294967296) (al := allN g.ob) (L := st.L) (M := sv.L) (vis_bit hp32 alb) (.inl ⟨p, hp32, rfl⟩) comp_fit all32 (cntL_fit g M) hok.oK (fun _ _ _ _ => rfl) rfl oL (by rw [hsv]; exact (view_map_vw hp32 st.L).symm) st.d sv.d
              rw [show (⟨g.K, cntL g M, (st.tk + 1) % 4294967296, allN g.ob⟩ : VP) = stepP g st M from rfl, ← hF, show stepP g st M = stepP g sv (predM g (p : Int) m) by simp only [stepP, hcnt, hst, HTK.out], ← hG2] at hrw
              have HREL := Lib.hid (show (∃ x ∈ F.sh, x.2.1.testBit p = true) ∨ viewL (p : Int) G.L = viewL (p : Int) F.L from by
                rcases hrw with h3 | ⟨a, x, y, hx, hy, e1, e2, e3, e4, e5⟩
                · right
                  rw [view_vw hp32, view_vw hp32, h3.L]
                · left
                  obtain ⟨hk1, rfl⟩ := List.getElem?_eq_some_iff.1 hx
                  exact ⟨_, List.getElem_mem hk1, e3⟩)
              have hsok := whole_shok compN (stepP g st M) all32 st.L st.d
              have hwl := whole_len (P := stepP g st M) (L := st.L) (d := st.d) all32 (cntL_fit g M) hok.oK oL
              rw [← hF] at hsok hwl
              have HOK := Lib.hid hsok
              obtain ⟨S1, hS1⟩ : ∃ S1 : St, S1 = ⟨F.L, F.d, (st.tk + 1) % 4294967296⟩ := ⟨_, rfl⟩
              have HE1 := Lib.hid (show S1.L = F.L ∧ S1.tk = k + 1 ∧ S1.L.length = NL ∧ okC S1.L from ⟨by rw [hS1], by rw [hS1]; show (st.tk + 1) % 4294967296 = k + 1; rw [HTK.out]; omega, by rw [hS1]; exact hwl.1.trans HLN.out, by rw [hS1]; exact hwl.2⟩)
              have hPm := own_is hsM
              have hP := Step_good g s st M (some ⟨X, 0, none⟩) pl X wz (hi2.ext hbe) hok (hT.ext hbw) hPm HR.out.symm hMf (by rw [hMl]; simp only [maxLen]; omega) (by rw [HLN.out]; exact hN48) oL (by rw [HTK.out]; omega) hF
              rw [← hS1, hMl] at hP
              have hPr := fun W hin hT => Predict_good g s sv (p : Int) m W hin hok hT HR.out.symm hfx (by rw [hsl]; exact hN48) hso (by rw [hst]; omega) (by omega) hG2
              have hV1 := fun W => StView_calls st (p : Int) W (by rw [HLN.out]; exact hN48) oL
              rw [← hsv] at hV1
              have hV2 := fun W => StView_calls S1 (p : Int) W (by rw [HE1.out.2.2.1]; exact hN48) HE1.out.2.2.2
              obtain ⟨VW, hVW⟩ : ∃ VW : St, VW = ⟨viewL (p : Int) S1.L, 0, S1.tk⟩ := ⟨_, rfl⟩
              rw [← hVW] at hV2
              have HVW := Lib.hid (show viewL (p : Int) G.L = viewL (p : Int) F.L → (⟨viewL (p : Int) G.L, 0, (sv.tk + 1) % 4294967296⟩ : St) = VW from fun h => by rw [hVW, h, HE1.out.1, HE1.out.2.1, hst]; simp only [St.mk.injEq, true_and]; omega)
              have HPR := Lib.hid hPr
              have HV1 := Lib.hid hV1
              have HV2 := Lib.hid hV2
              have z0 := hG9.c0
              have z1' := hG9.c1
              have z2 := hG9.c2
              have z4 := hG9.c4
              have z5 := hG9.c5
              clear hF hG2 hsv hsl hso hst hcnt hrw hsok hwl hS1 hPm hsM hPr hV1 hV2 hVW hMf
              go_upto_region 22 with fail
              clear z1 z3
              have z3 := hG9.c3
              have z1 := z1'
              clear z1'
              go_wp2_with ((with_reducible refine at_ld 46 12 ?_); refine wpList_ldS rfl (.tmp 12) rfl Y rfl hx ?_)
              refine hP.mono ?_
              rintro e wa ⟨sh, rfl, hsh, h1⟩
              replace hx := hx.ext h1
              replace hbe := hbe.trans (h1.mono hbe.size)
              replace hbw := hbw.trans (h1.mono hbw.size)
              clear hP h1 z0 z1 z2 z3 z4 z5
              have hs1 : sh.oneCell' = true := by
                rcases hsh.2 with ⟨rfl, -⟩ | ⟨_, _, _, rfl, -⟩ <;> rfl
              have h5 := below_alloc1 (wa.alloc (.cells (stA zSt) 46)) (.cells #[.int .u64 0, .slice none 0 0, .int .i64 0] 53)
              have y4 := (BoxS.new_ wa zSt).ext h5
              have y5 : OBox ((wa.alloc (.cells (stA zSt) 46)).alloc (.cells #[.int .u64 0, .slice none 0 0, .int .i64 0] 53)) (wa.heap.size + 1) 0 (.slice none 0 0) 0 := by
                have h := OBox.new_ (wa.alloc (.cells (stA zSt) 46)) 0 (.slice none 0 0) 0
                rw [World.size_alloc] at h
                exact h
              clear h5
              have hsh := Lib.hid hsh
              go_upto_region 23 with (first | ((with_reducible refine at_al 46 18 ?_); refine wpList_alS rfl rfl (some 18) rfl wa.heap.size rfl ?_) | ((with_reducible refine at_st 46 18 90 ?_); refine wpList_stS rfl (.tmp 18) (.tmp 90) rfl wa.heap.size S1 rfl rfl zSt y4 ?_) | ((with_reducible refine at_st 53 19 91 ?_); refine wpList_stO rfl (.tmp 19) (.tmp 91) rfl (wa.heap.size + 1) F.t sh F.e rfl rfl hs1 (y5.mod (mod_setRow _ wa.heap.size _) (by show ¬ wa.heap.size + 1 = wa.heap.size; omega)) ?_))
              have r4 := (y4.row_ S1).mod (mod_setRow (((wa.alloc (.cells (stA zSt) 46)).alloc (.cells #[.int .u64 0, .slice none 0 0, .int .i64 0] 53)).setRow wa.heap.size (stA S1)) (wa.heap.size + 1) (otA F.t sh F.e)) (by show ¬ wa.heap.size = wa.heap.size + 1; omega)
              have r5 := (y5.mod (mod_setRow ((wa.alloc (.cells (stA zSt) 46)).alloc (.cells #[.int .u64 0, .slice none 0 0, .int .i64 0] 53)) wa.heap.size (stA S1)) (by show ¬ wa.heap.size + 1 = wa.heap.size; omega)).row_ F.t sh F.e
              have hbo : Below wa.heap.size wa _ := below_setRow (below_setRow (below_alloc2 wa (.cells (stA zSt) 46) (.cells #[.int .u64 0, .slice none 0 0, .int .i64 0] 53)) wa.heap.size (stA S1) (Nat.le_refl _)) (wa.heap.size + 1) (otA F.t sh F.e) (Nat.le_succ _)
              obtain ⟨wb, hWo⟩ : ∃ wb, wb = ((((wa.alloc (.cells (stA zSt) 46)).alloc (.cells #[.int .u64 0, .slice none 0 0, .int .i64 0] 53)).setRow wa.heap.size (stA S1)).setRow (wa.heap.size + 1) (otA F.t sh F.e)) := ⟨_, rfl⟩
              rw [← hWo] at r4 r5 hbo
              go_frame
              rw [← hWo]
              clear hWo y4 y5 hs1
              have hsh := rows_ext hsh.out hbo
              replace hx := hx.ext hbo
              replace hbe := hbe.trans (hbo.mono hbe.size)
              replace hbw := hbw.trans (hbo.mono hbw.size)
              obtain ⟨K1, hK⟩ : ∃ K1, K1 = wa.heap.size := ⟨_, rfl⟩
              rw [← hK] at r4 r5 ⊢
              clear hK
              obtain ⟨A8, c8, b8, rfl, hc8, hm8, hs8⟩ := rowS_sl hsh
              obtain ⟨nS, hnS⟩ : ∃ nS, nS = F.sh.length := ⟨_, rfl⟩
              rw [← hnS] at r5
              rw [← hnS]
              have HNS := Lib.hid hnS
              have a1 := ob_s r5
              have hm64 : nS ≤ 9223372036854775807 := by omega
              clear hsh hnS hc8 hm8 hbo
              go_wp2_with fail
              clear a1
              go_loopw [21, 95] (fun _ i wr => ∃ j : Nat, j ≤ nS ∧ i = .int .i64 j ∧ (∀ i (h : i < F.sh.length), i < j → F.sh[i].2.1.testBit p = false) ∧ Below wb.heap.size wb wr) (fun _ i _ => nS - (intOf i).toNat)
              case atStart => exact ⟨0, Nat.zero_le _, rfl, fun i h h2 => by omega, Below.refl _ _⟩
              case round =>
                obtain ⟨j, hj, rfl, hall, hbk⟩ := hrel
                have HALL := Lib.hid hall
                clear hall
                by_cases hlj : j < nS
                · have ejj : (j : Int) < (nS : Int) := by omega
                  have hkS : j < F.sh.length := by rw [← HNS.out]; exact hlj
                  obtain ⟨off8, rfl, hc⟩ := (Sl.ext hs8 hbk) (by intro h0; have h5 := congrArg List.length h0; rw [sv_length, List.length_nil] at h5; omega)
                  obtain ⟨g0', g1', g2'⟩ := sv_get hkS
                  have c0 := hc _ _ g0'
                  have c1 := hc _ _ g1'
                  have c2 := hc _ _ g2'
                  rw [← Nat.add_assoc] at c1 c2
                  have hml := HOK.out _ (List.getElem_mem hkS)
                  have HNX := Lib.hid (show F.sh[j].2.1.testBit p = false → ∀ i (h : i < F.sh.length), i < j + 1 → F.sh[i].2.1.testBit p = false from fun h i h1 h2 => by
                    by_cases e : i = j
                    · subst e; exact h
                    · exact HALL.out i h1 (by omega))
                  obtain ⟨⟨x1, x2, x3⟩, hxq⟩ : ∃ q, q = F.sh[j] := ⟨_, rfl⟩
                  rw [← hxq] at c0 c1 c2 hml HNX
                  simp only at c0 c1 c2 hml
                  have hHo := fun W => MHas_calls x2 (p : Int) W hml
                  rw [sees_of x2 hp32] at hHo
                  obtain ⟨tb, htb⟩ : ∃ tb, tb = x2.testBit p := ⟨_, rfl⟩
                  have htb2 : (x1, x2, x3).2.1.testBit p = tb := htb.symm
                  rw [htb2] at HNX
                  rw [← htb] at hHo
                  clear hxq htb htb2 hc g0' g1' g2' hkS
                  have h1 := below_alloc1 wr (.cells #[.int .i64 (x1 : Int), .int .u32 (x2 : Int), .int .i32 x3] 72)
                  have qW := (WBox.new_ wr x1 x2 x3).c1
                  go_upto_region 26 with fail
                  replace hbk := hbk.trans (h1.mono hbk.size)
                  obtain ⟨B1, hB1⟩ : ∃ B1, B1 = wr.heap.size := ⟨_, rfl⟩
                  obtain ⟨wA, hwA⟩ : ∃ wA, wA = wr.alloc (.cells #[.int .i64 (x1 : Int), .int .u32 (x2 : Int), .int .i32 x3] 72) := ⟨_, rfl⟩
                  rw [← hwA] at hbk qW ⊢
                  rw [← hB1] at qW ⊢
                  clear hwA hB1 h1 c0 c1 c2
                  cases tb with
                  | true =>
                    go_wp2_with fail
                    refine (hHo _).mono ?_
                    rintro e wx ⟨rfl, hwx⟩
                    have hwx := hwx.symm
                    subst hwx
                    have hbq := hbw.trans (hbk.mono hbw.size)
                    go_wp2_with fail
                    go_ret
                    exact ⟨rfl, hbq⟩
                  | false =>
                    go_wp2_with fail
                    refine (hHo _).mono ?_
                    rintro e wx ⟨rfl, hwx⟩
                    have hwx := hwx.symm
                    subst hwx
                    go_wp2_with fail
                    go_roundw
                    case rel => exact ⟨j + 1, by omega, by go_num, HNX.out (by trivial), hbk⟩
                    case measure => simp [intOf]; omega
                · obtain rfl : nS = j := by omega
                  have HVE := HVW.out (by
                    rcases HREL.out with ⟨x, hx, hb⟩ | h
                    · obtain ⟨i, hi, rfl⟩ := List.getElem_of_mem hx
                      rw [HALL.out i hi (by rw [HNS.out]; exact hi)] at hb
                      cases hb
                    · exact h)
                  have hPr := HPR.out
                  rw [HVE] at hPr
                  have hV1 := HV1.out
                  have hV2 := HV2.out
                  have hG9 := hG.ext (hbe.trans (hbk.mono hbe.size))
                  have hx := hx.ext hbk
                  have r4 := r4.ext hbk
                  have hbe := hbe.trans (hbk.mono hbe.size)
                  have hbw := hbw.trans (hbk.mono hbw.size)
                  have hin9 := hi2.ext hbe
                  have hT9 := hT.ext hbw
                  clear HVE hlj hj r5 hs8
                  go_wp2_with fail
                  refine wp_region_held_drew (S := fun w' => Below wr.heap.size wr w') (by kernel_rfl) ?_ (fun hHeld => ?_)
                  · exact below_drew (Below.refl _ _)
                  refine wpAnyH_take (i := 0) (by simp only [List.getElem?_toArray]; rfl) (by kernel_rfl) (by kernel_rfl) (by kernel_rfl) (by exact fun _ _ _ h => h) (by exact yk_ldG (by kernel_rfl) (.tmp 5) rfl w.heap.size g s (by kernel_rfl) (fun _ h => hG9.ext h)) hHeld ?_
                  refine wpAnyH_take (i := 1) (by simp only [List.getElem?_toArray]; rfl) (by kernel_rfl) (by kernel_rfl) (by kernel_rfl) (by exact fun _ _ _ h => h) (by exact yieldsIf_ldS (by kernel_rfl) (.tmp 12) rfl (Y) (by kernel_rfl) (fun _ h => hx.ext h)) hHeld ?_
                  refine wpAnyH_take (i := 2) (by simp only [List.getElem?_toArray]; rfl) (by kernel_rfl) (by kernel_rfl) (by kernel_rfl) (by exact fun _ _ _ h => h) (by exact yk (.int .i64 (p : Int)) (by kernel_rfl) (fun _ => by kernel_rfl)) hHeld ?_
                  refine wpAnyH_take (i := 4) (by simp only [List.getElem?_toArray]; rfl) (by kernel_rfl) (by kernel_rfl) (by kernel_rfl) (by exact fun _ _ _ h => h) (by exact yk (.int .i64 (p : Int)) (by kernel_rfl) (fun _ => by kernel_rfl)) hHeld ?_
                  refine wpAnyH_take (i := 5) (by simp only [List.getElem?_toArray]; rfl) (by kernel_rfl) (by kernel_rfl) (by kernel_rfl) (by exact fun _ _ _ h => h) (by exact yk (.int .u32 (m : Int)) (by kernel_rfl) (fun _ => by kernel_rfl)) hHeld ?_
                  refine wpAnyH_take (i := 7) (by simp only [List.getElem?_toArray]; rfl) (by kernel_rfl) (by kernel_rfl) (by kernel_rfl) (by exact fun _ _ _ h => h) (by exact yieldsIf_ldS (by kernel_rfl) (.tmp 18) rfl (K1) (by kernel_rfl) (fun _ h => r4.ext h)) hHeld ?_
                  refine wpAnyH_take (i := 8) (by simp only [List.getElem?_toArray]; rfl) (by kernel_rfl) (by kernel_rfl) (by kernel_rfl) (by exact fun _ _ _ h => h) (by exact yk (.int .i64 (p : Int)) (by kernel_rfl) (fun _ => by kernel_rfl)) hHeld ?_
                  refine wpAnyH_ready (rs := [3]) (by kernel_rfl) (by simp) ?_
                  refine AllReadyH.cons (by simp only [List.getElem?_toArray]; rfl) (fun KK hKK => ?_) AllReadyH.nil
                  rw [if_pos (by kernel_rfl)]
                  refine wp_callF 22 #[.agg (stA st), .int .i64 (p : Int)] (by kernel_rfl) ?_
                  refine (hV1 _).mono ?_
                  rintro e we1 ⟨rfl, ha⟩
                  have hbr := below_undrew2 ha
                  clear ha
                  refine ⟨_, rfl, ?_⟩
                  refine hKK.out _ _ ?_ (fun hHeld => ?_)
                  · exact hbr
                  clear hKK KK
                  refine wpAnyH_ready (rs := [6]) (by kernel_rfl) (by simp) ?_
                  refine AllReadyH.cons (by simp only [List.getElem?_toArray]; rfl) (fun KK hKK => ?_) AllReadyH.nil
                  rw [if_pos (by kernel_rfl)]
                  refine wp_callF 21 #[.agg (gmA g s), .agg (stA sv), .int .i64 (p : Int), .int .u32 (m : Int)] (by kernel_rfl) ?_
                  refine (hPr _ (hin9.ext hbr) (hT9.ext hbr)).mono ?_
                  rintro e we2 ⟨rfl, ha⟩
                  have hbr := hbr.trans (ha.mono hbr.size)
                  clear ha
                  refine ⟨_, rfl, ?_⟩
                  refine hKK.out _ _ ?_ (fun hHeld => ?_)
                  · exact hbr
                  clear hKK KK
                  refine wpAnyH_ready (rs := [9]) (by kernel_rfl) (by simp) ?_
                  refine AllReadyH.cons (by simp only [List.getElem?_toArray]; rfl) (fun KK hKK => ?_) AllReadyH.nil
                  rw [if_pos (by kernel_rfl)]
                  refine wp_callF 22 #[.agg (stA S1), .int .i64 (p : Int)] (by kernel_rfl) ?_
                  refine (hV2 _).mono ?_
                  rintro e we3 ⟨rfl, ha⟩
                  have hbr := hbr.trans (ha.mono hbr.size)
                  clear ha
                  refine ⟨_, rfl, ?_⟩
                  refine hKK.out _ _ ?_ (fun hHeld => ?_)
                  · exact hbr
                  clear hKK KK
                  refine wpAnyH_take (i := 10) (by simp only [List.getElem?_toArray]; rfl) (by kernel_rfl) (by kernel_rfl) (by kernel_rfl) (by exact fun _ _ _ h => h) (by exact yk_neSt (by kernel_rfl) (.tmp 110) (.tmp 113) rfl VW (by kernel_rfl) (by kernel_rfl)) hHeld ?_
                  refine wpAnyH_done (by kernel_rfl) ?_ _
                  try simp only [Act.put, List.setIfInBounds_toArray, List.set_cons_zero, List.set_cons_succ]
                  replace hx := hx.ext hbr
                  replace r4 := r4.ext hbr
                  replace hbe := hbe.trans (hbr.mono hbe.size)
                  go_wp2_with (first | ((with_reducible refine at_ld 46 18 ?_); refine wpList_ldS rfl (.tmp 18) rfl K1 rfl r4 ?_) | ((with_reducible refine at_st 46 12 115 ?_); refine wpList_stS rfl (.tmp 12) (.tmp 115) rfl Y S1 rfl rfl st hx ?_))
                  go_roundw
                  case rel => exact ⟨k + 1, S1, by omega, by go_num, HE1.out.2.1, HE1.out.2.2.1, HE1.out.2.2.2, hx.row_ S1, below_setRow hbe _ _ (by have := HY.out; omega)⟩
                  case measure => simp [intOf]; omega
      · obtain rfl : k = 12 := by omega
        clear hlt hk
        go_wp2_with fail
        go_ret
        exact ⟨rfl, hbw⟩
end Go.Proofs.YtfopdoeiahlhpaaDoor
