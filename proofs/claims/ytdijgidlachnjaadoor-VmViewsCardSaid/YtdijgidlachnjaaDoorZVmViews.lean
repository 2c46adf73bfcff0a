/- VmViews: the walk. Conditions: the numbers fit; the table lies. -/
import Derived.Test.YtdijgidlachnjaaDoorZVmBase08
import Derived.Deep.DeepCutAuto
namespace Go.Proofs.YtdijgidlachnjaaDoor
open Go.RowKit

theorem sl_set5 {w : World} {b g k : Nat} {A : Option Addr} {J : List Cd} (h : Sl w b A (kv J)) (hne : 0 < J.length → b ≠ g) (u : Value) : Sl (w.setCell ⟨g, k, none⟩ u) b A (kv J) := by
  by_cases h0 : J = []
  · rw [h0]; exact Sl.nil_ _ _ _
  · exact Sl.setCell h (hne (List.length_pos_iff.2 h0)) u
set_option maxHeartbeats 16000000 in
set_option maxRecDepth 20000 in
theorem VmViews_walk (A : Option Addr) (K : List Cd) (n c b : Nat) (A2 : Option Addr) (L : List (Int × Nat)) (n2 c2 b2 : Nat) (d : Nat) (A6 : Option Addr) (P : List Int) (n6 c6 b6 : Nat) (tk o : Nat) (w : World) (hT : CTab w) (hs : Sl w b A (kv K)) (hn : K.length = n) (_hm : n ≤ maxLen) (hnc : n ≤ c) (hok : okK K)
    (hs2 : Sl w b2 A2 (cv L)) (hn2 : L.length = n2) (_hm2 : n2 ≤ maxLen) (hnc2 : n2 ≤ c2) (hok2 : okC L) (_hd : d < 18446744073709551616)
    (hs3 : Is w b6 A6 P) (hn3 : P.length = n6) (_hm3 : n6 ≤ maxLen) (hnc3 : n6 ≤ c6) (hok3 : ∀ x ∈ P, -2147483648 ≤ x ∧ x ≤ 2147483647) (_htk : tk ≤ 4294967295) (ho : o ≤ 255) :
    Calls Tryd.prog 6 #[.slice A n c, .slice A2 n2 c2, .agg #[.int .u64 (d : Int)], .slice A6 n6 c6, .int .u32 (tk : Int), .int .u8 (o : Int)] w fun e w' => e = .returned (.bool true) ∧ Below w.heap.size w w' := by
  have hok := fun x hx => hok x (List.mem_of_mem_take (i := 96) hx)
  have hok2 := fun x hx => hok2 x (List.mem_of_mem_take (i := 48) hx)
  have hFw := fun W h => FewC_calls A2 L n2 c2 b2 W h hn2 hnc2
  have hCd := fun W h => Codes_calls A K n c b W h hn hnc
  have hPl := fun W h => Players_calls A6 P n6 c6 b6 W h hn3 hnc3
  have lQ := playN_len P
  have oQ := playN_fit P hok3
  obtain ⟨Q, hQ⟩ : ∃ Q, Q = playN P := ⟨_, rfl⟩
  simp only [← hQ] at hPl lQ oQ
  obtain ⟨M, hM⟩ : ∃ M, M = L.take 48 := ⟨_, rfl⟩
  obtain ⟨J, hJ⟩ : ∃ J, J = K.take 96 := ⟨_, rfl⟩
  simp only [← hM] at hFw hok2
  simp only [← hJ] at hCd hok
  have lM : M.length ≤ 48 := by rw [hM, List.length_take]; omega
  have lJ : J.length ≤ 96 := by rw [hJ, List.length_take]; omega
  have oM : okC M := hok2
  have oJ : okK J := hok
  have kd := heap_alloc_new w (.cells #[.int .u64 (d : Int)] 27)
  have hb0 := below_alloc1 w (.cells #[.int .u64 (d : Int)] 27)
  have hT0 := hT.ext hb0
  have hs := Sl.ext hs hb0
  have hs2 := Sl.ext hs2 hb0
  have hs3 := Sl.ext hs3 hb0
  have kd : Box (w.alloc (.cells #[.int .u64 (d : Int)] 27)) w.heap.size (.int .u64 (d : Int)) 27 := kd
  have hwd0 : w.heap.size < (w.alloc (.cells #[.int .u64 (d : Int)] 27)).heap.size := by simp
  obtain ⟨wd, hwd⟩ : ∃ wd, wd = w.alloc (.cells #[.int .u64 (d : Int)] 27) := ⟨_, rfl⟩
  clear hM hJ hQ hok hok2 hok3 hn hn2 hn3 hnc hnc2 hnc3 hT
  go_enter Tryd.func6, Tryd.ntmps6
  go_wp2_with fail
  rw [← hwd] at kd hb0 hT0 hs hs2 hs3 hwd0 ⊢
  have KD := Lib.hid kd
  have HTT := Lib.hid hT0
  have HBD := Lib.hid hb0
  clear hwd
  refine (Awake_calls _ hT0).mono ?_
  rintro e w1 ⟨rfl, h1⟩
  have kd := kd.ext h1
  have hT1 := hT0.ext h1
  have hs := Sl.ext hs h1
  have hs2 := Sl.ext hs2 h1
  have hs3 := Sl.ext hs3 h1
  have hb1 := h1
  clear hT0 hb0 h1
  go_wp2_with fail
  refine (hFw w1 hs2).mono ?_
  rintro e w2 ⟨v, rfl, hv, h2⟩
  have kd := kd.ext h2
  have hT2 := hT1.ext h2
  have hs := Sl.ext hs h2
  have hb2 := hb1.trans (h2.mono hb1.size)
  have hrc := hv
  obtain ⟨A3, c3, b3, rfl, hc3, hm3, -, hB3, hsl3, hbk3⟩ := hv.sl
  have hw2 := hb1.size
  have hlt3 : 0 < M.length → b3 < w2.heap.size := fun h => Sl.lt hsl3 (by intro h0; have h5 := congrArg List.length h0; simp at h5; omega)
  clear hsl3
  have hs3 := Sl.ext hs3 h2
  clear hFw hs2 hT1 hb1 h2 hv
  go_wp2_with fail
  refine (hPl w2 hs3).mono ?_
  rintro e w2 ⟨v, rfl, hv, h2⟩
  have kd := kd.ext h2
  have hT2 := hT2.ext h2
  have hs := Sl.ext hs h2
  have hq2 := h2.size
  have hrc := hrc.ext h2
  have hb2 := hb2.trans (h2.mono hb2.size)
  obtain ⟨A7, c7, b7, rfl, hc7, hB7, hsl7⟩ := own_sl hv
  obtain ⟨bq, hb7q, hbq, hsl7⟩ : ∃ bq, b7 ≤ bq ∧ bq < w2.heap.size ∧ Is w2 bq A7 Q := ⟨b7, Nat.le_refl _, Sl.lt hsl7 (by intro h; have h5 := congrArg List.length h; rw [iv_length, List.length_nil] at h5; omega), hsl7⟩
  clear hPl hs3 h2 hv
  go_wp2_with fail
  refine (hCd w2 hs).mono ?_
  rintro e w3 ⟨v, u, rfl, hv, hu, h3⟩
  have kd := kd.ext h3
  have hT3 := hT2.ext h3
  have hb3 := hb2.trans (h3.mono hb2.size)
  have hrc := hrc.ext h3
  have hsl7 := Sl.ext hsl7 h3
  have hbq : bq < w3.heap.size := Nat.lt_of_lt_of_le hbq h3.size
  obtain ⟨A4, c4, b4, rfl, hc4, hm4, -, hB4, hsl4, -⟩ := hv.sl
  obtain ⟨A5, c5, b5, rfl, hc5, hm5, -, hB5, hsl5, -⟩ := hu.sl
  have hq3 := h3.size
  obtain ⟨bc, hbc, hbc2, hsl4⟩ : ∃ bc, bc < w3.heap.size ∧ (bc = w.heap.size ∨ w2.heap.size ≤ bc) ∧ Sl w3 bc A4 (kv J) := by
    by_cases hJe : J = []
    · exact ⟨w.heap.size, kd.lt, .inl rfl, by rw [hJe]; exact Sl.nil_ _ _ _⟩
    · exact ⟨b4, Sl.lt hsl4 (by intro h; have h5 := congrArg List.length h; rw [kv_length] at h5; exact hJe (List.eq_nil_of_length_eq_zero (by simp at h5; omega))), .inr hB4, hsl4⟩
  obtain ⟨mJ, hmJ⟩ : ∃ mJ, mJ = J.length := ⟨_, rfl⟩
  obtain ⟨mM, hmM⟩ : ∃ mM, mM = M.length := ⟨_, rfl⟩
  obtain ⟨mQ, hmQ⟩ : ∃ mQ, mQ = Q.length := ⟨_, rfl⟩
  rw [← hmM] at hrc hbk3 hlt3
  rw [← hmJ, ← hmM, ← hmQ]
  have HmJ := Lib.hid hmJ
  have HmM := Lib.hid hmM
  have HmQ := Lib.hid hmQ
  clear hCd hs hT2 hb2 h3 hv hu hmJ hmM hmQ
  have hQ1 : 1 ≤ mQ ∧ mQ ≤ 6 := by rw [HmQ.out]; exact lQ
  obtain ⟨nn, hnn⟩ : ∃ nn : Nat, nn = mQ + o / 64 := ⟨_, rfl⟩
  have hnn9 : 1 ≤ nn ∧ nn ≤ 9 := by omega
  obtain ⟨p, hp⟩ : ∃ p : Nat, p = o % nn := ⟨_, rfl⟩
  have hpn : p < nn := by rw [hp]; exact Nat.mod_lt _ (by omega)
  have e1 : (mQ : Int) + ((o : Int) / 64) = (nn : Int) := by omega
  have e2 : (o : Int).tmod (nn : Int) = (p : Int) := by rw [Int.tmod_eq_emod_of_nonneg (by omega), hp]; rfl
  have e3 : ((nn : Int) == 0) = false := by simp; omega
  have hA := fun W => All_calls (nn : Int) W
  have alb : (allN (nn : Int)).testBit p = true := by rw [allN_bit _ _ (by omega)]; simp; omega
  have all32 := allN_lt (nn : Int)
  obtain ⟨al, hal⟩ : ∃ al, al = allN (nn : Int) := ⟨_, rfl⟩
  rw [← hal] at hA alb all32
  have hp9 : p < 9 := by omega
  clear hnn hp hal lQ
  go_wp2_with fail
  refine (hA _).mono ?_
  rintro e w9 ⟨rfl, hw9⟩
  have hw9 := hw9.symm
  subst hw9
  clear hA
  have hbk3 : ∀ k, (Value.slice A3 mM c3).ownBlock = some k → k = b3 := hbk3
  have hrm : RowC 38 w3 w1.heap.size (.slice A3 mM c3) (mts al M 0) := by rw [mts_zero]; exact hrc
  have KB3 := Lib.hid hbk3
  clear hrc hbk3
  go_wp2_with fail
  go_loopw [17, 50] (fun _ i wr => ∃ k : Nat, k ≤ mM ∧ i = .int .i64 k ∧ RowC 38 wr w1.heap.size (.slice A3 mM c3) (mts al M k) ∧ Sl wr bc A4 (kv J) ∧ Sl wr b5 A5 (kv J) ∧ Is wr bq A7 Q ∧ Below wd.heap.size wd wr ∧ w3.heap.size ≤ wr.heap.size) (fun _ i _ => mM - (intOf i).toNat)
  case atStart => exact ⟨0, Nat.zero_le _, rfl, hrm, hsl4, hsl5, hsl7, hb3, Nat.le_refl _⟩
  case round =>
    clear hrm hsl4 hsl5 hsl7 hb3 hT3 kd
    obtain ⟨k, hk, rfl, hrm, hsl4, hsl5, hsl7, hb, hz⟩ := hrel
    by_cases hlt : k < mM
    · have hkM : k < M.length := by rw [← HmM.out]; exact hlt
      have hka : k < (mts al M k).length := by rw [mts_length]; exact hkM
      have hne3 := hlt3 (by omega)
      obtain ⟨g, cap, hv, hg, hgl, hcap, k1, kf, kset⟩ := hrm.set_lab hka
      have hv0 := KB3.out
      injection hv with hvA hvn hvc
      rw [hvA] at hv0
      obtain rfl : g = b3 := hv0 g rfl
      clear hv0 hvn hvc
      rw [mts_at hkM (Nat.le_refl k)] at k1 kset
      have hy := (okC_get oM hkM).2
      have hMt := fun W A2 bb2 hs2 => MMeet_calls M[k].2 A2 [al] 1 1 bb2 W hy (by intro q hq; simp at hq; rw [hq]; exact all32) hs2 rfl (by omega)
      rw [meet_one] at hMt
      have HSET := Lib.hid (mts_set (al := al) hkM)
      have KSET := Lib.hid kset
      obtain ⟨X, hX⟩ : ∃ X, X = M[k].1 := ⟨_, rfl⟩
      obtain ⟨Y, hY⟩ : ∃ Y, Y = M[k].2 := ⟨_, rfl⟩
      rw [← hX] at KSET
      rw [← hX, ← hY] at HSET
      rw [← hY] at k1 hMt
      have hx0 := kf (k * 2 + 1)
      have hmsk : Sl (wr.alloc (.cells #[.int .u32 (al : Int)] 35)) wr.heap.size (some ⟨wr.heap.size, 0, none⟩) (ms [al]) := Sl.cells_new wr #[.int .u32 (al : Int)] 35
      have ej : (k : Int) < (mM : Int) := by omega
      have hgw : wd.heap.size ≤ g := by omega
      obtain ⟨Z, hZ⟩ : ∃ Z, Z = Y &&& al := ⟨_, rfl⟩
      rw [← hZ] at hMt HSET
      have hg4 : bc ≠ g := by omega
      have hg5 : 0 < J.length → b5 ≠ g := by omega
      have hgq : bq ≠ g := by omega
      clear hX hY hZ hka hrm kf kset hy hlt3
      subst hvA
      go_wp2_with fail
      refine (hMt _ _ wr.heap.size hmsk).mono ?_
      rintro e wx ⟨rfl, hwx⟩
      have hwx := hwx.symm
      subst hwx
      go_wp2_with fail
      have hr2 := KSET.out Z ((wr.setCell ⟨g, k * 2 + 1, none⟩ (.int .u32 (Z : Int))).alloc (.cells #[.int .u32 (al : Int)] 35)) (Below.heap_alloc _ _ g (by simp; exact hgl))
      rw [HSET.out] at hr2
      have hal1 := below_alloc1 (wr.setCell ⟨g, k * 2 + 1, none⟩ (.int .u32 (Z : Int))) (.cells #[.int .u32 (al : Int)] 35)
      go_roundw
      case rel => exact ⟨k + 1, by omega, by go_num, hr2, Sl.ext (Sl.setCell hsl4 hg4 _) hal1, Sl.ext (sl_set5 hsl5 hg5 _) hal1, Sl.ext (Sl.setCell hsl7 hgq _) hal1, (hb.setCell hgw _).alloc (by simp; have := hb.size; omega) (.cells #[.int .u32 (al : Int)] 35), by simp; omega⟩
      case measure => simp [intOf]; omega
    · obtain rfl : mM = k := by omega
      have lMM : mM ≤ 48 := by rw [HmM.out]; exact lM
      obtain ⟨C, hC⟩ : ∃ C, C = mts al M mM := ⟨_, rfl⟩
      have lC : C.length = mM := by rw [hC, mts_length]; exact HmM.out.symm
      have oC : okC C := by rw [hC]; exact mts_ok _ oM
      rw [← hC] at hrm
      obtain ⟨A3', c3', b3', hv3, hc3', -, -, -, hsl3, -⟩ := hrm.sl
      rw [lC] at hv3 hc3'
      injection hv3 with h31 h32 h33
      subst h31 h33
      obtain ⟨wl, hwl⟩ : ∃ wl, wl = wr := ⟨_, rfl⟩
      rw [← hwl] at hsl3 hsl4 hsl5 hsl7 hb hz ⊢
      clear hwl hC hrm h32
      have LC := Lib.hid lC
      have hCk := fun W h => RCheck_calls A5 J mJ c5 b5 mM mQ W h HmJ.out.symm (by rw [HmJ.out]; simp only [maxLen]; omega) oJ (by omega) (by omega)
      obtain ⟨V, hV⟩ : ∃ V, V = checkV J mM mQ := ⟨_, rfl⟩
      rw [← hV] at hCk
      clear lC hV KB3 hlt
      cases hv2 : V.2 with
      | false =>
        rw [hv2] at hCk
        have hCk : ∀ W, Sl W b5 A5 (kv J) → Calls Tryd.prog 18 #[.slice A5 mJ c5, .int .i64 (mM : Int), .int .i64 (mQ : Int)] W fun e w' => e = .returned (.int .i64 ((V.1 : Nat) : Int)) ∧ Below W.heap.size W w' := hCk
        obtain ⟨vn, hvn⟩ : ∃ vn, vn = V.1 := ⟨_, rfl⟩
        rw [← hvn] at hCk
        clear hv2 hvn
        go_wp2_with fail
        refine (hCk _ hsl5).mono ?_
        rintro e w6 ⟨rfl, h6⟩
        have hb6 := hb.trans (h6.mono hb.size)
        clear hCk hsl5 h6
        go_wp2_with fail
        go_ret
        exact ⟨rfl, HBD.out.trans (hb6.mono HBD.out.size)⟩
      | true =>
        rw [hv2] at hCk
        have hCk : ∀ W, Sl W b5 A5 (kv J) → Calls Tryd.prog 18 #[.slice A5 mJ c5, .int .i64 (mM : Int), .int .i64 (mQ : Int)] W fun e w' => e = .returned (.int .i64 (-1)) ∧ Below W.heap.size W w' := hCk
        clear hv2
        go_wp2_with fail
        refine (hCk _ hsl5).mono ?_
        rintro e w6 ⟨rfl, h6⟩
        have hsl3 := Sl.ext hsl3 h6
        have hsl4 := Sl.ext hsl4 h6
        have hsl7 := Sl.ext hsl7 h6
        have hz := Nat.le_trans hz h6.size
        have hb := hb.trans (h6.mono hb.size)
        clear hCk hsl5 h6
        go_wp2_with fail
        have hN := New_in A3 C mM c3 b3' w6 hsl3 LC.out lMM
        refine hN.mono ?_
        rintro e w7 ⟨rfl, h7⟩
        have l7 := BoxL.new_ w7 C
        have hsl4 := Sl.ext (Sl.ext hsl4 h7) (below_alloc1 w7 (.cells (bdL C) 44))
        have hsl7 := Sl.ext (Sl.ext hsl7 h7) (below_alloc1 w7 (.cells (bdL C) 44))
        have hb := hb.trans (h7.mono hb.size)
        have hb := hb.alloc hb.size (.cells (bdL C) 44)
        have hz := Nat.le_trans hz h7.size
        obtain ⟨G, hG⟩ : ∃ G, G = w7.heap.size := ⟨_, rfl⟩
        have hGz : w3.heap.size ≤ G := by omega
        have z7 : (w7.alloc (.cells (bdL C) 44)).heap.size = G + 1 := by rw [hG]; simp
        rw [← hG] at l7
        have HG := Lib.hid hG.symm
        obtain ⟨w8, hw8⟩ : ∃ w8, w8 = w7.alloc (.cells (bdL C) 44) := ⟨_, rfl⟩
        have hwG : wd.heap.size ≤ G + 1 := by have h5 := hb.size; rw [z7] at h5; exact h5
        have h0g : w.heap.size ≠ G + 1 := by omega
        have hcg : bc ≠ G + 1 := by omega
        have hqg : bq ≠ G + 1 := by omega
        have hGG : G ≠ G + 1 := by omega
        obtain ⟨i0, hi0, hz0, hz1, hz2⟩ := info_parts i32_info
        have hqne : iv Q ≠ [] := by intro h; have h5 := congrArg List.length h; rw [iv_length, List.length_nil] at h5; have := HmQ.out; omega
        obtain ⟨off7, rfl, -⟩ := hsl7 hqne
        obtain ⟨w9, hmk, hrow, hgrow⟩ := run_make_full (P := Tryd.prog) (w7.alloc (.cells (bdL C) 44)) (G + 1) 24 21 i0 (.int .i32 0) 1 Tryd.underlying24 hi0 hz0 hz1 .i64 .i64 mQ (by rw [hz2]; omega) (by simp only [maxLen]; omega) (by rw [z7]; exact Nat.le_refl _)
        have h9 : Below (w7.alloc (.cells (bdL C) 44)).heap.size (w7.alloc (.cells (bdL C) 44)) w9 := (Mod.of_grown hgrow).below (Nat.le_refl _) (fun i _ h => by cases h)
        rw [z7] at hmk hrow
        rw [made_i32] at hrow
        have hsl4 := Sl.ext hsl4 h9
        have hsl7 := Sl.ext hsl7 h9
        have l9 := l7.ext h9
        have hb := hb.trans (h9.mono hb.size)
        have hz9 := h9.size
        rw [z7] at hz9
        clear hN hG h7 hw8 w8 hqne z7 hgrow h9 l7 hi0 hz0 hz1 hz2
        go_upto_if 84 with (first | ((with_reducible refine at_al 44 18 ?_); refine wpList_al rfl rfl (some 18) rfl G HG.out ?_) | ((with_reducible refine at_st 44 18 76 ?_); refine wpList_put rfl (.tmp 18) (.tmp 76) rfl HG.out C rfl rfl ?_))
        go_cut [] (fun wx => ∃ wz : World, wz = wx ∧ BoxL wz G C ∧ Sl wz bc A4 (kv J) ∧ Is wz bq (some ⟨bq, off7, none⟩) Q ∧ Is wz (G + 1) (some ⟨G + 1, 0, none⟩) (mine p Q) ∧ Below wd.heap.size wd wz ∧ w9.heap.size ≤ wz.heap.size)
        case first =>
          by_cases hpq : p < mQ
          · have hpQ : p < Q.length := by rw [← HmQ.out]; exact hpq
            have ep : (p : Int) < (mQ : Int) := by omega
            obtain ⟨x, hx⟩ : ∃ x, x = Q[p] := ⟨_, rfl⟩
            have hxv : (iv Q)[p]? = some (.int .i32 x) := by rw [hx]; exact iv_get Q p hpQ
            have hmine := mine_in hpQ
            rw [← hx, ← HmQ.out] at hmine
            have HMINE := Lib.hid hmine
            have HXV := Lib.hid hxv
            have hrow0 := hrow
            obtain ⟨g9, cap9, hv9, -, -, -, hc9, kf9, ks9⟩ := own_set hrow (by omega)
            have hc9 := hc9 p (.int .i32 0) (by simp [iv, hpq])
            injection hv9 with hv9 q1 q2
            clear q1 q2
            injection hv9 with hv9
            injection hv9 with hv9 q1
            clear q1
            subst hv9
            have kf9 := kf9 p
            have hq9 := sl_at hsl7 HXV.out
            have hm10 := ks9 p (.int .i32 x) (w9.setCell ⟨G + 1, p, none⟩ (.int .i32 x)) rfl
            rw [iv_set, HMINE.out] at hm10
            have hmIs := own_is hm10
            clear hx hpQ hpq hxv hmine ks9 hrow hrow0 hm10 HMINE HXV
            go_wp2_with fail
            go_meet
            exact ⟨_, rfl, l9.other (p := ⟨G + 1, p, none⟩) hGG _, Sl.setCell (p := ⟨G + 1, p, none⟩) hsl4 hcg _, Sl.setCell (p := ⟨G + 1, p, none⟩) hsl7 hqg _, hmIs, hb.setCell (p := ⟨G + 1, p, none⟩) hwG _, by simp⟩
          · have ep : ¬ (p : Int) < (mQ : Int) := by omega
            have hmIs : Is w9 (G + 1) (some ⟨G + 1, 0, none⟩) (mine p Q) := by rw [← mine_out (by rw [← HmQ.out]; exact hpq), ← HmQ.out]; exact own_is hrow
            clear hpq
            go_wp2_with fail
            go_meet
            exact ⟨_, rfl, l9, hsl4, hsl7, hmIs, hb, Nat.le_refl _⟩
        case rest =>
          clear l9 hsl4 hsl7 hrow hb hmk hsl3 hz hGG h0g hcg hqg
          obtain ⟨wy, rfl, l10, s410, s710, hmIs, b10, z10⟩ := hcut
          have d10 := (KD.out.ext b10).cell
          have oF := mine_fit p oQ
          have lmn : (mine p Q).length = mQ := by rw [mine_length]; exact HmQ.out.symm
          have hT10 := HTT.out.ext b10
          have hszb : bc < wy.heap.size ∧ bq < wy.heap.size ∧ G + 1 ≤ wy.heap.size := by omega
          have hR := Run_calls compN comp_ok comp_fit ⟨J, Q, tk, al⟩ A4 c4 bc (some ⟨bq, off7, none⟩) c7 bq C d wy ⟨s410, s710, oJ, by simp only [maxLen]; show J.length ≤ _; omega, by show Q.length ≤ 100; rw [← HmQ.out]; omega, oQ, by rw [LC.out]; exact lMM, oC, all32, hT10, hszb.1, hszb.2.1⟩
          have hR : Calls Tryd.prog 21 #[.slice A4 mJ c4, .agg (bdL C), .agg #[.int .u64 (d : Int)], .slice (some ⟨bq, off7, none⟩) mQ c7, .int .u32 (tk : Int), .int .u32 (al : Int)] wy fun e w' => ∃ sh, e = .returned (.agg (resA sh (wholeV compN ⟨J, Q, tk, al⟩ C d))) ∧ RowS w' wy.heap.size sh (wholeV compN ⟨J, Q, tk, al⟩ C d).sh ∧ Below wy.heap.size wy w' := by rw [HmJ.out, HmQ.out]; exact hR
          obtain ⟨F, hF⟩ : ∃ F, F = wholeV compN ⟨J, Q, tk, al⟩ C d := ⟨_, rfl⟩
          obtain ⟨D, hD⟩ : ∃ D, D = viewL (p : Int) C := ⟨_, rfl⟩
          obtain ⟨F2, hF2⟩ : ∃ F2, F2 = wholeV compN ⟨J, mine p Q, tk, al⟩ D 0 := ⟨_, rfl⟩
          have hvw := views_whole (J := J) (Q := Q) (M := C) (tk := tk) (al := al) (p := p) d 0 (by omega) all32 alb oJ oC oQ hF (G := F2) (by rw [hF2, hD])
          have hsok := whole_shok compN ⟨J, Q, tk, al⟩ all32 C d
          have hwl := whole_len (P := ⟨J, Q, tk, al⟩) (L := C) (d := d) all32 oQ oJ oC
          have lD : D.length = mM := by rw [hD]; simp; exact LC.out
          have oD : okC D := by rw [hD]; exact okC_view oC _
          have hwl2 := whole_len (P := ⟨J, mine p Q, tk, al⟩) (L := D) (d := 0) all32 oF oJ oD
          rw [← hF] at hR hsok hwl
          rw [← hF2] at hwl2
          rw [LC.out] at hwl
          rw [lD] at hwl2
          have hVw := fun W => View_calls C (p : Int) W (by rw [LC.out]; exact lMM) oC
          rw [← hD] at hVw
          have HVW := Lib.hid hvw
          have HF2 := Lib.hid hF2
          have LD := Lib.hid lD
          have LMN := Lib.hid lmn
          have HOK := Lib.hid hsok
          have HWL := Lib.hid hwl
          have HWL2 := Lib.hid hwl2
          clear hF hD hF2 hvw hT10 lmn lD hsok hwl hwl2
          go_wp2_with (first | ((with_reducible refine at_ld 44 18 ?_); refine wpList_ld (by first | rfl | simp [Region.wanted, yielded]) (.tmp 18) rfl G rfl C l10 ?_))
          clear s710 d10
          refine hR.mono ?_
          rintro e wa ⟨sh, rfl, hSh, ha⟩
          obtain ⟨A8, c8, b8, rfl, hc8, hm8, hs8⟩ := rowS_sl hSh
          obtain ⟨nS, hnS⟩ : ∃ nS, nS = F.sh.length := ⟨_, rfl⟩
          rw [← hnS] at hc8 ⊢
          have HNS := Lib.hid hnS
          obtain ⟨sh, hsh⟩ : ∃ sh, sh = Value.slice A8 nS c8 := ⟨_, rfl⟩
          have r1 := BoxR.new_ wa sh F
          have l11 := (l10.ext ha).alloc (.cells (resA sh F) 50)
          have hs8 := Sl.alloc hs8 (.cells (resA sh F) 50)
          have s411 := Sl.alloc (Sl.ext s410 ha) (.cells (resA sh F) 50)
          have hm11 := Sl.alloc (Sl.ext hmIs ha) (.cells (resA sh F) 50)
          have b11 := b10.trans (ha.mono b10.size)
          have b11 := b11.alloc b11.size (.cells (resA sh F) 50)
          have hone : sh.oneCell' = true := by rw [hsh]; rfl
          obtain ⟨K1, hK1⟩ : ∃ K1, K1 = wa.heap.size := ⟨_, rfl⟩
          have z11 : wy.heap.size ≤ K1 := by rw [hK1]; exact ha.size
          have z12 : (wa.alloc (.cells (resA sh F) 50)).heap.size = K1 + 1 := by rw [hK1]; simp
          rw [← hK1] at r1
          have HK1 := Lib.hid hK1.symm
          rw [← hsh]
          have HSH := Lib.hid hsh
          clear hR hSh ha hK1 hsh hnS l10 s410 hmIs b10
          go_wp2_with (first | ((with_reducible refine at_al 50 21 ?_); refine wpList_alR rfl rfl (some 21) rfl K1 HK1.out ?_) | ((with_reducible refine at_st 50 21 98 ?_); refine wpList_putR rfl (.tmp 21) (.tmp 98) rfl HK1.out sh F hone rfl rfl ?_) | ((with_reducible refine at_ld 44 18 ?_); refine wpList_ld (by first | rfl | simp [Region.wanted, yielded]) (.tmp 18) rfl G rfl C l11 ?_))
          refine (hVw _).mono ?_
          rintro e wb ⟨rfl, h12⟩
          have r1 := r1.ext h12
          have hs8 := Sl.ext hs8 h12
          have s412 := Sl.ext s411 h12
          have hm12 := Sl.ext hm11 h12
          have b12 := b11.trans (h12.mono b11.size)
          have hT12 := HTT.out.ext b12
          have z13 := h12.size
          rw [z12] at z13
          clear hVw h12 s411 hm11 b11 l11
          go_wp2_with fail
          have hszc : bc < wb.heap.size ∧ G + 1 < wb.heap.size := by omega
          have hR := Run_calls compN comp_ok comp_fit ⟨J, mine p Q, tk, al⟩ A4 c4 bc (some ⟨G + 1, 0, none⟩) mQ (G + 1) D 0 wb ⟨s412, hm12, oJ, by simp only [maxLen]; show J.length ≤ _; omega, by show (mine p Q).length ≤ 100; rw [LMN.out]; omega, oF, by rw [LD.out]; exact lMM, oD, all32, hT12, hszc.1, hszc.2⟩
          have hR : Calls Tryd.prog 21 #[.slice A4 mJ c4, .agg (bdL D), .agg #[.int .u64 0], .slice (some ⟨G + 1, 0, none⟩) mQ mQ, .int .u32 (tk : Int), .int .u32 (al : Int)] wb fun e w' => ∃ sh, e = .returned (.agg (resA sh F2)) ∧ RowS w' wb.heap.size sh F2.sh ∧ Below wb.heap.size wb w' := by
            have hR := hR
            rw [← HF2.out] at hR
            have e1 := LMN.out
            have e2 := HmJ.out
            have hR2 : Calls Tryd.prog 21 #[.slice A4 J.length c4, .agg (bdL D), .agg #[.int .u64 0], .slice (some ⟨G + 1, 0, none⟩) (mine p Q).length mQ, .int .u32 (tk : Int), .int .u32 (al : Int)] wb fun e w' => ∃ sh, e = .returned (.agg (resA sh F2)) ∧ RowS w' wb.heap.size sh F2.sh ∧ Below wb.heap.size wb w' := hR
            rw [e1, ← e2] at hR2
            exact hR2
          refine hR.mono ?_
          rintro e wc ⟨sh2, rfl, hSh2, h14⟩
          have hone2 := rowS_one hSh2
          have r2 := BoxR.new_ wc sh2 F2
          have r1 := (r1.ext h14).al (.cells (resA sh2 F2) 50)
          have hs8 := Sl.alloc (Sl.ext hs8 h14) (.cells (resA sh2 F2) 50)
          have b13 := b12.trans (h14.mono b12.size)
          have b13 := b13.alloc b13.size (.cells (resA sh2 F2) 50)
          obtain ⟨K2, hK2⟩ : ∃ K2, K2 = wc.heap.size := ⟨_, rfl⟩
          rw [← hK2] at r2
          have HK2 := Lib.hid hK2.symm
          have a1 := r1.cS
          rw [HSH.out] at a1
          clear hR hSh2 h14 hK2 s412 hm12 b12 hT12
          go_wp2_with (first | ((with_reducible refine at_al 50 22 ?_); refine wpList_alR rfl rfl (some 22) rfl K2 HK2.out ?_) | ((with_reducible refine at_st 50 22 107 ?_); refine wpList_putR rfl (.tmp 22) (.tmp 107) rfl HK2.out sh2 F2 hone2 rfl rfl ?_))
          obtain ⟨wk, hwk⟩ : ∃ wk, wk = wc.alloc (.cells (resA sh2 F2) 50) := ⟨_, rfl⟩
          rw [← hwk] at r1 r2 hs8 b13 a1 ⊢
          clear hwk a1
          have hbz := b13.size
          go_loopw [24, 111] (fun _ i wr => ∃ k : Nat, k ≤ nS ∧ i = .int .i64 k ∧ (∀ j (h : j < F.sh.length), j < k → F.sh[j].2.1.testBit p = false) ∧ Below wk.heap.size wk wr) (fun _ i _ => nS - (intOf i).toNat)
          case atStart => exact ⟨0, Nat.zero_le _, rfl, fun j _ h => by omega, Below.refl _ _⟩
          case round =>
            obtain ⟨k, hk, rfl, hno, hb⟩ := hrel
            by_cases hlt : k < nS
            · have hkS : k < F.sh.length := by rw [← HNS.out]; exact hlt
              obtain ⟨off8, rfl, hc⟩ := (Sl.ext hs8 hb) (by intro h0; have h5 := congrArg List.length h0; rw [sv_length, List.length_nil] at h5; omega)
              obtain ⟨g0, g1, g2⟩ := sv_get hkS
              have c0 := hc _ _ g0
              have c1 := hc _ _ g1
              have c2 := hc _ _ g2
              rw [← Nat.add_assoc] at c1 c2
              have hml := HOK.out _ (List.getElem_mem hkS)
              obtain ⟨⟨x1, x2, x3⟩, hx⟩ : ∃ q, q = F.sh[k] := ⟨_, rfl⟩
              rw [← hx] at c0 c1 c2 hml
              simp only at c0 c1 c2 hml
              have hHo := fun W => MHas_calls x2 (p : Int) W hml
              rw [sees_of x2 (by omega)] at hHo
              obtain ⟨tb, htb⟩ : ∃ tb, tb = x2.testBit p := ⟨_, rfl⟩
              rw [← htb] at hHo
              have HX := Lib.hid (show tb = F.sh[k].2.1.testBit p by rw [← hx]; exact htb)
              have HNO := Lib.hid hno
              have ej : (k : Int) < (nS : Int) := by omega
              have hb2 := hb.alloc hb.size (.cells #[.int .i64 (x1 : Int), .int .u32 (x2 : Int), .int .i32 x3] 53)
              clear hx htb hc g0 g1 g2 hno
              go_wp2_with fail
              refine (hHo _).mono ?_
              rintro e wx ⟨rfl, hwx⟩
              have hwx := hwx.symm
              subst hwx
              cases tb with
              | true =>
                go_wp2_with fail
                go_ret
                exact ⟨rfl, HBD.out.trans ((b13.trans (hb2.mono hbz)).mono HBD.out.size)⟩
              | false =>
                go_wp2_with fail
                go_roundw
                case rel => exact ⟨k + 1, by omega, by go_num, fun j hj hjk => (by
                  by_cases e : j = k
                  · subst e; exact HX.out.symm
                  · exact HNO.out j hj (by omega)), hb2⟩
                case measure => simp [intOf]; omega
            · obtain rfl : nS = k := by omega
              obtain ⟨f1, f2, f3⟩ : F.e = F2.e ∧ F.t = F2.t ∧ viewL (p : Int) F2.L = viewL (p : Int) F.L := by
                rcases HVW.out with ⟨x, hx, hxp⟩ | h
                · obtain ⟨j, hj, rfl⟩ := List.getElem_of_mem hx
                  have := hno j hj (by rw [HNS.out]; exact hj)
                  rw [this] at hxp
                  cases hxp
                · exact h
              have r1 := r1.ext hb
              have r2 := r2.ext hb
              have b14 := HBD.out.trans ((b13.trans (hb.mono hbz)).mono HBD.out.size)
              have a1 := r1.cE
              have a2 := r1.cT
              have a3 := r2.cE
              have a4 := r2.cT
              rw [← f1] at a3
              rw [← f2] at a4
              have FE := Lib.hid f1
              have FT := Lib.hid f2
              have hV1 := fun W => View_calls F.L (p : Int) W (by rw [HWL.out.1]; exact lMM) HWL.out.2
              have hV2 := fun W => View_calls F2.L (p : Int) W (by rw [HWL2.out.1]; exact lMM) HWL2.out.2
              rw [f3] at hV2
              have lX : (viewL (p : Int) F.L).length ≤ 48 := by simp; rw [HWL.out.1]; exact lMM
              obtain ⟨X, hX⟩ : ∃ X, X = viewL (p : Int) F.L := ⟨_, rfl⟩
              rw [← hX] at hV1 hV2 lX
              clear f1 f2 f3 hX hno hb hs8
              go_wp2_with fail
              refine wp_region_held_drew (S := fun w' => BoxR w' K1 sh F ∧ BoxR w' K2 sh2 F2) (by kernel_rfl) ?_ (fun hHeld => ?_)
              · exact ⟨r1, r2⟩
              refine wpAnyH_take (i := 0) (v := ?zv0) (by simp only [List.getElem?_toArray, List.getElem?_cons_zero]; rfl) (by kernel_rfl) (by kernel_rfl) (by kernel_rfl) (by exact fun _ _ _ h => h) (Or.inl ⟨by kernel_rfl, ?zy0⟩) hHeld ?_
              case zy0 => (intro w hSw; (try dsimp only at hSw); have hy0 := hSw.1.cE; have hy1 := hSw.1.cT; have hy2 := hSw.2.cE; have hy3 := hSw.2.cT; rw [← FE.out] at hy2; rw [← FT.out] at hy3; clear hSw; go_simp; try (with_reducible rfl))
              try simp only [Act.put, List.setIfInBounds_toArray, List.set_cons_zero, List.set_cons_succ]
              refine wpAnyH_take (i := 1) (v := ?zv1) (by simp only [List.getElem?_toArray, List.getElem?_cons_succ, List.getElem?_cons_zero]; rfl) (by kernel_rfl) (by kernel_rfl) (by kernel_rfl) (by exact fun _ _ _ h => h) (Or.inl ⟨by kernel_rfl, ?zy1⟩) hHeld ?_
              case zy1 => (intro w hSw; (try dsimp only at hSw); have hy0 := hSw.1.cE; have hy1 := hSw.1.cT; have hy2 := hSw.2.cE; have hy3 := hSw.2.cT; rw [← FE.out] at hy2; rw [← FT.out] at hy3; clear hSw; go_simp; try (with_reducible rfl))
              try simp only [Act.put, List.setIfInBounds_toArray, List.set_cons_zero, List.set_cons_succ]
              refine wpAnyH_take (i := 2) (v := ?zv2) (by simp only [List.getElem?_toArray, List.getElem?_cons_succ, List.getElem?_cons_zero]; rfl) (by kernel_rfl) (by kernel_rfl) (by kernel_rfl) (by exact fun _ _ _ h => h) (Or.inl ⟨by kernel_rfl, ?zy2⟩) hHeld ?_
              case zy2 => (intro w hSw; (try dsimp only at hSw); have hy0 := hSw.1.cE; have hy1 := hSw.1.cT; have hy2 := hSw.2.cE; have hy3 := hSw.2.cT; rw [← FE.out] at hy2; rw [← FT.out] at hy3; clear hSw; go_simp; try (with_reducible rfl))
              try simp only [Act.put, List.setIfInBounds_toArray, List.set_cons_zero, List.set_cons_succ]
              refine wpAnyH_take (i := 3) (v := ?zv3) (by simp only [List.getElem?_toArray, List.getElem?_cons_succ, List.getElem?_cons_zero]; rfl) (by kernel_rfl) (by kernel_rfl) (by kernel_rfl) (by exact fun _ _ _ h => h) (Or.inl ⟨by kernel_rfl, ?zy3⟩) hHeld ?_
              case zy3 => (intro w hSw; (try dsimp only at hSw); have hy0 := hSw.1.cE; have hy1 := hSw.1.cT; have hy2 := hSw.2.cE; have hy3 := hSw.2.cT; rw [← FE.out] at hy2; rw [← FT.out] at hy3; clear hSw; go_simp; try (with_reducible rfl))
              try simp only [Act.put, List.setIfInBounds_toArray, List.set_cons_zero, List.set_cons_succ]
              refine wpAnyH_take (i := 4) (v := ?zv4) (by simp only [List.getElem?_toArray, List.getElem?_cons_succ, List.getElem?_cons_zero]; rfl) (by kernel_rfl) (by kernel_rfl) (by kernel_rfl) (by exact fun _ _ _ h => h) (Or.inl ⟨by kernel_rfl, ?zy4⟩) hHeld ?_
              case zy4 => (intro w hSw; (try dsimp only at hSw); have hy0 := hSw.1.cE; have hy1 := hSw.1.cT; have hy2 := hSw.2.cE; have hy3 := hSw.2.cT; rw [← FE.out] at hy2; rw [← FT.out] at hy3; clear hSw; go_simp; try (with_reducible rfl))
              try simp only [Act.put, List.setIfInBounds_toArray, List.set_cons_zero, List.set_cons_succ]
              refine wpAnyH_take (i := 5) (v := ?zv5) (by simp only [List.getElem?_toArray, List.getElem?_cons_succ, List.getElem?_cons_zero]; rfl) (by kernel_rfl) (by kernel_rfl) (by kernel_rfl) (by exact fun _ _ _ h => h) (Or.inl ⟨by kernel_rfl, ?zy5⟩) hHeld ?_
              case zy5 => (intro w hSw; (try dsimp only at hSw); have hy0 := hSw.1.cE; have hy1 := hSw.1.cT; have hy2 := hSw.2.cE; have hy3 := hSw.2.cT; rw [← FE.out] at hy2; rw [← FT.out] at hy3; clear hSw; go_simp; try (with_reducible rfl))
              try simp only [Act.put, List.setIfInBounds_toArray, List.set_cons_zero, List.set_cons_succ]
              refine wpAnyH_take (i := 6) (v := ?zv6) (by simp only [List.getElem?_toArray, List.getElem?_cons_succ, List.getElem?_cons_zero]; rfl) (by kernel_rfl) (by kernel_rfl) (by kernel_rfl) (by exact fun _ _ _ h => h) (Or.inl ⟨by kernel_rfl, ?zy6⟩) hHeld ?_
              case zy6 => (intro w hSw; (try dsimp only at hSw); have hy0 := hSw.1.cE; have hy1 := hSw.1.cT; have hy2 := hSw.2.cE; have hy3 := hSw.2.cT; rw [← FE.out] at hy2; rw [← FT.out] at hy3; clear hSw; go_simp; try (with_reducible rfl))
              try simp only [Act.put, List.setIfInBounds_toArray, List.set_cons_zero, List.set_cons_succ]
              refine wpAnyH_take (i := 7) (v := ?zv7) (by simp only [List.getElem?_toArray, List.getElem?_cons_succ, List.getElem?_cons_zero]; rfl) (by kernel_rfl) (by kernel_rfl) (by kernel_rfl) (by exact fun _ _ _ h => h) (Or.inl ⟨by kernel_rfl, ?zy7⟩) hHeld ?_
              case zy7 => (intro w hSw; (try dsimp only at hSw); have hy0 := hSw.1.cE; have hy1 := hSw.1.cT; have hy2 := hSw.2.cE; have hy3 := hSw.2.cT; rw [← FE.out] at hy2; rw [← FT.out] at hy3; clear hSw; go_simp; try (with_reducible rfl))
              try simp only [Act.put, List.setIfInBounds_toArray, List.set_cons_zero, List.set_cons_succ]
              refine wpAnyH_take (i := 8) (v := ?zv8) (by simp only [List.getElem?_toArray, List.getElem?_cons_succ, List.getElem?_cons_zero]; rfl) (by kernel_rfl) (by kernel_rfl) (by kernel_rfl) (by exact fun _ _ _ h => h) (Or.inl ⟨by kernel_rfl, ?zy8⟩) hHeld ?_
              case zy8 => (intro w hSw; (try dsimp only at hSw); have hy0 := hSw.1.cE; have hy1 := hSw.1.cT; have hy2 := hSw.2.cE; have hy3 := hSw.2.cT; rw [← FE.out] at hy2; rw [← FT.out] at hy3; clear hSw; go_simp; try (with_reducible rfl))
              try simp only [Act.put, List.setIfInBounds_toArray, List.set_cons_zero, List.set_cons_succ]
              refine wpAnyH_take (i := 9) (v := ?zv9) (by simp only [List.getElem?_toArray, List.getElem?_cons_succ, List.getElem?_cons_zero]; rfl) (by kernel_rfl) (by kernel_rfl) (by kernel_rfl) (by exact fun _ _ _ h => h) (Or.inl ⟨by kernel_rfl, ?zy9⟩) hHeld ?_
              case zy9 => (intro w hSw; (try dsimp only at hSw); have hy0 := hSw.1.cE; have hy1 := hSw.1.cT; have hy2 := hSw.2.cE; have hy3 := hSw.2.cT; rw [← FE.out] at hy2; rw [← FT.out] at hy3; clear hSw; go_simp; try (with_reducible rfl))
              try simp only [Act.put, List.setIfInBounds_toArray, List.set_cons_zero, List.set_cons_succ]
              refine wpAnyH_take (i := 10) (v := ?zv10) (by simp only [List.getElem?_toArray, List.getElem?_cons_succ, List.getElem?_cons_zero]; rfl) (by kernel_rfl) (by kernel_rfl) (by kernel_rfl) (by exact fun _ _ _ h => h) (Or.inl ⟨by kernel_rfl, ?zy10⟩) hHeld ?_
              case zy10 => (intro w hSw; (try dsimp only at hSw); have hy0 := hSw.1.cE; have hy1 := hSw.1.cT; have hy2 := hSw.2.cE; have hy3 := hSw.2.cT; rw [← FE.out] at hy2; rw [← FT.out] at hy3; clear hSw; go_simp; try (with_reducible rfl))
              try simp only [Act.put, List.setIfInBounds_toArray, List.set_cons_zero, List.set_cons_succ]
              refine wpAnyH_take (i := 11) (v := ?zv11) (by simp only [List.getElem?_toArray, List.getElem?_cons_succ, List.getElem?_cons_zero]; rfl) (by kernel_rfl) (by kernel_rfl) (by kernel_rfl) (by exact fun _ _ _ h => h) (Or.inl ⟨by kernel_rfl, ?zy11⟩) hHeld ?_
              case zy11 => (intro w hSw; (try dsimp only at hSw); have hy0 := hSw.1.cE; have hy1 := hSw.1.cT; have hy2 := hSw.2.cE; have hy3 := hSw.2.cT; rw [← FE.out] at hy2; rw [← FT.out] at hy3; clear hSw; go_simp; try (with_reducible rfl))
              try simp only [Act.put, List.setIfInBounds_toArray, List.set_cons_zero, List.set_cons_succ]
              refine wpAnyH_take (i := 12) (v := ?zv12) (by simp only [List.getElem?_toArray, List.getElem?_cons_succ, List.getElem?_cons_zero]; rfl) (by kernel_rfl) (by kernel_rfl) (by kernel_rfl) (by exact fun _ _ _ h => h) (Or.inl ⟨by kernel_rfl, ?zy12⟩) hHeld ?_
              case zy12 => (intro w hSw; (try dsimp only at hSw); have hy0 := hSw.1.cE; have hy1 := hSw.1.cT; have hy2 := hSw.2.cE; have hy3 := hSw.2.cT; rw [← FE.out] at hy2; rw [← FT.out] at hy3; clear hSw; go_simp; try (with_reducible rfl))
              try simp only [Act.put, List.setIfInBounds_toArray, List.set_cons_zero, List.set_cons_succ]
              refine wpAnyH_take (i := 13) (v := ?zv13) (by simp only [List.getElem?_toArray, List.getElem?_cons_succ, List.getElem?_cons_zero]; rfl) (by kernel_rfl) (by kernel_rfl) (by kernel_rfl) (by exact fun _ _ _ h => h) (Or.inl ⟨by kernel_rfl, ?zy13⟩) hHeld ?_
              case zy13 => (intro w hSw; (try dsimp only at hSw); have hy0 := hSw.1.cE; have hy1 := hSw.1.cT; have hy2 := hSw.2.cE; have hy3 := hSw.2.cT; rw [← FE.out] at hy2; rw [← FT.out] at hy3; clear hSw; go_simp; try (with_reducible rfl))
              try simp only [Act.put, List.setIfInBounds_toArray, List.set_cons_zero, List.set_cons_succ]
              refine wpAnyH_take (i := 14) (by simp only [List.getElem?_toArray, List.getElem?_cons_succ, List.getElem?_cons_zero]; rfl) (by kernel_rfl) (by kernel_rfl) (by kernel_rfl) (by exact fun _ _ _ h => h) (by exact yieldsIf_ldRB (by kernel_rfl) (.tmp 133) rfl K2 rfl (fun _ h => h.2)) hHeld ?_
              try simp only [Act.put, List.setIfInBounds_toArray, List.set_cons_zero, List.set_cons_succ]
              refine wpAnyH_take (i := 15) (v := ?zv15) (by simp only [List.getElem?_toArray, List.getElem?_cons_succ, List.getElem?_cons_zero]; rfl) (by kernel_rfl) (by kernel_rfl) (by kernel_rfl) (by exact fun _ _ _ h => h) (Or.inl ⟨by kernel_rfl, ?zy15⟩) hHeld ?_
              case zy15 => (intro w hSw; (try dsimp only at hSw); have hy0 := hSw.1.cE; have hy1 := hSw.1.cT; have hy2 := hSw.2.cE; have hy3 := hSw.2.cT; rw [← FE.out] at hy2; rw [← FT.out] at hy3; clear hSw; go_simp; try (with_reducible rfl))
              try simp only [Act.put, List.setIfInBounds_toArray, List.set_cons_zero, List.set_cons_succ]
              refine wpAnyH_take (i := 17) (v := ?zv17) (by simp only [List.getElem?_toArray, List.getElem?_cons_succ, List.getElem?_cons_zero]; rfl) (by kernel_rfl) (by kernel_rfl) (by kernel_rfl) (by exact fun _ _ _ h => h) (Or.inl ⟨by kernel_rfl, ?zy17⟩) hHeld ?_
              case zy17 => (intro w hSw; (try dsimp only at hSw); have hy0 := hSw.1.cE; have hy1 := hSw.1.cT; have hy2 := hSw.2.cE; have hy3 := hSw.2.cT; rw [← FE.out] at hy2; rw [← FT.out] at hy3; clear hSw; go_simp; try (with_reducible rfl))
              try simp only [Act.put, List.setIfInBounds_toArray, List.set_cons_zero, List.set_cons_succ]
              refine wpAnyH_take (i := 18) (by simp only [List.getElem?_toArray, List.getElem?_cons_succ, List.getElem?_cons_zero]; rfl) (by kernel_rfl) (by kernel_rfl) (by kernel_rfl) (by exact fun _ _ _ h => h) (by exact yieldsIf_ldRB (by kernel_rfl) (.tmp 137) rfl K1 rfl (fun _ h => h.1)) hHeld ?_
              try simp only [Act.put, List.setIfInBounds_toArray, List.set_cons_zero, List.set_cons_succ]
              refine wpAnyH_take (i := 19) (v := ?zv19) (by simp only [List.getElem?_toArray, List.getElem?_cons_succ, List.getElem?_cons_zero]; rfl) (by kernel_rfl) (by kernel_rfl) (by kernel_rfl) (by exact fun _ _ _ h => h) (Or.inl ⟨by kernel_rfl, ?zy19⟩) hHeld ?_
              case zy19 => (intro w hSw; (try dsimp only at hSw); have hy0 := hSw.1.cE; have hy1 := hSw.1.cT; have hy2 := hSw.2.cE; have hy3 := hSw.2.cT; rw [← FE.out] at hy2; rw [← FT.out] at hy3; clear hSw; go_simp; try (with_reducible rfl))
              try simp only [Act.put, List.setIfInBounds_toArray, List.set_cons_zero, List.set_cons_succ]
              refine wpAnyH_ready (rs := [16]) (by kernel_rfl) (by simp) ?_
              refine AllReadyH.cons (by simp only [List.getElem?_toArray, List.getElem?_cons_succ, List.getElem?_cons_zero]; rfl) (fun KK hKK => ?_) AllReadyH.nil
              rw [if_pos (by kernel_rfl)]
              go_simp
              refine (hV2 _).mono ?_
              rintro e w16 ⟨rfl, h16⟩
              have h16 := below_undrew2 h16
              have r1 := r1.ext h16
              have r2 := r2.ext h16
              have b14 := b14.trans (h16.mono b14.size)
              go_wp2_with fail
              refine hKK.out _ _ ?_ (fun hHeld => ?_)
              · exact ⟨r1, r2⟩
              clear hKK KK
              try simp only [Act.put, List.setIfInBounds_toArray, List.set_cons_zero, List.set_cons_succ]
              refine wpAnyH_ready (rs := [20]) (by kernel_rfl) (by simp) ?_
              refine AllReadyH.cons (by simp only [List.getElem?_toArray, List.getElem?_cons_succ, List.getElem?_cons_zero]; rfl) (fun KK hKK => ?_) AllReadyH.nil
              rw [if_pos (by kernel_rfl)]
              go_simp
              refine (hV1 _).mono ?_
              rintro e w17 ⟨rfl, h17⟩
              have r1 := r1.ext h17
              have r2 := r2.ext h17
              have b14 := b14.trans (h17.mono b14.size)
              go_wp2_with fail
              refine hKK.out _ _ ?_ (fun hHeld => ?_)
              · exact ⟨r1, r2⟩
              clear hKK KK
              try simp only [Act.put, List.setIfInBounds_toArray, List.set_cons_zero, List.set_cons_succ]
              refine wpAnyH_take (i := 21) (by simp only [List.getElem?_toArray, List.getElem?_cons_succ, List.getElem?_cons_zero]; rfl) (by kernel_rfl) (by kernel_rfl) (by kernel_rfl) (by exact fun _ _ _ h => h) (by exact yieldsIf_eql (by kernel_rfl) (.tmp 136) (.tmp 140) rfl X X rfl rfl lX true (by simp)) hHeld ?_
              try simp only [Act.put, List.setIfInBounds_toArray, List.set_cons_zero, List.set_cons_succ]
              refine wpAnyH_take (i := 22) (v := ?zv22) (by simp only [List.getElem?_toArray, List.getElem?_cons_succ, List.getElem?_cons_zero]; rfl) (by kernel_rfl) (by kernel_rfl) (by kernel_rfl) (by exact fun _ _ _ h => h) (Or.inl ⟨by kernel_rfl, ?zy22⟩) hHeld ?_
              case zy22 => (intro w hSw; (try dsimp only at hSw); have hy0 := hSw.1.cE; have hy1 := hSw.1.cT; have hy2 := hSw.2.cE; have hy3 := hSw.2.cT; rw [← FE.out] at hy2; rw [← FT.out] at hy3; clear hSw; go_simp; try (with_reducible rfl))
              try simp only [Act.put, List.setIfInBounds_toArray, List.set_cons_zero, List.set_cons_succ]
              refine wpAnyH_take (i := 23) (v := ?zv23) (by simp only [List.getElem?_toArray, List.getElem?_cons_succ, List.getElem?_cons_zero]; rfl) (by kernel_rfl) (by kernel_rfl) (by kernel_rfl) (by exact fun _ _ _ h => h) (Or.inl ⟨by kernel_rfl, ?zy23⟩) hHeld ?_
              case zy23 => (intro w hSw; (try dsimp only at hSw); have hy0 := hSw.1.cE; have hy1 := hSw.1.cT; have hy2 := hSw.2.cE; have hy3 := hSw.2.cT; rw [← FE.out] at hy2; rw [← FT.out] at hy3; clear hSw; go_simp; try (with_reducible rfl))
              try simp only [Act.put, List.setIfInBounds_toArray, List.set_cons_zero, List.set_cons_succ]
              refine wpAnyH_done (by kernel_rfl) ?_ _
              go_wp2_with fail
              go_ret
              exact ⟨rfl, b14⟩
end Go.Proofs.YtdijgidlachnjaaDoor
