/- VmHides: the walk. Conditions: the numbers fit; the table lies. -/
import Derived.Test.YtdijgidlachnjaaDoorZKReg
namespace Go.Proofs.YtdijgidlachnjaaDoor
open Go.RowKit

theorem sl_set5 {w : World} {b g k : Nat} {A : Option Addr} {J : List Cd} (h : Sl w b A (kv J)) (hne : 0 < J.length → b ≠ g) (u : Value) : Sl (w.setCell ⟨g, k, none⟩ u) b A (kv J) := by
  by_cases h0 : J = []
  · rw [h0]; exact Sl.nil_ _ _ _
  · exact Sl.setCell h (hne (List.length_pos_iff.2 h0)) u
theorem sl_setI {w : World} {b g k : Nat} {A : Option Addr} {J : List Int} (h : Is w b A J) (hne : 0 < J.length → b ≠ g) (u : Value) : Is (w.setCell ⟨g, k, none⟩ u) b A J := by
  by_cases h0 : J = []
  · rw [h0]; exact Sl.nil_ _ _ _
  · exact Sl.setCell h (hne (List.length_pos_iff.2 h0)) u
theorem sl_setC {w : World} {b g k : Nat} {A : Option Addr} {J : List (Int × Nat)} (h : Sl w b A (cv J)) (hne : 0 < J.length → b ≠ g) (u : Value) : Sl (w.setCell ⟨g, k, none⟩ u) b A (cv J) := by
  by_cases h0 : J = []
  · rw [h0]; exact Sl.nil_ _ _ _
  · exact Sl.setCell h (hne (List.length_pos_iff.2 h0)) u
theorem labs_snd {L M : List (Int × Nat)} (h : L.map Prod.snd = M.map Prod.snd) : labsL L = labsL M := by
  have e : ∀ L : List (Int × Nat), labsB L = (L.map Prod.snd).flatMap fun y => low y 4 := fun L => by simp only [labsB, List.flatMap_map]; rfl
  unfold labsL
  rw [e, e, h]
set_option maxHeartbeats 32000000 in
set_option maxRecDepth 40000 in
theorem VmHides_walk (A : Option Addr) (K : List Cd) (n c b : Nat) (A2 : Option Addr) (L : List (Int × Nat)) (n2 c2 b2 : Nat) (VA : Option Addr) (V : List Int) (nv vc vb : Nat) (d d2 : Nat) (A6 : Option Addr) (P : List Int) (n6 c6 b6 : Nat) (OA : Option Addr) (O : List Int) (no oc ob : Nat) (tk oo : Nat) (w : World) (hT : CTab w) (hs : Sl w b A (kv K)) (hn : K.length = n) (_hm : n ≤ maxLen) (hnc : n ≤ c) (hok : okK K)
    (hs2 : Sl w b2 A2 (cv L)) (hn2 : L.length = n2) (_hm2 : n2 ≤ maxLen) (hnc2 : n2 ≤ c2) (hok2 : okC L) (hsV : Is w vb VA V) (hnV : V.length = nv) (_hmV : nv ≤ maxLen) (_hncV : nv ≤ vc) (hokV : ∀ x ∈ V, -2147483648 ≤ x ∧ x ≤ 2147483647) (_hd : d < 18446744073709551616) (_hd2 : d2 < 18446744073709551616)
    (hs3 : Is w b6 A6 P) (hn3 : P.length = n6) (_hm3 : n6 ≤ maxLen) (hnc3 : n6 ≤ c6) (hok3 : ∀ x ∈ P, -2147483648 ≤ x ∧ x ≤ 2147483647) (hsO : Is w ob OA O) (hnO : O.length = no) (_hmO : no ≤ maxLen) (_hncO : no ≤ oc) (hokO : ∀ x ∈ O, -2147483648 ≤ x ∧ x ≤ 2147483647) (_htk : tk ≤ 4294967295) (ho : oo ≤ 255) :
    Calls Tryd.prog 3 #[.slice A n c, .slice A2 n2 c2, .slice VA nv vc, .agg #[.int .u64 (d : Int)], .agg #[.int .u64 (d2 : Int)], .slice A6 n6 c6, .slice OA no oc, .int .u32 (tk : Int), .int .u8 (oo : Int)] w fun e w' => e = .returned (.bool true) ∧ Below w.heap.size w w' := by
  have hok := fun x hx => hok x (List.mem_of_mem_take (i := 96) hx)
  have hok2 := fun x hx => hok2 x (List.mem_of_mem_take (i := 48) hx)
  have hFw := fun W h => FewC_calls A2 L n2 c2 b2 W h hn2 hnc2
  have hCd := fun W h => Codes_calls A K n c b W h hn hnc
  have hPl := fun W h => Players_calls A6 P n6 c6 b6 W h hn3 hnc3
  have lQ := playN_len P
  have oQ := playN_fit P hok3
  obtain ⟨Q, hQ⟩ : ∃ Q, Q = playN P := ⟨_, rfl⟩
  simp only [← hQ] at hPl lQ oQ
  obtain ⟨M, hM⟩ : ∃ M, M = L.take 48 := ⟨_, rfl⟩
  obtain ⟨J, hJ⟩ : ∃ J, J = K.take 96 := ⟨_, rfl⟩
  simp only [← hM] at hFw hok2
  simp only [← hJ] at hCd hok
  have lM : M.length ≤ 48 := by rw [hM, List.length_take]; omega
  have lJ : J.length ≤ 96 := by rw [hJ, List.length_take]; omega
  have oM : okC M := hok2
  have oJ : okK J := hok
  have kd := heap_alloc_new w (.cells #[.int .u64 (d : Int)] 27)
  have hb0 := below_alloc1 w (.cells #[.int .u64 (d : Int)] 27)
  have kd : Box (w.alloc (.cells #[.int .u64 (d : Int)] 27)) w.heap.size (.int .u64 (d : Int)) 27 := kd
  obtain ⟨w0, hw0⟩ : ∃ w0, w0 = w.alloc (.cells #[.int .u64 (d : Int)] 27) := ⟨_, rfl⟩
  have z0 : w0.heap.size = w.heap.size + 1 := by rw [hw0]; simp
  have ke := heap_alloc_new w0 (.cells #[.int .u64 (d2 : Int)] 27)
  have hb8 := below_alloc1 w0 (.cells #[.int .u64 (d2 : Int)] 27)
  have ke : Box (w0.alloc (.cells #[.int .u64 (d2 : Int)] 27)) w0.heap.size (.int .u64 (d2 : Int)) 27 := ke
  rw [← hw0] at kd hb0
  have kd := kd.ext hb8
  have hb0 := hb0.trans (hb8.mono (by omega))
  rw [z0] at ke
  have hT0 := hT.ext hb0
  have hs := Sl.ext hs hb0
  have hs2 := Sl.ext hs2 hb0
  have hs3 := Sl.ext hs3 hb0
  have hsV := Sl.ext hsV hb0
  have hsO := Sl.ext hsO hb0
  have hwd0 : w.heap.size + 1 < (w0.alloc (.cells #[.int .u64 (d2 : Int)] 27)).heap.size := by simp; omega
  obtain ⟨wd, hwd⟩ : ∃ wd, wd = w0.alloc (.cells #[.int .u64 (d2 : Int)] 27) := ⟨_, rfl⟩
  clear hM hJ hQ hok hok2 hok3 hn hn2 hn3 hnc hnc2 hnc3 hT z0 hb8
  go_enter Tryd.func3, Tryd.ntmps3
  go_wp2_with fail
  rw [← hw0, ← hwd]
  rw [← hwd] at kd ke hb0 hT0 hs hs2 hs3 hsV hwd0 hsO
  have KD := Lib.hid kd
  have KE := Lib.hid ke
  have HTT := Lib.hid hT0
  have HBD := Lib.hid hb0
  have HV := Lib.hid hsV
  have HO := Lib.hid hsO
  clear hwd hw0 hsV kd ke hsO
  refine (Awake_calls _ hT0).mono ?_
  rintro e w1 ⟨rfl, h1⟩
  have hT1 := hT0.ext h1
  have hs := Sl.ext hs h1
  have hs2 := Sl.ext hs2 h1
  have hs3 := Sl.ext hs3 h1
  have hb1 := h1
  clear hT0 hb0 h1
  go_wp2_with fail
  refine (hFw w1 hs2).mono ?_
  rintro e w2 ⟨v, rfl, hv, h2⟩
  have hT2 := hT1.ext h2
  have hs := Sl.ext hs h2
  have hb2 := hb1.trans (h2.mono hb1.size)
  have hrc := hv
  obtain ⟨A3, c3, b3, rfl, hc3, hm3, -, hB3, hsl3, hbk3⟩ := hv.sl
  have hw2 := hb1.size
  have hlt3 : 0 < M.length → b3 < w2.heap.size := fun h => Sl.lt hsl3 (by intro h0; have h5 := congrArg List.length h0; simp at h5; omega)
  have hs3 := Sl.ext hs3 h2
  clear hFw hs2 hT1 hb1 h2 hv hsl3
  go_wp2_with fail
  refine (hPl w2 hs3).mono ?_
  rintro e w2 ⟨v, rfl, hv, h2⟩
  have hT2 := hT2.ext h2
  have hs := Sl.ext hs h2
  have hq2 := h2.size
  have hrc := hrc.ext h2
  have hb2 := hb2.trans (h2.mono hb2.size)
  obtain ⟨A7, c7, b7, rfl, hc7, hB7, hsl7⟩ := own_sl hv
  obtain ⟨bq, hb7q, hbq, hsl7⟩ : ∃ bq, b7 ≤ bq ∧ bq < w2.heap.size ∧ Is w2 bq A7 Q := ⟨b7, Nat.le_refl _, Sl.lt hsl7 (by intro h; have h5 := congrArg List.length h; rw [iv_length, List.length_nil] at h5; omega), hsl7⟩
  clear hPl hs3 h2 hv
  go_wp2_with fail
  refine (hCd w2 hs).mono ?_
  rintro e w3 ⟨v, u, rfl, hv, hu, h3⟩
  have hT3 := hT2.ext h3
  have hb3 := hb2.trans (h3.mono hb2.size)
  have hrc := hrc.ext h3
  have hsl7 := Sl.ext hsl7 h3
  have hbq : bq < w3.heap.size := Nat.lt_of_lt_of_le hbq h3.size
  obtain ⟨A4, c4, b4, rfl, hc4, hm4, -, hB4, hsl4, -⟩ := hv.sl
  obtain ⟨A5, c5, b5, rfl, hc5, hm5, -, hB5, hsl5, -⟩ := hu.sl
  have hq3 := h3.size
  obtain ⟨bc, hbc, hbc2, hsl4⟩ : ∃ bc, bc < w3.heap.size ∧ (bc = w.heap.size ∨ w2.heap.size ≤ bc) ∧ Sl w3 bc A4 (kv J) := by
    by_cases hJe : J = []
    · exact ⟨w.heap.size, by have := hb3.size; omega, .inl rfl, by rw [hJe]; exact Sl.nil_ _ _ _⟩
    · exact ⟨b4, Sl.lt hsl4 (by intro h; have h5 := congrArg List.length h; rw [kv_length] at h5; exact hJe (List.eq_nil_of_length_eq_zero (by simp at h5; omega))), .inr hB4, hsl4⟩
  obtain ⟨mJ, hmJ⟩ : ∃ mJ, mJ = J.length := ⟨_, rfl⟩
  obtain ⟨mM, hmM⟩ : ∃ mM, mM = M.length := ⟨_, rfl⟩
  obtain ⟨mQ, hmQ⟩ : ∃ mQ, mQ = Q.length := ⟨_, rfl⟩
  rw [← hmM] at hrc hbk3 hlt3
  rw [← hmJ, ← hmM, ← hmQ]
  have HmJ := Lib.hid hmJ
  have HmM := Lib.hid hmM
  have HmQ := Lib.hid hmQ
  have hQ1 : 1 ≤ mQ ∧ mQ ≤ 6 := by rw [HmQ.out]; exact lQ
  have HnV := Lib.hid hnV
  have HnO := Lib.hid hnO
  clear hCd hs hT2 hb2 h3 hv hu hmJ hmM hmQ lQ hnV hnO
  obtain ⟨nn, hnn⟩ : ∃ nn : Nat, nn = mQ + oo / 64 := ⟨_, rfl⟩
  have hnn9 : 1 ≤ nn ∧ nn ≤ 9 := by omega
  obtain ⟨p, hp⟩ : ∃ p : Nat, p = oo % nn := ⟨_, rfl⟩
  have hpn : p < nn := by rw [hp]; exact Nat.mod_lt _ (by omega)
  have e1 : (mQ : Int) + ((oo : Int) / 64) = (nn : Int) := by omega
  have e2 : (oo : Int).tmod (nn : Int) = (p : Int) := by rw [Int.tmod_eq_emod_of_nonneg (by omega), hp]; rfl
  have e3 : ((nn : Int) == 0) = false := by simp; omega
  have hA := fun W => All_calls (nn : Int) W
  have alb : (allN (nn : Int)).testBit p = true := by rw [allN_bit _ _ (by omega)]; simp; omega
  have all32 := allN_lt (nn : Int)
  obtain ⟨al, hal⟩ : ∃ al, al = allN (nn : Int) := ⟨_, rfl⟩
  rw [← hal] at hA alb all32
  have hp9 : p < 9 := by omega
  have hsv := Sl.ext HV.out hb3
  have hso := Sl.ext HO.out hb3
  have hltV : 0 < V.length → vb < wd.heap.size := fun h => Sl.lt HV.out (by intro h0; have h5 := congrArg List.length h0; rw [iv_length, List.length_nil] at h5; omega)
  have hltO : 0 < O.length → ob < wd.heap.size := fun h => Sl.lt HO.out (by intro h0; have h5 := congrArg List.length h0; rw [iv_length, List.length_nil] at h5; omega)
  clear hnn hp hal
  go_wp2_with fail
  refine (hA _).mono ?_
  rintro e w9 ⟨rfl, hw9⟩
  have hw9 := hw9.symm
  subst hw9
  clear hA
  have hbk3 : ∀ k, (Value.slice A3 mM c3).ownBlock = some k → k = b3 := hbk3
  have hrm : RowC 38 w3 w1.heap.size (.slice A3 mM c3) (mts al M 0) := by rw [mts_zero]; exact hrc
  have KB3 := Lib.hid hbk3
  clear hrc hbk3
  go_wp2_with fail
  go_loopw [23, 60] (fun _ i wr => ∃ k : Nat, k ≤ mM ∧ i = .int .i64 k ∧ RowC 38 wr w1.heap.size (.slice A3 mM c3) (mts al M k) ∧ Sl wr bc A4 (kv J) ∧ Sl wr b5 A5 (kv J) ∧ Is wr bq A7 Q ∧ Is wr vb VA V ∧ Is wr ob OA O ∧ Below wd.heap.size wd wr ∧ w3.heap.size ≤ wr.heap.size) (fun _ i _ => mM - (intOf i).toNat)
  case atStart => exact ⟨0, Nat.zero_le _, rfl, hrm, hsl4, hsl5, hsl7, hsv, hso, hb3, Nat.le_refl _⟩
  case round =>
    clear hrm hsl4 hsl5 hsl7 hsv hso hb3 hT3
    obtain ⟨k, hk, rfl, hrm, hsl4, hsl5, hsl7, hsv, hso, hb, hz⟩ := hrel
    by_cases hlt : k < mM
    · have hkM : k < M.length := by rw [← HmM.out]; exact hlt
      have hka : k < (mts al M k).length := by rw [mts_length]; exact hkM
      have hne3 := hlt3 (by omega)
      obtain ⟨g, cap, hv, hg, hgl, hcap, k1, kf, kset⟩ := hrm.set_lab hka
      have hv0 := KB3.out
      injection hv with hvA hvn hvc
      rw [hvA] at hv0
      obtain rfl : g = b3 := hv0 g rfl
      clear hv0 hvn hvc
      rw [mts_at hkM (Nat.le_refl k)] at k1 kset
      have hy := (okC_get oM hkM).2
      have hMt := fun W A2 bb2 hs2 => MMeet_calls M[k].2 A2 [al] 1 1 bb2 W hy (by intro q hq; simp at hq; rw [hq]; exact all32) hs2 rfl (by omega)
      rw [meet_one] at hMt
      have HSET := Lib.hid (mts_set (al := al) hkM)
      have KSET := Lib.hid kset
      obtain ⟨X, hX⟩ : ∃ X, X = M[k].1 := ⟨_, rfl⟩
      obtain ⟨Y, hY⟩ : ∃ Y, Y = M[k].2 := ⟨_, rfl⟩
      rw [← hX] at KSET
      rw [← hX, ← hY] at HSET
      rw [← hY] at k1 hMt
      have hx0 := kf (k * 2 + 1)
      have hmsk : Sl (wr.alloc (.cells #[.int .u32 (al : Int)] 35)) wr.heap.size (some ⟨wr.heap.size, 0, none⟩) (ms [al]) := Sl.cells_new wr #[.int .u32 (al : Int)] 35
      have ej : (k : Int) < (mM : Int) := by omega
      have hgw : wd.heap.size ≤ g := by omega
      obtain ⟨Z, hZ⟩ : ∃ Z, Z = Y &&& al := ⟨_, rfl⟩
      rw [← hZ] at hMt HSET
      have hg4 : bc ≠ g := by omega
      have hg5 : 0 < J.length → b5 ≠ g := by omega
      have hgq : bq ≠ g := by omega
      have hgv : 0 < V.length → vb ≠ g := fun h => by have := hltV h; omega
      have hgo : 0 < O.length → ob ≠ g := fun h => by have := hltO h; omega
      clear hX hY hZ hka hrm kf kset hy hlt3
      subst hvA
      go_wp2_with fail
      refine (hMt _ _ wr.heap.size hmsk).mono ?_
      rintro e wx ⟨rfl, hwx⟩
      have hwx := hwx.symm
      subst hwx
      go_wp2_with fail
      have hr2 := KSET.out Z ((wr.setCell ⟨g, k * 2 + 1, none⟩ (.int .u32 (Z : Int))).alloc (.cells #[.int .u32 (al : Int)] 35)) (Below.heap_alloc _ _ g (by simp; exact hgl))
      rw [HSET.out] at hr2
      have hal1 := below_alloc1 (wr.setCell ⟨g, k * 2 + 1, none⟩ (.int .u32 (Z : Int))) (.cells #[.int .u32 (al : Int)] 35)
      go_roundw
      case rel => exact ⟨k + 1, by omega, by go_num, hr2, Sl.ext (Sl.setCell hsl4 hg4 _) hal1, Sl.ext (sl_set5 hsl5 hg5 _) hal1, Sl.ext (Sl.setCell hsl7 hgq _) hal1, Sl.ext (sl_setI hsv hgv _) hal1, Sl.ext (sl_setI hso hgo _) hal1, (hb.setCell hgw _).alloc (by simp; have := hb.size; omega) (.cells #[.int .u32 (al : Int)] 35), by simp; omega⟩
      case measure => simp [intOf]; omega
    · obtain rfl : mM = k := by omega
      have lMM : mM ≤ 48 := by rw [HmM.out]; exact lM
      obtain ⟨C, hC⟩ : ∃ C, C = mts al M mM := ⟨_, rfl⟩
      have lC : C.length = mM := by rw [hC, mts_length]; exact HmM.out.symm
      have oC : okC C := by rw [hC]; exact mts_ok _ oM
      rw [← hC] at hrm
      obtain ⟨A3', c3', b3', hv3, hc3', -, -, -, hsl3, -⟩ := hrm.sl
      rw [lC] at hv3 hc3'
      injection hv3 with h31 h32 h33
      subst h31 h33
      obtain ⟨wl, hwl⟩ : ∃ wl, wl = wr := ⟨_, rfl⟩
      rw [← hwl] at hsl3 hsl4 hsl5 hsl7 hsv hso hb hz ⊢
      clear hwl hC hrm h32
      have LC := Lib.hid lC
      have hCk := fun W h => RCheck_calls A5 J mJ c5 b5 mM mQ W h HmJ.out.symm (by rw [HmJ.out]; simp only [maxLen]; omega) oJ (by omega) (by omega)
      obtain ⟨VV, hVV⟩ : ∃ VV, VV = checkV J mM mQ := ⟨_, rfl⟩
      rw [← hVV] at hCk
      clear lC hVV KB3 hlt
      cases hv2 : VV.2 with
      | false =>
        rw [hv2] at hCk
        have hCk : ∀ W, Sl W b5 A5 (kv J) → Calls Tryd.prog 18 #[.slice A5 mJ c5, .int .i64 (mM : Int), .int .i64 (mQ : Int)] W fun e w' => e = .returned (.int .i64 ((VV.1 : Nat) : Int)) ∧ Below W.heap.size W w' := hCk
        obtain ⟨vn, hvn⟩ : ∃ vn, vn = VV.1 := ⟨_, rfl⟩
        rw [← hvn] at hCk
        clear hv2 hvn
        go_wp2_with fail
        refine (hCk _ hsl5).mono ?_
        rintro e w6 ⟨rfl, h6⟩
        have hb6 := hb.trans (h6.mono hb.size)
        clear hCk hsl5 h6
        go_wp2_with fail
        go_ret
        exact ⟨rfl, HBD.out.trans (hb6.mono HBD.out.size)⟩
      | true =>
        rw [hv2] at hCk
        have hCk : ∀ W, Sl W b5 A5 (kv J) → Calls Tryd.prog 18 #[.slice A5 mJ c5, .int .i64 (mM : Int), .int .i64 (mQ : Int)] W fun e w' => e = .returned (.int .i64 (-1)) ∧ Below W.heap.size W w' := hCk
        clear hv2
        go_wp2_with fail
        refine (hCk _ hsl5).mono ?_
        rintro e w6 ⟨rfl, h6⟩
        have hsl3 := Sl.ext hsl3 h6
        have hsl4 := Sl.ext hsl4 h6
        have hsl7 := Sl.ext hsl7 h6
        have hsv := Sl.ext hsv h6
        have hso := Sl.ext hso h6
        have hz := Nat.le_trans hz h6.size
        have hb := hb.trans (h6.mono hb.size)
        clear hCk hsl5 h6
        go_wp2_with fail
        have hF2 := fun W h => FewC_calls A3 C mM c3 b3' W h LC.out hc3'
        rw [List.take_of_length_le (show C.length ≤ 48 by rw [LC.out]; exact lMM)] at hF2
        refine (hF2 w6 hsl3).mono ?_
        rintro e w7 ⟨v, rfl, hv, h7⟩
        have hlt6 : 0 < C.length → b3' < w6.heap.size := fun h => Sl.lt hsl3 (by intro h0; have h5 := congrArg List.length h0; simp at h5; omega)
        have hsl3 := Sl.ext hsl3 h7
        have hsl4 := Sl.ext hsl4 h7
        have hsl7 := Sl.ext hsl7 h7
        have hsv := Sl.ext hsv h7
        have hso := Sl.ext hso h7
        have hz7 := h7.size
        have hbz6 := hb.size
        have hb := hb.trans (h7.mono hb.size)
        obtain ⟨A9, c9, b9, rfl, -, -, -, -, -, hbk9⟩ := hv.sl
        rw [LC.out] at hv hbk9 ⊢
        have hrm : RowC 38 w7 w6.heap.size (.slice A9 mM c9) (ag (fun m => sees m (p : Int)) V C 0) := by rw [ag_zero]; exact hv
        have KB9 := Lib.hid hbk9
        clear hF2 hv h7 hbk9
        go_wp2_with fail
        go_loopw [25, 87] (fun _ i wr => ∃ k : Nat, k ≤ mM ∧ i = .int .i64 k ∧ RowC 38 wr w6.heap.size (.slice A9 mM c9) (ag (fun m => sees m (p : Int)) V C k) ∧ Sl wr b3' A3 (cv C) ∧ Sl wr bc A4 (kv J) ∧ Is wr bq A7 Q ∧ Is wr vb VA V ∧ Is wr ob OA O ∧ Below wd.heap.size wd wr ∧ w7.heap.size ≤ wr.heap.size) (fun _ i _ => mM - (intOf i).toNat)
        case atStart => exact ⟨0, Nat.zero_le _, rfl, hrm, hsl3, hsl4, hsl7, hsv, hso, hb, Nat.le_refl _⟩
        case round =>
          clear hrm hsl3 hsl4 hsl7 hsv hso hb
          obtain ⟨k, hk, rfl, hrm, hsl3, hsl4, hsl7, hsv, hso, hb, hz2⟩ := hrel
          by_cases hlt : k < mM
          · have hkM : k < C.length := by rw [LC.out]; exact hlt
            have hka : k < (ag (fun m => sees m (p : Int)) V C k).length := by rw [ag_length]; exact hkM
            obtain ⟨g, cap, hv, hg, hgl, hcap, k0, k1, kf, kset, -⟩ := hrm.set_ hka
            have hv0 := KB9.out
            injection hv with hvA hvn hvc
            rw [hvA] at hv0
            obtain rfl : g = b9 := hv0 g rfl
            clear hv0 hvn hvc
            rw [ag_at hkM (Nat.le_refl k)] at k0 k1 kset
            have hy := (okC_get oC hkM).2
            have hHo := fun W => MHas_calls C[k].2 (p : Int) W hy
            have hso9 : sees C[k].2 (p : Int) = decide (C[k].2 &&& aloneN (p : Int) ≠ 0) := rfl
            rw [← hso9] at hHo
            have HSAME := Lib.hid (ag_same (q := fun m => sees m (p : Int)) (vals := V) hkM)
            have HSET := Lib.hid (ag_set (q := fun m => sees m (p : Int)) (vals := V) hkM)
            have HAT := Lib.hid (show agAt (fun m => sees m (p : Int)) V C[k] k = if k < V.length ∧ sees C[k].2 (p : Int) = false then (V.getD k 0, C[k].2) else C[k] from rfl)
            obtain ⟨so, hso8⟩ : ∃ so, so = sees C[k].2 (p : Int) := ⟨_, rfl⟩
            rw [← hso8] at HSAME HAT hHo
            obtain ⟨X, hX⟩ : ∃ X, X = C[k].1 := ⟨_, rfl⟩
            obtain ⟨Y, hY⟩ : ∃ Y, Y = C[k].2 := ⟨_, rfl⟩
            rw [← hX] at k0
            rw [← hY] at k1 kset hHo HAT
            have HKS := Lib.hid kset
            have kf0 := kf (k * 2)
            have ej : (k : Int) < (mM : Int) := by omega
            have hgw : wd.heap.size ≤ g := by omega
            have hgq : bq ≠ g := by omega
            have hgc : bc ≠ g := by omega
            have hgM : b3' ≠ g := by have := hlt6 (by omega); omega
            have hgo : 0 < O.length → ob ≠ g := fun h => by have := hltO h; omega
            clear hX hY hka kset kf hy hso9 hso8
            subst hvA
            by_cases hkv : k < V.length
            · have hkn : k < nv := by rw [← HnV.out]; exact hkv
              have ev : decide ((k : Int) < (nv : Int)) = true := by simp; omega
              have hgV : vb ≠ g := by have := hltV (by omega); omega
              obtain ⟨voff, rfl, hvc⟩ := hsv (by intro h0; have h5 := congrArg List.length h0; rw [iv_length, List.length_nil] at h5; omega)
              have hvk := hvc k _ (iv_get V k hkv)
              obtain ⟨x, hx⟩ : ∃ x, x = V[k] := ⟨_, rfl⟩
              rw [← hx] at hvk
              have HX := Lib.hid hx
              clear hvc hx
              cases so with
              | true =>
                go_wp2_with fail
                refine (hHo _).mono ?_
                rintro e wx ⟨rfl, hwx⟩
                have hwx := hwx.symm
                subst hwx
                go_wp2_with fail
                go_roundw
                case rel => exact ⟨k + 1, by omega, by go_num, by rw [← HSAME.out (by simp)]; exact hrm, hsl3, hsl4, hsl7, hsv, hso, hb, hz2⟩
                case measure => simp [intOf]; omega
              | false =>
                go_wp2_with fail
                refine (hHo _).mono ?_
                rintro e wx ⟨rfl, hwx⟩
                have hwx := hwx.symm
                subst hwx
                go_wp2_with fail
                have hr2 := HKS.out x _ rfl
                have e9 : agAt (fun m => sees m (p : Int)) V C[k] k = (x, Y) := by rw [HAT.out, if_pos ⟨hkv, by trivial⟩, HX.out]; simp [List.getD, hkv]
                rw [← e9, HSET.out] at hr2
                go_roundw
                case rel => exact ⟨k + 1, by omega, by go_num, hr2, Sl.setCell hsl3 hgM _, Sl.setCell hsl4 hgc _, Sl.setCell hsl7 hgq _, Sl.setCell hsv hgV _, sl_setI hso hgo _, hb.setCell hgw _, by simp; omega⟩
                case measure => simp [intOf]; omega
            · have hkn : ¬ k < nv := by rw [← HnV.out]; exact hkv
              have ev : decide ((k : Int) < (nv : Int)) = false := by simp; omega
              go_wp2_with fail
              go_roundw
              case rel => exact ⟨k + 1, by omega, by go_num, by rw [← HSAME.out (fun h => hkv h.1)]; exact hrm, hsl3, hsl4, hsl7, hsv, hso, hb, hz2⟩
              case measure => simp [intOf]; omega
          · obtain rfl : mM = k := by omega
            obtain ⟨C2, hC2⟩ : ∃ C2, C2 = ag (fun m => sees m (p : Int)) V C mM := ⟨_, rfl⟩
            have lC2 : C2.length = mM := by rw [hC2, ag_length]; exact LC.out
            have oC2 : okC C2 := by rw [hC2]; exact ag_ok _ oC hokV
            rw [← hC2] at hrm
            obtain ⟨A9', c9', b9', hv9, hc9', -, -, -, hslD, -⟩ := hrm.sl
            rw [lC2] at hv9 hc9'
            injection hv9 with h91 h92 h93
            subst h91 h93
            obtain ⟨wm, hwm⟩ : ∃ wm, wm = wr := ⟨_, rfl⟩
            rw [← hwm] at hsl3 hslD hsl4 hsl7 hso hb hz2 ⊢
            have HC2 := Lib.hid (show C2 = ag (fun m => sees m (p : Int)) V C C.length by rw [hC2, LC.out])
            have LC2 := Lib.hid lC2
            clear hwm hC2 hrm h92 hsv KB9 hlt6 hltV lC2 hlt
            have hltC : (0 < C.length → b3' < wm.heap.size) ∧ (0 < C2.length → b9' < wm.heap.size) := ⟨fun h => Sl.lt hsl3 (by intro h0; have h5 := congrArg List.length h0; simp at h5; omega), fun h => Sl.lt hslD (by intro h0; have h5 := congrArg List.length h0; simp at h5; omega)⟩
            have hsQ : Is (wm.alloc (.cells #[] 21)) bq A7 Q := Sl.ext hsl7 (below_alloc1 _ _)
            have ho0 : Row32 (wm.alloc (.cells #[] 21)) wm.heap.size (.slice (some ⟨wm.heap.size, 0, none⟩) 0 0) [] := World.ownsRow_made wm #[] 0 (Nat.le_refl _) (by simp [maxLen]) rfl
            go_wp2_with ((with_reducible refine at_ca 115 _ ?_); refine wpList_app32 _ rfl (.tmp 113) (.tmp 114) rfl wm.heap.size (.slice (some ⟨wm.heap.size, 0, none⟩) 0 0) [] rfl ho0 bq A7 mQ c7 Q rfl hsQ HmQ.out.symm (by simp; omega) (by simp) ?_; intro v2 w8 hrow2 hmod2 hown2; rw [List.nil_append] at hrow2; (have hrow : w8.ownsRow wm.heap.size 21 1 v2 mQ (iv Q) := by rw [HmQ.out]; exact hrow2); obtain ⟨g8, cap8, rfl, hg8, hgl8, hcap8, -, -, -⟩ := own_set hrow (by omega))
            have hm8 : Below wm.heap.size wm w8 := (below_alloc1 wm _).trans (hmod2.below_own (by simp) (fun i h => by simp [Value.ownBlock] at h; omega))
            have hsl3 := Sl.ext hsl3 hm8
            have hslD := Sl.ext hslD hm8
            have hsl4 := Sl.ext hsl4 hm8
            have hsl7 := Sl.ext hsl7 hm8
            have hso := Sl.ext hso hm8
            have hbm := hb.size
            have hb := hb.trans (hm8.mono hb.size)
            have hz8 := hm8.size
            have hrow : w8.ownsRow wm.heap.size 21 1 (.slice (some ⟨g8, 0, none⟩) mQ cap8) mQ (iv (agm p O Q 0)) := by rw [agm_zero]; exact hrow
            have hblt : (0 < C.length → b3' < wm.heap.size) ∧ (0 < C2.length → b9' < wm.heap.size) := hltC
            clear hrow2 hmod2 hown2 hm8 hsQ ho0
            go_loopw [27, 118] (fun _ i wr => ∃ k : Nat, k ≤ mQ ∧ i = .int .i64 k ∧ wr.ownsRow wm.heap.size 21 1 (.slice (some ⟨g8, 0, none⟩) mQ cap8) mQ (iv (agm p O Q k)) ∧ Sl wr b3' A3 (cv C) ∧ Sl wr b9' A9 (cv C2) ∧ Sl wr bc A4 (kv J) ∧ Is wr bq A7 Q ∧ Is wr ob OA O ∧ Below wd.heap.size wd wr ∧ w8.heap.size ≤ wr.heap.size) (fun _ i _ => mQ - (intOf i).toNat)
            case atStart => exact ⟨0, Nat.zero_le _, rfl, hrow, hsl3, hslD, hsl4, hsl7, hso, hb, Nat.le_refl _⟩
            case round =>
              clear hrow hsl3 hslD hsl4 hsl7 hso hb
              obtain ⟨k, hk, rfl, hrow, hsl3, hslD, hsl4, hsl7, hso, hb, hz3⟩ := hrel
              by_cases hlt : k < mQ
              · have ej : (k : Int) < (mQ : Int) := by omega
                by_cases hkp : k = p
                · have en : ((k : Int) != (p : Int)) = false := by simp; omega
                  have HSAME := Lib.hid (agm_same (p := p) (vals := O) (Q := Q) (k := k) (fun h => h.1 hkp))
                  clear hkp
                  go_wp2_with fail
                  go_roundw
                  case rel => exact ⟨k + 1, by omega, by go_num, by rw [← HSAME.out]; exact hrow, hsl3, hslD, hsl4, hsl7, hso, hb, hz3⟩
                  case measure => simp [intOf]; omega
                · have en : ((k : Int) != (p : Int)) = true := by simp; omega
                  by_cases hko : k < O.length
                  · have hkn : k < no := by rw [← HnO.out]; exact hko
                    have ev : decide ((k : Int) < (no : Int)) = true := by simp; omega
                    obtain ⟨g, cap, hv, hg, hgl, hcap, hcl, kf, kset⟩ := own_set hrow (by omega)
                    injection hv with hvA hvn hvc
                    injection hvA with hvA
                    injection hvA with hvA
                    subst hvA
                    clear hvn hvc
                    have HSET := Lib.hid (agm_set (p := p) (vals := O) (Q := Q) (k := k) hkp hko)
                    obtain ⟨ooff, rfl, hvc⟩ := hso (by intro h0; have h5 := congrArg List.length h0; rw [iv_length, List.length_nil] at h5; omega)
                    have hvk := hvc k _ (iv_get O k hko)
                    have hkl : k < (iv (agm p O Q k)).length := by rw [iv_length, agm_length, ← HmQ.out]; exact hlt
                    have hck := hcl k _ (List.getElem?_eq_getElem hkl)
                    have kf0 := kf k
                    obtain ⟨x, hx⟩ : ∃ x, x = O[k] := ⟨_, rfl⟩
                    rw [← hx] at hvk HSET
                    have HKS := Lib.hid kset
                    have hgc : bc ≠ g8 := by omega
                    have hgq : bq ≠ g8 := by omega
                    have hgo : ob ≠ g8 := by have := hltO (by omega); omega
                    have hgw : wd.heap.size ≤ g8 := by omega
                    have hg3 : 0 < C.length → b3' ≠ g8 := fun h => by have := hblt.1 h; omega
                    have hg9 : 0 < C2.length → b9' ≠ g8 := fun h => by have := hblt.2 h; omega
                    clear hvc hx hcl kf kset hkp
                    go_wp2_with fail
                    have hr2 := HKS.out k (.int .i32 x) (wr.setCell ⟨g8, k, none⟩ (.int .i32 x)) rfl
                    rw [iv_set, HSET.out] at hr2
                    go_roundw
                    case rel => exact ⟨k + 1, by omega, by go_num, hr2, sl_setC (k := k) hsl3 hg3 _, sl_setC (k := k) hslD hg9 _, Sl.setCell (p := ⟨g8, k, none⟩) hsl4 hgc _, Sl.setCell (p := ⟨g8, k, none⟩) hsl7 hgq _, Sl.setCell (p := ⟨g8, k, none⟩) hso hgo _, hb.setCell (p := ⟨g8, k, none⟩) hgw _, by simp; omega⟩
                    case measure => simp [intOf]; omega
                  · have hkn : ¬ k < no := by rw [← HnO.out]; exact hko
                    have ev : decide ((k : Int) < (no : Int)) = false := by simp; omega
                    have HSAME := Lib.hid (agm_same (p := p) (vals := O) (Q := Q) (k := k) (fun h => hko h.2))
                    clear hko hkp
                    go_wp2_with fail
                    go_roundw
                    case rel => exact ⟨k + 1, by omega, by go_num, by rw [← HSAME.out]; exact hrow, hsl3, hslD, hsl4, hsl7, hso, hb, hz3⟩
                    case measure => simp [intOf]; omega
              · obtain rfl : mQ = k := by omega
                obtain ⟨Q2, hQ2⟩ : ∃ Q2, Q2 = agm p O Q mQ := ⟨_, rfl⟩
                have lQ2 : Q2.length = mQ := by rw [hQ2, agm_length]; exact HmQ.out.symm
                have oQ2 : ∀ x ∈ Q2, -2147483648 ≤ x ∧ x ≤ 2147483647 := by rw [hQ2]; exact agm_fit _ oQ hokO
                rw [← hQ2] at hrow
                have hslE := own_is hrow
                obtain ⟨wn, hwn⟩ : ∃ wn, wn = wr := ⟨_, rfl⟩
                rw [← hwn] at hsl3 hslD hsl4 hsl7 hslE hb hz3 ⊢
                have HQ2 := Lib.hid (show Q2 = agm p O Q Q.length by rw [hQ2, ← HmQ.out])
                have LQ2 := Lib.hid lQ2
                have hszn : bc < wn.heap.size ∧ bq < wn.heap.size ∧ g8 < wn.heap.size := by omega
                clear hwn hQ2 hrow hso hltO lQ2 hlt hblt hcap8 hg8
                go_wp2_with fail
                refine (New_in A3 C mM c3 b3' wn hsl3 LC.out lMM).mono ?_
                rintro e w7 ⟨rfl, h7⟩
                have hslD := Sl.ext hslD h7
                have hsl4 := Sl.ext hsl4 h7
                have hsl7 := Sl.ext hsl7 h7
                have hslE := Sl.ext hslE h7
                have hb := hb.trans (h7.mono hb.size)
                have hlz := h7.size
                have l7 := BoxL.new_ w7 C
                have h8 := below_alloc1 w7 (.cells (bdL C) 44)
                have hslD := Sl.ext hslD h8
                have hsl4 := Sl.ext hsl4 h8
                have hsl7 := Sl.ext hsl7 h8
                have hslE := Sl.ext hslE h8
                have hb := hb.trans (h8.mono hb.size)
                have hlz := Nat.le_trans hlz h8.size
                obtain ⟨G, hG⟩ : ∃ G, G = w7.heap.size := ⟨_, rfl⟩
                rw [← hG] at l7
                have HG := Lib.hid hG.symm
                clear hsl3 h7 h8 hG
                go_wp2_with (first | ((with_reducible refine at_al 44 28 ?_); refine wpList_al rfl rfl (some 28) rfl G HG.out ?_) | ((with_reducible refine at_st 44 28 141 ?_); refine wpList_put rfl (.tmp 28) (.tmp 141) rfl HG.out C rfl rfl ?_))
                refine (New_in A9 C2 mM c9 b9' _ hslD LC2.out lMM).mono ?_
                rintro e w8 ⟨rfl, h8⟩
                have l7 := l7.ext h8
                have hsl4 := Sl.ext hsl4 h8
                have hsl7 := Sl.ext hsl7 h8
                have hslE := Sl.ext hslE h8
                have hb := hb.trans (h8.mono hb.size)
                have hlz := Nat.le_trans hlz h8.size
                have l8 := BoxL.new_ w8 C2
                have h9 := below_alloc1 w8 (.cells (bdL C2) 44)
                have l7 := l7.ext h9
                have hsl4 := Sl.ext hsl4 h9
                have hsl7 := Sl.ext hsl7 h9
                have hslE := Sl.ext hslE h9
                have hb := hb.trans (h9.mono hb.size)
                have hlz := Nat.le_trans hlz h9.size
                obtain ⟨G2, hG2⟩ : ∃ G2, G2 = w8.heap.size := ⟨_, rfl⟩
                rw [← hG2] at l8
                have HG2 := Lib.hid hG2.symm
                clear hslD h8 h9 hG2
                obtain ⟨F, hF⟩ : ∃ F, F = wholeV compN ⟨J, Q, tk, al⟩ C d := ⟨_, rfl⟩
                obtain ⟨F2, hF2⟩ : ∃ F2, F2 = wholeV compN ⟨J, Q2, tk, al⟩ C2 d2 := ⟨_, rfl⟩
                have hhw := hides_whole (J := J) (Q := Q) (other := O) (M := C) (vals := V) (tk := tk) (al := al) (p := p) d d2 (by omega) all32 alb oJ oC oQ hF (G := F2) (by rw [hF2, HQ2.out, HC2.out])
                have hsok := whole_shok compN ⟨J, Q, tk, al⟩ all32 C d
                have hsok2 := whole_shok compN ⟨J, Q2, tk, al⟩ all32 C2 d2
                have hwl := whole_len (P := ⟨J, Q, tk, al⟩) (L := C) (d := d) all32 oQ oJ oC
                have hwl2 := whole_len (P := ⟨J, Q2, tk, al⟩) (L := C2) (d := d2) all32 oQ2 oJ oC2
                rw [← hF] at hsok hwl
                rw [← hF2] at hsok2 hwl2
                rw [LC.out] at hwl
                rw [LC2.out] at hwl2
                have hR := Run_calls compN comp_ok comp_fit ⟨J, Q, tk, al⟩ A4 c4 bc A7 c7 bq C d (w8.alloc (.cells (bdL C2) 44)) ⟨hsl4, hsl7, oJ, by simp only [maxLen]; show J.length ≤ _; omega, by show Q.length ≤ 100; rw [← HmQ.out]; omega, oQ, by rw [LC.out]; exact lMM, oC, all32, HTT.out.ext hb, by omega, by omega⟩
                have hR : Calls Tryd.prog 21 #[.slice A4 mJ c4, .agg (bdL C), .agg #[.int .u64 (d : Int)], .slice A7 mQ c7, .int .u32 (tk : Int), .int .u32 (al : Int)] (w8.alloc (.cells (bdL C2) 44)) fun e w' => ∃ sh, e = .returned (.agg (resA sh F)) ∧ RowS w' (w8.alloc (.cells (bdL C2) 44)).heap.size sh F.sh ∧ Below (w8.alloc (.cells (bdL C2) 44)).heap.size (w8.alloc (.cells (bdL C2) 44)) w' := by rw [HmJ.out, HmQ.out, hF]; exact hR
                have d10 := (KD.out.ext hb).cell
                have HHW := Lib.hid hhw
                have HF2 := Lib.hid hF2
                have HOK := Lib.hid hsok
                have HOK2 := Lib.hid hsok2
                have HWL := Lib.hid hwl
                have HWL2 := Lib.hid hwl2
                clear hF hF2 hhw hsok hsok2 hwl hwl2
                go_wp2_with (first | ((with_reducible refine at_al 44 30 ?_); refine wpList_al rfl rfl (some 30) rfl G2 HG2.out ?_) | ((with_reducible refine at_st 44 30 146 ?_); refine wpList_put rfl (.tmp 30) (.tmp 146) rfl HG2.out C2 rfl rfl ?_) | ((with_reducible refine at_ld 44 28 ?_); refine wpList_ld (by first | rfl | simp [Region.wanted, yielded]) (.tmp 28) rfl G rfl C l7 ?_))
                refine hR.mono ?_
                rintro e wa ⟨sh, rfl, hSh, ha⟩
                obtain ⟨A8, c8, b8, rfl, hc8, hm8, hs8⟩ := rowS_sl hSh
                obtain ⟨nS, hnS⟩ : ∃ nS, nS = F.sh.length := ⟨_, rfl⟩
                rw [← hnS] at hc8 ⊢
                have HNS := Lib.hid hnS
                obtain ⟨sh, hsh⟩ : ∃ sh, sh = Value.slice A8 nS c8 := ⟨_, rfl⟩
                have r1 := BoxR.new_ wa sh F
                have hh9 := below_alloc1 wa (.cells (resA sh F) 50)
                have l8 := (l8.ext ha).ext hh9
                have hs8 := Sl.ext hs8 hh9
                have hsl4 := Sl.ext (Sl.ext hsl4 ha) hh9
                have hslE := Sl.ext (Sl.ext hslE ha) hh9
                have hb := hb.trans (ha.mono hb.size)
                have hb := hb.trans (hh9.mono hb.size)
                have hlz := Nat.le_trans (Nat.le_trans hlz ha.size) hh9.size
                have hone : sh.oneCell' = true := by rw [hsh]; rfl
                obtain ⟨K1, hK1⟩ : ∃ K1, K1 = wa.heap.size := ⟨_, rfl⟩
                rw [← hK1] at r1
                have HK1 := Lib.hid hK1.symm
                rw [← hsh]
                have HSH := Lib.hid hsh
                have d11 := (KE.out.ext hb).cell
                have hR := Run_calls compN comp_ok comp_fit ⟨J, Q2, tk, al⟩ A4 c4 bc (some ⟨g8, 0, none⟩) cap8 g8 C2 d2 (wa.alloc (.cells (resA sh F) 50)) ⟨hsl4, hslE, oJ, by simp only [maxLen]; show J.length ≤ _; omega, by show Q2.length ≤ 100; rw [LQ2.out]; omega, oQ2, by rw [LC2.out]; exact lMM, oC2, all32, HTT.out.ext hb, by omega, by omega⟩
                have hR : Calls Tryd.prog 21 #[.slice A4 mJ c4, .agg (bdL C2), .agg #[.int .u64 (d2 : Int)], .slice (some ⟨g8, 0, none⟩) mQ cap8, .int .u32 (tk : Int), .int .u32 (al : Int)] (wa.alloc (.cells (resA sh F) 50)) fun e w' => ∃ sx, e = .returned (.agg (resA sx F2)) ∧ RowS w' (wa.alloc (.cells (resA sh F) 50)).heap.size sx F2.sh ∧ Below (wa.alloc (.cells (resA sh F) 50)).heap.size (wa.alloc (.cells (resA sh F) 50)) w' := by
                  have hR := hR
                  rw [← HF2.out] at hR
                  have e1 := LQ2.out
                  have e2 := HmJ.out
                  have hR2 : Calls Tryd.prog 21 #[.slice A4 J.length c4, .agg (bdL C2), .agg #[.int .u64 (d2 : Int)], .slice (some ⟨g8, 0, none⟩) Q2.length cap8, .int .u32 (tk : Int), .int .u32 (al : Int)] (wa.alloc (.cells (resA sh F) 50)) fun e w' => ∃ sx, e = .returned (.agg (resA sx F2)) ∧ RowS w' (wa.alloc (.cells (resA sh F) 50)).heap.size sx F2.sh ∧ Below (wa.alloc (.cells (resA sh F) 50)).heap.size (wa.alloc (.cells (resA sh F) 50)) w' := hR
                  rw [e1, ← e2] at hR2
                  exact hR2
                clear hSh ha hK1 hsh hnS l7 hsl7 hh9 d10
                go_wp2_with (first | ((with_reducible refine at_al 50 32 ?_); refine wpList_alR rfl rfl (some 32) rfl K1 HK1.out ?_) | ((with_reducible refine at_st 50 32 154 ?_); refine wpList_putR rfl (.tmp 32) (.tmp 154) rfl HK1.out sh F hone rfl rfl ?_) | ((with_reducible refine at_ld 44 30 ?_); refine wpList_ld (by first | rfl | simp [Region.wanted, yielded]) (.tmp 30) rfl G2 rfl C2 l8 ?_))
                refine hR.mono ?_
                rintro e wc ⟨sh2, rfl, hSh2, hc⟩
                obtain ⟨B8, d8, b8', rfl, hd8, hm8', hs9⟩ := rowS_sl hSh2
                obtain ⟨nT, hnT⟩ : ∃ nT, nT = F2.sh.length := ⟨_, rfl⟩
                rw [← hnT] at hd8 ⊢
                have HNT := Lib.hid hnT
                obtain ⟨sh2, hsh2⟩ : ∃ sh2, sh2 = Value.slice B8 nT d8 := ⟨_, rfl⟩
                have r2 := BoxR.new_ wc sh2 F2
                have hh9 := below_alloc1 wc (.cells (resA sh2 F2) 50)
                have r1 := (r1.ext hc).ext hh9
                have hs8 := Sl.ext (Sl.ext hs8 hc) hh9
                have hs9 := Sl.ext hs9 hh9
                have hb := hb.trans (hc.mono hb.size)
                have hb := hb.trans (hh9.mono hb.size)
                have hone2 : sh2.oneCell' = true := by rw [hsh2]; rfl
                obtain ⟨K2, hK2⟩ : ∃ K2, K2 = wc.heap.size := ⟨_, rfl⟩
                rw [← hK2] at r2
                have HK2 := Lib.hid hK2.symm
                rw [← hsh2]
                have HSH2 := Lib.hid hsh2
                have a1 := r1.cS
                have a2 := r2.cS.trans (congrArg some HSH2.out)
                rw [HSH.out] at a1
                obtain ⟨mn, hmn⟩ : ∃ mn, mn = min nS nT := ⟨_, rfl⟩
                have hmin : (if (nT : Int) < (nS : Int) then (nT : Int) else (nS : Int)) = (mn : Int) := by split <;> omega
                have hmin2 : min (nS : Int) (nT : Int) = (mn : Int) := by omega
                have hmin3 : (if (nS : Int) ≤ (nT : Int) then (nS : Int) else (nT : Int)) = (mn : Int) := by split <;> omega
                have hmnS : mn ≤ nS ∧ mn ≤ nT := by omega
                have HMN := Lib.hid hmn
                clear hSh2 hc hK2 hsh2 hnT hsl4 hslE hh9 d11 l8 hmn
                go_wp2_with (first | ((with_reducible refine at_al 50 33 ?_); refine wpList_alR rfl rfl (some 33) rfl K2 HK2.out ?_) | ((with_reducible refine at_st 50 33 161 ?_); refine wpList_putR rfl (.tmp 33) (.tmp 161) rfl HK2.out sh2 F2 hone2 rfl rfl ?_))
                obtain ⟨wk, hwk⟩ : ∃ wk, wk = wc.alloc (.cells (resA sh2 F2) 50) := ⟨_, rfl⟩
                rw [← hwk] at r1 r2 hs8 hs9 hb ⊢
                clear hwk a1 a2 hmin hmin2 hmin3
                obtain ⟨K0, hK0⟩ := HHW.out
                have HK := Lib.hid hK0
                clear hK0
                have hbz := hb.size
                go_loopw [34, 169] (fun _ i wr => ∃ k : Nat, k ≤ mn ∧ i = .int .i64 k ∧ k ≤ K0 ∧ Below wk.heap.size wk wr) (fun _ i _ => mn - (intOf i).toNat)
                case atStart => exact ⟨0, Nat.zero_le _, rfl, Nat.zero_le _, Below.refl _ _⟩
                case round =>
                  obtain ⟨k, hk, rfl, hkK, hbk⟩ := hrel
                  by_cases hlt : k < mn
                  · have ej : (k : Int) < (mn : Int) := by omega
                    have hkS : k < F.sh.length := by rw [← HNS.out]; omega
                    have hkT : k < F2.sh.length := by rw [← HNT.out]; omega
                    have ekS : (k : Int) < (nS : Int) := by omega
                    have ekT : (k : Int) < (nT : Int) := by omega
                    obtain ⟨off8, rfl, hc⟩ := (Sl.ext hs8 hbk) (by intro h0; have h5 := congrArg List.length h0; rw [sv_length, List.length_nil] at h5; omega)
                    obtain ⟨off9, rfl, hc'⟩ := (Sl.ext hs9 hbk) (by intro h0; have h5 := congrArg List.length h0; rw [sv_length, List.length_nil] at h5; omega)
                    obtain ⟨g0, g1, g2⟩ := sv_get hkS
                    have c0 := hc _ _ g0
                    have c1 := hc _ _ g1
                    have c2 := hc _ _ g2
                    rw [← Nat.add_assoc] at c1 c2
                    obtain ⟨j0, j1, j2⟩ := sv_get hkT
                    have d0 := hc' _ _ j0
                    have d1 := hc' _ _ j1
                    have d2' := hc' _ _ j2
                    rw [← Nat.add_assoc] at d1 d2'
                    have hsame := HK.out.same k hkS hkT hkK
                    have hml := HOK.out _ (List.getElem_mem hkS)
                    obtain ⟨⟨x1, x2, x3⟩, hx⟩ : ∃ q, q = F.sh[k] := ⟨_, rfl⟩
                    obtain ⟨⟨y1, y2, y3⟩, hy⟩ : ∃ q, q = F2.sh[k] := ⟨_, rfl⟩
                    rw [← hx] at c0 c1 c2 hml
                    rw [← hy] at d0 d1 d2'
                    rw [← hx, ← hy] at hsame
                    simp only at c0 c1 c2 d0 d1 d2' hml hsame
                    obtain ⟨rfl, rfl, -⟩ := hsame
                    have HGO := Lib.hid (show (x2.testBit p = true → x3 = y3) → k < K0 from fun h => by
                      rcases Nat.lt_or_ge k K0 with h1 | h1
                      · exact h1
                      · obtain rfl : k = K0 := by omega
                        rcases HK.out.ends with ⟨e, -, -⟩ | ⟨h1, h2, h3, h4⟩
                        · omega
                        · rw [← hx] at h3 h4
                          rw [← hy] at h4
                          exact absurd (h h3) h4)
                    have hHo := fun W => MHas_calls x2 (p : Int) W hml
                    rw [sees_of x2 (by omega)] at hHo
                    obtain ⟨tb, htb⟩ : ∃ tb, tb = x2.testBit p := ⟨_, rfl⟩
                    rw [← htb] at hHo HGO
                    have a1 := (r1.ext hbk).cS.trans (congrArg some HSH.out)
                    have a2 := (r2.ext hbk).cS.trans (congrArg some HSH2.out)
                    clear hx hy htb hc hc' g0 g1 g2 j0 j1 j2 hkS hkT hml hkK
                    cases tb with
                    | true =>
                      by_cases hxy : x3 = y3
                      · subst hxy
                        go_wp2_with fail
                        refine wp_region_held_drew (S := fun w' => Below wr.heap.size wr w') (by kernel_rfl) ?_ (fun hHeld => ?_)
                        · exact (by repeat (first | exact Below.refl _ _ | refine below_drewN ?_ _ | refine below_drew ?_))
                        refine wpAnyH_take (i := 0) (by simp only [List.getElem?_toArray]; rfl) (by kernel_rfl) (by kernel_rfl) (by kernel_rfl) (by exact fun _ _ _ h => h) (by exact yk (.pointer (some ⟨K1, 99, none⟩)) (by kernel_rfl) (fun _ => by kernel_rfl)) hHeld ?_
                        refine wpAnyH_take (i := 1) (by simp only [List.getElem?_toArray]; rfl) (by kernel_rfl) (by kernel_rfl) (by kernel_rfl) (by exact fun _ _ _ h => h) (by exact yk_ldS (by kernel_rfl) (.tmp 172) rfl ⟨K1, 99, none⟩ (.slice (some ⟨b8, off8, none⟩) nS c8) (by kernel_rfl) (fun w h => sl_same h a1)) hHeld ?_
                        refine wpAnyH_take (i := 2) (by simp only [List.getElem?_toArray]; rfl) (by kernel_rfl) (by kernel_rfl) (by kernel_rfl) (by exact fun _ _ _ h => h) (by exact yk (.int .i64 (k : Int)) (by kernel_rfl) (fun _ => by kernel_rfl)) hHeld ?_
                        refine wpAnyH_take (i := 3) (by simp only [List.getElem?_toArray]; rfl) (by kernel_rfl) (by kernel_rfl) (by kernel_rfl) (by exact fun _ _ _ h => h) (by exact yk_ix (by kernel_rfl) (.tmp 173) (.tmp 174) rfl b8 (off8) nS c8 k (by kernel_rfl) (by kernel_rfl) ekS) hHeld ?_
                        refine wpAnyH_take (i := 4) (by simp only [List.getElem?_toArray]; rfl) (by kernel_rfl) (by kernel_rfl) (by kernel_rfl) (by exact fun _ _ _ h => h) (by exact yk (.pointer (some ⟨b8, off8 + k * 3, none⟩)) (by kernel_rfl) (fun _ => by kernel_rfl)) hHeld ?_
                        refine wpAnyH_take (i := 5) (by simp only [List.getElem?_toArray]; rfl) (by kernel_rfl) (by kernel_rfl) (by kernel_rfl) (by exact fun _ _ _ h => h) (by exact yk_ldI (by kernel_rfl) (.tmp 176) rfl ⟨b8, off8 + k * 3, none⟩ (.int .i64 (x1 : Int)) (by kernel_rfl) (fun w h => sl_same h c0)) hHeld ?_
                        refine wpAnyH_take (i := 6) (by simp only [List.getElem?_toArray]; rfl) (by kernel_rfl) (by kernel_rfl) (by kernel_rfl) (by exact fun _ _ _ h => h) (by exact yk (.pointer (some ⟨K2, 99, none⟩)) (by kernel_rfl) (fun _ => by kernel_rfl)) hHeld ?_
                        refine wpAnyH_take (i := 7) (by simp only [List.getElem?_toArray]; rfl) (by kernel_rfl) (by kernel_rfl) (by kernel_rfl) (by exact fun _ _ _ h => h) (by exact yk_ldS (by kernel_rfl) (.tmp 178) rfl ⟨K2, 99, none⟩ (.slice (some ⟨b8', off9, none⟩) nT d8) (by kernel_rfl) (fun w h => sl_same h a2)) hHeld ?_
                        refine wpAnyH_take (i := 8) (by simp only [List.getElem?_toArray]; rfl) (by kernel_rfl) (by kernel_rfl) (by kernel_rfl) (by exact fun _ _ _ h => h) (by exact yk (.int .i64 (k : Int)) (by kernel_rfl) (fun _ => by kernel_rfl)) hHeld ?_
                        refine wpAnyH_take (i := 9) (by simp only [List.getElem?_toArray]; rfl) (by kernel_rfl) (by kernel_rfl) (by kernel_rfl) (by exact fun _ _ _ h => h) (by exact yk_ix (by kernel_rfl) (.tmp 179) (.tmp 180) rfl b8' (off9) nT d8 k (by kernel_rfl) (by kernel_rfl) ekT) hHeld ?_
                        refine wpAnyH_take (i := 10) (by simp only [List.getElem?_toArray]; rfl) (by kernel_rfl) (by kernel_rfl) (by kernel_rfl) (by exact fun _ _ _ h => h) (by exact yk (.pointer (some ⟨b8', off9 + k * 3, none⟩)) (by kernel_rfl) (fun _ => by kernel_rfl)) hHeld ?_
                        refine wpAnyH_take (i := 11) (by simp only [List.getElem?_toArray]; rfl) (by kernel_rfl) (by kernel_rfl) (by kernel_rfl) (by exact fun _ _ _ h => h) (by exact yk_ldI (by kernel_rfl) (.tmp 182) rfl ⟨b8', off9 + k * 3, none⟩ (.int .i64 (x1 : Int)) (by kernel_rfl) (fun w h => sl_same h d0)) hHeld ?_
                        refine wpAnyH_take (i := 12) (by simp only [List.getElem?_toArray]; rfl) (by kernel_rfl) (by kernel_rfl) (by kernel_rfl) (by exact fun _ _ _ h => h) (by exact yk_ne (by kernel_rfl) .i64 3 (.tmp 177) (.tmp 183) _ rfl ((x1 : Int)) ((x1 : Int)) (by kernel_rfl) (by kernel_rfl) false (by simp)) hHeld ?_
                        refine wpAnyH_take (i := 13) (by simp only [List.getElem?_toArray]; rfl) (by kernel_rfl) (by kernel_rfl) (by kernel_rfl) (by exact fun _ _ _ h => h) (by exact yk (.bool false) (by kernel_rfl) (fun _ => by kernel_rfl)) hHeld ?_
                        refine wpAnyH_take (i := 14) (by simp only [List.getElem?_toArray]; rfl) (by kernel_rfl) (by kernel_rfl) (by kernel_rfl) (by exact fun _ _ _ h => h) (by exact yk (.pointer (some ⟨K1, 99, none⟩)) (by kernel_rfl) (fun _ => by kernel_rfl)) hHeld ?_
                        refine wpAnyH_take (i := 15) (by simp only [List.getElem?_toArray]; rfl) (by kernel_rfl) (by kernel_rfl) (by kernel_rfl) (by exact fun _ _ _ h => h) (by exact yk_ldS (by kernel_rfl) (.tmp 186) rfl ⟨K1, 99, none⟩ (.slice (some ⟨b8, off8, none⟩) nS c8) (by kernel_rfl) (fun w h => sl_same h a1)) hHeld ?_
                        refine wpAnyH_take (i := 16) (by simp only [List.getElem?_toArray]; rfl) (by kernel_rfl) (by kernel_rfl) (by kernel_rfl) (by exact fun _ _ _ h => h) (by exact yk (.int .i64 (k : Int)) (by kernel_rfl) (fun _ => by kernel_rfl)) hHeld ?_
                        refine wpAnyH_take (i := 17) (by simp only [List.getElem?_toArray]; rfl) (by kernel_rfl) (by kernel_rfl) (by kernel_rfl) (by exact fun _ _ _ h => h) (by exact yk_ix (by kernel_rfl) (.tmp 187) (.tmp 188) rfl b8 (off8) nS c8 k (by kernel_rfl) (by kernel_rfl) ekS) hHeld ?_
                        refine wpAnyH_take (i := 18) (by simp only [List.getElem?_toArray]; rfl) (by kernel_rfl) (by kernel_rfl) (by kernel_rfl) (by exact fun _ _ _ h => h) (by exact yk (.pointer (some ⟨b8, off8 + k * 3 + 1, none⟩)) (by kernel_rfl) (fun _ => by kernel_rfl)) hHeld ?_
                        refine wpAnyH_take (i := 19) (by simp only [List.getElem?_toArray]; rfl) (by kernel_rfl) (by kernel_rfl) (by kernel_rfl) (by exact fun _ _ _ h => h) (by exact yk_ldM (by kernel_rfl) (.tmp 190) rfl ⟨b8, off8 + k * 3 + 1, none⟩ (.int .u32 (x2 : Int)) (by kernel_rfl) (fun w h => sl_same h c1)) hHeld ?_
                        refine wpAnyH_take (i := 20) (by simp only [List.getElem?_toArray]; rfl) (by kernel_rfl) (by kernel_rfl) (by kernel_rfl) (by exact fun _ _ _ h => h) (by exact yk (.pointer (some ⟨K2, 99, none⟩)) (by kernel_rfl) (fun _ => by kernel_rfl)) hHeld ?_
                        refine wpAnyH_take (i := 21) (by simp only [List.getElem?_toArray]; rfl) (by kernel_rfl) (by kernel_rfl) (by kernel_rfl) (by exact fun _ _ _ h => h) (by exact yk_ldS (by kernel_rfl) (.tmp 192) rfl ⟨K2, 99, none⟩ (.slice (some ⟨b8', off9, none⟩) nT d8) (by kernel_rfl) (fun w h => sl_same h a2)) hHeld ?_
                        refine wpAnyH_take (i := 22) (by simp only [List.getElem?_toArray]; rfl) (by kernel_rfl) (by kernel_rfl) (by kernel_rfl) (by exact fun _ _ _ h => h) (by exact yk (.int .i64 (k : Int)) (by kernel_rfl) (fun _ => by kernel_rfl)) hHeld ?_
                        refine wpAnyH_take (i := 23) (by simp only [List.getElem?_toArray]; rfl) (by kernel_rfl) (by kernel_rfl) (by kernel_rfl) (by exact fun _ _ _ h => h) (by exact yk_ix (by kernel_rfl) (.tmp 193) (.tmp 194) rfl b8' (off9) nT d8 k (by kernel_rfl) (by kernel_rfl) ekT) hHeld ?_
                        refine wpAnyH_take (i := 24) (by simp only [List.getElem?_toArray]; rfl) (by kernel_rfl) (by kernel_rfl) (by kernel_rfl) (by exact fun _ _ _ h => h) (by exact yk (.pointer (some ⟨b8', off9 + k * 3 + 1, none⟩)) (by kernel_rfl) (fun _ => by kernel_rfl)) hHeld ?_
                        refine wpAnyH_take (i := 25) (by simp only [List.getElem?_toArray]; rfl) (by kernel_rfl) (by kernel_rfl) (by kernel_rfl) (by exact fun _ _ _ h => h) (by exact yk_ldM (by kernel_rfl) (.tmp 196) rfl ⟨b8', off9 + k * 3 + 1, none⟩ (.int .u32 (x2 : Int)) (by kernel_rfl) (fun w h => sl_same h d1)) hHeld ?_
                        refine wpAnyH_take (i := 26) (by simp only [List.getElem?_toArray]; rfl) (by kernel_rfl) (by kernel_rfl) (by kernel_rfl) (by exact fun _ _ _ h => h) (by exact yk_ne (by kernel_rfl) .u32 35 (.tmp 191) (.tmp 197) _ rfl ((x2 : Int)) ((x2 : Int)) (by kernel_rfl) (by kernel_rfl) false (by simp)) hHeld ?_
                        refine wpAnyH_take (i := 27) (by simp only [List.getElem?_toArray]; rfl) (by kernel_rfl) (by kernel_rfl) (by kernel_rfl) (by exact fun _ _ _ h => h) (by exact yk (.bool false) (by kernel_rfl) (fun _ => by kernel_rfl)) hHeld ?_
                        refine wpAnyH_done (by kernel_rfl) ?_ _
                        try simp only [Act.put, List.setIfInBounds_toArray, List.set_cons_zero, List.set_cons_succ]
                        go_wp2_with fail
                        refine wp_region_held_drew (S := fun w' => Below wr.heap.size wr w') (by kernel_rfl) ?_ (fun hHeld => ?_)
                        · exact (by repeat (first | exact Below.refl _ _ | refine below_drewN ?_ _ | refine below_drew ?_))
                        refine wpAnyH_take (i := 0) (by simp only [List.getElem?_toArray]; rfl) (by kernel_rfl) (by kernel_rfl) (by kernel_rfl) (by exact fun _ _ _ h => h) (by exact yk (.pointer (some ⟨K1, 99, none⟩)) (by kernel_rfl) (fun _ => by kernel_rfl)) hHeld ?_
                        refine wpAnyH_take (i := 1) (by simp only [List.getElem?_toArray]; rfl) (by kernel_rfl) (by kernel_rfl) (by kernel_rfl) (by exact fun _ _ _ h => h) (by exact yk_ldS (by kernel_rfl) (.tmp 200) rfl ⟨K1, 99, none⟩ (.slice (some ⟨b8, off8, none⟩) nS c8) (by kernel_rfl) (fun w h => sl_same h a1)) hHeld ?_
                        refine wpAnyH_take (i := 2) (by simp only [List.getElem?_toArray]; rfl) (by kernel_rfl) (by kernel_rfl) (by kernel_rfl) (by exact fun _ _ _ h => h) (by exact yk (.int .i64 (k : Int)) (by kernel_rfl) (fun _ => by kernel_rfl)) hHeld ?_
                        refine wpAnyH_take (i := 3) (by simp only [List.getElem?_toArray]; rfl) (by kernel_rfl) (by kernel_rfl) (by kernel_rfl) (by exact fun _ _ _ h => h) (by exact yk_ix (by kernel_rfl) (.tmp 201) (.tmp 202) rfl b8 (off8) nS c8 k (by kernel_rfl) (by kernel_rfl) ekS) hHeld ?_
                        refine wpAnyH_take (i := 4) (by simp only [List.getElem?_toArray]; rfl) (by kernel_rfl) (by kernel_rfl) (by kernel_rfl) (by exact fun _ _ _ h => h) (by exact yk (.pointer (some ⟨b8, off8 + k * 3 + 1, none⟩)) (by kernel_rfl) (fun _ => by kernel_rfl)) hHeld ?_
                        refine wpAnyH_take (i := 5) (by simp only [List.getElem?_toArray]; rfl) (by kernel_rfl) (by kernel_rfl) (by kernel_rfl) (by exact fun _ _ _ h => h) (by exact yk_ldM (by kernel_rfl) (.tmp 204) rfl ⟨b8, off8 + k * 3 + 1, none⟩ (.int .u32 (x2 : Int)) (by kernel_rfl) (fun w h => sl_same h c1)) hHeld ?_
                        refine wpAnyH_take (i := 6) (by simp only [List.getElem?_toArray]; rfl) (by kernel_rfl) (by kernel_rfl) (by kernel_rfl) (by exact fun _ _ _ h => h) (by exact yk (.int .i64 (p : Int)) (by kernel_rfl) (fun _ => by kernel_rfl)) hHeld ?_
                        refine wpAnyH_ready (rs := [7]) (by kernel_rfl) (by simp) ?_
                        refine AllReadyH.cons (by simp only [List.getElem?_toArray]; rfl) (fun KK hKK => ?_) AllReadyH.nil
                        rw [if_pos (by kernel_rfl)]
                        refine wp_callF 19 #[.int .u32 (x2 : Int), .int .i64 (p : Int)] (by kernel_rfl) ?_
                        refine (hHo _).mono ?_
                        rintro e wx ⟨rfl, hwx⟩
                        subst hwx
                        refine ⟨_, rfl, ?_⟩
                        refine hKK.out _ _ ?_ (fun hHeld => ?_)
                        · exact (by repeat (first | exact Below.refl _ _ | refine below_drewN ?_ _ | refine below_drew ?_))
                        clear hKK KK
                        refine wpAnyH_take (i := 8) (by simp only [List.getElem?_toArray]; rfl) (by kernel_rfl) (by kernel_rfl) (by kernel_rfl) (by exact fun _ _ _ h => h) (by exact yk (.bool true) (by kernel_rfl) (fun _ => by kernel_rfl)) hHeld ?_
                        refine wpAnyH_take (i := 9) (by simp only [List.getElem?_toArray]; rfl) (by kernel_rfl) (by kernel_rfl) (by kernel_rfl) (by exact fun _ _ _ h => h) (by exact yk (.pointer (some ⟨K1, 99, none⟩)) (by kernel_rfl) (fun _ => by kernel_rfl)) hHeld ?_
                        refine wpAnyH_take (i := 10) (by simp only [List.getElem?_toArray]; rfl) (by kernel_rfl) (by kernel_rfl) (by kernel_rfl) (by exact fun _ _ _ h => h) (by exact yk_ldS (by kernel_rfl) (.tmp 209) rfl ⟨K1, 99, none⟩ (.slice (some ⟨b8, off8, none⟩) nS c8) (by kernel_rfl) (fun w h => sl_same h a1)) hHeld ?_
                        refine wpAnyH_take (i := 11) (by simp only [List.getElem?_toArray]; rfl) (by kernel_rfl) (by kernel_rfl) (by kernel_rfl) (by exact fun _ _ _ h => h) (by exact yk (.int .i64 (k : Int)) (by kernel_rfl) (fun _ => by kernel_rfl)) hHeld ?_
                        refine wpAnyH_take (i := 12) (by simp only [List.getElem?_toArray]; rfl) (by kernel_rfl) (by kernel_rfl) (by kernel_rfl) (by exact fun _ _ _ h => h) (by exact yk_ix (by kernel_rfl) (.tmp 210) (.tmp 211) rfl b8 (off8) nS c8 k (by kernel_rfl) (by kernel_rfl) ekS) hHeld ?_
                        refine wpAnyH_take (i := 13) (by simp only [List.getElem?_toArray]; rfl) (by kernel_rfl) (by kernel_rfl) (by kernel_rfl) (by exact fun _ _ _ h => h) (by exact yk (.pointer (some ⟨b8, off8 + k * 3 + 2, none⟩)) (by kernel_rfl) (fun _ => by kernel_rfl)) hHeld ?_
                        refine wpAnyH_take (i := 14) (by simp only [List.getElem?_toArray]; rfl) (by kernel_rfl) (by kernel_rfl) (by kernel_rfl) (by exact fun _ _ _ h => h) (by exact yk_ldV (by kernel_rfl) (.tmp 213) rfl ⟨b8, off8 + k * 3 + 2, none⟩ (.int .i32 x3) (by kernel_rfl) (fun w h => sl_same h c2)) hHeld ?_
                        refine wpAnyH_take (i := 15) (by simp only [List.getElem?_toArray]; rfl) (by kernel_rfl) (by kernel_rfl) (by kernel_rfl) (by exact fun _ _ _ h => h) (by exact yk (.pointer (some ⟨K2, 99, none⟩)) (by kernel_rfl) (fun _ => by kernel_rfl)) hHeld ?_
                        refine wpAnyH_take (i := 16) (by simp only [List.getElem?_toArray]; rfl) (by kernel_rfl) (by kernel_rfl) (by kernel_rfl) (by exact fun _ _ _ h => h) (by exact yk_ldS (by kernel_rfl) (.tmp 215) rfl ⟨K2, 99, none⟩ (.slice (some ⟨b8', off9, none⟩) nT d8) (by kernel_rfl) (fun w h => sl_same h a2)) hHeld ?_
                        refine wpAnyH_take (i := 17) (by simp only [List.getElem?_toArray]; rfl) (by kernel_rfl) (by kernel_rfl) (by kernel_rfl) (by exact fun _ _ _ h => h) (by exact yk (.int .i64 (k : Int)) (by kernel_rfl) (fun _ => by kernel_rfl)) hHeld ?_
                        refine wpAnyH_take (i := 18) (by simp only [List.getElem?_toArray]; rfl) (by kernel_rfl) (by kernel_rfl) (by kernel_rfl) (by exact fun _ _ _ h => h) (by exact yk_ix (by kernel_rfl) (.tmp 216) (.tmp 217) rfl b8' (off9) nT d8 k (by kernel_rfl) (by kernel_rfl) ekT) hHeld ?_
                        refine wpAnyH_take (i := 19) (by simp only [List.getElem?_toArray]; rfl) (by kernel_rfl) (by kernel_rfl) (by kernel_rfl) (by exact fun _ _ _ h => h) (by exact yk (.pointer (some ⟨b8', off9 + k * 3 + 2, none⟩)) (by kernel_rfl) (fun _ => by kernel_rfl)) hHeld ?_
                        refine wpAnyH_take (i := 20) (by simp only [List.getElem?_toArray]; rfl) (by kernel_rfl) (by kernel_rfl) (by kernel_rfl) (by exact fun _ _ _ h => h) (by exact yk_ldV (by kernel_rfl) (.tmp 219) rfl ⟨b8', off9 + k * 3 + 2, none⟩ (.int .i32 x3) (by kernel_rfl) (fun w h => sl_same h d2')) hHeld ?_
                        refine wpAnyH_take (i := 21) (by simp only [List.getElem?_toArray]; rfl) (by kernel_rfl) (by kernel_rfl) (by kernel_rfl) (by exact fun _ _ _ h => h) (by exact yk_ne (by kernel_rfl) .i32 21 (.tmp 214) (.tmp 220) _ rfl (x3) (x3) (by kernel_rfl) (by kernel_rfl) false (by simp)) hHeld ?_
                        refine wpAnyH_take (i := 22) (by simp only [List.getElem?_toArray]; rfl) (by kernel_rfl) (by kernel_rfl) (by kernel_rfl) (by exact fun _ _ _ h => h) (by exact yk (.bool false) (by kernel_rfl) (fun _ => by kernel_rfl)) hHeld ?_
                        refine wpAnyH_done (by kernel_rfl) ?_ _
                        try simp only [Act.put, List.setIfInBounds_toArray, List.set_cons_zero, List.set_cons_succ]
                        go_wp2_with fail
                        go_roundw
                        case rel => exact ⟨k + 1, by omega, by go_num, HGO.out (by simp), (by repeat (first | exact hbk | refine below_drewN ?_ _ | refine below_drew ?_))⟩
                        case measure => simp [intOf]; omega
                      · have exy : (x3 != y3) = true := by simp; exact hxy
                        clear hxy
                        go_wp2_with fail
                        refine wp_region_held_drew (S := fun w' => Below wr.heap.size wr w') (by kernel_rfl) ?_ (fun hHeld => ?_)
                        · exact (by repeat (first | exact Below.refl _ _ | refine below_drewN ?_ _ | refine below_drew ?_))
                        refine wpAnyH_take (i := 0) (by simp only [List.getElem?_toArray]; rfl) (by kernel_rfl) (by kernel_rfl) (by kernel_rfl) (by exact fun _ _ _ h => h) (by exact yk (.pointer (some ⟨K1, 99, none⟩)) (by kernel_rfl) (fun _ => by kernel_rfl)) hHeld ?_
                        refine wpAnyH_take (i := 1) (by simp only [List.getElem?_toArray]; rfl) (by kernel_rfl) (by kernel_rfl) (by kernel_rfl) (by exact fun _ _ _ h => h) (by exact yk_ldS (by kernel_rfl) (.tmp 172) rfl ⟨K1, 99, none⟩ (.slice (some ⟨b8, off8, none⟩) nS c8) (by kernel_rfl) (fun w h => sl_same h a1)) hHeld ?_
                        refine wpAnyH_take (i := 2) (by simp only [List.getElem?_toArray]; rfl) (by kernel_rfl) (by kernel_rfl) (by kernel_rfl) (by exact fun _ _ _ h => h) (by exact yk (.int .i64 (k : Int)) (by kernel_rfl) (fun _ => by kernel_rfl)) hHeld ?_
                        refine wpAnyH_take (i := 3) (by simp only [List.getElem?_toArray]; rfl) (by kernel_rfl) (by kernel_rfl) (by kernel_rfl) (by exact fun _ _ _ h => h) (by exact yk_ix (by kernel_rfl) (.tmp 173) (.tmp 174) rfl b8 (off8) nS c8 k (by kernel_rfl) (by kernel_rfl) ekS) hHeld ?_
                        refine wpAnyH_take (i := 4) (by simp only [List.getElem?_toArray]; rfl) (by kernel_rfl) (by kernel_rfl) (by kernel_rfl) (by exact fun _ _ _ h => h) (by exact yk (.pointer (some ⟨b8, off8 + k * 3, none⟩)) (by kernel_rfl) (fun _ => by kernel_rfl)) hHeld ?_
                        refine wpAnyH_take (i := 5) (by simp only [List.getElem?_toArray]; rfl) (by kernel_rfl) (by kernel_rfl) (by kernel_rfl) (by exact fun _ _ _ h => h) (by exact yk_ldI (by kernel_rfl) (.tmp 176) rfl ⟨b8, off8 + k * 3, none⟩ (.int .i64 (x1 : Int)) (by kernel_rfl) (fun w h => sl_same h c0)) hHeld ?_
                        refine wpAnyH_take (i := 6) (by simp only [List.getElem?_toArray]; rfl) (by kernel_rfl) (by kernel_rfl) (by kernel_rfl) (by exact fun _ _ _ h => h) (by exact yk (.pointer (some ⟨K2, 99, none⟩)) (by kernel_rfl) (fun _ => by kernel_rfl)) hHeld ?_
                        refine wpAnyH_take (i := 7) (by simp only [List.getElem?_toArray]; rfl) (by kernel_rfl) (by kernel_rfl) (by kernel_rfl) (by exact fun _ _ _ h => h) (by exact yk_ldS (by kernel_rfl) (.tmp 178) rfl ⟨K2, 99, none⟩ (.slice (some ⟨b8', off9, none⟩) nT d8) (by kernel_rfl) (fun w h => sl_same h a2)) hHeld ?_
                        refine wpAnyH_take (i := 8) (by simp only [List.getElem?_toArray]; rfl) (by kernel_rfl) (by kernel_rfl) (by kernel_rfl) (by exact fun _ _ _ h => h) (by exact yk (.int .i64 (k : Int)) (by kernel_rfl) (fun _ => by kernel_rfl)) hHeld ?_
                        refine wpAnyH_take (i := 9) (by simp only [List.getElem?_toArray]; rfl) (by kernel_rfl) (by kernel_rfl) (by kernel_rfl) (by exact fun _ _ _ h => h) (by exact yk_ix (by kernel_rfl) (.tmp 179) (.tmp 180) rfl b8' (off9) nT d8 k (by kernel_rfl) (by kernel_rfl) ekT) hHeld ?_
                        refine wpAnyH_take (i := 10) (by simp only [List.getElem?_toArray]; rfl) (by kernel_rfl) (by kernel_rfl) (by kernel_rfl) (by exact fun _ _ _ h => h) (by exact yk (.pointer (some ⟨b8', off9 + k * 3, none⟩)) (by kernel_rfl) (fun _ => by kernel_rfl)) hHeld ?_
                        refine wpAnyH_take (i := 11) (by simp only [List.getElem?_toArray]; rfl) (by kernel_rfl) (by kernel_rfl) (by kernel_rfl) (by exact fun _ _ _ h => h) (by exact yk_ldI (by kernel_rfl) (.tmp 182) rfl ⟨b8', off9 + k * 3, none⟩ (.int .i64 (x1 : Int)) (by kernel_rfl) (fun w h => sl_same h d0)) hHeld ?_
                        refine wpAnyH_take (i := 12) (by simp only [List.getElem?_toArray]; rfl) (by kernel_rfl) (by kernel_rfl) (by kernel_rfl) (by exact fun _ _ _ h => h) (by exact yk_ne (by kernel_rfl) .i64 3 (.tmp 177) (.tmp 183) _ rfl ((x1 : Int)) ((x1 : Int)) (by kernel_rfl) (by kernel_rfl) false (by simp)) hHeld ?_
                        refine wpAnyH_take (i := 13) (by simp only [List.getElem?_toArray]; rfl) (by kernel_rfl) (by kernel_rfl) (by kernel_rfl) (by exact fun _ _ _ h => h) (by exact yk (.bool false) (by kernel_rfl) (fun _ => by kernel_rfl)) hHeld ?_
                        refine wpAnyH_take (i := 14) (by simp only [List.getElem?_toArray]; rfl) (by kernel_rfl) (by kernel_rfl) (by kernel_rfl) (by exact fun _ _ _ h => h) (by exact yk (.pointer (some ⟨K1, 99, none⟩)) (by kernel_rfl) (fun _ => by kernel_rfl)) hHeld ?_
                        refine wpAnyH_take (i := 15) (by simp only [List.getElem?_toArray]; rfl) (by kernel_rfl) (by kernel_rfl) (by kernel_rfl) (by exact fun _ _ _ h => h) (by exact yk_ldS (by kernel_rfl) (.tmp 186) rfl ⟨K1, 99, none⟩ (.slice (some ⟨b8, off8, none⟩) nS c8) (by kernel_rfl) (fun w h => sl_same h a1)) hHeld ?_
                        refine wpAnyH_take (i := 16) (by simp only [List.getElem?_toArray]; rfl) (by kernel_rfl) (by kernel_rfl) (by kernel_rfl) (by exact fun _ _ _ h => h) (by exact yk (.int .i64 (k : Int)) (by kernel_rfl) (fun _ => by kernel_rfl)) hHeld ?_
                        refine wpAnyH_take (i := 17) (by simp only [List.getElem?_toArray]; rfl) (by kernel_rfl) (by kernel_rfl) (by kernel_rfl) (by exact fun _ _ _ h => h) (by exact yk_ix (by kernel_rfl) (.tmp 187) (.tmp 188) rfl b8 (off8) nS c8 k (by kernel_rfl) (by kernel_rfl) ekS) hHeld ?_
                        refine wpAnyH_take (i := 18) (by simp only [List.getElem?_toArray]; rfl) (by kernel_rfl) (by kernel_rfl) (by kernel_rfl) (by exact fun _ _ _ h => h) (by exact yk (.pointer (some ⟨b8, off8 + k * 3 + 1, none⟩)) (by kernel_rfl) (fun _ => by kernel_rfl)) hHeld ?_
                        refine wpAnyH_take (i := 19) (by simp only [List.getElem?_toArray]; rfl) (by kernel_rfl) (by kernel_rfl) (by kernel_rfl) (by exact fun _ _ _ h => h) (by exact yk_ldM (by kernel_rfl) (.tmp 190) rfl ⟨b8, off8 + k * 3 + 1, none⟩ (.int .u32 (x2 : Int)) (by kernel_rfl) (fun w h => sl_same h c1)) hHeld ?_
                        refine wpAnyH_take (i := 20) (by simp only [List.getElem?_toArray]; rfl) (by kernel_rfl) (by kernel_rfl) (by kernel_rfl) (by exact fun _ _ _ h => h) (by exact yk (.pointer (some ⟨K2, 99, none⟩)) (by kernel_rfl) (fun _ => by kernel_rfl)) hHeld ?_
                        refine wpAnyH_take (i := 21) (by simp only [List.getElem?_toArray]; rfl) (by kernel_rfl) (by kernel_rfl) (by kernel_rfl) (by exact fun _ _ _ h => h) (by exact yk_ldS (by kernel_rfl) (.tmp 192) rfl ⟨K2, 99, none⟩ (.slice (some ⟨b8', off9, none⟩) nT d8) (by kernel_rfl) (fun w h => sl_same h a2)) hHeld ?_
                        refine wpAnyH_take (i := 22) (by simp only [List.getElem?_toArray]; rfl) (by kernel_rfl) (by kernel_rfl) (by kernel_rfl) (by exact fun _ _ _ h => h) (by exact yk (.int .i64 (k : Int)) (by kernel_rfl) (fun _ => by kernel_rfl)) hHeld ?_
                        refine wpAnyH_take (i := 23) (by simp only [List.getElem?_toArray]; rfl) (by kernel_rfl) (by kernel_rfl) (by kernel_rfl) (by exact fun _ _ _ h => h) (by exact yk_ix (by kernel_rfl) (.tmp 193) (.tmp 194) rfl b8' (off9) nT d8 k (by kernel_rfl) (by kernel_rfl) ekT) hHeld ?_
                        refine wpAnyH_take (i := 24) (by simp only [List.getElem?_toArray]; rfl) (by kernel_rfl) (by kernel_rfl) (by kernel_rfl) (by exact fun _ _ _ h => h) (by exact yk (.pointer (some ⟨b8', off9 + k * 3 + 1, none⟩)) (by kernel_rfl) (fun _ => by kernel_rfl)) hHeld ?_
                        refine wpAnyH_take (i := 25) (by simp only [List.getElem?_toArray]; rfl) (by kernel_rfl) (by kernel_rfl) (by kernel_rfl) (by exact fun _ _ _ h => h) (by exact yk_ldM (by kernel_rfl) (.tmp 196) rfl ⟨b8', off9 + k * 3 + 1, none⟩ (.int .u32 (x2 : Int)) (by kernel_rfl) (fun w h => sl_same h d1)) hHeld ?_
                        refine wpAnyH_take (i := 26) (by simp only [List.getElem?_toArray]; rfl) (by kernel_rfl) (by kernel_rfl) (by kernel_rfl) (by exact fun _ _ _ h => h) (by exact yk_ne (by kernel_rfl) .u32 35 (.tmp 191) (.tmp 197) _ rfl ((x2 : Int)) ((x2 : Int)) (by kernel_rfl) (by kernel_rfl) false (by simp)) hHeld ?_
                        refine wpAnyH_take (i := 27) (by simp only [List.getElem?_toArray]; rfl) (by kernel_rfl) (by kernel_rfl) (by kernel_rfl) (by exact fun _ _ _ h => h) (by exact yk (.bool false) (by kernel_rfl) (fun _ => by kernel_rfl)) hHeld ?_
                        refine wpAnyH_done (by kernel_rfl) ?_ _
                        try simp only [Act.put, List.setIfInBounds_toArray, List.set_cons_zero, List.set_cons_succ]
                        go_wp2_with fail
                        refine wp_region_held_drew (S := fun w' => Below wr.heap.size wr w') (by kernel_rfl) ?_ (fun hHeld => ?_)
                        · exact (by repeat (first | exact Below.refl _ _ | refine below_drewN ?_ _ | refine below_drew ?_))
                        refine wpAnyH_take (i := 0) (by simp only [List.getElem?_toArray]; rfl) (by kernel_rfl) (by kernel_rfl) (by kernel_rfl) (by exact fun _ _ _ h => h) (by exact yk (.pointer (some ⟨K1, 99, none⟩)) (by kernel_rfl) (fun _ => by kernel_rfl)) hHeld ?_
                        refine wpAnyH_take (i := 1) (by simp only [List.getElem?_toArray]; rfl) (by kernel_rfl) (by kernel_rfl) (by kernel_rfl) (by exact fun _ _ _ h => h) (by exact yk_ldS (by kernel_rfl) (.tmp 200) rfl ⟨K1, 99, none⟩ (.slice (some ⟨b8, off8, none⟩) nS c8) (by kernel_rfl) (fun w h => sl_same h a1)) hHeld ?_
                        refine wpAnyH_take (i := 2) (by simp only [List.getElem?_toArray]; rfl) (by kernel_rfl) (by kernel_rfl) (by kernel_rfl) (by exact fun _ _ _ h => h) (by exact yk (.int .i64 (k : Int)) (by kernel_rfl) (fun _ => by kernel_rfl)) hHeld ?_
                        refine wpAnyH_take (i := 3) (by simp only [List.getElem?_toArray]; rfl) (by kernel_rfl) (by kernel_rfl) (by kernel_rfl) (by exact fun _ _ _ h => h) (by exact yk_ix (by kernel_rfl) (.tmp 201) (.tmp 202) rfl b8 (off8) nS c8 k (by kernel_rfl) (by kernel_rfl) ekS) hHeld ?_
                        refine wpAnyH_take (i := 4) (by simp only [List.getElem?_toArray]; rfl) (by kernel_rfl) (by kernel_rfl) (by kernel_rfl) (by exact fun _ _ _ h => h) (by exact yk (.pointer (some ⟨b8, off8 + k * 3 + 1, none⟩)) (by kernel_rfl) (fun _ => by kernel_rfl)) hHeld ?_
                        refine wpAnyH_take (i := 5) (by simp only [List.getElem?_toArray]; rfl) (by kernel_rfl) (by kernel_rfl) (by kernel_rfl) (by exact fun _ _ _ h => h) (by exact yk_ldM (by kernel_rfl) (.tmp 204) rfl ⟨b8, off8 + k * 3 + 1, none⟩ (.int .u32 (x2 : Int)) (by kernel_rfl) (fun w h => sl_same h c1)) hHeld ?_
                        refine wpAnyH_take (i := 6) (by simp only [List.getElem?_toArray]; rfl) (by kernel_rfl) (by kernel_rfl) (by kernel_rfl) (by exact fun _ _ _ h => h) (by exact yk (.int .i64 (p : Int)) (by kernel_rfl) (fun _ => by kernel_rfl)) hHeld ?_
                        refine wpAnyH_ready (rs := [7]) (by kernel_rfl) (by simp) ?_
                        refine AllReadyH.cons (by simp only [List.getElem?_toArray]; rfl) (fun KK hKK => ?_) AllReadyH.nil
                        rw [if_pos (by kernel_rfl)]
                        refine wp_callF 19 #[.int .u32 (x2 : Int), .int .i64 (p : Int)] (by kernel_rfl) ?_
                        refine (hHo _).mono ?_
                        rintro e wx ⟨rfl, hwx⟩
                        subst hwx
                        refine ⟨_, rfl, ?_⟩
                        refine hKK.out _ _ ?_ (fun hHeld => ?_)
                        · exact (by repeat (first | exact Below.refl _ _ | refine below_drewN ?_ _ | refine below_drew ?_))
                        clear hKK KK
                        refine wpAnyH_take (i := 8) (by simp only [List.getElem?_toArray]; rfl) (by kernel_rfl) (by kernel_rfl) (by kernel_rfl) (by exact fun _ _ _ h => h) (by exact yk (.bool true) (by kernel_rfl) (fun _ => by kernel_rfl)) hHeld ?_
                        refine wpAnyH_take (i := 9) (by simp only [List.getElem?_toArray]; rfl) (by kernel_rfl) (by kernel_rfl) (by kernel_rfl) (by exact fun _ _ _ h => h) (by exact yk (.pointer (some ⟨K1, 99, none⟩)) (by kernel_rfl) (fun _ => by kernel_rfl)) hHeld ?_
                        refine wpAnyH_take (i := 10) (by simp only [List.getElem?_toArray]; rfl) (by kernel_rfl) (by kernel_rfl) (by kernel_rfl) (by exact fun _ _ _ h => h) (by exact yk_ldS (by kernel_rfl) (.tmp 209) rfl ⟨K1, 99, none⟩ (.slice (some ⟨b8, off8, none⟩) nS c8) (by kernel_rfl) (fun w h => sl_same h a1)) hHeld ?_
                        refine wpAnyH_take (i := 11) (by simp only [List.getElem?_toArray]; rfl) (by kernel_rfl) (by kernel_rfl) (by kernel_rfl) (by exact fun _ _ _ h => h) (by exact yk (.int .i64 (k : Int)) (by kernel_rfl) (fun _ => by kernel_rfl)) hHeld ?_
                        refine wpAnyH_take (i := 12) (by simp only [List.getElem?_toArray]; rfl) (by kernel_rfl) (by kernel_rfl) (by kernel_rfl) (by exact fun _ _ _ h => h) (by exact yk_ix (by kernel_rfl) (.tmp 210) (.tmp 211) rfl b8 (off8) nS c8 k (by kernel_rfl) (by kernel_rfl) ekS) hHeld ?_
                        refine wpAnyH_take (i := 13) (by simp only [List.getElem?_toArray]; rfl) (by kernel_rfl) (by kernel_rfl) (by kernel_rfl) (by exact fun _ _ _ h => h) (by exact yk (.pointer (some ⟨b8, off8 + k * 3 + 2, none⟩)) (by kernel_rfl) (fun _ => by kernel_rfl)) hHeld ?_
                        refine wpAnyH_take (i := 14) (by simp only [List.getElem?_toArray]; rfl) (by kernel_rfl) (by kernel_rfl) (by kernel_rfl) (by exact fun _ _ _ h => h) (by exact yk_ldV (by kernel_rfl) (.tmp 213) rfl ⟨b8, off8 + k * 3 + 2, none⟩ (.int .i32 x3) (by kernel_rfl) (fun w h => sl_same h c2)) hHeld ?_
                        refine wpAnyH_take (i := 15) (by simp only [List.getElem?_toArray]; rfl) (by kernel_rfl) (by kernel_rfl) (by kernel_rfl) (by exact fun _ _ _ h => h) (by exact yk (.pointer (some ⟨K2, 99, none⟩)) (by kernel_rfl) (fun _ => by kernel_rfl)) hHeld ?_
                        refine wpAnyH_take (i := 16) (by simp only [List.getElem?_toArray]; rfl) (by kernel_rfl) (by kernel_rfl) (by kernel_rfl) (by exact fun _ _ _ h => h) (by exact yk_ldS (by kernel_rfl) (.tmp 215) rfl ⟨K2, 99, none⟩ (.slice (some ⟨b8', off9, none⟩) nT d8) (by kernel_rfl) (fun w h => sl_same h a2)) hHeld ?_
                        refine wpAnyH_take (i := 17) (by simp only [List.getElem?_toArray]; rfl) (by kernel_rfl) (by kernel_rfl) (by kernel_rfl) (by exact fun _ _ _ h => h) (by exact yk (.int .i64 (k : Int)) (by kernel_rfl) (fun _ => by kernel_rfl)) hHeld ?_
                        refine wpAnyH_take (i := 18) (by simp only [List.getElem?_toArray]; rfl) (by kernel_rfl) (by kernel_rfl) (by kernel_rfl) (by exact fun _ _ _ h => h) (by exact yk_ix (by kernel_rfl) (.tmp 216) (.tmp 217) rfl b8' (off9) nT d8 k (by kernel_rfl) (by kernel_rfl) ekT) hHeld ?_
                        refine wpAnyH_take (i := 19) (by simp only [List.getElem?_toArray]; rfl) (by kernel_rfl) (by kernel_rfl) (by kernel_rfl) (by exact fun _ _ _ h => h) (by exact yk (.pointer (some ⟨b8', off9 + k * 3 + 2, none⟩)) (by kernel_rfl) (fun _ => by kernel_rfl)) hHeld ?_
                        refine wpAnyH_take (i := 20) (by simp only [List.getElem?_toArray]; rfl) (by kernel_rfl) (by kernel_rfl) (by kernel_rfl) (by exact fun _ _ _ h => h) (by exact yk_ldV (by kernel_rfl) (.tmp 219) rfl ⟨b8', off9 + k * 3 + 2, none⟩ (.int .i32 y3) (by kernel_rfl) (fun w h => sl_same h d2')) hHeld ?_
                        refine wpAnyH_take (i := 21) (by simp only [List.getElem?_toArray]; rfl) (by kernel_rfl) (by kernel_rfl) (by kernel_rfl) (by exact fun _ _ _ h => h) (by exact yk_ne (by kernel_rfl) .i32 21 (.tmp 214) (.tmp 220) _ rfl (x3) (y3) (by kernel_rfl) (by kernel_rfl) true (exy)) hHeld ?_
                        refine wpAnyH_take (i := 22) (by simp only [List.getElem?_toArray]; rfl) (by kernel_rfl) (by kernel_rfl) (by kernel_rfl) (by exact fun _ _ _ h => h) (by exact yk (.bool true) (by kernel_rfl) (fun _ => by kernel_rfl)) hHeld ?_
                        refine wpAnyH_done (by kernel_rfl) ?_ _
                        try simp only [Act.put, List.setIfInBounds_toArray, List.set_cons_zero, List.set_cons_succ]
                        go_wp2_with fail
                        go_ret
                        exact ⟨rfl, HBD.out.trans ((hb.trans (((by repeat (first | exact hbk | refine below_drewN ?_ _ | refine below_drew ?_)) : Below wk.heap.size wk _).mono hbz)).mono HBD.out.size)⟩
                    | false =>
                      go_wp2_with fail
                      refine wp_region_held_drew (S := fun w' => Below wr.heap.size wr w') (by kernel_rfl) ?_ (fun hHeld => ?_)
                      · exact (by repeat (first | exact Below.refl _ _ | refine below_drewN ?_ _ | refine below_drew ?_))
                      refine wpAnyH_take (i := 0) (by simp only [List.getElem?_toArray]; rfl) (by kernel_rfl) (by kernel_rfl) (by kernel_rfl) (by exact fun _ _ _ h => h) (by exact yk (.pointer (some ⟨K1, 99, none⟩)) (by kernel_rfl) (fun _ => by kernel_rfl)) hHeld ?_
                      refine wpAnyH_take (i := 1) (by simp only [List.getElem?_toArray]; rfl) (by kernel_rfl) (by kernel_rfl) (by kernel_rfl) (by exact fun _ _ _ h => h) (by exact yk_ldS (by kernel_rfl) (.tmp 172) rfl ⟨K1, 99, none⟩ (.slice (some ⟨b8, off8, none⟩) nS c8) (by kernel_rfl) (fun w h => sl_same h a1)) hHeld ?_
                      refine wpAnyH_take (i := 2) (by simp only [List.getElem?_toArray]; rfl) (by kernel_rfl) (by kernel_rfl) (by kernel_rfl) (by exact fun _ _ _ h => h) (by exact yk (.int .i64 (k : Int)) (by kernel_rfl) (fun _ => by kernel_rfl)) hHeld ?_
                      refine wpAnyH_take (i := 3) (by simp only [List.getElem?_toArray]; rfl) (by kernel_rfl) (by kernel_rfl) (by kernel_rfl) (by exact fun _ _ _ h => h) (by exact yk_ix (by kernel_rfl) (.tmp 173) (.tmp 174) rfl b8 (off8) nS c8 k (by kernel_rfl) (by kernel_rfl) ekS) hHeld ?_
                      refine wpAnyH_take (i := 4) (by simp only [List.getElem?_toArray]; rfl) (by kernel_rfl) (by kernel_rfl) (by kernel_rfl) (by exact fun _ _ _ h => h) (by exact yk (.pointer (some ⟨b8, off8 + k * 3, none⟩)) (by kernel_rfl) (fun _ => by kernel_rfl)) hHeld ?_
                      refine wpAnyH_take (i := 5) (by simp only [List.getElem?_toArray]; rfl) (by kernel_rfl) (by kernel_rfl) (by kernel_rfl) (by exact fun _ _ _ h => h) (by exact yk_ldI (by kernel_rfl) (.tmp 176) rfl ⟨b8, off8 + k * 3, none⟩ (.int .i64 (x1 : Int)) (by kernel_rfl) (fun w h => sl_same h c0)) hHeld ?_
                      refine wpAnyH_take (i := 6) (by simp only [List.getElem?_toArray]; rfl) (by kernel_rfl) (by kernel_rfl) (by kernel_rfl) (by exact fun _ _ _ h => h) (by exact yk (.pointer (some ⟨K2, 99, none⟩)) (by kernel_rfl) (fun _ => by kernel_rfl)) hHeld ?_
                      refine wpAnyH_take (i := 7) (by simp only [List.getElem?_toArray]; rfl) (by kernel_rfl) (by kernel_rfl) (by kernel_rfl) (by exact fun _ _ _ h => h) (by exact yk_ldS (by kernel_rfl) (.tmp 178) rfl ⟨K2, 99, none⟩ (.slice (some ⟨b8', off9, none⟩) nT d8) (by kernel_rfl) (fun w h => sl_same h a2)) hHeld ?_
                      refine wpAnyH_take (i := 8) (by simp only [List.getElem?_toArray]; rfl) (by kernel_rfl) (by kernel_rfl) (by kernel_rfl) (by exact fun _ _ _ h => h) (by exact yk (.int .i64 (k : Int)) (by kernel_rfl) (fun _ => by kernel_rfl)) hHeld ?_
                      refine wpAnyH_take (i := 9) (by simp only [List.getElem?_toArray]; rfl) (by kernel_rfl) (by kernel_rfl) (by kernel_rfl) (by exact fun _ _ _ h => h) (by exact yk_ix (by kernel_rfl) (.tmp 179) (.tmp 180) rfl b8' (off9) nT d8 k (by kernel_rfl) (by kernel_rfl) ekT) hHeld ?_
                      refine wpAnyH_take (i := 10) (by simp only [List.getElem?_toArray]; rfl) (by kernel_rfl) (by kernel_rfl) (by kernel_rfl) (by exact fun _ _ _ h => h) (by exact yk (.pointer (some ⟨b8', off9 + k * 3, none⟩)) (by kernel_rfl) (fun _ => by kernel_rfl)) hHeld ?_
                      refine wpAnyH_take (i := 11) (by simp only [List.getElem?_toArray]; rfl) (by kernel_rfl) (by kernel_rfl) (by kernel_rfl) (by exact fun _ _ _ h => h) (by exact yk_ldI (by kernel_rfl) (.tmp 182) rfl ⟨b8', off9 + k * 3, none⟩ (.int .i64 (x1 : Int)) (by kernel_rfl) (fun w h => sl_same h d0)) hHeld ?_
                      refine wpAnyH_take (i := 12) (by simp only [List.getElem?_toArray]; rfl) (by kernel_rfl) (by kernel_rfl) (by kernel_rfl) (by exact fun _ _ _ h => h) (by exact yk_ne (by kernel_rfl) .i64 3 (.tmp 177) (.tmp 183) _ rfl ((x1 : Int)) ((x1 : Int)) (by kernel_rfl) (by kernel_rfl) false (by simp)) hHeld ?_
                      refine wpAnyH_take (i := 13) (by simp only [List.getElem?_toArray]; rfl) (by kernel_rfl) (by kernel_rfl) (by kernel_rfl) (by exact fun _ _ _ h => h) (by exact yk (.bool false) (by kernel_rfl) (fun _ => by kernel_rfl)) hHeld ?_
                      refine wpAnyH_take (i := 14) (by simp only [List.getElem?_toArray]; rfl) (by kernel_rfl) (by kernel_rfl) (by kernel_rfl) (by exact fun _ _ _ h => h) (by exact yk (.pointer (some ⟨K1, 99, none⟩)) (by kernel_rfl) (fun _ => by kernel_rfl)) hHeld ?_
                      refine wpAnyH_take (i := 15) (by simp only [List.getElem?_toArray]; rfl) (by kernel_rfl) (by kernel_rfl) (by kernel_rfl) (by exact fun _ _ _ h => h) (by exact yk_ldS (by kernel_rfl) (.tmp 186) rfl ⟨K1, 99, none⟩ (.slice (some ⟨b8, off8, none⟩) nS c8) (by kernel_rfl) (fun w h => sl_same h a1)) hHeld ?_
                      refine wpAnyH_take (i := 16) (by simp only [List.getElem?_toArray]; rfl) (by kernel_rfl) (by kernel_rfl) (by kernel_rfl) (by exact fun _ _ _ h => h) (by exact yk (.int .i64 (k : Int)) (by kernel_rfl) (fun _ => by kernel_rfl)) hHeld ?_
                      refine wpAnyH_take (i := 17) (by simp only [List.getElem?_toArray]; rfl) (by kernel_rfl) (by kernel_rfl) (by kernel_rfl) (by exact fun _ _ _ h => h) (by exact yk_ix (by kernel_rfl) (.tmp 187) (.tmp 188) rfl b8 (off8) nS c8 k (by kernel_rfl) (by kernel_rfl) ekS) hHeld ?_
                      refine wpAnyH_take (i := 18) (by simp only [List.getElem?_toArray]; rfl) (by kernel_rfl) (by kernel_rfl) (by kernel_rfl) (by exact fun _ _ _ h => h) (by exact yk (.pointer (some ⟨b8, off8 + k * 3 + 1, none⟩)) (by kernel_rfl) (fun _ => by kernel_rfl)) hHeld ?_
                      refine wpAnyH_take (i := 19) (by simp only [List.getElem?_toArray]; rfl) (by kernel_rfl) (by kernel_rfl) (by kernel_rfl) (by exact fun _ _ _ h => h) (by exact yk_ldM (by kernel_rfl) (.tmp 190) rfl ⟨b8, off8 + k * 3 + 1, none⟩ (.int .u32 (x2 : Int)) (by kernel_rfl) (fun w h => sl_same h c1)) hHeld ?_
                      refine wpAnyH_take (i := 20) (by simp only [List.getElem?_toArray]; rfl) (by kernel_rfl) (by kernel_rfl) (by kernel_rfl) (by exact fun _ _ _ h => h) (by exact yk (.pointer (some ⟨K2, 99, none⟩)) (by kernel_rfl) (fun _ => by kernel_rfl)) hHeld ?_
                      refine wpAnyH_take (i := 21) (by simp only [List.getElem?_toArray]; rfl) (by kernel_rfl) (by kernel_rfl) (by kernel_rfl) (by exact fun _ _ _ h => h) (by exact yk_ldS (by kernel_rfl) (.tmp 192) rfl ⟨K2, 99, none⟩ (.slice (some ⟨b8', off9, none⟩) nT d8) (by kernel_rfl) (fun w h => sl_same h a2)) hHeld ?_
                      refine wpAnyH_take (i := 22) (by simp only [List.getElem?_toArray]; rfl) (by kernel_rfl) (by kernel_rfl) (by kernel_rfl) (by exact fun _ _ _ h => h) (by exact yk (.int .i64 (k : Int)) (by kernel_rfl) (fun _ => by kernel_rfl)) hHeld ?_
                      refine wpAnyH_take (i := 23) (by simp only [List.getElem?_toArray]; rfl) (by kernel_rfl) (by kernel_rfl) (by kernel_rfl) (by exact fun _ _ _ h => h) (by exact yk_ix (by kernel_rfl) (.tmp 193) (.tmp 194) rfl b8' (off9) nT d8 k (by kernel_rfl) (by kernel_rfl) ekT) hHeld ?_
                      refine wpAnyH_take (i := 24) (by simp only [List.getElem?_toArray]; rfl) (by kernel_rfl) (by kernel_rfl) (by kernel_rfl) (by exact fun _ _ _ h => h) (by exact yk (.pointer (some ⟨b8', off9 + k * 3 + 1, none⟩)) (by kernel_rfl) (fun _ => by kernel_rfl)) hHeld ?_
                      refine wpAnyH_take (i := 25) (by simp only [List.getElem?_toArray]; rfl) (by kernel_rfl) (by kernel_rfl) (by kernel_rfl) (by exact fun _ _ _ h => h) (by exact yk_ldM (by kernel_rfl) (.tmp 196) rfl ⟨b8', off9 + k * 3 + 1, none⟩ (.int .u32 (x2 : Int)) (by kernel_rfl) (fun w h => sl_same h d1)) hHeld ?_
                      refine wpAnyH_take (i := 26) (by simp only [List.getElem?_toArray]; rfl) (by kernel_rfl) (by kernel_rfl) (by kernel_rfl) (by exact fun _ _ _ h => h) (by exact yk_ne (by kernel_rfl) .u32 35 (.tmp 191) (.tmp 197) _ rfl ((x2 : Int)) ((x2 : Int)) (by kernel_rfl) (by kernel_rfl) false (by simp)) hHeld ?_
                      refine wpAnyH_take (i := 27) (by simp only [List.getElem?_toArray]; rfl) (by kernel_rfl) (by kernel_rfl) (by kernel_rfl) (by exact fun _ _ _ h => h) (by exact yk (.bool false) (by kernel_rfl) (fun _ => by kernel_rfl)) hHeld ?_
                      refine wpAnyH_done (by kernel_rfl) ?_ _
                      try simp only [Act.put, List.setIfInBounds_toArray, List.set_cons_zero, List.set_cons_succ]
                      go_wp2_with fail
                      refine wp_region_held_drew (S := fun w' => Below wr.heap.size wr w') (by kernel_rfl) ?_ (fun hHeld => ?_)
                      · exact (by repeat (first | exact Below.refl _ _ | refine below_drewN ?_ _ | refine below_drew ?_))
                      refine wpAnyH_take (i := 0) (by simp only [List.getElem?_toArray]; rfl) (by kernel_rfl) (by kernel_rfl) (by kernel_rfl) (by exact fun _ _ _ h => h) (by exact yk (.pointer (some ⟨K1, 99, none⟩)) (by kernel_rfl) (fun _ => by kernel_rfl)) hHeld ?_
                      refine wpAnyH_take (i := 1) (by simp only [List.getElem?_toArray]; rfl) (by kernel_rfl) (by kernel_rfl) (by kernel_rfl) (by exact fun _ _ _ h => h) (by exact yk_ldS (by kernel_rfl) (.tmp 200) rfl ⟨K1, 99, none⟩ (.slice (some ⟨b8, off8, none⟩) nS c8) (by kernel_rfl) (fun w h => sl_same h a1)) hHeld ?_
                      refine wpAnyH_take (i := 2) (by simp only [List.getElem?_toArray]; rfl) (by kernel_rfl) (by kernel_rfl) (by kernel_rfl) (by exact fun _ _ _ h => h) (by exact yk (.int .i64 (k : Int)) (by kernel_rfl) (fun _ => by kernel_rfl)) hHeld ?_
                      refine wpAnyH_take (i := 3) (by simp only [List.getElem?_toArray]; rfl) (by kernel_rfl) (by kernel_rfl) (by kernel_rfl) (by exact fun _ _ _ h => h) (by exact yk_ix (by kernel_rfl) (.tmp 201) (.tmp 202) rfl b8 (off8) nS c8 k (by kernel_rfl) (by kernel_rfl) ekS) hHeld ?_
                      refine wpAnyH_take (i := 4) (by simp only [List.getElem?_toArray]; rfl) (by kernel_rfl) (by kernel_rfl) (by kernel_rfl) (by exact fun _ _ _ h => h) (by exact yk (.pointer (some ⟨b8, off8 + k * 3 + 1, none⟩)) (by kernel_rfl) (fun _ => by kernel_rfl)) hHeld ?_
                      refine wpAnyH_take (i := 5) (by simp only [List.getElem?_toArray]; rfl) (by kernel_rfl) (by kernel_rfl) (by kernel_rfl) (by exact fun _ _ _ h => h) (by exact yk_ldM (by kernel_rfl) (.tmp 204) rfl ⟨b8, off8 + k * 3 + 1, none⟩ (.int .u32 (x2 : Int)) (by kernel_rfl) (fun w h => sl_same h c1)) hHeld ?_
                      refine wpAnyH_take (i := 6) (by simp only [List.getElem?_toArray]; rfl) (by kernel_rfl) (by kernel_rfl) (by kernel_rfl) (by exact fun _ _ _ h => h) (by exact yk (.int .i64 (p : Int)) (by kernel_rfl) (fun _ => by kernel_rfl)) hHeld ?_
                      refine wpAnyH_ready (rs := [7]) (by kernel_rfl) (by simp) ?_
                      refine AllReadyH.cons (by simp only [List.getElem?_toArray]; rfl) (fun KK hKK => ?_) AllReadyH.nil
                      rw [if_pos (by kernel_rfl)]
                      refine wp_callF 19 #[.int .u32 (x2 : Int), .int .i64 (p : Int)] (by kernel_rfl) ?_
                      refine (hHo _).mono ?_
                      rintro e wx ⟨rfl, hwx⟩
                      subst hwx
                      refine ⟨_, rfl, ?_⟩
                      refine hKK.out _ _ ?_ (fun hHeld => ?_)
                      · exact (by repeat (first | exact Below.refl _ _ | refine below_drewN ?_ _ | refine below_drew ?_))
                      clear hKK KK
                      refine wpAnyH_take (i := 8) (by simp only [List.getElem?_toArray]; rfl) (by kernel_rfl) (by kernel_rfl) (by kernel_rfl) (by exact fun _ _ _ h => h) (by exact yk (.bool false) (by kernel_rfl) (fun _ => by kernel_rfl)) hHeld ?_
                      refine wpAnyH_take (i := 9) (by simp only [List.getElem?_toArray]; rfl) (by kernel_rfl) (by kernel_rfl) (by kernel_rfl) (by exact fun _ _ _ h => h) (by exact yk_no (by kernel_rfl)) hHeld ?_
                      refine wpAnyH_take (i := 10) (by simp only [List.getElem?_toArray]; rfl) (by kernel_rfl) (by kernel_rfl) (by kernel_rfl) (by exact fun _ _ _ h => h) (by exact yk_no (by kernel_rfl)) hHeld ?_
                      refine wpAnyH_take (i := 11) (by simp only [List.getElem?_toArray]; rfl) (by kernel_rfl) (by kernel_rfl) (by kernel_rfl) (by exact fun _ _ _ h => h) (by exact yk_no (by kernel_rfl)) hHeld ?_
                      refine wpAnyH_take (i := 12) (by simp only [List.getElem?_toArray]; rfl) (by kernel_rfl) (by kernel_rfl) (by kernel_rfl) (by exact fun _ _ _ h => h) (by exact yk_no (by kernel_rfl)) hHeld ?_
                      refine wpAnyH_take (i := 13) (by simp only [List.getElem?_toArray]; rfl) (by kernel_rfl) (by kernel_rfl) (by kernel_rfl) (by exact fun _ _ _ h => h) (by exact yk_no (by kernel_rfl)) hHeld ?_
                      refine wpAnyH_take (i := 14) (by simp only [List.getElem?_toArray]; rfl) (by kernel_rfl) (by kernel_rfl) (by kernel_rfl) (by exact fun _ _ _ h => h) (by exact yk_no (by kernel_rfl)) hHeld ?_
                      refine wpAnyH_take (i := 15) (by simp only [List.getElem?_toArray]; rfl) (by kernel_rfl) (by kernel_rfl) (by kernel_rfl) (by exact fun _ _ _ h => h) (by exact yk_no (by kernel_rfl)) hHeld ?_
                      refine wpAnyH_take (i := 16) (by simp only [List.getElem?_toArray]; rfl) (by kernel_rfl) (by kernel_rfl) (by kernel_rfl) (by exact fun _ _ _ h => h) (by exact yk_no (by kernel_rfl)) hHeld ?_
                      refine wpAnyH_take (i := 17) (by simp only [List.getElem?_toArray]; rfl) (by kernel_rfl) (by kernel_rfl) (by kernel_rfl) (by exact fun _ _ _ h => h) (by exact yk_no (by kernel_rfl)) hHeld ?_
                      refine wpAnyH_take (i := 18) (by simp only [List.getElem?_toArray]; rfl) (by kernel_rfl) (by kernel_rfl) (by kernel_rfl) (by exact fun _ _ _ h => h) (by exact yk_no (by kernel_rfl)) hHeld ?_
                      refine wpAnyH_take (i := 19) (by simp only [List.getElem?_toArray]; rfl) (by kernel_rfl) (by kernel_rfl) (by kernel_rfl) (by exact fun _ _ _ h => h) (by exact yk_no (by kernel_rfl)) hHeld ?_
                      refine wpAnyH_take (i := 20) (by simp only [List.getElem?_toArray]; rfl) (by kernel_rfl) (by kernel_rfl) (by kernel_rfl) (by exact fun _ _ _ h => h) (by exact yk_no (by kernel_rfl)) hHeld ?_
                      refine wpAnyH_take (i := 21) (by simp only [List.getElem?_toArray]; rfl) (by kernel_rfl) (by kernel_rfl) (by kernel_rfl) (by exact fun _ _ _ h => h) (by exact yk_no (by kernel_rfl)) hHeld ?_
                      refine wpAnyH_take (i := 22) (by simp only [List.getElem?_toArray]; rfl) (by kernel_rfl) (by kernel_rfl) (by kernel_rfl) (by exact fun _ _ _ h => h) (by exact yk (.bool false) (by kernel_rfl) (fun _ => by kernel_rfl)) hHeld ?_
                      refine wpAnyH_done (by kernel_rfl) ?_ _
                      try simp only [Act.put, List.setIfInBounds_toArray, List.set_cons_zero, List.set_cons_succ]
                      go_wp2_with fail
                      go_roundw
                      case rel => exact ⟨k + 1, by omega, by go_num, HGO.out (by simp), (by repeat (first | exact hbk | refine below_drewN ?_ _ | refine below_drew ?_))⟩
                      case measure => simp [intOf]; omega
                  · obtain rfl : mn = k := by omega
                    have hall : F.sh.length = F2.sh.length ∧ (F.e = F2.e ∧ F.u = F2.u ∧ F.t = F2.t ∧ viewL (p : Int) F.L = viewL (p : Int) F2.L ∧ F.L.map Prod.snd = F2.L.map Prod.snd) := by
                      rcases HK.out.ends with ⟨e1, e2, h⟩ | ⟨h1, h2, -, -⟩
                      · exact ⟨by omega, h⟩
                      · have := HNS.out
                        have := HNT.out
                        have := HMN.out
                        omega
                    obtain ⟨fl, fe, fu, ft, fv, flab⟩ := hall
                    obtain rfl : nT = nS := by rw [HNS.out, HNT.out, fl]
                    have hAl := fun W => Alike_calls F.L F2.L (p : Int) W (by rw [HWL.out.1]; exact lMM) (by rw [HWL2.out.1]; exact lMM) HWL.out.2 HWL2.out.2
                    rw [decide_eq_true fv] at hAl
                    have hL1 := fun W => Labels_calls F.L W (by rw [HWL.out.1]; exact lMM) HWL.out.2
                    have hL2 := fun W => Labels_calls F2.L W (by rw [HWL2.out.1]; exact lMM) HWL2.out.2
                    rw [← labs_snd flab] at hL2
                    obtain ⟨ll, hll⟩ : ∃ ll, ll = labsL F.L := ⟨_, rfl⟩
                    rw [← hll] at hL1 hL2
                    have FE := Lib.hid fe
                    have FU := Lib.hid fu
                    have FT := Lib.hid ft
                    have r1 := r1.ext hbk
                    have r2 := r2.ext hbk
                    have hb := HBD.out.trans ((hb.trans (hbk.mono hbz)).mono HBD.out.size)
                    clear fl fe fu ft fv flab hll hs8 hs9 hkK hk hbk hlt hmnS hbz
                    go_wp2_with fail
                    refine wp_region_held_drew (S := fun w' => BoxR w' K1 sh F ∧ BoxR w' K2 sh2 F2) (by kernel_rfl) ?_ (fun hHeld => ?_)
                    · exact ⟨r1, r2⟩
                    refine wpAnyH_take (i := 0) (by simp only [List.getElem?_toArray]; rfl) (by kernel_rfl) (by kernel_rfl) (by kernel_rfl) (by exact fun _ _ _ h => h) (by exact yk (.pointer (some ⟨K1, 101, none⟩)) (by kernel_rfl) (fun _ => by kernel_rfl)) hHeld ?_
                    refine wpAnyH_take (i := 1) (by simp only [List.getElem?_toArray]; rfl) (by kernel_rfl) (by kernel_rfl) (by kernel_rfl) (by exact fun _ _ _ h => h) (by exact yk_ldE (by kernel_rfl) (.tmp 224) rfl ⟨K1, 101, none⟩ (.int .i64 (F.e : Int)) (by kernel_rfl) (fun w h => h.1.cE)) hHeld ?_
                    refine wpAnyH_take (i := 2) (by simp only [List.getElem?_toArray]; rfl) (by kernel_rfl) (by kernel_rfl) (by kernel_rfl) (by exact fun _ _ _ h => h) (by exact yk (.pointer (some ⟨K2, 101, none⟩)) (by kernel_rfl) (fun _ => by kernel_rfl)) hHeld ?_
                    refine wpAnyH_take (i := 3) (by simp only [List.getElem?_toArray]; rfl) (by kernel_rfl) (by kernel_rfl) (by kernel_rfl) (by exact fun _ _ _ h => h) (by exact yk_ldE (by kernel_rfl) (.tmp 226) rfl ⟨K2, 101, none⟩ (.int .i64 (F2.e : Int)) (by kernel_rfl) (fun w h => h.2.cE)) hHeld ?_
                    refine wpAnyH_take (i := 4) (by simp only [List.getElem?_toArray]; rfl) (by kernel_rfl) (by kernel_rfl) (by kernel_rfl) (by exact fun _ _ _ h => h) (by exact yk_eq (by kernel_rfl) .i64 45 (.tmp 225) (.tmp 227) _ rfl ((F.e : Int)) ((F2.e : Int)) (by kernel_rfl) (by kernel_rfl) true (by rw [FE.out]; simp)) hHeld ?_
                    refine wpAnyH_take (i := 5) (by simp only [List.getElem?_toArray]; rfl) (by kernel_rfl) (by kernel_rfl) (by kernel_rfl) (by exact fun _ _ _ h => h) (by exact yk (.bool true) (by kernel_rfl) (fun _ => by kernel_rfl)) hHeld ?_
                    refine wpAnyH_take (i := 6) (by simp only [List.getElem?_toArray]; rfl) (by kernel_rfl) (by kernel_rfl) (by kernel_rfl) (by exact fun _ _ _ h => h) (by exact yk (.pointer (some ⟨K1, 100, none⟩)) (by kernel_rfl) (fun _ => by kernel_rfl)) hHeld ?_
                    refine wpAnyH_take (i := 7) (by simp only [List.getElem?_toArray]; rfl) (by kernel_rfl) (by kernel_rfl) (by kernel_rfl) (by exact fun _ _ _ h => h) (by exact yk_ldI (by kernel_rfl) (.tmp 230) rfl ⟨K1, 100, none⟩ (.int .i64 (F.u : Int)) (by kernel_rfl) (fun w h => h.1.cU)) hHeld ?_
                    refine wpAnyH_take (i := 8) (by simp only [List.getElem?_toArray]; rfl) (by kernel_rfl) (by kernel_rfl) (by kernel_rfl) (by exact fun _ _ _ h => h) (by exact yk (.pointer (some ⟨K2, 100, none⟩)) (by kernel_rfl) (fun _ => by kernel_rfl)) hHeld ?_
                    refine wpAnyH_take (i := 9) (by simp only [List.getElem?_toArray]; rfl) (by kernel_rfl) (by kernel_rfl) (by kernel_rfl) (by exact fun _ _ _ h => h) (by exact yk_ldI (by kernel_rfl) (.tmp 232) rfl ⟨K2, 100, none⟩ (.int .i64 (F2.u : Int)) (by kernel_rfl) (fun w h => h.2.cU)) hHeld ?_
                    refine wpAnyH_take (i := 10) (by simp only [List.getElem?_toArray]; rfl) (by kernel_rfl) (by kernel_rfl) (by kernel_rfl) (by exact fun _ _ _ h => h) (by exact yk_eq (by kernel_rfl) .i64 3 (.tmp 231) (.tmp 233) _ rfl ((F.u : Int)) ((F2.u : Int)) (by kernel_rfl) (by kernel_rfl) true (by rw [FU.out]; simp)) hHeld ?_
                    refine wpAnyH_take (i := 11) (by simp only [List.getElem?_toArray]; rfl) (by kernel_rfl) (by kernel_rfl) (by kernel_rfl) (by exact fun _ _ _ h => h) (by exact yk (.bool true) (by kernel_rfl) (fun _ => by kernel_rfl)) hHeld ?_
                    refine wpAnyH_take (i := 12) (by simp only [List.getElem?_toArray]; rfl) (by kernel_rfl) (by kernel_rfl) (by kernel_rfl) (by exact fun _ _ _ h => h) (by exact yk (.bool true) (by kernel_rfl) (fun _ => by kernel_rfl)) hHeld ?_
                    refine wpAnyH_take (i := 13) (by simp only [List.getElem?_toArray]; rfl) (by kernel_rfl) (by kernel_rfl) (by kernel_rfl) (by exact fun _ _ _ h => h) (by exact yk (.pointer (some ⟨K1, 98, none⟩)) (by kernel_rfl) (fun _ => by kernel_rfl)) hHeld ?_
                    refine wpAnyH_take (i := 14) (by simp only [List.getElem?_toArray]; rfl) (by kernel_rfl) (by kernel_rfl) (by kernel_rfl) (by exact fun _ _ _ h => h) (by exact yk_ldU (by kernel_rfl) (.tmp 237) rfl ⟨K1, 98, none⟩ (.int .u64 (F.t : Int)) (by kernel_rfl) (fun w h => h.1.cT)) hHeld ?_
                    refine wpAnyH_take (i := 15) (by simp only [List.getElem?_toArray]; rfl) (by kernel_rfl) (by kernel_rfl) (by kernel_rfl) (by exact fun _ _ _ h => h) (by exact yk (.pointer (some ⟨K2, 98, none⟩)) (by kernel_rfl) (fun _ => by kernel_rfl)) hHeld ?_
                    refine wpAnyH_take (i := 16) (by simp only [List.getElem?_toArray]; rfl) (by kernel_rfl) (by kernel_rfl) (by kernel_rfl) (by exact fun _ _ _ h => h) (by exact yk_ldU (by kernel_rfl) (.tmp 239) rfl ⟨K2, 98, none⟩ (.int .u64 (F2.t : Int)) (by kernel_rfl) (fun w h => h.2.cT)) hHeld ?_
                    refine wpAnyH_take (i := 17) (by simp only [List.getElem?_toArray]; rfl) (by kernel_rfl) (by kernel_rfl) (by kernel_rfl) (by exact fun _ _ _ h => h) (by exact yk_eq (by kernel_rfl) .u64 25 (.tmp 238) (.tmp 240) _ rfl ((F.t : Int)) ((F2.t : Int)) (by kernel_rfl) (by kernel_rfl) true (by rw [FT.out]; simp)) hHeld ?_
                    refine wpAnyH_take (i := 18) (by simp only [List.getElem?_toArray]; rfl) (by kernel_rfl) (by kernel_rfl) (by kernel_rfl) (by exact fun _ _ _ h => h) (by exact yk (.bool true) (by kernel_rfl) (fun _ => by kernel_rfl)) hHeld ?_
                    refine wpAnyH_take (i := 19) (by simp only [List.getElem?_toArray]; rfl) (by kernel_rfl) (by kernel_rfl) (by kernel_rfl) (by exact fun _ _ _ h => h) (by exact yk (.bool true) (by kernel_rfl) (fun _ => by kernel_rfl)) hHeld ?_
                    refine wpAnyH_take (i := 20) (by simp only [List.getElem?_toArray]; rfl) (by kernel_rfl) (by kernel_rfl) (by kernel_rfl) (by exact fun _ _ _ h => h) (by exact yk (.pointer (some ⟨K1, 99, none⟩)) (by kernel_rfl) (fun _ => by kernel_rfl)) hHeld ?_
                    refine wpAnyH_take (i := 21) (by simp only [List.getElem?_toArray]; rfl) (by kernel_rfl) (by kernel_rfl) (by kernel_rfl) (by exact fun _ _ _ h => h) (by exact yk_ldS (by kernel_rfl) (.tmp 244) rfl ⟨K1, 99, none⟩ (.slice A8 nT c8) (by kernel_rfl) (fun w h => h.1.cS.trans (congrArg some HSH.out))) hHeld ?_
                    refine wpAnyH_take (i := 22) (by simp only [List.getElem?_toArray]; rfl) (by kernel_rfl) (by kernel_rfl) (by kernel_rfl) (by exact fun _ _ _ h => h) (by exact yk (.int .i64 (nT : Int)) (by kernel_rfl) (fun _ => by kernel_rfl)) hHeld ?_
                    refine wpAnyH_take (i := 23) (by simp only [List.getElem?_toArray]; rfl) (by kernel_rfl) (by kernel_rfl) (by kernel_rfl) (by exact fun _ _ _ h => h) (by exact yk (.pointer (some ⟨K2, 99, none⟩)) (by kernel_rfl) (fun _ => by kernel_rfl)) hHeld ?_
                    refine wpAnyH_take (i := 24) (by simp only [List.getElem?_toArray]; rfl) (by kernel_rfl) (by kernel_rfl) (by kernel_rfl) (by exact fun _ _ _ h => h) (by exact yk_ldS (by kernel_rfl) (.tmp 247) rfl ⟨K2, 99, none⟩ (.slice B8 nT d8) (by kernel_rfl) (fun w h => h.2.cS.trans (congrArg some HSH2.out))) hHeld ?_
                    refine wpAnyH_take (i := 25) (by simp only [List.getElem?_toArray]; rfl) (by kernel_rfl) (by kernel_rfl) (by kernel_rfl) (by exact fun _ _ _ h => h) (by exact yk (.int .i64 (nT : Int)) (by kernel_rfl) (fun _ => by kernel_rfl)) hHeld ?_
                    refine wpAnyH_take (i := 26) (by simp only [List.getElem?_toArray]; rfl) (by kernel_rfl) (by kernel_rfl) (by kernel_rfl) (by exact fun _ _ _ h => h) (by exact yk_eq (by kernel_rfl) .i64 3 (.tmp 246) (.tmp 249) _ rfl ((nT : Int)) ((nT : Int)) (by kernel_rfl) (by kernel_rfl) true (by simp)) hHeld ?_
                    refine wpAnyH_take (i := 27) (by simp only [List.getElem?_toArray]; rfl) (by kernel_rfl) (by kernel_rfl) (by kernel_rfl) (by exact fun _ _ _ h => h) (by exact yk (.bool true) (by kernel_rfl) (fun _ => by kernel_rfl)) hHeld ?_
                    refine wpAnyH_take (i := 28) (by simp only [List.getElem?_toArray]; rfl) (by kernel_rfl) (by kernel_rfl) (by kernel_rfl) (by exact fun _ _ _ h => h) (by exact yk (.bool true) (by kernel_rfl) (fun _ => by kernel_rfl)) hHeld ?_
                    refine wpAnyH_take (i := 29) (by simp only [List.getElem?_toArray]; rfl) (by kernel_rfl) (by kernel_rfl) (by kernel_rfl) (by exact fun _ _ _ h => h) (by exact yk (.pointer (some ⟨K1, 0, none⟩)) (by kernel_rfl) (fun _ => by kernel_rfl)) hHeld ?_
                    refine wpAnyH_take (i := 30) (by simp only [List.getElem?_toArray]; rfl) (by kernel_rfl) (by kernel_rfl) (by kernel_rfl) (by exact fun _ _ _ h => h) (by exact yieldsIf_ldRB (by kernel_rfl) (.tmp 253) rfl K1 (by kernel_rfl) (fun _ h => h.1)) hHeld ?_
                    refine wpAnyH_take (i := 31) (by simp only [List.getElem?_toArray]; rfl) (by kernel_rfl) (by kernel_rfl) (by kernel_rfl) (by exact fun _ _ _ h => h) (by exact yk (.pointer (some ⟨K2, 0, none⟩)) (by kernel_rfl) (fun _ => by kernel_rfl)) hHeld ?_
                    refine wpAnyH_take (i := 32) (by simp only [List.getElem?_toArray]; rfl) (by kernel_rfl) (by kernel_rfl) (by kernel_rfl) (by exact fun _ _ _ h => h) (by exact yieldsIf_ldRB (by kernel_rfl) (.tmp 255) rfl K2 (by kernel_rfl) (fun _ h => h.2)) hHeld ?_
                    refine wpAnyH_take (i := 33) (by simp only [List.getElem?_toArray]; rfl) (by kernel_rfl) (by kernel_rfl) (by kernel_rfl) (by exact fun _ _ _ h => h) (by exact yk (.int .i64 (p : Int)) (by kernel_rfl) (fun _ => by kernel_rfl)) hHeld ?_
                    refine wpAnyH_ready (rs := [34]) (by kernel_rfl) (by simp) ?_
                    refine AllReadyH.cons (by simp only [List.getElem?_toArray]; rfl) (fun KK hKK => ?_) AllReadyH.nil
                    rw [if_pos (by kernel_rfl)]
                    refine wp_callF 22 #[.agg (bdL F.L), .agg (bdL F2.L), .int .i64 (p : Int)] (by kernel_rfl) ?_
                    refine (hAl _).mono ?_
                    rintro e w16 ⟨rfl, h16⟩
                    refine ⟨_, rfl, ?_⟩
                    have h16 := below_undrew2 h16
                    have r1 := r1.ext h16
                    have r2 := r2.ext h16
                    have hb := hb.trans (h16.mono hb.size)
                    refine hKK.out _ _ ?_ (fun hHeld => ?_)
                    · exact ⟨r1, r2⟩
                    clear hKK KK
                    refine wpAnyH_take (i := 35) (by simp only [List.getElem?_toArray]; rfl) (by kernel_rfl) (by kernel_rfl) (by kernel_rfl) (by exact fun _ _ _ h => h) (by exact yk (.bool true) (by kernel_rfl) (fun _ => by kernel_rfl)) hHeld ?_
                    refine wpAnyH_take (i := 36) (by simp only [List.getElem?_toArray]; rfl) (by kernel_rfl) (by kernel_rfl) (by kernel_rfl) (by exact fun _ _ _ h => h) (by exact yk (.bool true) (by kernel_rfl) (fun _ => by kernel_rfl)) hHeld ?_
                    refine wpAnyH_take (i := 37) (by simp only [List.getElem?_toArray]; rfl) (by kernel_rfl) (by kernel_rfl) (by kernel_rfl) (by exact fun _ _ _ h => h) (by exact yk (.pointer (some ⟨K1, 0, none⟩)) (by kernel_rfl) (fun _ => by kernel_rfl)) hHeld ?_
                    refine wpAnyH_take (i := 38) (by simp only [List.getElem?_toArray]; rfl) (by kernel_rfl) (by kernel_rfl) (by kernel_rfl) (by exact fun _ _ _ h => h) (by exact yieldsIf_ldRB (by kernel_rfl) (.tmp 261) rfl K1 (by kernel_rfl) (fun _ h => h.1)) hHeld ?_
                    refine wpAnyH_take (i := 40) (by simp only [List.getElem?_toArray]; rfl) (by kernel_rfl) (by kernel_rfl) (by kernel_rfl) (by exact fun _ _ _ h => h) (by exact yk (.pointer (some ⟨K2, 0, none⟩)) (by kernel_rfl) (fun _ => by kernel_rfl)) hHeld ?_
                    refine wpAnyH_take (i := 41) (by simp only [List.getElem?_toArray]; rfl) (by kernel_rfl) (by kernel_rfl) (by kernel_rfl) (by exact fun _ _ _ h => h) (by exact yieldsIf_ldRB (by kernel_rfl) (.tmp 264) rfl K2 (by kernel_rfl) (fun _ h => h.2)) hHeld ?_
                    refine wpAnyH_ready (rs := [39]) (by kernel_rfl) (by simp) ?_
                    refine AllReadyH.cons (by simp only [List.getElem?_toArray]; rfl) (fun KK hKK => ?_) AllReadyH.nil
                    rw [if_pos (by kernel_rfl)]
                    refine wp_callF 23 #[.agg (bdL F.L)] (by kernel_rfl) ?_
                    refine (hL1 _).mono ?_
                    rintro e w17 ⟨rfl, h17⟩
                    refine ⟨_, rfl, ?_⟩
                    have r1 := r1.ext h17
                    have r2 := r2.ext h17
                    have hb := hb.trans (h17.mono hb.size)
                    refine hKK.out _ _ ?_ (fun hHeld => ?_)
                    · exact ⟨r1, r2⟩
                    clear hKK KK
                    refine wpAnyH_ready (rs := [42]) (by kernel_rfl) (by simp) ?_
                    refine AllReadyH.cons (by simp only [List.getElem?_toArray]; rfl) (fun KK hKK => ?_) AllReadyH.nil
                    rw [if_pos (by kernel_rfl)]
                    refine wp_callF 23 #[.agg (bdL F2.L)] (by kernel_rfl) ?_
                    refine (hL2 _).mono ?_
                    rintro e w18 ⟨rfl, h18⟩
                    refine ⟨_, rfl, ?_⟩
                    have r1 := r1.ext h18
                    have r2 := r2.ext h18
                    have hb := hb.trans (h18.mono hb.size)
                    refine hKK.out _ _ ?_ (fun hHeld => ?_)
                    · exact ⟨r1, r2⟩
                    clear hKK KK
                    refine wpAnyH_take (i := 43) (by simp only [List.getElem?_toArray]; rfl) (by kernel_rfl) (by kernel_rfl) (by kernel_rfl) (by exact fun _ _ _ h => h) (by exact yk_eq (by kernel_rfl) .u32 28 (.tmp 263) (.tmp 266) _ rfl ((ll : Int)) ((ll : Int)) (by kernel_rfl) (by kernel_rfl) true (by simp)) hHeld ?_
                    refine wpAnyH_take (i := 44) (by simp only [List.getElem?_toArray]; rfl) (by kernel_rfl) (by kernel_rfl) (by kernel_rfl) (by exact fun _ _ _ h => h) (by exact yk (.bool true) (by kernel_rfl) (fun _ => by kernel_rfl)) hHeld ?_
                    refine wpAnyH_take (i := 45) (by simp only [List.getElem?_toArray]; rfl) (by kernel_rfl) (by kernel_rfl) (by kernel_rfl) (by exact fun _ _ _ h => h) (by exact yk (.bool true) (by kernel_rfl) (fun _ => by kernel_rfl)) hHeld ?_
                    refine wpAnyH_done (by kernel_rfl) ?_ _
                    try simp only [Act.put, List.setIfInBounds_toArray, List.set_cons_zero, List.set_cons_succ]
                    go_wp2_with fail
                    go_ret
                    exact ⟨rfl, hb⟩
end Go.Proofs.YtdijgidlachnjaaDoor
