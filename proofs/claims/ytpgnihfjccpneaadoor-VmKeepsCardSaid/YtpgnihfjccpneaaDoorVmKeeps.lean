/- VmKeeps: the walk. Conditions: the numbers fit; the table lies. -/
import Derived.Test.YtpgnihfjccpneaaDoorVmKeep
import Derived.Test.YtpgnihfjccpneaaDoorVmAll
namespace Go.Proofs.YtpgnihfjccpneaaDoor
open Go.RowKit

theorem bit_zero (t k : Nat) : (((t : Int) / 2 ^ k).tmod 2 == 0) = !t.testBit k := by
  have e : ((t : Int) / 2 ^ k) = ((t / 2 ^ k : Nat) : Int) := by simp
  rw [e, Int.tmod_eq_emod_of_nonneg (Int.natCast_nonneg _), Nat.testBit_eq_decide_div_mod_eq, Bool.eq_iff_iff]
  simp only [beq_iff_eq, Bool.not_eq_true', decide_eq_false_iff_not]
  omega
theorem less_of {m n : Nat} (hm : m < 4294967296) (hn : n < 4294967296) (h : ∀ i, i < 32 → m.testBit i = true → n.testBit i = true) : lessN m n = 0 := by
  refine Nat.eq_of_testBit_eq fun i => ?_
  rw [Nat.zero_testBit]
  by_cases hi : i < 32
  · rw [lessN_bit m hn i hi]
    cases hb : m.testBit i with
    | false => rfl
    | true => rw [h i hi hb]; rfl
  · exact Nat.testBit_lt_two_pow (Nat.lt_of_lt_of_le (lessN_lt n hm) (by rw [show (4294967296 : Nat) = 2 ^ 32 from rfl]; exact Nat.pow_le_pow_right (by omega) (by omega)))
theorem keep_still {M : List (Int × Nat)} {q : Prop} {F : VS} (h : Keep M q F) {j : Nat} (hM : j < M.length) (hF : j < F.L.length) : F.t.testBit j = false → F.L[j] = M[j] := fun hb => by
  have := h.still j hb
  unfold VS.cl at this
  simpa [List.getD, hF, hM] using this
theorem keep_same {M : List (Int × Nat)} {J : List Cd} {F : VS} (h : Keep M (∀ c ∈ J, stores c = false) F) {s : Bool} (hs : s = J.any stores) {j : Nat} (hM : j < M.length) (hF : j < F.L.length) (hy : M[j].2 < 4294967296) (hz : F.L[j].2 < 4294967296) : s = false → F.L[j].1 = M[j].1 ∧ lessN M[j].2 F.L[j].2 = 0 := fun hf => by
  have hq : ∀ c ∈ J, stores c = false := by
    rw [hs, List.any_eq_false] at hf
    exact fun c hc => by simpa using hf c hc
  obtain ⟨h1, h2⟩ := h.same hq j
  unfold VS.cl at h1 h2
  simp only [List.getD, List.getElem?_eq_getElem hF, List.getElem?_eq_getElem hM, Option.getD_some] at h1 h2
  exact ⟨h1, less_of hy hz h2⟩

set_option maxHeartbeats 16000000 in
set_option maxRecDepth 20000 in
theorem VmKeeps_walk (A : Option Addr) (K : List Cd) (n c b : Nat) (A2 : Option Addr) (L : List (Int × Nat)) (n2 c2 b2 : Nat) (d : Nat) (A6 : Option Addr) (P : List Int) (n6 c6 b6 : Nat) (w : World) (hT : CTab w) (hs : Sl w b A (kv K)) (hn : K.length = n) (_hm : n ≤ maxLen) (hnc : n ≤ c) (hok : okK K)
    (hs2 : Sl w b2 A2 (cv L)) (hn2 : L.length = n2) (_hm2 : n2 ≤ maxLen) (hnc2 : n2 ≤ c2) (hok2 : okC L) (_hd : d < 18446744073709551616)
    (hs3 : Is w b6 A6 P) (hn3 : P.length = n6) (_hm3 : n6 ≤ maxLen) (hnc3 : n6 ≤ c6) (hok3 : ∀ x ∈ P, -2147483648 ≤ x ∧ x ≤ 2147483647) :
    Calls Tryd.prog 5 #[.slice A n c, .slice A2 n2 c2, .agg #[.int .u64 (d : Int)], .slice A6 n6 c6] w fun e w' => e = .returned (.bool true) ∧ Below w.heap.size w w' := by
  have hok := fun x hx => hok x (List.mem_of_mem_take (i := 96) hx)
  have hok2 := fun x hx => hok2 x (List.mem_of_mem_take (i := 48) hx)
  have hFw := fun W h => FewC_calls A2 L n2 c2 b2 W h hn2 hnc2
  have hCd := fun W h => Codes_calls A K n c b W h hn hnc
  have hPl := fun W h => Players_calls A6 P n6 c6 b6 W h hn3 hnc3
  have lQ := playN_len P
  have oQ := playN_fit P hok3
  obtain ⟨Q, hQ⟩ : ∃ Q, Q = playN P := ⟨_, rfl⟩
  simp only [← hQ] at hPl lQ oQ
  obtain ⟨M, hM⟩ : ∃ M, M = L.take 48 := ⟨_, rfl⟩
  obtain ⟨J, hJ⟩ : ∃ J, J = K.take 96 := ⟨_, rfl⟩
  simp only [← hM] at hFw hok2
  simp only [← hJ] at hCd hok
  have lM : M.length ≤ 48 := by rw [hM, List.length_take]; omega
  have lJ : J.length ≤ 96 := by rw [hJ, List.length_take]; omega
  have oM : okC M := hok2
  have oJ : okK J := hok
  have kd := heap_alloc_new w (.cells #[.int .u64 (d : Int)] 27)
  have hb0 := below_alloc1 w (.cells #[.int .u64 (d : Int)] 27)
  have hT0 := hT.ext hb0
  have hs := Sl.ext hs hb0
  have hs2 := Sl.ext hs2 hb0
  have hs3 := Sl.ext hs3 hb0
  have kd : Box (w.alloc (.cells #[.int .u64 (d : Int)] 27)) w.heap.size (.int .u64 (d : Int)) 27 := kd
  obtain ⟨wd, hwd⟩ : ∃ wd, wd = w.alloc (.cells #[.int .u64 (d : Int)] 27) := ⟨_, rfl⟩
  clear hM hJ hQ hok hok2 hok3 hn hn2 hn3 hnc hnc2 hnc3 hT
  go_enter Tryd.func5, Tryd.ntmps5
  go_wp2_with fail
  rw [← hwd] at kd hb0 hT0 hs hs2 hs3 ⊢
  clear hwd
  refine (Awake_calls _ hT0).mono ?_
  rintro e w1 ⟨rfl, h1⟩
  have kd := kd.ext h1
  have hT1 := hT0.ext h1
  have hs := Sl.ext hs h1
  have hs2 := Sl.ext hs2 h1
  have hs3 := Sl.ext hs3 h1
  have hb1 := hb0.trans (h1.mono hb0.size)
  clear hT0 hb0 h1
  go_wp2_with fail
  refine (hFw w1 hs2).mono ?_
  rintro e w2 ⟨v, rfl, hv, h2⟩
  have kd := kd.ext h2
  have hT2 := hT1.ext h2
  have hs := Sl.ext hs h2
  have hb2 := hb1.trans (h2.mono hb1.size)
  obtain ⟨A3, c3, b3, rfl, hc3, hm3, -, hB3, hsl3, -⟩ := hv.sl
  have hs3 := Sl.ext hs3 h2
  clear hFw hs2 hT1 hb1 h2 hv
  go_wp2_with fail
  refine (hPl w2 hs3).mono ?_
  rintro e w2 ⟨v, rfl, hv, h2⟩
  have kd := kd.ext h2
  have hT2 := hT2.ext h2
  have hs := Sl.ext hs h2
  have hsl3 := Sl.ext hsl3 h2
  have hb2 := hb2.trans (h2.mono hb2.size)
  obtain ⟨A7, c7, b7, rfl, hc7, hB7, hsl7⟩ := own_sl hv
  obtain ⟨bq, hbq, hsl7⟩ : ∃ bq, bq < w2.heap.size ∧ Is w2 bq A7 Q := ⟨b7, Sl.lt hsl7 (by intro h; have h5 := congrArg List.length h; rw [iv_length, List.length_nil] at h5; omega), hsl7⟩
  clear hPl hs3 h2 hv
  go_wp2_with fail
  refine (hCd w2 hs).mono ?_
  rintro e w3 ⟨v, u, rfl, hv, hu, h3⟩
  have kd := kd.ext h3
  have hT3 := hT2.ext h3
  have hb3 := hb2.trans (h3.mono hb2.size)
  have hsl3 := Sl.ext hsl3 h3
  have hsl7 := Sl.ext hsl7 h3
  have hbq : bq < w3.heap.size := Nat.lt_of_lt_of_le hbq h3.size
  obtain ⟨A4, c4, b4, rfl, hc4, hm4, -, hB4, hsl4, -⟩ := hv.sl
  obtain ⟨A5, c5, b5, rfl, -⟩ := hu.sl
  obtain ⟨bc, hbc, hsl4⟩ : ∃ bc, bc < w3.heap.size ∧ Sl w3 bc A4 (kv J) := by
    by_cases hJe : J = []
    · exact ⟨w.heap.size, kd.lt, by rw [hJe]; exact Sl.nil_ _ _ _⟩
    · exact ⟨b4, Sl.lt hsl4 (by intro h; have h5 := congrArg List.length h; rw [kv_length] at h5; exact hJe (List.eq_nil_of_length_eq_zero (by simp at h5; omega))), hsl4⟩
  obtain ⟨mJ, hmJ⟩ : ∃ mJ, mJ = J.length := ⟨_, rfl⟩
  obtain ⟨mM, hmM⟩ : ∃ mM, mM = M.length := ⟨_, rfl⟩
  obtain ⟨mQ, hmQ⟩ : ∃ mQ, mQ = Q.length := ⟨_, rfl⟩
  rw [← hmJ, ← hmM, ← hmQ]
  have HmJ := Lib.hid hmJ
  have HmM := Lib.hid hmM
  have HmQ := Lib.hid hmQ
  clear hCd hs hT2 hb2 h3 hv hu hmJ hmM hmQ
  go_wp2_with fail
  have hN := New_in A3 M mM c3 b3 w3 hsl3 HmM.out.symm (by rw [HmM.out]; exact lM)
  refine hN.mono ?_
  rintro e w4 ⟨rfl, h4⟩
  have kd := (kd.ext h4).alloc (.cells (bdL M) 44)
  have l4 := BoxL.new_ w4 M
  have hT4 := (hT3.ext h4).ext (below_alloc1 w4 (.cells (bdL M) 44))
  have hb4 := hb3.trans (h4.mono hb3.size)
  have hb4 := hb4.alloc hb4.size (.cells (bdL M) 44)
  have hsl4 := Sl.ext (Sl.ext hsl4 h4) (below_alloc1 w4 (.cells (bdL M) 44))
  have hsl7 := Sl.ext (Sl.ext hsl7 h4) (below_alloc1 w4 (.cells (bdL M) 44))
  have hsl3 := Sl.ext (Sl.ext hsl3 h4) (below_alloc1 w4 (.cells (bdL M) 44))
  have hA := fun W => All_calls 8 W
  rw [show allN 8 = 255 by decide] at hA
  obtain ⟨G, hG⟩ : ∃ G, G = w4.heap.size := ⟨_, rfl⟩
  have hGs : w3.heap.size ≤ G := by rw [hG]; exact h4.size
  have z4 : (w4.alloc (.cells (bdL M) 44)).heap.size = G + 1 := by rw [hG]; simp
  rw [← hG] at l4
  have HG := Lib.hid hG.symm
  have dc := kd.cell
  clear hN hT3 hb3 h4 hG
  go_wp2_with (first | ((with_reducible refine at_al 44 9 ?_); refine wpList_al rfl rfl (some 9) rfl G HG.out ?_) | ((with_reducible refine at_st 44 9 34 ?_); refine wpList_put rfl (.tmp 9) (.tmp 34) rfl HG.out M rfl rfl ?_))
  refine (hA _).mono ?_
  rintro e w9 ⟨rfl, rfl⟩
  clear hA
  go_wp2_with (first | ((with_reducible refine at_ld 44 9 ?_); refine wpList_ld (by first | rfl | simp [Region.wanted, yielded]) (.tmp 9) rfl G rfl M l4 ?_))
  have hR := Run_calls compN comp_ok comp_fit ⟨J, Q, 3, 255⟩ A4 c4 bc A7 c7 bq M d _ ⟨hsl4, hsl7, oJ, by simp only [maxLen]; show J.length ≤ _; omega, by show Q.length ≤ 100; omega, oQ, lM, oM, by show 255 < 4294967296; decide, hT4, by rw [z4]; omega, by rw [z4]; omega⟩
  have hR : Calls Tryd.prog 21 #[.slice A4 mJ c4, .agg (bdL M), .agg #[.int .u64 (d : Int)], .slice A7 mQ c7, .int .u32 3, .int .u32 255] (w4.alloc (.cells (bdL M) 44)) fun e w' => ∃ sh, e = .returned (.agg (resA sh (wholeV compN ⟨J, Q, 3, 255⟩ M d))) ∧ RowS w' (w4.alloc (.cells (bdL M) 44)).heap.size sh (wholeV compN ⟨J, Q, 3, 255⟩ M d).sh ∧ Below (w4.alloc (.cells (bdL M) 44)).heap.size (w4.alloc (.cells (bdL M) 44)) w' := by rw [HmJ.out, HmQ.out]; exact hR
  have hkeep := whole_keep (comp := compN) (P := ⟨J, Q, 3, 255⟩) (L := M) (d := d) comp_fit (by show 255 < 4294967296; decide) oQ oJ oM
  obtain ⟨F, hF⟩ : ∃ F, F = wholeV compN ⟨J, Q, 3, 255⟩ M d := ⟨_, rfl⟩
  rw [← hF] at hR hkeep
  have HK := Lib.hid hkeep
  clear hF hkeep
  refine hR.mono ?_
  rintro e w5 ⟨sh, rfl, hSh, h5⟩
  have hone := rowS_one hSh
  have r1 := BoxR.new_ w5 sh F
  have l5 := (l4.ext h5).alloc (.cells (resA sh F) 50)
  have kd := (kd.ext h5).alloc (.cells (resA sh F) 50)
  have hb5 := hb4.trans (h5.mono hb4.size)
  have hb5 := hb5.alloc hb5.size (.cells (resA sh F) 50)
  have hsl4 := Sl.ext (Sl.ext hsl4 h5) (below_alloc1 w5 (.cells (resA sh F) 50))
  have hsl3 := Sl.ext (Sl.ext hsl3 h5) (below_alloc1 w5 (.cells (resA sh F) 50))
  obtain ⟨K1, hK1⟩ : ∃ K1, K1 = w5.heap.size := ⟨_, rfl⟩
  rw [← hK1] at r1
  have HK1 := Lib.hid hK1.symm
  have re := r1.cE
  clear hR hT4 hb4 h5 l4 hSh hK1 dc z4 hsl7
  by_cases he : F.e = 0
  · obtain ⟨-, f2, f3, f4, -, f5⟩ := HK.out
    have re0 : w5.heap.size = w5.heap.size := rfl
    have ee : ((F.e : Int) != 0) = false := by simp; omega
    have fl : F.L.length ≤ 48 := by omega
    have FL := Lib.hid f2
    have FT := Lib.hid f3
    have FK := Lib.hid f5
    have FO := Lib.hid f4
    have tl : F.t ≤ 18446744073709551615 := by
      have : (2 : Nat) ^ M.length ≤ 2 ^ 48 := Nat.pow_le_pow_right (by omega) lM
      omega
    clear he f2 f3 f4 f5 HK kd
    go_wp2_with (first | ((with_reducible refine at_al 50 12 ?_); refine wpList_alR rfl rfl (some 12) rfl K1 HK1.out ?_) | ((with_reducible refine at_st 50 12 42 ?_); refine wpList_putR rfl (.tmp 12) (.tmp 42) rfl HK1.out sh F hone rfl rfl ?_))
    obtain ⟨W1, hW1⟩ : ∃ W1, W1 = w5.alloc (.cells (resA sh F) 50) := ⟨_, rfl⟩
    rw [← hW1] at r1 l5 hb5 hsl4 hsl3 re ⊢
    clear hW1 l5 hone
    have hbz := hb5.size
    go_loopw [13, 15, 68] (fun s p i wr => ∃ k : Nat, k ≤ mJ ∧ i = .int .i64 k ∧ s = .bool ((J.take k).any stores) ∧ Below W1.heap.size W1 wr) (fun _ _ i _ => mJ - (intOf i).toNat)
    case atStart => exact ⟨0, Nat.zero_le _, rfl, rfl, Below.refl _ _⟩
    case round =>
      obtain ⟨k, hk, rfl, rfl, hb⟩ := hrel
      by_cases hlt : k < mJ
      · have hkJ : k < J.length := by rw [← HmJ.out]; exact hlt
        obtain ⟨off, rfl, h0, h1, h2, h3, h4, h5⟩ := sl_code (Sl.ext hsl4 hb) hkJ
        have HT := Lib.hid (show (J.take (k + 1)).any stores = ((J.take k).any stores || stores J[k]) by rw [take_nextK hkJ, List.any_append]; simp only [List.any_cons, List.any_nil, Bool.or_false])
        obtain ⟨q, hq⟩ : ∃ q, q = J[k] := ⟨_, rfl⟩
        obtain ⟨s, hs⟩ : ∃ s, s = (J.take k).any stores := ⟨_, rfl⟩
        rw [← hq, ← hs] at HT
        rw [← hs]
        rw [← hq] at h0 h1 h2 h3 h4 h5
        clear hq hs
        obtain ⟨op, a, b', cc, nn, m⟩ := q
        simp only at h0 h1 h2 h3 h4 h5
        have ej : (k : Int) < (mJ : Int) := by omega
        have hb3 := hb.alloc hb.size (.cells #[.int .u8 (op : Int), .int .u8 (a : Int), .int .u8 (b' : Int), .int .u8 (cc : Int), .int .i32 nn, .int .u32 (m : Int)] 60)
        cases s with
        | true =>
          go_wp2_with fail
          go_roundw
          case rel => exact ⟨k + 1, by omega, by go_num, by rw [HT.out]; rfl, hb3⟩
          case measure => simp [intOf]; omega
        | false =>
          by_cases q3 : op = 3
          · have e3 : ((op : Int) == 3) = true := by simp; omega
            go_wp2_with fail
            go_roundw
            case rel => exact ⟨k + 1, by omega, by go_num, by rw [HT.out]; simp [stores, q3], (by rw [q3] at hb3; exact hb3)⟩
            case measure => simp [intOf]; omega
          · have e3 : ((op : Int) == 3) = false := by simp; omega
            by_cases q5 : op = 5
            · have e5 : ((op : Int) == 5) = true := by simp; omega
              go_wp2_with fail
              go_roundw
              case rel => exact ⟨k + 1, by omega, by go_num, by rw [HT.out]; simp [stores, q5], (by rw [q5] at hb3; exact hb3)⟩
              case measure => simp [intOf]; omega
            · have e5 : ((op : Int) == 5) = false := by simp; omega
              by_cases q24 : op = 24
              · have e24 : ((op : Int) == 24) = true := by simp; omega
                go_wp2_with fail
                go_roundw
                case rel => exact ⟨k + 1, by omega, by go_num, by rw [HT.out]; simp [stores, q24], (by rw [q24] at hb3; exact hb3)⟩
                case measure => simp [intOf]; omega
              · have e24 : ((op : Int) == 24) = false := by simp; omega
                go_wp2_with fail
                go_roundw
                case rel => exact ⟨k + 1, by omega, by go_num, by rw [HT.out]; simp [stores, q3, q5, q24], hb3⟩
                case measure => simp [intOf]; omega
      · obtain rfl : k = mJ := by omega
        rw [show J.take k = J by rw [HmJ.out]; exact List.take_length]
        obtain ⟨s, hs⟩ : ∃ s, s = J.any stores := ⟨_, rfl⟩
        rw [← hs]
        have HS := Lib.hid hs
        have r1 := r1.ext hb
        have hsl3 := Sl.ext hsl3 hb
        have hb5 := hb5.trans (hb.mono hbz)
        clear hs hb hsl4
        obtain ⟨wk, hwk⟩ : ∃ wk, wk = wr := ⟨_, rfl⟩
        rw [← hwk] at r1 hsl3 hb5 ⊢
        clear hwk
        have hbz := hb5.size
        go_wp2_with fail
        go_loopw [16, 17, 18, 19, 91] (fun _ _ _ _ i wr => ∃ j : Nat, j ≤ mM ∧ i = .int .i64 j ∧ Below wk.heap.size wk wr) (fun _ _ _ _ i _ => mM - (intOf i).toNat)
        case atStart => exact ⟨0, Nat.zero_le _, rfl, Below.refl _ _⟩
        case round =>
          obtain ⟨j, hj, rfl, hb⟩ := hrel
          by_cases hjl : j < mM
          · have hjM : j < M.length := by rw [← HmM.out]; exact hjl
            obtain ⟨off, rfl, hc⟩ := (Sl.ext hsl3 hb) (by intro h0; have h1 := congrArg List.length h0; rw [cv_length, List.length_nil] at h1; omega)
            have hc0 := hc (j * 2) _ (cv_val hjM)
            have hc1 := hc (j * 2 + 1) _ (cv_lab hjM)
            rw [← Nat.add_assoc] at hc1
            have hjF : j < F.L.length := by rw [FL.out]; exact hjM
            have hAt := fun W => At_in F.L j W fl hjF
            have k1 := keep_still FK.out hjM hjF
            have o1 := FO.out _ (List.getElem_mem hjF)
            have o2 := oM _ (List.getElem_mem hjM)
            have k2 := keep_same FK.out HS.out hjM hjF o2.2 o1.2
            obtain ⟨⟨x, y⟩, hx⟩ : ∃ q, q = M[j] := ⟨_, rfl⟩
            obtain ⟨⟨x', y'⟩, hx'⟩ : ∃ q, q = F.L[j] := ⟨_, rfl⟩
            rw [← hx] at hc0 hc1 k1 k2 o2
            simp only [← hx'] at hAt k1 k2 o1
            simp only at hc0 hc1 k2 o1 o2
            have hMW := fun W => MWithin_calls y y' W (by omega) (by omega)
            obtain ⟨tb, htb⟩ : ∃ tb, tb = F.t.testBit j := ⟨_, rfl⟩
            have ebit := bit_zero F.t j
            rw [← htb] at ebit k1
            have r2 := (r1.ext hb).al (.cells #[.int .i32 x, .int .u32 (y : Int)] 38)
            have hb2 := hb.alloc hb.size (.cells #[.int .i32 x, .int .u32 (y : Int)] 38)
            have ct := r2.cT
            clear hx hx' htb
            have ej : (j : Int) < (mM : Int) := by omega
            clear hc
            go_wp2_with (first | ((with_reducible refine at_ld 44 97 ?_); refine wpList_ldRBw (by first | rfl | simp [Region.wanted, yielded]) (.tmp 97) rfl K1 rfl r2 ?_))
            refine (hAt _).mono ?_
            rintro e wa ⟨rfl, ha⟩
            obtain ⟨zo, eo, hk⟩ := (Sl.ext (Sl.ext (Sl.cell_new wr (x, y) 38) ha) (below_alloc1 wa (.cells #[.int .i32 x', .int .u32 (y' : Int)] 38))) (by intro h0; have h1 := congrArg List.length h0; rw [cv_length] at h1; simp at h1)
            obtain rfl : zo = 0 := by injection eo with eo; injection eo with _ eo; exact eo.symm
            have kc0 := hk 0 _ rfl
            have kc1 := hk 1 _ rfl
            simp only [Nat.zero_add] at kc0 kc1
            have ct := ((r2.ext ha).al (.cells #[.int .i32 x', .int .u32 (y' : Int)] 38)).cT
            have hb4 := hb2.trans (ha.mono hb2.size)
            have hb4 := hb4.alloc hb4.size (.cells #[.int .i32 x', .int .u32 (y' : Int)] 38)
            clear hAt hk eo r2 hc0 hc1 ha hb2 hb
            cases tb with
            | false =>
              obtain ⟨rfl, rfl⟩ : x' = x ∧ y' = y := by have h := k1 rfl; injection h with h1 h2; exact ⟨h1, h2⟩
              cases s with
              | true =>
                go_wp2_with fail
                go_roundw
                case rel => exact ⟨j + 1, by omega, by go_num, hb4⟩
                case measure => simp [intOf]; omega
              | false =>
                obtain ⟨_, hz⟩ := k2 rfl
                rw [hz] at hMW
                simp only [decide_true] at hMW
                go_wp2_with fail
                refine (hMW _).mono ?_
                rintro e wb ⟨rfl, rfl⟩
                go_wp2_with fail
                go_roundw
                case rel => exact ⟨j + 1, by omega, by go_num, hb4⟩
                case measure => simp [intOf]; omega
            | true =>
              cases s with
              | true =>
                go_wp2_with fail
                go_roundw
                case rel => exact ⟨j + 1, by omega, by go_num, hb4⟩
                case measure => simp [intOf]; omega
              | false =>
                obtain ⟨hxx, hz⟩ := k2 rfl
                obtain rfl : x' = x := hxx
                rw [hz] at hMW
                simp only [decide_true] at hMW
                go_wp2_with fail
                refine (hMW _).mono ?_
                rintro e wb ⟨rfl, rfl⟩
                go_wp2_with fail
                go_roundw
                case rel => exact ⟨j + 1, by omega, by go_num, hb4⟩
                case measure => simp [intOf]; omega
          · obtain rfl : j = mM := by omega
            have r2 := r1.ext hb
            have hLn := fun W => Len_calls F.L W
            have hll : (F.L.length : Int) = (j : Int) := by rw [HmM.out, FL.out]
            clear hsl3
            go_wp2_with (first | ((with_reducible refine at_ld 44 138 ?_); refine wpList_ldRBw (by first | rfl | simp [Region.wanted, yielded]) (.tmp 138) rfl K1 rfl r2 ?_))
            refine (hLn _).mono ?_
            rintro e wa ⟨rfl, ha⟩
            have ct := (r2.ext ha).cT
            have hb4 := hb5.trans ((hb.trans (ha.mono hb.size)).mono hbz)
            have e0 : (((F.t : Int) / 2 ^ j) == 0) = true := by
              rw [show ((F.t : Int) / 2 ^ j) = ((F.t / 2 ^ j : Nat) : Int) by simp, Nat.div_eq_of_lt (by rw [HmM.out]; exact FT.out)]
              rfl
            clear r2 ha hb hLn
            go_wp2_with fail
            go_ret
            exact ⟨rfl, hb4⟩
  · obtain ⟨f2, -, -, -, f3, -⟩ := HK.out
    obtain ⟨f4, f5, f6⟩ := f3 he
    have ee : ((F.e : Int) != 0) = true := by simp; omega
    have ct := r1.cT
    have cu := r1.cU
    have cd := r1.cD
    rw [f6] at ct
    rw [f5] at cd
    have dc := kd.cell
    have fl : F.L.length ≤ 48 := by rw [f4]; exact lM
    have F3 := Lib.hid f4
    have eu : decide ((F.u : Int) ≤ 400) = true := by simp; omega
    clear he f2 f3 f4 f5 f6 HK
    go_wp2_with (first | ((with_reducible refine at_al 50 12 ?_); refine wpList_alR rfl rfl (some 12) rfl K1 HK1.out ?_) | ((with_reducible refine at_st 50 12 42 ?_); refine wpList_putR rfl (.tmp 12) (.tmp 42) rfl HK1.out sh F hone rfl rfl ?_) | ((with_reducible refine at_ld 44 9 ?_); refine wpList_ld (by first | rfl | simp [Region.wanted, yielded]) (.tmp 9) rfl G rfl M l5 ?_) | ((with_reducible refine at_ld 44 46 ?_); refine wpList_ldRBw (by first | rfl | simp [Region.wanted, yielded]) (.tmp 46) rfl K1 rfl r1 ?_) | ((with_reducible refine at_bi 49 .eql 44 44 _ _ ?_); refine wpList_eql_bd (by first | rfl | simp [Region.wanted, yielded]) (.tmp 47) (.tmp 48) rfl F.L M rfl rfl fl true (by rw [F3.out]; simp) ?_))
    go_ret
    exact ⟨rfl, hb5⟩
end Go.Proofs.YtpgnihfjccpneaaDoor
