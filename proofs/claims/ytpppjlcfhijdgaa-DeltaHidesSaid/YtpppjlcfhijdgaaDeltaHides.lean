/- DeltaHides: the walk. Conditions: the lists are no longer than may be; the cells and the values fit. -/
import Derived.Test.YtpppjlcfhijdgaaDAwake
import Derived.Test.YtpppjlcfhijdgaaFewD
import Derived.Test.YtpppjlcfhijdgaaAltND
import Derived.Test.YtpppjlcfhijdgaaRefSame
import Derived.Test.YtpppjlcfhijdgaaTreeD
import Derived.Test.YtpppjlcfhijdgaaIv
namespace Go.Proofs.Ytpppjlcfhijdgaa
open Go.RowKit

set_option maxHeartbeats 32000000 in
set_option maxRecDepth 40000 in
theorem DeltaHides_walk (A : Option Addr) (L : List (Int × Nat)) (n c b : Nat) (VA : Option Addr) (vals : List Int) (nv vc vb : Nat) (t : Nat) (o : Int) (tick : Nat) (w : World) (hs : Sl w b A (cv L)) (hn : L.length = n) (_hm : n ≤ maxLen) (hnc : n ≤ c) (hok : okC L) (hvs : Sl w vb VA (iv vals)) (hvn : vals.length = nv) (hvm : nv ≤ maxLen) (hvo : ∀ x ∈ vals, -2147483648 ≤ x ∧ x ≤ 2147483647) (ht : t ≤ 18446744073709551615) (_h1 : -9223372036854775808 ≤ o) (_h2 : o ≤ 9223372036854775807) (htk : tick ≤ 4294967295) :
    Calls Try.prog 6 #[.slice A n c, .slice VA nv vc, .int .u64 t, .int .i64 o, .int .u32 tick] w fun e w' => e = .returned (.bool true) ∧ Below w.heap.size w w' := by
  have hF := fun W h => FewC_calls A L n c b W h hn hnc
  obtain ⟨M, hM⟩ : ∃ M, M = L.take 48 := ⟨_, rfl⟩
  have hML : M.length ≤ 48 := by rw [hM, List.length_take]; omega
  have hMo : okC M := by rw [hM]; exact okC_take hok 48
  rw [← hM] at hF
  clear hM hok hn
  subst hvn
  have hF2 : ∀ (W : World) (A : Option Addr) (c b : Nat) (_ : Sl W b A (cv M)) (_ : M.length ≤ c), Calls Try.prog 9 #[.slice A M.length c] W fun e w' => ∃ v, e = .returned v ∧ RowC 29 w' W.heap.size v M ∧ Below W.heap.size W w' := by
    intro W A c b h hc
    have := FewC_calls A M M.length c b W h rfl hc
    rwa [List.take_of_length_le hML] at this
  have hN := fun W A c b h => New_in A M M.length c b W h rfl hML
  obtain ⟨M2, hM2⟩ : ∃ M2, M2 = alt vals o M M.length := ⟨_, rfl⟩
  have hM2l : M2.length = M.length := by rw [hM2]; simp
  have hM2o : okC M2 := by rw [hM2]; exact alt_ok _ hMo hvo
  have hN2 : ∀ (W : World) (A : Option Addr) (c b : Nat) (_ : Sl W b A (cv M2)), Calls Try.prog 10 #[.slice A M.length c] W fun e w' => e = .returned (.tuple #[.agg (bdL M2), .int .i64 0]) ∧ Below W.heap.size W w' := fun W A c b h => New_in A M2 M.length c b W h hM2l hML
  have hM2L : M2.length ≤ 48 := by omega
  have hvw : viewL o M2 = viewL o M := by rw [hM2]; exact alt_view _ _ _ _
  have hVl : (viewL o M).length = M.length := by simp
  have hVo := okC_view hMo o
  have hO1 := fun W => Of_calls M t o tick W hML hMo ht (by omega)
  have hO2 := fun W => Of_calls M2 t o tick W hM2L hM2o ht (by omega)
  rw [hvw, hM2l] at hO2
  have hU1 := fun W => Full_calls M o tick W hML hMo (by omega)
  have hU2 := fun W => Full_calls M2 o tick W hM2L hM2o (by omega)
  rw [hvw, hM2l] at hU2
  obtain ⟨V, hV⟩ : ∃ V, V = viewL o M := ⟨_, rfl⟩
  rw [← hV] at hO1 hO2 hU1 hU2 hVl hVo
  have hHl := sum_lt V
  obtain ⟨H, hH⟩ : ∃ H, H = hashL V := ⟨_, rfl⟩
  rw [← hH] at hO1 hO2 hU1 hU2 hHl
  have hkl := placesTo_len t M.length
  obtain ⟨K, hK⟩ : ∃ K, K = (placesB t M.length).length := ⟨_, rfl⟩
  have hK2 : K = (cellsTo V t M.length).length := by rw [hK]; simp
  have hKl : K ≤ 48 := by rw [hK, placesB_len]; omega
  have hr1 := placesB_rises (t := t) hML
  have hr2 := placesB_rises (t := 281474976710655) hML
  have hc1 := cellsTo_ok hVo t M.length
  have hf1 : (placesB 281474976710655 M.length).length = M.length := by rw [placesB_len, placesTo_all hML]; simp
  obtain ⟨ps, hps⟩ : ∃ ps, ps = placesB t M.length := ⟨_, rfl⟩
  obtain ⟨cs, hcs⟩ : ∃ cs, cs = cellsTo V t M.length := ⟨_, rfl⟩
  obtain ⟨qs, hqs⟩ : ∃ qs, qs = placesB 281474976710655 M.length := ⟨_, rfl⟩
  rw [← hps] at hO1 hO2 hK hr1
  rw [← hcs] at hO1 hO2 hK2 hc1
  rw [← hqs] at hU1 hU2 hr2 hf1
  have hB1 := fun (W : World) Ap cp bp Ac cc bc (h1 : Bs W bp Ap ps) (h2 : Sl W bc Ac (cv cs)) => Bytes_yes tick H Ap ps K cp bp Ac cs cc bc W h1 hK.symm h2 hK2.symm hKl hr1 hc1 (by omega) hHl
  have hB2 := fun (W : World) Ap cp bp Ac cc bc (h1 : Bs W bp Ap qs) (h2 : Sl W bc Ac (cv V)) => Bytes_yes tick H Ap qs M.length cp bp Ac V cc bc W h1 hf1 h2 hVl hML hr2 hVo (by omega) hHl
  obtain ⟨X, hX⟩ : ∃ X, X = dB tick H ps cs := ⟨_, rfl⟩
  obtain ⟨Y, hY⟩ : ∃ Y, Y = dB tick H qs V := ⟨_, rfl⟩
  have hXl : X.length ≤ 1000 := by rw [hX, dB_len _ _ _ _ (by omega)]; omega
  have hYl : Y.length ≤ 1000 := by rw [hY, dB_len _ _ _ _ (by omega)]; omega
  rw [← hX] at hB1
  rw [← hY] at hB2
  have hS1 : ∀ (W : World) (A B : Option Addr) (ca cb ba bb : Nat) (_ : Bs W ba A X) (_ : Bs W bb B X), Calls Try.prog 27 #[.slice A X.length ca, .slice B X.length cb] W fun e w' => e = .returned (.bool true) ∧ Below W.heap.size W w' := by
    intro W A B ca cb ba bb h1 h2
    refine (Same_calls A B X X X.length X.length ca cb ba bb W h1 h2 rfl rfl (by simp only [maxLen]; omega) (by simp only [maxLen]; omega)).mono ?_
    rintro e w' ⟨rfl, k, rfl⟩
    exact ⟨by simp, below_drewN (Below.refl _ _) k⟩
  have hS2 : ∀ (W : World) (A B : Option Addr) (ca cb ba bb : Nat) (_ : Bs W ba A Y) (_ : Bs W bb B Y), Calls Try.prog 27 #[.slice A Y.length ca, .slice B Y.length cb] W fun e w' => e = .returned (.bool true) ∧ Below W.heap.size W w' := by
    intro W A B ca cb ba bb h1 h2
    refine (Same_calls A B Y Y Y.length Y.length ca cb ba bb W h1 h2 rfl rfl (by simp only [maxLen]; omega) (by simp only [maxLen]; omega)).mono ?_
    rintro e w' ⟨rfl, k, rfl⟩
    exact ⟨by simp, below_drewN (Below.refl _ _) k⟩
  have HM2 := Lib.hid hM2
  have HK := Lib.hid hK
  have HK2 := Lib.hid hK2
  have HF1 := Lib.hid hf1
  have HVL := Lib.hid hVl
  unfold maxLen at hvm
  clear hM2 hM2l hvw hV hH hps hcs hqs hX hY hK hK2 hf1 hVl hXl hYl hVo hr1 hr2 hc1 hKl hHl hkl
  go_enter Try.func6, Try.ntmps6
  go_wp2_with fail
  have hs0 := hs
  have hv0 := hvs
  refine (Awake_calls _).mono ?_
  rintro e w1 ⟨rfl, hb1⟩
  replace hs := Sl.ext hs hb1
  replace hvs := Sl.ext hvs hb1
  have hb := hb1
  clear hb1
  go_wp2_with fail
  refine (hF _ hs).mono ?_
  rintro e w2 ⟨v, rfl, hrow, hb2⟩
  replace hs := Sl.ext hs hb2
  replace hvs := Sl.ext hvs hb2
  replace hb := hb.trans (hb2.mono hb.size)
  clear hb2
  clear hs
  clear hF hs0 hv0
  obtain ⟨A2, c2, b2, rfl, hlc, hcm, hA2, hbb, hs2, hbk⟩ := hrow.sl
  clear hrow hA2 hbb hbk
  go_wp2_with fail
  have hlt2 : 0 < M.length → b2 < w2.heap.size := fun h => Sl.lt hs2 (by intro h0; have := congrArg List.length h0; simp at this; omega)
  have hltv : 0 < vals.length → vb < w2.heap.size := fun h => Sl.lt hvs (by intro h0; have := congrArg List.length h0; rw [iv_length, List.length_nil] at this; omega)
  have hlow := hb.size
  refine (hF2 _ A2 c2 b2 hs2 hlc).mono ?_
  rintro e w3 ⟨v, rfl, hrm, hb3⟩
  replace hvs := Sl.ext hvs hb3
  replace hs2 := Sl.ext hs2 hb3
  replace hb := hb.trans (hb3.mono hb.size)
  clear hb3
  clear hF2
  obtain ⟨A9, c9, b9, rfl, hlc9, hcm9, hA9, hbb9, hs9, hbk9⟩ := hrm.sl
  clear hA9 hs9 hbk9
  have hrm : RowC 29 w3 w2.heap.size (.slice A9 M.length c9) (alt vals o M 0) := by rw [alt_zero]; exact hrm
  go_wp2_with fail
  go_loopw [12, 25] (fun q i wr => ∃ k : Nat, k ≤ M.length ∧ i = .int .i64 k ∧ RowC 29 wr w2.heap.size (.slice A9 M.length c9) (alt vals o M k) ∧ Sl wr b2 A2 (cv M) ∧ Sl wr vb VA (iv vals) ∧ Below w.heap.size w wr) (fun _ i _ => M.length - (intOf i).toNat)
  case atStart => exact ⟨0, Nat.zero_le _, rfl, hrm, hs2, hvs, hb⟩
  case round =>
    clear hrm hs2 hvs hb
    obtain ⟨k, hk, rfl, hrm, hs2, hvs, hb⟩ := hrel
    by_cases hlt : k < M.length
    · have hal := alt_length vals o M k
      have hka : k < (alt vals o M k).length := by omega
      obtain ⟨g, cap, hv, hg, hgl, hcap, k0, k1, kf, kset, _⟩ := hrm.set_ hka
      injection hv with hvA hvn hvc
      subst hvA hvc
      clear hvn
      rw [alt_at hlt (Nat.le_refl k)] at k0 k1 kset
      have hy := (okC_get hMo hlt).2
      have hso : sees M[k].2 o = decide (M[k].2 &&& aloneN o ≠ 0) := rfl
      have hsame := alt_same (vals := vals) (o := o) hlt
      have hset := alt_set (vals := vals) (o := o) hlt
      have hat : altAt vals o M[k] k = if k < vals.length ∧ sees M[k].2 o = false then (vals.getD k 0, M[k].2) else M[k] := rfl
      obtain ⟨X, hX⟩ : ∃ X, X = M[k].1 := ⟨_, rfl⟩
      obtain ⟨Y, hY⟩ : ∃ Y, Y = M[k].2 := ⟨_, rfl⟩
      rw [← hX] at k0
      rw [← hY] at k1 kset hy hso hsame hat
      have hHo := fun W => MHas_calls Y o W hy
      rw [← hso] at hHo
      have HSET := Lib.hid hset
      have HSAME := Lib.hid hsame
      have HAT := Lib.hid hat
      have HKS := Lib.hid kset
      have kf0 := kf (k * 2)
      have ej : (k : Int) < (M.length : Int) := by omega
      have hgw : w.heap.size ≤ g := by omega
      clear hX hY hset hsame hat kset kf hso hal hka
      by_cases hkv : k < vals.length
      · have ev : decide ((k : Int) < (vals.length : Int)) = true := by simp; omega
        obtain ⟨so, hso⟩ : ∃ so, so = sees Y o := ⟨_, rfl⟩
        rw [← hso] at HSAME HAT hHo
        have HSO := Lib.hid hso
        clear hso
        obtain ⟨voff, rfl, hvc⟩ := hvs (by intro h0; have := congrArg List.length h0; simp at this; simp [this] at hkv)
        have hvk := hvc k _ (iv_get hkv)
        clear hvc
        cases so with
        | true =>
          go_wp2_with fail
          refine (hHo _).mono ?_
          rintro e wx ⟨rfl, hwx⟩
          have hwx := hwx.symm
          subst hwx
          go_wp2_with fail
          go_roundw
          case rel => exact ⟨k + 1, by omega, by go_num, by rw [← HSAME.out (by simp)]; exact hrm, hs2, hvs, hb⟩
          case measure => simp [intOf]; omega
        | false =>
          go_wp2_with fail
          refine (hHo _).mono ?_
          rintro e wx ⟨rfl, hwx⟩
          have hwx := hwx.symm
          subst hwx
          go_wp2_with fail
          have hr2 := HKS.out vals[k] _ rfl
          have e9 : altAt vals o M[k] k = (vals[k], Y) := by rw [HAT.out, if_pos ⟨hkv, by trivial⟩]; simp [List.getD, hkv]
          rw [← e9, HSET.out] at hr2
          go_roundw
          case rel => exact ⟨k + 1, by omega, by go_num, hr2, Sl.setCell hs2 (by have := hlt2 (by omega); simp; omega) _, Sl.setCell hvs (by have := hltv (by omega); simp; omega) _, hb.setCell hgw _⟩
          case measure => simp [intOf]; omega
      · have ev : decide ((k : Int) < (vals.length : Int)) = false := by simp; omega
        go_wp2_with fail
        go_roundw
        case rel => exact ⟨k + 1, by omega, by go_num, by rw [← HSAME.out (fun h => hkv h.1)]; exact hrm, hs2, hvs, hb⟩
        case measure => simp [intOf]; omega
    · obtain rfl : k = M.length := by omega
      rw [← HM2.out] at hrm
      obtain ⟨A9', c9', b9', hv9, -, -, -, -, hs9, -⟩ := hrm.sl
      injection hv9 with h91 h92 h93
      subst h91 h93
      clear h92 hrm hvs
      go_wp2_with fail
      refine (hN _ A2 c2 b2 hs2).mono ?_
      rintro e w4 ⟨rfl, hb4⟩
      replace hs2 := Sl.ext hs2 hb4
      replace hs9 := Sl.ext hs9 hb4
      replace hb := hb.trans (hb4.mono hb.size)
      clear hb4
      clear hN
      clear hs2
      replace hs9 := Sl.alloc hs9 (.cells (bdL M) 32)
      replace hb := hb.alloc hb.size (.cells (bdL M) 32)
      have q13 := BoxL.new_ w4 M
      go_wp2_with (first | ((with_reducible refine at_al 32 13 ?_); refine wpList_al rfl rfl (some 13) rfl w4.heap.size rfl ?_) | ((with_reducible refine at_st 32 13 54 ?_); refine wpList_put rfl (.tmp 13) (.tmp 54) rfl rfl M rfl rfl ?_) | ((with_reducible refine at_ld 32 13 ?_); refine wpList_ld rfl (.tmp 13) rfl w4.heap.size rfl M q13 ?_))
      refine (hN2 _ A9 c9 b9' hs9).mono ?_
      rintro e w5 ⟨rfl, hb5⟩
      replace hs9 := Sl.ext hs9 hb5
      replace q13 := q13.ext hb5
      replace hb := hb.trans (hb5.mono hb.size)
      clear hb5
      clear hN2
      clear hs9
      replace q13 := q13.alloc (.cells (bdL M2) 32)
      replace hb := hb.alloc hb.size (.cells (bdL M2) 32)
      have q15 := BoxL.new_ w5 M2
      go_wp2_with (first | ((with_reducible refine at_al 32 15 ?_); refine wpList_al rfl rfl (some 15) rfl w5.heap.size rfl ?_) | ((with_reducible refine at_st 32 15 59 ?_); refine wpList_put rfl (.tmp 15) (.tmp 59) rfl rfl M2 rfl rfl ?_) | ((with_reducible refine at_ld 32 13 ?_); refine wpList_ld rfl (.tmp 13) rfl w4.heap.size rfl M q13 ?_) | ((with_reducible refine at_ld 32 15 ?_); refine wpList_ld rfl (.tmp 15) rfl w5.heap.size rfl M2 q15 ?_))
      refine wp_region_held_drew (S := fun w' => BoxL w' w4.heap.size M ∧ BoxL w' w5.heap.size M2) (by kernel_rfl) ?_ (fun hHeld => ?_)
      · exact ⟨q13, q15⟩
      refine wpAnyH_take (i := 0) (by simp only [List.getElem?_toArray, List.getElem?_cons_zero]; rfl) (by kernel_rfl) (by kernel_rfl) (by kernel_rfl) (by exact fun _ _ _ h => h) (by exact yieldsIf_ld (by kernel_rfl) (.tmp 13) rfl w4.heap.size rfl M (fun w h => h.1)) hHeld ?_
      try simp only [Act.put, List.setIfInBounds_toArray, List.set_cons_zero, List.set_cons_succ]
      refine wpAnyH_take (i := 1) (v := ?zv1) (by simp only [List.getElem?_toArray, List.getElem?_cons_succ, List.getElem?_cons_zero]; rfl) (by kernel_rfl) (by kernel_rfl) (by kernel_rfl) (by exact fun _ _ _ h => h) (Or.inl ⟨by kernel_rfl, ?zy1⟩) hHeld ?_
      case zy1 => (intro w hSw; (try dsimp only at hSw); skip; go_simp; try (with_reducible rfl))
      try simp only [Act.put, List.setIfInBounds_toArray, List.set_cons_zero, List.set_cons_succ]
      refine wpAnyH_take (i := 2) (v := ?zv2) (by simp only [List.getElem?_toArray, List.getElem?_cons_succ, List.getElem?_cons_zero]; rfl) (by kernel_rfl) (by kernel_rfl) (by kernel_rfl) (by exact fun _ _ _ h => h) (Or.inl ⟨by kernel_rfl, ?zy2⟩) hHeld ?_
      case zy2 => (intro w hSw; (try dsimp only at hSw); skip; go_simp; try (with_reducible rfl))
      try simp only [Act.put, List.setIfInBounds_toArray, List.set_cons_zero, List.set_cons_succ]
      refine wpAnyH_take (i := 3) (v := ?zv3) (by simp only [List.getElem?_toArray, List.getElem?_cons_succ, List.getElem?_cons_zero]; rfl) (by kernel_rfl) (by kernel_rfl) (by kernel_rfl) (by exact fun _ _ _ h => h) (Or.inl ⟨by kernel_rfl, ?zy3⟩) hHeld ?_
      case zy3 => (intro w hSw; (try dsimp only at hSw); skip; go_simp; try (with_reducible rfl))
      try simp only [Act.put, List.setIfInBounds_toArray, List.set_cons_zero, List.set_cons_succ]
      refine wpAnyH_take (i := 6) (by simp only [List.getElem?_toArray, List.getElem?_cons_succ, List.getElem?_cons_zero]; rfl) (by kernel_rfl) (by kernel_rfl) (by kernel_rfl) (by exact fun _ _ _ h => h) (by exact yieldsIf_ld (by kernel_rfl) (.tmp 15) rfl w5.heap.size rfl M2 (fun w h => h.2)) hHeld ?_
      try simp only [Act.put, List.setIfInBounds_toArray, List.set_cons_zero, List.set_cons_succ]
      refine wpAnyH_take (i := 7) (v := ?zv7) (by simp only [List.getElem?_toArray, List.getElem?_cons_succ, List.getElem?_cons_zero]; rfl) (by kernel_rfl) (by kernel_rfl) (by kernel_rfl) (by exact fun _ _ _ h => h) (Or.inl ⟨by kernel_rfl, ?zy7⟩) hHeld ?_
      case zy7 => (intro w hSw; (try dsimp only at hSw); skip; go_simp; try (with_reducible rfl))
      try simp only [Act.put, List.setIfInBounds_toArray, List.set_cons_zero, List.set_cons_succ]
      refine wpAnyH_take (i := 8) (v := ?zv8) (by simp only [List.getElem?_toArray, List.getElem?_cons_succ, List.getElem?_cons_zero]; rfl) (by kernel_rfl) (by kernel_rfl) (by kernel_rfl) (by exact fun _ _ _ h => h) (Or.inl ⟨by kernel_rfl, ?zy8⟩) hHeld ?_
      case zy8 => (intro w hSw; (try dsimp only at hSw); skip; go_simp; try (with_reducible rfl))
      try simp only [Act.put, List.setIfInBounds_toArray, List.set_cons_zero, List.set_cons_succ]
      refine wpAnyH_take (i := 9) (v := ?zv9) (by simp only [List.getElem?_toArray, List.getElem?_cons_succ, List.getElem?_cons_zero]; rfl) (by kernel_rfl) (by kernel_rfl) (by kernel_rfl) (by exact fun _ _ _ h => h) (Or.inl ⟨by kernel_rfl, ?zy9⟩) hHeld ?_
      case zy9 => (intro w hSw; (try dsimp only at hSw); skip; go_simp; try (with_reducible rfl))
      try simp only [Act.put, List.setIfInBounds_toArray, List.set_cons_zero, List.set_cons_succ]
      refine wpAnyH_ready (rs := [4]) (by kernel_rfl) (by simp) ?_
      refine AllReadyH.cons (by simp only [List.getElem?_toArray, List.getElem?_cons_succ, List.getElem?_cons_zero]; rfl) (fun KK hKK => ?_) AllReadyH.nil
      rw [if_pos (by kernel_rfl)]
      go_simp
      (with_reducible refine (hO1 _).mono ?_)
      rintro e wc1 ⟨vp, vc, rfl, hp, hc, g1⟩
      have g1 := below_undrew2 g1
      have q13 := q13.ext g1
      have q15 := q15.ext g1
      have hb := hb.trans (g1.mono hb.size)
      clear g1
      obtain ⟨Apa, cpa, bpa, hvp, -, -, -, -, hpa, -⟩ := Row.sl hp
      obtain ⟨Aca, cca, bca, hvc, -, -, -, -, hca, -⟩ := RowC.sl hc
      rw [← HK.out] at hvp
      rw [← HK2.out] at hvc
      subst hvp hvc
      clear hp hc
      go_wp2_with fail
      refine hKK.out _ _ ?_ (fun hHeld => ?_)
      · exact ⟨q13, q15⟩
      clear hKK KK
      try simp only [Act.put, List.setIfInBounds_toArray, List.set_cons_zero, List.set_cons_succ]
      refine wpAnyH_ready (rs := [5]) (by kernel_rfl) (by simp) ?_
      refine AllReadyH.cons (by simp only [List.getElem?_toArray, List.getElem?_cons_succ, List.getElem?_cons_zero]; rfl) (fun KK hKK => ?_) AllReadyH.nil
      rw [if_pos (by kernel_rfl)]
      go_simp
      (with_reducible refine (hB1 _ Apa cpa bpa Aca cca bca hpa hca).mono ?_)
      rintro e wc2 ⟨v, rfl, hrow, g2⟩
      have q13 := q13.ext g2
      have q15 := q15.ext g2
      have hpa := Sl.ext hpa g2
      have hca := Sl.ext hca g2
      have hb := hb.trans (g2.mono hb.size)
      clear g2
      obtain ⟨Ap, cp, bp, rfl, -, -, -, -, hsp, -⟩ := hrow.sl
      clear hrow hpa hca
      go_wp2_with fail
      refine hKK.out _ _ ?_ (fun hHeld => ?_)
      · exact ⟨q13, q15⟩
      clear hKK KK
      try simp only [Act.put, List.setIfInBounds_toArray, List.set_cons_zero, List.set_cons_succ]
      refine wpAnyH_ready (rs := [10]) (by kernel_rfl) (by simp) ?_
      refine AllReadyH.cons (by simp only [List.getElem?_toArray, List.getElem?_cons_succ, List.getElem?_cons_zero]; rfl) (fun KK hKK => ?_) AllReadyH.nil
      rw [if_pos (by kernel_rfl)]
      go_simp
      (with_reducible refine (hO2 _).mono ?_)
      rintro e wc3 ⟨vp, vc, rfl, hp, hc, g3⟩
      have q13 := q13.ext g3
      have q15 := q15.ext g3
      have hsp := Sl.ext hsp g3
      have hb := hb.trans (g3.mono hb.size)
      clear g3
      obtain ⟨Apb, cpb, bpb, hvp, -, -, -, -, hpb, -⟩ := Row.sl hp
      obtain ⟨Acb, ccb, bcb, hvc, -, -, -, -, hcb, -⟩ := RowC.sl hc
      rw [← HK.out] at hvp
      rw [← HK2.out] at hvc
      subst hvp hvc
      clear hp hc
      go_wp2_with fail
      refine hKK.out _ _ ?_ (fun hHeld => ?_)
      · exact ⟨q13, q15⟩
      clear hKK KK
      try simp only [Act.put, List.setIfInBounds_toArray, List.set_cons_zero, List.set_cons_succ]
      refine wpAnyH_ready (rs := [11]) (by kernel_rfl) (by simp) ?_
      refine AllReadyH.cons (by simp only [List.getElem?_toArray, List.getElem?_cons_succ, List.getElem?_cons_zero]; rfl) (fun KK hKK => ?_) AllReadyH.nil
      rw [if_pos (by kernel_rfl)]
      go_simp
      (with_reducible refine (hB1 _ Apb cpb bpb Acb ccb bcb hpb hcb).mono ?_)
      rintro e wc4 ⟨v, rfl, hrow, g4⟩
      have q13 := q13.ext g4
      have q15 := q15.ext g4
      have hsp := Sl.ext hsp g4
      have hpb := Sl.ext hpb g4
      have hcb := Sl.ext hcb g4
      have hb := hb.trans (g4.mono hb.size)
      clear g4
      obtain ⟨Aq, cq, bq, rfl, -, -, -, -, hsq, -⟩ := hrow.sl
      clear hrow hpb hcb
      go_wp2_with fail
      refine hKK.out _ _ ?_ (fun hHeld => ?_)
      · exact ⟨q13, q15⟩
      clear hKK KK
      try simp only [Act.put, List.setIfInBounds_toArray, List.set_cons_zero, List.set_cons_succ]
      refine wpAnyH_ready (rs := [12]) (by kernel_rfl) (by simp) ?_
      refine AllReadyH.cons (by simp only [List.getElem?_toArray, List.getElem?_cons_succ, List.getElem?_cons_zero]; rfl) (fun KK hKK => ?_) AllReadyH.nil
      rw [if_pos (by kernel_rfl)]
      go_simp
      (with_reducible refine (hS1 _ Ap Aq cp cq bp bq hsp hsq).mono ?_)
      rintro e wc5 ⟨rfl, g5⟩
      have q13 := q13.ext g5
      have q15 := q15.ext g5
      have hsp := Sl.ext hsp g5
      have hsq := Sl.ext hsq g5
      have hb := hb.trans (g5.mono hb.size)
      clear g5
      clear hsp hsq
      go_wp2_with fail
      refine hKK.out _ _ ?_ (fun hHeld => ?_)
      · exact ⟨q13, q15⟩
      clear hKK KK
      try simp only [Act.put, List.setIfInBounds_toArray, List.set_cons_zero, List.set_cons_succ]
      refine wpAnyH_take (i := 13) (v := ?zv13) (by simp only [List.getElem?_toArray, List.getElem?_cons_succ, List.getElem?_cons_zero]; rfl) (by kernel_rfl) (by kernel_rfl) (by kernel_rfl) (by exact fun _ _ _ h => h) (Or.inl ⟨by kernel_rfl, ?zy13⟩) hHeld ?_
      case zy13 => (intro w hSw; (try dsimp only at hSw); skip; go_simp; try (with_reducible rfl))
      try simp only [Act.put, List.setIfInBounds_toArray, List.set_cons_zero, List.set_cons_succ]
      refine wpAnyH_take (i := 14) (by simp only [List.getElem?_toArray, List.getElem?_cons_succ, List.getElem?_cons_zero]; rfl) (by kernel_rfl) (by kernel_rfl) (by kernel_rfl) (by exact fun _ _ _ h => h) (by exact yieldsIf_ld (by kernel_rfl) (.tmp 13) rfl w4.heap.size rfl M (fun w h => h.1)) hHeld ?_
      try simp only [Act.put, List.setIfInBounds_toArray, List.set_cons_zero, List.set_cons_succ]
      refine wpAnyH_take (i := 15) (v := ?zv15) (by simp only [List.getElem?_toArray, List.getElem?_cons_succ, List.getElem?_cons_zero]; rfl) (by kernel_rfl) (by kernel_rfl) (by kernel_rfl) (by exact fun _ _ _ h => h) (Or.inl ⟨by kernel_rfl, ?zy15⟩) hHeld ?_
      case zy15 => (intro w hSw; (try dsimp only at hSw); skip; go_simp; try (with_reducible rfl))
      try simp only [Act.put, List.setIfInBounds_toArray, List.set_cons_zero, List.set_cons_succ]
      refine wpAnyH_take (i := 16) (v := ?zv16) (by simp only [List.getElem?_toArray, List.getElem?_cons_succ, List.getElem?_cons_zero]; rfl) (by kernel_rfl) (by kernel_rfl) (by kernel_rfl) (by exact fun _ _ _ h => h) (Or.inl ⟨by kernel_rfl, ?zy16⟩) hHeld ?_
      case zy16 => (intro w hSw; (try dsimp only at hSw); skip; go_simp; try (with_reducible rfl))
      try simp only [Act.put, List.setIfInBounds_toArray, List.set_cons_zero, List.set_cons_succ]
      refine wpAnyH_take (i := 19) (by simp only [List.getElem?_toArray, List.getElem?_cons_succ, List.getElem?_cons_zero]; rfl) (by kernel_rfl) (by kernel_rfl) (by kernel_rfl) (by exact fun _ _ _ h => h) (by exact yieldsIf_ld (by kernel_rfl) (.tmp 15) rfl w5.heap.size rfl M2 (fun w h => h.2)) hHeld ?_
      try simp only [Act.put, List.setIfInBounds_toArray, List.set_cons_zero, List.set_cons_succ]
      refine wpAnyH_take (i := 20) (v := ?zv20) (by simp only [List.getElem?_toArray, List.getElem?_cons_succ, List.getElem?_cons_zero]; rfl) (by kernel_rfl) (by kernel_rfl) (by kernel_rfl) (by exact fun _ _ _ h => h) (Or.inl ⟨by kernel_rfl, ?zy20⟩) hHeld ?_
      case zy20 => (intro w hSw; (try dsimp only at hSw); skip; go_simp; try (with_reducible rfl))
      try simp only [Act.put, List.setIfInBounds_toArray, List.set_cons_zero, List.set_cons_succ]
      refine wpAnyH_take (i := 21) (v := ?zv21) (by simp only [List.getElem?_toArray, List.getElem?_cons_succ, List.getElem?_cons_zero]; rfl) (by kernel_rfl) (by kernel_rfl) (by kernel_rfl) (by exact fun _ _ _ h => h) (Or.inl ⟨by kernel_rfl, ?zy21⟩) hHeld ?_
      case zy21 => (intro w hSw; (try dsimp only at hSw); skip; go_simp; try (with_reducible rfl))
      try simp only [Act.put, List.setIfInBounds_toArray, List.set_cons_zero, List.set_cons_succ]
      refine wpAnyH_ready (rs := [17]) (by kernel_rfl) (by simp) ?_
      refine AllReadyH.cons (by simp only [List.getElem?_toArray, List.getElem?_cons_succ, List.getElem?_cons_zero]; rfl) (fun KK hKK => ?_) AllReadyH.nil
      rw [if_pos (by kernel_rfl)]
      go_simp
      (with_reducible refine (hU1 _).mono ?_)
      rintro e wc6 ⟨vp, vc, rfl, hp, hc, g6⟩
      have q13 := q13.ext g6
      have q15 := q15.ext g6
      have hb := hb.trans (g6.mono hb.size)
      clear g6
      obtain ⟨Apd, cpd, bpd, hvp, -, -, -, -, hpd, -⟩ := Row.sl hp
      obtain ⟨Acd, ccd, bcd, hvc, -, -, -, -, hcd, -⟩ := RowC.sl hc
      rw [HF1.out] at hvp
      rw [HVL.out] at hvc
      subst hvp hvc
      clear hp hc
      go_wp2_with fail
      refine hKK.out _ _ ?_ (fun hHeld => ?_)
      · exact ⟨q13, q15⟩
      clear hKK KK
      try simp only [Act.put, List.setIfInBounds_toArray, List.set_cons_zero, List.set_cons_succ]
      refine wpAnyH_ready (rs := [18]) (by kernel_rfl) (by simp) ?_
      refine AllReadyH.cons (by simp only [List.getElem?_toArray, List.getElem?_cons_succ, List.getElem?_cons_zero]; rfl) (fun KK hKK => ?_) AllReadyH.nil
      rw [if_pos (by kernel_rfl)]
      go_simp
      (with_reducible refine (hB2 _ Apd cpd bpd Acd ccd bcd hpd hcd).mono ?_)
      rintro e wc7 ⟨v, rfl, hrow, g7⟩
      have q13 := q13.ext g7
      have q15 := q15.ext g7
      have hpd := Sl.ext hpd g7
      have hcd := Sl.ext hcd g7
      have hb := hb.trans (g7.mono hb.size)
      clear g7
      obtain ⟨Ar, cr, br, rfl, -, -, -, -, hsr, -⟩ := hrow.sl
      clear hrow hpd hcd
      go_wp2_with fail
      refine hKK.out _ _ ?_ (fun hHeld => ?_)
      · exact ⟨q13, q15⟩
      clear hKK KK
      try simp only [Act.put, List.setIfInBounds_toArray, List.set_cons_zero, List.set_cons_succ]
      refine wpAnyH_ready (rs := [22]) (by kernel_rfl) (by simp) ?_
      refine AllReadyH.cons (by simp only [List.getElem?_toArray, List.getElem?_cons_succ, List.getElem?_cons_zero]; rfl) (fun KK hKK => ?_) AllReadyH.nil
      rw [if_pos (by kernel_rfl)]
      go_simp
      (with_reducible refine (hU2 _).mono ?_)
      rintro e wc8 ⟨vp, vc, rfl, hp, hc, g8⟩
      have q13 := q13.ext g8
      have q15 := q15.ext g8
      have hsr := Sl.ext hsr g8
      have hb := hb.trans (g8.mono hb.size)
      clear g8
      obtain ⟨Ape, cpe, bpe, hvp, -, -, -, -, hpe, -⟩ := Row.sl hp
      obtain ⟨Ace, cce, bce, hvc, -, -, -, -, hce, -⟩ := RowC.sl hc
      rw [HF1.out] at hvp
      rw [HVL.out] at hvc
      subst hvp hvc
      clear hp hc
      go_wp2_with fail
      refine hKK.out _ _ ?_ (fun hHeld => ?_)
      · exact ⟨q13, q15⟩
      clear hKK KK
      try simp only [Act.put, List.setIfInBounds_toArray, List.set_cons_zero, List.set_cons_succ]
      refine wpAnyH_ready (rs := [23]) (by kernel_rfl) (by simp) ?_
      refine AllReadyH.cons (by simp only [List.getElem?_toArray, List.getElem?_cons_succ, List.getElem?_cons_zero]; rfl) (fun KK hKK => ?_) AllReadyH.nil
      rw [if_pos (by kernel_rfl)]
      go_simp
      (with_reducible refine (hB2 _ Ape cpe bpe Ace cce bce hpe hce).mono ?_)
      rintro e wc9 ⟨v, rfl, hrow, g9⟩
      have q13 := q13.ext g9
      have q15 := q15.ext g9
      have hsr := Sl.ext hsr g9
      have hpe := Sl.ext hpe g9
      have hce := Sl.ext hce g9
      have hb := hb.trans (g9.mono hb.size)
      clear g9
      obtain ⟨As, cs, bs, rfl, -, -, -, -, hss, -⟩ := hrow.sl
      clear hrow hpe hce
      go_wp2_with fail
      refine hKK.out _ _ ?_ (fun hHeld => ?_)
      · exact ⟨q13, q15⟩
      clear hKK KK
      try simp only [Act.put, List.setIfInBounds_toArray, List.set_cons_zero, List.set_cons_succ]
      refine wpAnyH_ready (rs := [24]) (by kernel_rfl) (by simp) ?_
      refine AllReadyH.cons (by simp only [List.getElem?_toArray, List.getElem?_cons_succ, List.getElem?_cons_zero]; rfl) (fun KK hKK => ?_) AllReadyH.nil
      rw [if_pos (by kernel_rfl)]
      go_simp
      (with_reducible refine (hS2 _ Ar As cr cs br bs hsr hss).mono ?_)
      rintro e wc10 ⟨rfl, g10⟩
      have q13 := q13.ext g10
      have q15 := q15.ext g10
      have hsr := Sl.ext hsr g10
      have hss := Sl.ext hss g10
      have hb := hb.trans (g10.mono hb.size)
      clear g10
      go_wp2_with fail
      refine hKK.out _ _ ?_ (fun hHeld => ?_)
      · exact ⟨q13, q15⟩
      clear hKK KK
      try simp only [Act.put, List.setIfInBounds_toArray, List.set_cons_zero, List.set_cons_succ]
      refine wpAnyH_take (i := 25) (v := ?zv25) (by simp only [List.getElem?_toArray, List.getElem?_cons_succ, List.getElem?_cons_zero]; rfl) (by kernel_rfl) (by kernel_rfl) (by kernel_rfl) (by exact fun _ _ _ h => h) (Or.inl ⟨by kernel_rfl, ?zy25⟩) hHeld ?_
      case zy25 => (intro w hSw; (try dsimp only at hSw); skip; go_simp; try (with_reducible rfl))
      try simp only [Act.put, List.setIfInBounds_toArray, List.set_cons_zero, List.set_cons_succ]
      refine wpAnyH_take (i := 26) (v := ?zv26) (by simp only [List.getElem?_toArray, List.getElem?_cons_succ, List.getElem?_cons_zero]; rfl) (by kernel_rfl) (by kernel_rfl) (by kernel_rfl) (by exact fun _ _ _ h => h) (Or.inl ⟨by kernel_rfl, ?zy26⟩) hHeld ?_
      case zy26 => (intro w hSw; (try dsimp only at hSw); skip; go_simp; try (with_reducible rfl))
      try simp only [Act.put, List.setIfInBounds_toArray, List.set_cons_zero, List.set_cons_succ]
      refine wpAnyH_done (by kernel_rfl) ?_ _
      go_wp2_with fail
      go_ret
      exact ⟨rfl, hb⟩
end Go.Proofs.Ytpppjlcfhijdgaa
