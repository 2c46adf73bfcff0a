/- BoardAlike: the walk. Conditions: the lists are no longer than may be; the cells and the values fit. -/
import Derived.Test.YtemhglcdcpobpaaBAwake
import Derived.Test.YtemhglcdcpobpaaFewC
import Derived.Test.YtemhglcdcpobpaaBoardRefH
import Derived.Test.YtemhglcdcpobpaaAltN
import Derived.Test.YtemhglcdcpobpaaIv
namespace Go.Proofs.Ytemhglcdcpobpaa
open Go.RowKit

theorem sl_same {a a' : World} {p : Addr} {v : Value} (h : Below a.heap.size a a') (hc : a.cell? p = some v) : a'.cell? p = some v :=
  (h.cell (World.block_lt_of_cell? a p hc)).trans hc
/-- A row of cells that lies in block g. -/
def RowAt (w : World) (B g c n : Nat) (L : List (Int × Nat)) : Prop := RowC 28 w B (.slice (some ⟨g, 0, none⟩) n c) L ∧ L.length = n
set_option maxHeartbeats 32000000 in
set_option maxRecDepth 40000 in
theorem BoardAlike_walk (A : Option Addr) (L : List (Int × Nat)) (n c b : Nat) (VA : Option Addr) (vals : List Int) (nv vc vb : Nat) (o p : Int) (w : World) (hs : Sl w b A (cv L)) (hn : L.length = n) (_hm : n ≤ maxLen) (hnc : n ≤ c) (hok : okC L) (hvs : Sl w vb VA (iv vals)) (hvn : vals.length = nv) (hvm : nv ≤ maxLen) (hvo : ∀ x ∈ vals, -2147483648 ≤ x ∧ x ≤ 2147483647) (_h1 : -9223372036854775808 ≤ o) (_h2 : o ≤ 9223372036854775807) (_h3 : -9223372036854775808 ≤ p) (_h4 : p ≤ 9223372036854775807) :
    Calls Try.prog 5 #[.slice A n c, .slice VA nv vc, .int .i64 o, .int .i64 p] w fun e w' => e = .returned (.bool true) ∧ Below w.heap.size w w' := by
  have hF := fun W h => FewC_calls A L n c b W h hn hnc
  obtain ⟨M, hM⟩ : ∃ M, M = L.take 48 := ⟨_, rfl⟩
  have hML : M.length ≤ 48 := by rw [hM, List.length_take]; omega
  have hMo : okC M := by rw [hM]; exact okC_take hok 48
  rw [← hM] at hF
  clear hM hok hn
  subst hvn
  have hF2 : ∀ (W : World) (A : Option Addr) (c b : Nat) (_ : Sl W b A (cv M)) (_ : M.length ≤ c), Calls Try.prog 11 #[.slice A M.length c] W fun e w' => ∃ v, e = .returned v ∧ RowC 28 w' W.heap.size v M ∧ Below W.heap.size W w' := by
    intro W A c b h hc
    have := FewC_calls A M M.length c b W h rfl hc
    rwa [List.take_of_length_le hML] at this
  have hN := fun W A c b h => New_in A M M.length c b W h rfl hML
  obtain ⟨M2, hM2⟩ : ∃ M2, M2 = alt vals o M M.length := ⟨_, rfl⟩
  have hM2l : M2.length = M.length := by rw [hM2]; simp
  have hM2o : okC M2 := by rw [hM2]; exact alt_ok _ hMo hvo
  have hN2 : ∀ (W : World) (A : Option Addr) (c b : Nat) (_ : Sl W b A (cv M2)), Calls Try.prog 12 #[.slice A M.length c] W fun e w' => e = .returned (.tuple #[.agg (bdL M2), .int .i64 0]) ∧ Below W.heap.size W w' := fun W A c b h => New_in A M2 M.length c b W h hM2l hML
  obtain ⟨hf, hhf⟩ : ∃ hf, hf = M.length / 2 := ⟨_, rfl⟩
  obtain ⟨T, hT⟩ : ∃ T, T = M.take hf := ⟨_, rfl⟩
  have hTl : T.length = hf := by rw [hT, List.length_take]; omega
  have hTo : okC T := by rw [hT]; exact okC_take hMo hf
  have hN3 : ∀ (W : World) (A : Option Addr) (c b : Nat) (_ : Sl W b A (cv T)), Calls Try.prog 12 #[.slice A hf c] W fun e w' => e = .returned (.tuple #[.agg (bdL T), .int .i64 0]) ∧ Below W.heap.size W w' := fun W A c b h => New_in A T hf c b W h hTl (by omega)
  have hM2L : M2.length ≤ 48 := by omega
  have hTL : T.length ≤ 48 := by omega
  have hvw : viewL o M2 = viewL o M := by rw [hM2]; exact alt_view _ _ _ _
  have hlb : labsL M2 = labsL M := by rw [hM2]; exact alt_labs _ _ _ _
  have hK1 := fun W => Alike_calls M M2 o W hML hM2L hMo hM2o
  rw [decide_eq_true hvw.symm] at hK1
  have hK2 := fun W => Alike_calls M M2 p W hML hM2L hMo hM2o
  have hK3 := fun W => Alike_calls M T o W hML hTL hMo hTo
  obtain ⟨d2, hd2⟩ : ∃ d2, d2 = decide (viewL p M = viewL p M2) := ⟨_, rfl⟩
  have hd3 : decide (viewL o M = viewL o T) = ((M.length : Int) == (hf : Int)) := by
    rw [Bool.eq_iff_iff, decide_eq_true_iff, beq_iff_eq]
    constructor
    · intro h
      have := congrArg List.length h
      simp at this
      omega
    · intro h
      rw [hT, List.take_of_length_le (by omega)]
  obtain ⟨d3, hd3'⟩ : ∃ d3, d3 = ((M.length : Int) == (hf : Int)) := ⟨_, rfl⟩
  rw [hd3, ← hd3'] at hK3
  rw [← hd2] at hK2
  have hO1 : ∀ (W : World) (A : Option Addr) (c b : Nat) (_ : Sl W b A (cv M)), Calls Try.prog 13 #[.slice A M.length c] W fun e w' => ∃ v, e = .returned v ∧ RowC 49 w' W.heap.size v M ∧ Below W.heap.size W w' := fun W A c b h => Own_calls A M M.length c b W h rfl (by omega)
  have hO2 : ∀ (W : World) (A : Option Addr) (c b : Nat) (_ : Sl W b A (cv M2)), Calls Try.prog 13 #[.slice A M.length c] W fun e w' => ∃ v, e = .returned v ∧ RowC 49 w' W.heap.size v M2 ∧ Below W.heap.size W w' := fun W A c b h => Own_calls A M2 M.length c b W h hM2l (by omega)
  have hR1 : ∀ (W : World) (A : Option Addr) (c b : Nat) (_ : Sl W b A (cv M)), Calls Try.prog 18 #[.slice A M.length c, .int .i64 p] W fun e w' => ∃ v, e = .returned v ∧ RowC 49 w' W.heap.size v (viewL p M) ∧ Below W.heap.size W w' := fun W A c b h => RefView_calls A M M.length c b p W h rfl (by omega) hMo
  have hR2 : ∀ (W : World) (A : Option Addr) (c b : Nat) (_ : Sl W b A (cv M2)), Calls Try.prog 18 #[.slice A M.length c, .int .i64 p] W fun e w' => ∃ v, e = .returned v ∧ RowC 49 w' W.heap.size v (viewL p M2) ∧ Below W.heap.size W w' := fun W A c b h => RefView_calls A M2 M.length c b p W h hM2l (by omega) hM2o
  have hQ := fun W A A' c b c' b' h h' => RefSame_calls A A' (viewL p M) (viewL p M2) M.length c b M.length c' b' W h h' (by simp) (by simp [hM2l]) (by omega) (by omega)
  rw [← hd2] at hQ
  have hV1 := fun W => View_calls M o W hML hMo
  have hV2 := fun W => View_calls (viewL o M) o W (by simp; omega) (okC_view hMo o)
  have hV3 := fun W => View_calls M2 o W hM2L hM2o
  have hV4 := fun W => View_calls M2 p W hM2L hM2o
  rw [view_twice] at hV2
  rw [hvw] at hV3
  have hH := fun W => Hash_calls (viewL o M) W (by simp; omega) (okC_view hMo o)
  have hB1 := fun W => Labels_calls M W hML hMo
  have hB2 := fun W => Labels_calls (viewL p M2) W (by simp; omega) (okC_view hM2o p)
  rw [labs_view, hlb] at hB2
  obtain ⟨lab, hlab⟩ : ∃ lab, lab = labsL M := ⟨_, rfl⟩
  rw [← hlab] at hB1 hB2
  have hVPl : (viewL p M).length = M.length := by simp
  have hVP2l : (viewL p M2).length = M.length := by simp [hM2l]
  obtain ⟨VO, hVO⟩ : ∃ VO, VO = viewL o M := ⟨_, rfl⟩
  obtain ⟨VP, hVP⟩ : ∃ VP, VP = viewL p M := ⟨_, rfl⟩
  obtain ⟨VP2, hVP2⟩ : ∃ VP2, VP2 = viewL p M2 := ⟨_, rfl⟩
  have hVOl : VO.length ≤ 48 := by rw [hVO]; simp; omega
  rw [← hVO] at hV1 hV2 hV3 hH
  obtain ⟨hash, hhash⟩ : ∃ hash, hash = hashL VO := ⟨_, rfl⟩
  rw [← hhash] at hH
  rw [← hVP] at hR1 hVPl
  rw [← hVP2] at hR2 hV4 hB2 hVP2l
  rw [← hVP, ← hVP2] at hQ
  have HM2 := Lib.hid hM2
  have HVPl := Lib.hid hVPl
  have HM2l := Lib.hid hM2l
  have HVP2l := Lib.hid hVP2l
  have HT := Lib.hid hT
  have hhi : (M.length : Int) / 2 = (hf : Int) := by omega
  have hht : (M.length : Int).tdiv 2 = (hf : Int) := by rw [Int.tdiv_eq_ediv_of_nonneg (by omega)]; omega
  have hfl : (hf : Int) ≤ (M.length : Int) := by omega
  have hwq : IntKind.i64.wrap (hf : Int) = (hf : Int) := IntWalk.i64_in _ (by omega)
  have hde := hd3'.symm
  unfold maxLen at hvm
  clear hM2 hM2l hT hTl hvw hlb hd2 hd3 hd3' hlab hVO hVP hVP2 hhash hhf hVPl hVP2l
  go_enter Try.func5, Try.ntmps5
  go_wp2_with fail
  have hs0 := hs
  have hv0 := hvs
  refine (Awake_calls _).mono ?_
  rintro e w1 ⟨rfl, hb1⟩
  have hs := Sl.ext hs hb1
  have hvs := Sl.ext hvs hb1
  have hb := hb1
  clear hb1
  go_wp2_with fail
  refine (hF _ hs).mono ?_
  rintro e w2 ⟨v, rfl, hrow, hb2⟩
  have hs := Sl.ext hs hb2
  have hvs := Sl.ext hvs hb2
  have hb := hb.trans (hb2.mono hb.size)
  clear hb2
  clear hs
  clear hF hs0 hv0
  obtain ⟨A2, c2, b2, rfl, hlc, hcm, hA2, hbb, hs2, hbk⟩ := hrow.sl
  clear hrow hA2 hbb hbk
  go_wp2_with fail
  have hlt2 : 0 < M.length → b2 < w2.heap.size := fun h => Sl.lt hs2 (by intro h0; have := congrArg List.length h0; simp at this; omega)
  have hltv : 0 < vals.length → vb < w2.heap.size := fun h => Sl.lt hvs (by intro h0; have := congrArg List.length h0; rw [iv_length, List.length_nil] at this; omega)
  have hlow := hb.size
  refine (hF2 _ A2 c2 b2 hs2 hlc).mono ?_
  rintro e w3 ⟨v, rfl, hrm, hb3⟩
  have hvs := Sl.ext hvs hb3
  have hs2 := Sl.ext hs2 hb3
  have hb := hb.trans (hb3.mono hb.size)
  clear hb3
  clear hF2
  obtain ⟨A9, c9, b9, rfl, hlc9, hcm9, hA9, hbb9, hs9, hbk9⟩ := hrm.sl
  clear hA9 hs9 hbk9
  have hrm : RowC 28 w3 w2.heap.size (.slice A9 M.length c9) (alt vals o M 0) := by rw [alt_zero]; exact hrm
  go_wp2_with fail
  go_loopw [10, 25] (fun q i wr => ∃ k : Nat, k ≤ M.length ∧ i = .int .i64 k ∧ RowC 28 wr w2.heap.size (.slice A9 M.length c9) (alt vals o M k) ∧ Sl wr b2 A2 (cv M) ∧ Sl wr vb VA (iv vals) ∧ Below w.heap.size w wr) (fun _ i _ => M.length - (intOf i).toNat)
  case atStart => exact ⟨0, Nat.zero_le _, rfl, hrm, hs2, hvs, hb⟩
  case round =>
    clear hrm hs2 hvs hb
    obtain ⟨k, hk, rfl, hrm, hs2, hvs, hb⟩ := hrel
    by_cases hlt : k < M.length
    · have hal := alt_length vals o M k
      have hka : k < (alt vals o M k).length := by omega
      obtain ⟨g, cap, hv, hg, hgl, hcap, k0, k1, kf, kset, _⟩ := hrm.set_ hka
      injection hv with hvA hvn hvc
      subst hvA hvc
      clear hvn
      rw [alt_at hlt (Nat.le_refl k)] at k0 k1 kset
      have hy := (okC_get hMo hlt).2
      have hso : sees M[k].2 o = decide (M[k].2 &&& aloneN o ≠ 0) := rfl
      have hsame := alt_same (vals := vals) (o := o) hlt
      have hset := alt_set (vals := vals) (o := o) hlt
      have hat : altAt vals o M[k] k = if k < vals.length ∧ sees M[k].2 o = false then (vals.getD k 0, M[k].2) else M[k] := rfl
      obtain ⟨X, hX⟩ : ∃ X, X = M[k].1 := ⟨_, rfl⟩
      obtain ⟨Y, hY⟩ : ∃ Y, Y = M[k].2 := ⟨_, rfl⟩
      rw [← hX] at k0
      rw [← hY] at k1 kset hy hso hsame hat
      have hHo := fun W => MHas_calls Y o W hy
      rw [← hso] at hHo
      have HSET := Lib.hid hset
      have HSAME := Lib.hid hsame
      have HAT := Lib.hid hat
      have HKS := Lib.hid kset
      have kf0 := kf (k * 2)
      have ej : (k : Int) < (M.length : Int) := by omega
      have hgw : w.heap.size ≤ g := by omega
      clear hX hY hset hsame hat kset kf hso hal hka
      by_cases hkv : k < vals.length
      · have ev : decide ((k : Int) < (vals.length : Int)) = true := by simp; omega
        obtain ⟨so, hso⟩ : ∃ so, so = sees Y o := ⟨_, rfl⟩
        rw [← hso] at HSAME HAT hHo
        have HSO := Lib.hid hso
        clear hso
        obtain ⟨voff, rfl, hvc⟩ := hvs (by intro h0; have := congrArg List.length h0; simp at this; simp [this] at hkv)
        have hvk := hvc k _ (iv_get hkv)
        clear hvc
        cases so with
        | true =>
          go_wp2_with fail
          refine (hHo _).mono ?_
          rintro e wx ⟨rfl, hwx⟩
          have hwx := hwx.symm
          subst hwx
          go_wp2_with fail
          go_roundw
          case rel => exact ⟨k + 1, by omega, by go_num, by rw [← HSAME.out (by simp)]; exact hrm, hs2, hvs, hb⟩
          case measure => simp [intOf]; omega
        | false =>
          go_wp2_with fail
          refine (hHo _).mono ?_
          rintro e wx ⟨rfl, hwx⟩
          have hwx := hwx.symm
          subst hwx
          go_wp2_with fail
          have hr2 := HKS.out vals[k] _ rfl
          have e9 : altAt vals o M[k] k = (vals[k], Y) := by rw [HAT.out, if_pos ⟨hkv, by trivial⟩]; simp [List.getD, hkv]
          rw [← e9, HSET.out] at hr2
          go_roundw
          case rel => exact ⟨k + 1, by omega, by go_num, hr2, Sl.setCell hs2 (by have := hlt2 (by omega); simp; omega) _, Sl.setCell hvs (by have := hltv (by omega); simp; omega) _, hb.setCell hgw _⟩
          case measure => simp [intOf]; omega
      · have ev : decide ((k : Int) < (vals.length : Int)) = false := by simp; omega
        go_wp2_with fail
        go_roundw
        case rel => exact ⟨k + 1, by omega, by go_num, by rw [← HSAME.out (fun h => hkv h.1)]; exact hrm, hs2, hvs, hb⟩
        case measure => simp [intOf]; omega
    · obtain rfl : k = M.length := by omega
      rw [← HM2.out] at hrm
      obtain ⟨A9', c9', b9', hv9, _, _, _, _, hs9, _⟩ := hrm.sl
      injection hv9 with h91 h92 h93
      subst h91 h93
      clear h92 hrm hvs
      go_wp2_with fail
      refine (hN _ A2 c2 b2 hs2).mono ?_
      rintro e w4 ⟨rfl, hb4⟩
      have hs2 := Sl.ext hs2 hb4
      have hs9 := Sl.ext hs9 hb4
      have hb := hb.trans (hb4.mono hb.size)
      clear hb4
      clear hN
      have hs2 := Sl.alloc hs2 (.cells (bdL M) 31)
      have hs9 := Sl.alloc hs9 (.cells (bdL M) 31)
      have hb := hb.alloc hb.size (.cells (bdL M) 31)
      have q11 := BoxL.new_ w4 M
      go_wp2_with (first | ((with_reducible refine at_al 31 11 ?_); refine wpList_al rfl rfl (some 11) rfl w4.heap.size rfl ?_) | ((with_reducible refine at_st 31 11 54 ?_); refine wpList_put rfl (.tmp 11) (.tmp 54) rfl rfl M rfl rfl ?_) | ((with_reducible refine at_ld 31 11 ?_); refine wpList_ld rfl (.tmp 11) rfl w4.heap.size rfl M q11 ?_))
      refine (hN2 _ A9 c9 b9' hs9).mono ?_
      rintro e w5 ⟨rfl, hb5⟩
      have hs2 := Sl.ext hs2 hb5
      have hs9 := Sl.ext hs9 hb5
      have q11 := q11.ext hb5
      have hb := hb.trans (hb5.mono hb.size)
      clear hb5
      clear hN2
      have hsT := Sl.take hs2 (hf * 2)
      rw [cv_take, ← HT.out] at hsT
      have hhc : (hf : Int) ≤ (c2 : Int) := by omega
      have hs2 := Sl.alloc hs2 (.cells (bdL M2) 31)
      have hs9 := Sl.alloc hs9 (.cells (bdL M2) 31)
      have q11 := q11.alloc (.cells (bdL M2) 31)
      have hsT := Sl.alloc hsT (.cells (bdL M2) 31)
      have hb := hb.alloc hb.size (.cells (bdL M2) 31)
      have q13 := BoxL.new_ w5 M2
      go_wp2_with (first | ((with_reducible refine at_al 31 13 ?_); refine wpList_al rfl rfl (some 13) rfl w5.heap.size rfl ?_) | ((with_reducible refine at_st 31 13 59 ?_); refine wpList_put rfl (.tmp 13) (.tmp 59) rfl rfl M2 rfl rfl ?_) | ((with_reducible refine at_ld 31 11 ?_); refine wpList_ld rfl (.tmp 11) rfl w4.heap.size rfl M q11 ?_) | ((with_reducible refine at_ld 31 13 ?_); refine wpList_ld rfl (.tmp 13) rfl w5.heap.size rfl M2 q13 ?_))
      refine (hN3 _ A2 c2 b2 hsT).mono ?_
      rintro e w6 ⟨rfl, hb6⟩
      have hs2 := Sl.ext hs2 hb6
      have hs9 := Sl.ext hs9 hb6
      have q11 := q11.ext hb6
      have hsT := Sl.ext hsT hb6
      have q13 := q13.ext hb6
      have hb := hb.trans (hb6.mono hb.size)
      clear hb6
      clear hN3
      clear hsT
      have hs2 := Sl.alloc hs2 (.cells (bdL T) 31)
      have hs9 := Sl.alloc hs9 (.cells (bdL T) 31)
      have q11 := q11.alloc (.cells (bdL T) 31)
      have q13 := q13.alloc (.cells (bdL T) 31)
      have hb := hb.alloc hb.size (.cells (bdL T) 31)
      have q15 := BoxL.new_ w6 T
      go_wp2_with (first | ((with_reducible refine at_al 31 15 ?_); refine wpList_al rfl rfl (some 15) rfl w6.heap.size rfl ?_) | ((with_reducible refine at_st 31 15 68 ?_); refine wpList_put rfl (.tmp 15) (.tmp 68) rfl rfl T rfl rfl ?_) | ((with_reducible refine at_ld 31 11 ?_); refine wpList_ld rfl (.tmp 11) rfl w4.heap.size rfl M q11 ?_) | ((with_reducible refine at_ld 31 13 ?_); refine wpList_ld rfl (.tmp 13) rfl w5.heap.size rfl M2 q13 ?_) | ((with_reducible refine at_ld 31 15 ?_); refine wpList_ld rfl (.tmp 15) rfl w6.heap.size rfl T q15 ?_))
      try simp only [List.cons_append, List.nil_append]
      refine wp_region_held_drew (S := fun w' => BoxL w' w4.heap.size M ∧ BoxL w' w5.heap.size M2 ∧ BoxL w' w6.heap.size T) (by kernel_rfl) ?_ (fun hHeld => ?_)
      · exact ⟨q11, q13, q15⟩
      refine wpAnyH_take (i := 0) (by simp only [List.getElem?_toArray]; rfl) (by kernel_rfl) (by kernel_rfl) (by kernel_rfl) (by exact fun _ _ _ h => h) (by exact yieldsIf_ld (by kernel_rfl) (.tmp 11) rfl w4.heap.size rfl M (fun w h => h.1)) hHeld ?_
      try simp only [Act.put, List.setIfInBounds_toArray, List.set_cons_zero, List.set_cons_succ]
      refine wpAnyH_take (i := 1) (by simp only [List.getElem?_toArray]; rfl) (by kernel_rfl) (by kernel_rfl) (by kernel_rfl) (by exact fun _ _ _ h => h) (by exact yieldsIf_ld (by kernel_rfl) (.tmp 13) rfl w5.heap.size rfl M2 (fun w h => h.2.1)) hHeld ?_
      try simp only [Act.put, List.setIfInBounds_toArray, List.set_cons_zero, List.set_cons_succ]
      refine wpAnyH_take (i := 2) (v := ?zv2) (by simp only [List.getElem?_toArray]; rfl) (by kernel_rfl) (by kernel_rfl) (by kernel_rfl) (by exact fun _ _ _ h => h) (Or.inl ⟨by kernel_rfl, ?zy2⟩) hHeld ?_
      case zy2 => (intro w hSw; (try dsimp only at hSw); skip; go_simp; try (with_reducible rfl))
      try simp only [Act.put, List.setIfInBounds_toArray, List.set_cons_zero, List.set_cons_succ]
      refine wpAnyH_ready (rs := [3]) (by kernel_rfl) (by simp) ?_
      refine AllReadyH.cons (by simp only [List.getElem?_toArray]; rfl) (fun KK hKK => ?_) AllReadyH.nil
      rw [if_pos (by kernel_rfl)]
      go_simp
      refine (hK1 _).mono ?_
      rintro e wc1 ⟨rfl, g1⟩
      have g1 := below_undrew2 g1
      have hs2 := Sl.ext hs2 g1
      have hs9 := Sl.ext hs9 g1
      have q11 := q11.ext g1
      have q13 := q13.ext g1
      have q15 := q15.ext g1
      have hb := hb.trans (g1.mono hb.size)
      clear g1
      go_wp2_with fail
      refine hKK.out _ _ ?_ (fun hHeld => ?_)
      · exact ⟨q11, q13, q15⟩
      clear hKK KK
      try simp only [Act.put, List.setIfInBounds_toArray, List.set_cons_zero, List.set_cons_succ]
      refine wpAnyH_take (i := 4) (v := ?zv4) (by simp only [List.getElem?_toArray]; rfl) (by kernel_rfl) (by kernel_rfl) (by kernel_rfl) (by exact fun _ _ _ h => h) (Or.inl ⟨by kernel_rfl, ?zy4⟩) hHeld ?_
      case zy4 => (intro w hSw; (try dsimp only at hSw); skip; go_simp; try (with_reducible rfl))
      try simp only [Act.put, List.setIfInBounds_toArray, List.set_cons_zero, List.set_cons_succ]
      refine wpAnyH_take (i := 5) (by simp only [List.getElem?_toArray]; rfl) (by kernel_rfl) (by kernel_rfl) (by kernel_rfl) (by exact fun _ _ _ h => h) (by exact yieldsIf_ld (by kernel_rfl) (.tmp 11) rfl w4.heap.size rfl M (fun w h => h.1)) hHeld ?_
      try simp only [Act.put, List.setIfInBounds_toArray, List.set_cons_zero, List.set_cons_succ]
      refine wpAnyH_take (i := 6) (by simp only [List.getElem?_toArray]; rfl) (by kernel_rfl) (by kernel_rfl) (by kernel_rfl) (by exact fun _ _ _ h => h) (by exact yieldsIf_ld (by kernel_rfl) (.tmp 13) rfl w5.heap.size rfl M2 (fun w h => h.2.1)) hHeld ?_
      try simp only [Act.put, List.setIfInBounds_toArray, List.set_cons_zero, List.set_cons_succ]
      refine wpAnyH_take (i := 7) (v := ?zv7) (by simp only [List.getElem?_toArray]; rfl) (by kernel_rfl) (by kernel_rfl) (by kernel_rfl) (by exact fun _ _ _ h => h) (Or.inl ⟨by kernel_rfl, ?zy7⟩) hHeld ?_
      case zy7 => (intro w hSw; (try dsimp only at hSw); skip; go_simp; try (with_reducible rfl))
      try simp only [Act.put, List.setIfInBounds_toArray, List.set_cons_zero, List.set_cons_succ]
      refine wpAnyH_take (i := 9) (v := ?zv9) (by simp only [List.getElem?_toArray]; rfl) (by kernel_rfl) (by kernel_rfl) (by kernel_rfl) (by exact fun _ _ _ h => h) (Or.inl ⟨by kernel_rfl, ?zy9⟩) hHeld ?_
      case zy9 => (intro w hSw; (try dsimp only at hSw); skip; go_simp; try (with_reducible rfl))
      try simp only [Act.put, List.setIfInBounds_toArray, List.set_cons_zero, List.set_cons_succ]
      refine wpAnyH_take (i := 11) (v := ?zv11) (by simp only [List.getElem?_toArray]; rfl) (by kernel_rfl) (by kernel_rfl) (by kernel_rfl) (by exact fun _ _ _ h => h) (Or.inl ⟨by kernel_rfl, ?zy11⟩) hHeld ?_
      case zy11 => (intro w hSw; (try dsimp only at hSw); skip; go_simp; try (with_reducible rfl))
      try simp only [Act.put, List.setIfInBounds_toArray, List.set_cons_zero, List.set_cons_succ]
      refine wpAnyH_take (i := 13) (v := ?zv13) (by simp only [List.getElem?_toArray]; rfl) (by kernel_rfl) (by kernel_rfl) (by kernel_rfl) (by exact fun _ _ _ h => h) (Or.inl ⟨by kernel_rfl, ?zy13⟩) hHeld ?_
      case zy13 => (intro w hSw; (try dsimp only at hSw); skip; go_simp; try (with_reducible rfl))
      try simp only [Act.put, List.setIfInBounds_toArray, List.set_cons_zero, List.set_cons_succ]
      refine wpAnyH_take (i := 15) (v := ?zv15) (by simp only [List.getElem?_toArray]; rfl) (by kernel_rfl) (by kernel_rfl) (by kernel_rfl) (by exact fun _ _ _ h => h) (Or.inl ⟨by kernel_rfl, ?zy15⟩) hHeld ?_
      case zy15 => (intro w hSw; (try dsimp only at hSw); skip; go_simp; try (with_reducible rfl))
      try simp only [Act.put, List.setIfInBounds_toArray, List.set_cons_zero, List.set_cons_succ]
      refine wpAnyH_ready (rs := [8]) (by kernel_rfl) (by simp) ?_
      refine AllReadyH.cons (by simp only [List.getElem?_toArray]; rfl) (fun KK hKK => ?_) AllReadyH.nil
      rw [if_pos (by kernel_rfl)]
      go_simp
      refine (hK2 _).mono ?_
      rintro e wc2 ⟨rfl, g2⟩
      have hs2 := Sl.ext hs2 g2
      have hs9 := Sl.ext hs9 g2
      have q11 := q11.ext g2
      have q13 := q13.ext g2
      have q15 := q15.ext g2
      have hb := hb.trans (g2.mono hb.size)
      clear g2
      go_wp2_with fail
      refine hKK.out _ _ ?_ (fun hHeld => ?_)
      · exact ⟨q11, q13, q15⟩
      clear hKK KK
      try simp only [Act.put, List.setIfInBounds_toArray, List.set_cons_zero, List.set_cons_succ]
      refine wpAnyH_ready (rs := [10]) (by kernel_rfl) (by simp) ?_
      refine AllReadyH.cons (by simp only [List.getElem?_toArray]; rfl) (fun KK hKK => ?_) AllReadyH.nil
      rw [if_pos (by kernel_rfl)]
      go_simp
      refine (hO1 _ A2 c2 b2 hs2).mono ?_
      rintro e wc3 ⟨v, rfl, hrow, g3⟩
      have hs2 := Sl.ext hs2 g3
      have hs9 := Sl.ext hs9 g3
      have q11 := q11.ext g3
      have q13 := q13.ext g3
      have q15 := q15.ext g3
      have hb := hb.trans (g3.mono hb.size)
      clear g3
      obtain ⟨Ap, cp, bp, rfl, hx1, hx2, hx3, hx4, hsp, hx5⟩ := hrow.sl
      clear hrow hx1 hx2 hx3 hx4 hx5
      go_wp2_with fail
      refine hKK.out _ _ ?_ (fun hHeld => ?_)
      · exact ⟨q11, q13, q15⟩
      clear hKK KK
      try simp only [Act.put, List.setIfInBounds_toArray, List.set_cons_zero, List.set_cons_succ]
      refine wpAnyH_ready (rs := [12]) (by kernel_rfl) (by simp) ?_
      refine AllReadyH.cons (by simp only [List.getElem?_toArray]; rfl) (fun KK hKK => ?_) AllReadyH.nil
      rw [if_pos (by kernel_rfl)]
      go_simp
      refine (hR1 _ Ap cp bp hsp).mono ?_
      rintro e wc4 ⟨v, rfl, hrow, g4⟩
      have hs2 := Sl.ext hs2 g4
      have hs9 := Sl.ext hs9 g4
      have q11 := q11.ext g4
      have q13 := q13.ext g4
      have q15 := q15.ext g4
      have hsp := Sl.ext hsp g4
      have hb := hb.trans (g4.mono hb.size)
      clear g4
      obtain ⟨Aq, cq, bq, rfl, hx1, hx2, hx3, hx4, hsq, hx5⟩ := hrow.sl
      clear hrow hx1 hx2 hx3 hx4 hx5
      rw [HVPl.out]
      go_wp2_with fail
      refine hKK.out _ _ ?_ (fun hHeld => ?_)
      · exact ⟨q11, q13, q15⟩
      clear hKK KK
      try simp only [Act.put, List.setIfInBounds_toArray, List.set_cons_zero, List.set_cons_succ]
      refine wpAnyH_ready (rs := [14]) (by kernel_rfl) (by simp) ?_
      refine AllReadyH.cons (by simp only [List.getElem?_toArray]; rfl) (fun KK hKK => ?_) AllReadyH.nil
      rw [if_pos (by kernel_rfl)]
      go_simp
      refine (hO2 _ A9 c9 b9' hs9).mono ?_
      rintro e wc5 ⟨v, rfl, hrow, g5⟩
      have hs2 := Sl.ext hs2 g5
      have hs9 := Sl.ext hs9 g5
      have q11 := q11.ext g5
      have q13 := q13.ext g5
      have q15 := q15.ext g5
      have hsp := Sl.ext hsp g5
      have hsq := Sl.ext hsq g5
      have hb := hb.trans (g5.mono hb.size)
      clear g5
      obtain ⟨Ar, cr, br, rfl, hx1, hx2, hx3, hx4, hsr, hx5⟩ := hrow.sl
      clear hrow hx1 hx2 hx3 hx4 hx5
      rw [HM2l.out]
      go_wp2_with fail
      refine hKK.out _ _ ?_ (fun hHeld => ?_)
      · exact ⟨q11, q13, q15⟩
      clear hKK KK
      try simp only [Act.put, List.setIfInBounds_toArray, List.set_cons_zero, List.set_cons_succ]
      refine wpAnyH_ready (rs := [16]) (by kernel_rfl) (by simp) ?_
      refine AllReadyH.cons (by simp only [List.getElem?_toArray]; rfl) (fun KK hKK => ?_) AllReadyH.nil
      rw [if_pos (by kernel_rfl)]
      go_simp
      refine (hR2 _ Ar cr br hsr).mono ?_
      rintro e wc6 ⟨v, rfl, hrow, g6⟩
      have hs2 := Sl.ext hs2 g6
      have hs9 := Sl.ext hs9 g6
      have q11 := q11.ext g6
      have q13 := q13.ext g6
      have q15 := q15.ext g6
      have hsp := Sl.ext hsp g6
      have hsq := Sl.ext hsq g6
      have hsr := Sl.ext hsr g6
      have hb := hb.trans (g6.mono hb.size)
      clear g6
      obtain ⟨As, cs, bs, rfl, hx1, hx2, hx3, hx4, hss, hx5⟩ := hrow.sl
      clear hrow hx1 hx2 hx3 hx4 hx5
      rw [HVP2l.out]
      go_wp2_with fail
      refine hKK.out _ _ ?_ (fun hHeld => ?_)
      · exact ⟨q11, q13, q15⟩
      clear hKK KK
      try simp only [Act.put, List.setIfInBounds_toArray, List.set_cons_zero, List.set_cons_succ]
      refine wpAnyH_ready (rs := [17]) (by kernel_rfl) (by simp) ?_
      refine AllReadyH.cons (by simp only [List.getElem?_toArray]; rfl) (fun KK hKK => ?_) AllReadyH.nil
      rw [if_pos (by kernel_rfl)]
      go_simp
      refine (hQ _ Aq As cq bq cs bs hsq hss).mono ?_
      rintro e wc7 ⟨rfl, g7⟩
      have hs2 := Sl.ext hs2 g7
      have hs9 := Sl.ext hs9 g7
      have q11 := q11.ext g7
      have q13 := q13.ext g7
      have q15 := q15.ext g7
      have hsp := Sl.ext hsp g7
      have hsq := Sl.ext hsq g7
      have hsr := Sl.ext hsr g7
      have hss := Sl.ext hss g7
      have hb := hb.trans (g7.mono hb.size)
      clear g7
      go_wp2_with fail
      refine hKK.out _ _ ?_ (fun hHeld => ?_)
      · exact ⟨q11, q13, q15⟩
      clear hKK KK
      try simp only [Act.put, List.setIfInBounds_toArray, List.set_cons_zero, List.set_cons_succ]
      refine wpAnyH_take (i := 18) (v := ?zv18) (by simp only [List.getElem?_toArray]; rfl) (by kernel_rfl) (by kernel_rfl) (by kernel_rfl) (by exact fun _ _ _ h => h) (Or.inl ⟨by kernel_rfl, ?zy18⟩) hHeld ?_
      case zy18 => (intro w hSw; (try dsimp only at hSw); skip; go_simp; try (with_reducible rfl))
      try simp only [Act.put, List.setIfInBounds_toArray, List.set_cons_zero, List.set_cons_succ]
      refine wpAnyH_take (i := 19) (v := ?zv19) (by simp only [List.getElem?_toArray]; rfl) (by kernel_rfl) (by kernel_rfl) (by kernel_rfl) (by exact fun _ _ _ h => h) (Or.inl ⟨by kernel_rfl, ?zy19⟩) hHeld ?_
      case zy19 => (intro w hSw; (try dsimp only at hSw); skip; go_simp; try (with_reducible rfl))
      try simp only [Act.put, List.setIfInBounds_toArray, List.set_cons_zero, List.set_cons_succ]
      refine wpAnyH_take (i := 20) (v := ?zv20) (by simp only [List.getElem?_toArray]; rfl) (by kernel_rfl) (by kernel_rfl) (by kernel_rfl) (by exact fun _ _ _ h => h) (Or.inl ⟨by kernel_rfl, ?zy20⟩) hHeld ?_
      case zy20 => (intro w hSw; (try dsimp only at hSw); skip; go_simp; try (with_reducible rfl))
      try simp only [Act.put, List.setIfInBounds_toArray, List.set_cons_zero, List.set_cons_succ]
      refine wpAnyH_take (i := 21) (by simp only [List.getElem?_toArray]; rfl) (by kernel_rfl) (by kernel_rfl) (by kernel_rfl) (by exact fun _ _ _ h => h) (by exact yieldsIf_ld (by kernel_rfl) (.tmp 11) rfl w4.heap.size rfl M (fun w h => h.1)) hHeld ?_
      try simp only [Act.put, List.setIfInBounds_toArray, List.set_cons_zero, List.set_cons_succ]
      refine wpAnyH_take (i := 22) (v := ?zv22) (by simp only [List.getElem?_toArray]; rfl) (by kernel_rfl) (by kernel_rfl) (by kernel_rfl) (by exact fun _ _ _ h => h) (Or.inl ⟨by kernel_rfl, ?zy22⟩) hHeld ?_
      case zy22 => (intro w hSw; (try dsimp only at hSw); skip; go_simp; try (with_reducible rfl))
      try simp only [Act.put, List.setIfInBounds_toArray, List.set_cons_zero, List.set_cons_succ]
      refine wpAnyH_take (i := 24) (v := ?zv24) (by simp only [List.getElem?_toArray]; rfl) (by kernel_rfl) (by kernel_rfl) (by kernel_rfl) (by exact fun _ _ _ h => h) (Or.inl ⟨by kernel_rfl, ?zy24⟩) hHeld ?_
      case zy24 => (intro w hSw; (try dsimp only at hSw); skip; go_simp; try (with_reducible rfl))
      try simp only [Act.put, List.setIfInBounds_toArray, List.set_cons_zero, List.set_cons_succ]
      refine wpAnyH_take (i := 26) (by simp only [List.getElem?_toArray]; rfl) (by kernel_rfl) (by kernel_rfl) (by kernel_rfl) (by exact fun _ _ _ h => h) (by exact yieldsIf_ld (by kernel_rfl) (.tmp 11) rfl w4.heap.size rfl M (fun w h => h.1)) hHeld ?_
      try simp only [Act.put, List.setIfInBounds_toArray, List.set_cons_zero, List.set_cons_succ]
      refine wpAnyH_take (i := 27) (v := ?zv27) (by simp only [List.getElem?_toArray]; rfl) (by kernel_rfl) (by kernel_rfl) (by kernel_rfl) (by exact fun _ _ _ h => h) (Or.inl ⟨by kernel_rfl, ?zy27⟩) hHeld ?_
      case zy27 => (intro w hSw; (try dsimp only at hSw); skip; go_simp; try (with_reducible rfl))
      try simp only [Act.put, List.setIfInBounds_toArray, List.set_cons_zero, List.set_cons_succ]
      refine wpAnyH_ready (rs := [23]) (by kernel_rfl) (by simp) ?_
      refine AllReadyH.cons (by simp only [List.getElem?_toArray]; rfl) (fun KK hKK => ?_) AllReadyH.nil
      rw [if_pos (by kernel_rfl)]
      go_simp
      refine (hV1 _).mono ?_
      rintro e wc8 ⟨rfl, g8⟩
      have q11 := q11.ext g8
      have q13 := q13.ext g8
      have q15 := q15.ext g8
      have hb := hb.trans (g8.mono hb.size)
      clear g8
      go_wp2_with fail
      refine hKK.out _ _ ?_ (fun hHeld => ?_)
      · exact ⟨q11, q13, q15⟩
      clear hKK KK
      try simp only [Act.put, List.setIfInBounds_toArray, List.set_cons_zero, List.set_cons_succ]
      refine wpAnyH_ready (rs := [25]) (by kernel_rfl) (by simp) ?_
      refine AllReadyH.cons (by simp only [List.getElem?_toArray]; rfl) (fun KK hKK => ?_) AllReadyH.nil
      rw [if_pos (by kernel_rfl)]
      go_simp
      refine (hV2 _).mono ?_
      rintro e wc9 ⟨rfl, g9⟩
      have q11 := q11.ext g9
      have q13 := q13.ext g9
      have q15 := q15.ext g9
      have hb := hb.trans (g9.mono hb.size)
      clear g9
      go_wp2_with fail
      refine hKK.out _ _ ?_ (fun hHeld => ?_)
      · exact ⟨q11, q13, q15⟩
      clear hKK KK
      try simp only [Act.put, List.setIfInBounds_toArray, List.set_cons_zero, List.set_cons_succ]
      refine wpAnyH_ready (rs := [28]) (by kernel_rfl) (by simp) ?_
      refine AllReadyH.cons (by simp only [List.getElem?_toArray]; rfl) (fun KK hKK => ?_) AllReadyH.nil
      rw [if_pos (by kernel_rfl)]
      go_simp
      refine (hV1 _).mono ?_
      rintro e wc10 ⟨rfl, g10⟩
      have q11 := q11.ext g10
      have q13 := q13.ext g10
      have q15 := q15.ext g10
      have hb := hb.trans (g10.mono hb.size)
      clear g10
      go_wp2_with fail
      refine hKK.out _ _ ?_ (fun hHeld => ?_)
      · exact ⟨q11, q13, q15⟩
      clear hKK KK
      try simp only [Act.put, List.setIfInBounds_toArray, List.set_cons_zero, List.set_cons_succ]
      refine wpAnyH_take (i := 29) (by simp only [List.getElem?_toArray]; rfl) (by kernel_rfl) (by kernel_rfl) (by kernel_rfl) (by exact fun _ _ _ h => h) (by exact yieldsIf_eql (by kernel_rfl) (.tmp 95) (.tmp 98) rfl VO VO rfl rfl hVOl true (by simp)) hHeld ?_
      try simp only [Act.put, List.setIfInBounds_toArray, List.set_cons_zero, List.set_cons_succ]
      refine wpAnyH_take (i := 30) (v := ?zv30) (by simp only [List.getElem?_toArray]; rfl) (by kernel_rfl) (by kernel_rfl) (by kernel_rfl) (by exact fun _ _ _ h => h) (Or.inl ⟨by kernel_rfl, ?zy30⟩) hHeld ?_
      case zy30 => (intro w hSw; (try dsimp only at hSw); skip; go_simp; try (with_reducible rfl))
      try simp only [Act.put, List.setIfInBounds_toArray, List.set_cons_zero, List.set_cons_succ]
      refine wpAnyH_take (i := 31) (v := ?zv31) (by simp only [List.getElem?_toArray]; rfl) (by kernel_rfl) (by kernel_rfl) (by kernel_rfl) (by exact fun _ _ _ h => h) (Or.inl ⟨by kernel_rfl, ?zy31⟩) hHeld ?_
      case zy31 => (intro w hSw; (try dsimp only at hSw); skip; go_simp; try (with_reducible rfl))
      try simp only [Act.put, List.setIfInBounds_toArray, List.set_cons_zero, List.set_cons_succ]
      refine wpAnyH_take (i := 32) (by simp only [List.getElem?_toArray]; rfl) (by kernel_rfl) (by kernel_rfl) (by kernel_rfl) (by exact fun _ _ _ h => h) (by exact yieldsIf_ld (by kernel_rfl) (.tmp 11) rfl w4.heap.size rfl M (fun w h => h.1)) hHeld ?_
      try simp only [Act.put, List.setIfInBounds_toArray, List.set_cons_zero, List.set_cons_succ]
      refine wpAnyH_take (i := 33) (v := ?zv33) (by simp only [List.getElem?_toArray]; rfl) (by kernel_rfl) (by kernel_rfl) (by kernel_rfl) (by exact fun _ _ _ h => h) (Or.inl ⟨by kernel_rfl, ?zy33⟩) hHeld ?_
      case zy33 => (intro w hSw; (try dsimp only at hSw); skip; go_simp; try (with_reducible rfl))
      try simp only [Act.put, List.setIfInBounds_toArray, List.set_cons_zero, List.set_cons_succ]
      refine wpAnyH_take (i := 35) (by simp only [List.getElem?_toArray]; rfl) (by kernel_rfl) (by kernel_rfl) (by kernel_rfl) (by exact fun _ _ _ h => h) (by exact yieldsIf_ld (by kernel_rfl) (.tmp 13) rfl w5.heap.size rfl M2 (fun w h => h.2.1)) hHeld ?_
      try simp only [Act.put, List.setIfInBounds_toArray, List.set_cons_zero, List.set_cons_succ]
      refine wpAnyH_take (i := 36) (v := ?zv36) (by simp only [List.getElem?_toArray]; rfl) (by kernel_rfl) (by kernel_rfl) (by kernel_rfl) (by exact fun _ _ _ h => h) (Or.inl ⟨by kernel_rfl, ?zy36⟩) hHeld ?_
      case zy36 => (intro w hSw; (try dsimp only at hSw); skip; go_simp; try (with_reducible rfl))
      try simp only [Act.put, List.setIfInBounds_toArray, List.set_cons_zero, List.set_cons_succ]
      refine wpAnyH_ready (rs := [34]) (by kernel_rfl) (by simp) ?_
      refine AllReadyH.cons (by simp only [List.getElem?_toArray]; rfl) (fun KK hKK => ?_) AllReadyH.nil
      rw [if_pos (by kernel_rfl)]
      go_simp
      refine (hV1 _).mono ?_
      rintro e wc11 ⟨rfl, g11⟩
      have q11 := q11.ext g11
      have q13 := q13.ext g11
      have q15 := q15.ext g11
      have hb := hb.trans (g11.mono hb.size)
      clear g11
      go_wp2_with fail
      refine hKK.out _ _ ?_ (fun hHeld => ?_)
      · exact ⟨q11, q13, q15⟩
      clear hKK KK
      try simp only [Act.put, List.setIfInBounds_toArray, List.set_cons_zero, List.set_cons_succ]
      refine wpAnyH_ready (rs := [37]) (by kernel_rfl) (by simp) ?_
      refine AllReadyH.cons (by simp only [List.getElem?_toArray]; rfl) (fun KK hKK => ?_) AllReadyH.nil
      rw [if_pos (by kernel_rfl)]
      go_simp
      refine (hV3 _).mono ?_
      rintro e wc12 ⟨rfl, g12⟩
      have q11 := q11.ext g12
      have q13 := q13.ext g12
      have q15 := q15.ext g12
      have hb := hb.trans (g12.mono hb.size)
      clear g12
      go_wp2_with fail
      refine hKK.out _ _ ?_ (fun hHeld => ?_)
      · exact ⟨q11, q13, q15⟩
      clear hKK KK
      try simp only [Act.put, List.setIfInBounds_toArray, List.set_cons_zero, List.set_cons_succ]
      refine wpAnyH_take (i := 38) (by simp only [List.getElem?_toArray]; rfl) (by kernel_rfl) (by kernel_rfl) (by kernel_rfl) (by exact fun _ _ _ h => h) (by exact yieldsIf_eql (by kernel_rfl) (.tmp 104) (.tmp 107) rfl VO VO rfl rfl hVOl true (by simp)) hHeld ?_
      try simp only [Act.put, List.setIfInBounds_toArray, List.set_cons_zero, List.set_cons_succ]
      refine wpAnyH_take (i := 39) (v := ?zv39) (by simp only [List.getElem?_toArray]; rfl) (by kernel_rfl) (by kernel_rfl) (by kernel_rfl) (by exact fun _ _ _ h => h) (Or.inl ⟨by kernel_rfl, ?zy39⟩) hHeld ?_
      case zy39 => (intro w hSw; (try dsimp only at hSw); skip; go_simp; try (with_reducible rfl))
      try simp only [Act.put, List.setIfInBounds_toArray, List.set_cons_zero, List.set_cons_succ]
      refine wpAnyH_take (i := 40) (v := ?zv40) (by simp only [List.getElem?_toArray]; rfl) (by kernel_rfl) (by kernel_rfl) (by kernel_rfl) (by exact fun _ _ _ h => h) (Or.inl ⟨by kernel_rfl, ?zy40⟩) hHeld ?_
      case zy40 => (intro w hSw; (try dsimp only at hSw); skip; go_simp; try (with_reducible rfl))
      try simp only [Act.put, List.setIfInBounds_toArray, List.set_cons_zero, List.set_cons_succ]
      refine wpAnyH_take (i := 41) (by simp only [List.getElem?_toArray]; rfl) (by kernel_rfl) (by kernel_rfl) (by kernel_rfl) (by exact fun _ _ _ h => h) (by exact yieldsIf_ld (by kernel_rfl) (.tmp 11) rfl w4.heap.size rfl M (fun w h => h.1)) hHeld ?_
      try simp only [Act.put, List.setIfInBounds_toArray, List.set_cons_zero, List.set_cons_succ]
      refine wpAnyH_take (i := 42) (v := ?zv42) (by simp only [List.getElem?_toArray]; rfl) (by kernel_rfl) (by kernel_rfl) (by kernel_rfl) (by exact fun _ _ _ h => h) (Or.inl ⟨by kernel_rfl, ?zy42⟩) hHeld ?_
      case zy42 => (intro w hSw; (try dsimp only at hSw); skip; go_simp; try (with_reducible rfl))
      try simp only [Act.put, List.setIfInBounds_toArray, List.set_cons_zero, List.set_cons_succ]
      refine wpAnyH_take (i := 45) (by simp only [List.getElem?_toArray]; rfl) (by kernel_rfl) (by kernel_rfl) (by kernel_rfl) (by exact fun _ _ _ h => h) (by exact yieldsIf_ld (by kernel_rfl) (.tmp 13) rfl w5.heap.size rfl M2 (fun w h => h.2.1)) hHeld ?_
      try simp only [Act.put, List.setIfInBounds_toArray, List.set_cons_zero, List.set_cons_succ]
      refine wpAnyH_take (i := 46) (v := ?zv46) (by simp only [List.getElem?_toArray]; rfl) (by kernel_rfl) (by kernel_rfl) (by kernel_rfl) (by exact fun _ _ _ h => h) (Or.inl ⟨by kernel_rfl, ?zy46⟩) hHeld ?_
      case zy46 => (intro w hSw; (try dsimp only at hSw); skip; go_simp; try (with_reducible rfl))
      try simp only [Act.put, List.setIfInBounds_toArray, List.set_cons_zero, List.set_cons_succ]
      refine wpAnyH_ready (rs := [43]) (by kernel_rfl) (by simp) ?_
      refine AllReadyH.cons (by simp only [List.getElem?_toArray]; rfl) (fun KK hKK => ?_) AllReadyH.nil
      rw [if_pos (by kernel_rfl)]
      go_simp
      refine (hV1 _).mono ?_
      rintro e wc13 ⟨rfl, g13⟩
      have q11 := q11.ext g13
      have q13 := q13.ext g13
      have q15 := q15.ext g13
      have hb := hb.trans (g13.mono hb.size)
      clear g13
      go_wp2_with fail
      refine hKK.out _ _ ?_ (fun hHeld => ?_)
      · exact ⟨q11, q13, q15⟩
      clear hKK KK
      try simp only [Act.put, List.setIfInBounds_toArray, List.set_cons_zero, List.set_cons_succ]
      refine wpAnyH_ready (rs := [44]) (by kernel_rfl) (by simp) ?_
      refine AllReadyH.cons (by simp only [List.getElem?_toArray]; rfl) (fun KK hKK => ?_) AllReadyH.nil
      rw [if_pos (by kernel_rfl)]
      go_simp
      refine (hH _).mono ?_
      rintro e wc14 ⟨rfl, g14⟩
      have q11 := q11.ext g14
      have q13 := q13.ext g14
      have q15 := q15.ext g14
      have hb := hb.trans (g14.mono hb.size)
      clear g14
      go_wp2_with fail
      refine hKK.out _ _ ?_ (fun hHeld => ?_)
      · exact ⟨q11, q13, q15⟩
      clear hKK KK
      try simp only [Act.put, List.setIfInBounds_toArray, List.set_cons_zero, List.set_cons_succ]
      refine wpAnyH_ready (rs := [47]) (by kernel_rfl) (by simp) ?_
      refine AllReadyH.cons (by simp only [List.getElem?_toArray]; rfl) (fun KK hKK => ?_) AllReadyH.nil
      rw [if_pos (by kernel_rfl)]
      go_simp
      refine (hV3 _).mono ?_
      rintro e wc15 ⟨rfl, g15⟩
      have q11 := q11.ext g15
      have q13 := q13.ext g15
      have q15 := q15.ext g15
      have hb := hb.trans (g15.mono hb.size)
      clear g15
      go_wp2_with fail
      refine hKK.out _ _ ?_ (fun hHeld => ?_)
      · exact ⟨q11, q13, q15⟩
      clear hKK KK
      try simp only [Act.put, List.setIfInBounds_toArray, List.set_cons_zero, List.set_cons_succ]
      refine wpAnyH_ready (rs := [48]) (by kernel_rfl) (by simp) ?_
      refine AllReadyH.cons (by simp only [List.getElem?_toArray]; rfl) (fun KK hKK => ?_) AllReadyH.nil
      rw [if_pos (by kernel_rfl)]
      go_simp
      refine (hH _).mono ?_
      rintro e wc16 ⟨rfl, g16⟩
      have q11 := q11.ext g16
      have q13 := q13.ext g16
      have q15 := q15.ext g16
      have hb := hb.trans (g16.mono hb.size)
      clear g16
      go_wp2_with fail
      refine hKK.out _ _ ?_ (fun hHeld => ?_)
      · exact ⟨q11, q13, q15⟩
      clear hKK KK
      try simp only [Act.put, List.setIfInBounds_toArray, List.set_cons_zero, List.set_cons_succ]
      refine wpAnyH_take (i := 49) (v := ?zv49) (by simp only [List.getElem?_toArray]; rfl) (by kernel_rfl) (by kernel_rfl) (by kernel_rfl) (by exact fun _ _ _ h => h) (Or.inl ⟨by kernel_rfl, ?zy49⟩) hHeld ?_
      case zy49 => (intro w hSw; (try dsimp only at hSw); skip; go_simp; try (with_reducible rfl))
      try simp only [Act.put, List.setIfInBounds_toArray, List.set_cons_zero, List.set_cons_succ]
      refine wpAnyH_take (i := 50) (v := ?zv50) (by simp only [List.getElem?_toArray]; rfl) (by kernel_rfl) (by kernel_rfl) (by kernel_rfl) (by exact fun _ _ _ h => h) (Or.inl ⟨by kernel_rfl, ?zy50⟩) hHeld ?_
      case zy50 => (intro w hSw; (try dsimp only at hSw); skip; go_simp; try (with_reducible rfl))
      try simp only [Act.put, List.setIfInBounds_toArray, List.set_cons_zero, List.set_cons_succ]
      refine wpAnyH_take (i := 51) (v := ?zv51) (by simp only [List.getElem?_toArray]; rfl) (by kernel_rfl) (by kernel_rfl) (by kernel_rfl) (by exact fun _ _ _ h => h) (Or.inl ⟨by kernel_rfl, ?zy51⟩) hHeld ?_
      case zy51 => (intro w hSw; (try dsimp only at hSw); skip; go_simp; try (with_reducible rfl))
      try simp only [Act.put, List.setIfInBounds_toArray, List.set_cons_zero, List.set_cons_succ]
      refine wpAnyH_take (i := 52) (by simp only [List.getElem?_toArray]; rfl) (by kernel_rfl) (by kernel_rfl) (by kernel_rfl) (by exact fun _ _ _ h => h) (by exact yieldsIf_ld (by kernel_rfl) (.tmp 11) rfl w4.heap.size rfl M (fun w h => h.1)) hHeld ?_
      try simp only [Act.put, List.setIfInBounds_toArray, List.set_cons_zero, List.set_cons_succ]
      refine wpAnyH_take (i := 53) (by simp only [List.getElem?_toArray]; rfl) (by kernel_rfl) (by kernel_rfl) (by kernel_rfl) (by exact fun _ _ _ h => h) (by exact yieldsIf_ld (by kernel_rfl) (.tmp 15) rfl w6.heap.size rfl T (fun w h => h.2.2)) hHeld ?_
      try simp only [Act.put, List.setIfInBounds_toArray, List.set_cons_zero, List.set_cons_succ]
      refine wpAnyH_take (i := 54) (v := ?zv54) (by simp only [List.getElem?_toArray]; rfl) (by kernel_rfl) (by kernel_rfl) (by kernel_rfl) (by exact fun _ _ _ h => h) (Or.inl ⟨by kernel_rfl, ?zy54⟩) hHeld ?_
      case zy54 => (intro w hSw; (try dsimp only at hSw); skip; go_simp; try (with_reducible rfl))
      try simp only [Act.put, List.setIfInBounds_toArray, List.set_cons_zero, List.set_cons_succ]
      refine wpAnyH_take (i := 56) (v := ?zv56) (by simp only [List.getElem?_toArray]; rfl) (by kernel_rfl) (by kernel_rfl) (by kernel_rfl) (by exact fun _ _ _ h => h) (Or.inl ⟨by kernel_rfl, ?zy56⟩) hHeld ?_
      case zy56 => (intro w hSw; (try dsimp only at hSw); skip; go_simp; try (with_reducible rfl))
      try simp only [Act.put, List.setIfInBounds_toArray, List.set_cons_zero, List.set_cons_succ]
      refine wpAnyH_take (i := 57) (v := ?zv57) (by simp only [List.getElem?_toArray]; rfl) (by kernel_rfl) (by kernel_rfl) (by kernel_rfl) (by exact fun _ _ _ h => h) (Or.inl ⟨by kernel_rfl, ?zy57⟩) hHeld ?_
      case zy57 => (intro w hSw; (try dsimp only at hSw); skip; go_simp; try (with_reducible rfl))
      try simp only [Act.put, List.setIfInBounds_toArray, List.set_cons_zero, List.set_cons_succ]
      refine wpAnyH_take (i := 58) (v := ?zv58) (by simp only [List.getElem?_toArray]; rfl) (by kernel_rfl) (by kernel_rfl) (by kernel_rfl) (by exact fun _ _ _ h => h) (Or.inl ⟨by kernel_rfl, ?zy58⟩) hHeld ?_
      case zy58 => (intro w hSw; (try dsimp only at hSw); skip; go_simp; try (with_reducible rfl))
      try simp only [Act.put, List.setIfInBounds_toArray, List.set_cons_zero, List.set_cons_succ]
      refine wpAnyH_take (i := 59) (v := ?zv59) (by simp only [List.getElem?_toArray]; rfl) (by kernel_rfl) (by kernel_rfl) (by kernel_rfl) (by exact fun _ _ _ h => h) (Or.inl ⟨by kernel_rfl, ?zy59⟩) hHeld ?_
      case zy59 => (intro w hSw; (try dsimp only at hSw); skip; go_simp; try (with_reducible rfl))
      try simp only [Act.put, List.setIfInBounds_toArray, List.set_cons_zero, List.set_cons_succ]
      refine wpAnyH_take (i := 60) (v := ?zv60) (by simp only [List.getElem?_toArray]; rfl) (by kernel_rfl) (by kernel_rfl) (by kernel_rfl) (by exact fun _ _ _ h => h) (Or.inl ⟨by kernel_rfl, ?zy60⟩) hHeld ?_
      case zy60 => (intro w hSw; (try dsimp only at hSw); skip; go_simp; try (with_reducible rfl))
      try simp only [Act.put, List.setIfInBounds_toArray, List.set_cons_zero, List.set_cons_succ]
      refine wpAnyH_take (i := 61) (v := ?zv61) (by simp only [List.getElem?_toArray]; rfl) (by kernel_rfl) (by kernel_rfl) (by kernel_rfl) (by exact fun _ _ _ h => h) (Or.inl ⟨by kernel_rfl, ?zy61⟩) hHeld ?_
      case zy61 => (intro w hSw; (try dsimp only at hSw); skip; go_simp; try (with_reducible rfl))
      try simp only [Act.put, List.setIfInBounds_toArray, List.set_cons_zero, List.set_cons_succ]
      refine wpAnyH_ready (rs := [55]) (by kernel_rfl) (by simp) ?_
      refine AllReadyH.cons (by simp only [List.getElem?_toArray]; rfl) (fun KK hKK => ?_) AllReadyH.nil
      rw [if_pos (by kernel_rfl)]
      go_simp
      refine (hK3 _).mono ?_
      rintro e wc17 ⟨rfl, g17⟩
      have q11 := q11.ext g17
      have q13 := q13.ext g17
      have q15 := q15.ext g17
      have hb := hb.trans (g17.mono hb.size)
      clear g17
      go_wp2_with fail
      refine hKK.out _ _ ?_ (fun hHeld => ?_)
      · exact ⟨q11, q13, q15⟩
      clear hKK KK
      try simp only [Act.put, List.setIfInBounds_toArray, List.set_cons_zero, List.set_cons_succ]
      refine wpAnyH_take (i := 62) (v := ?zv62) (by simp only [List.getElem?_toArray]; rfl) (by kernel_rfl) (by kernel_rfl) (by kernel_rfl) (by exact fun _ _ _ h => h) (Or.inl ⟨by kernel_rfl, ?zy62⟩) hHeld ?_
      case zy62 => (intro w hSw; (try dsimp only at hSw); skip; go_simp; try (with_reducible rfl))
      try simp only [Act.put, List.setIfInBounds_toArray, List.set_cons_zero, List.set_cons_succ]
      refine wpAnyH_take (i := 63) (v := ?zv63) (by simp only [List.getElem?_toArray]; rfl) (by kernel_rfl) (by kernel_rfl) (by kernel_rfl) (by exact fun _ _ _ h => h) (Or.inl ⟨by kernel_rfl, ?zy63⟩) hHeld ?_
      case zy63 => (intro w hSw; (try dsimp only at hSw); skip; go_simp; try (with_reducible rfl))
      try simp only [Act.put, List.setIfInBounds_toArray, List.set_cons_zero, List.set_cons_succ]
      refine wpAnyH_take (i := 64) (v := ?zv64) (by simp only [List.getElem?_toArray]; rfl) (by kernel_rfl) (by kernel_rfl) (by kernel_rfl) (by exact fun _ _ _ h => h) (Or.inl ⟨by kernel_rfl, ?zy64⟩) hHeld ?_
      case zy64 => (intro w hSw; (try dsimp only at hSw); skip; go_simp; try (with_reducible rfl))
      try simp only [Act.put, List.setIfInBounds_toArray, List.set_cons_zero, List.set_cons_succ]
      refine wpAnyH_take (i := 65) (by simp only [List.getElem?_toArray]; rfl) (by kernel_rfl) (by kernel_rfl) (by kernel_rfl) (by exact fun _ _ _ h => h) (by exact yieldsIf_ld (by kernel_rfl) (.tmp 11) rfl w4.heap.size rfl M (fun w h => h.1)) hHeld ?_
      try simp only [Act.put, List.setIfInBounds_toArray, List.set_cons_zero, List.set_cons_succ]
      refine wpAnyH_take (i := 67) (by simp only [List.getElem?_toArray]; rfl) (by kernel_rfl) (by kernel_rfl) (by kernel_rfl) (by exact fun _ _ _ h => h) (by exact yieldsIf_ld (by kernel_rfl) (.tmp 13) rfl w5.heap.size rfl M2 (fun w h => h.2.1)) hHeld ?_
      try simp only [Act.put, List.setIfInBounds_toArray, List.set_cons_zero, List.set_cons_succ]
      refine wpAnyH_take (i := 68) (v := ?zv68) (by simp only [List.getElem?_toArray]; rfl) (by kernel_rfl) (by kernel_rfl) (by kernel_rfl) (by exact fun _ _ _ h => h) (Or.inl ⟨by kernel_rfl, ?zy68⟩) hHeld ?_
      case zy68 => (intro w hSw; (try dsimp only at hSw); skip; go_simp; try (with_reducible rfl))
      try simp only [Act.put, List.setIfInBounds_toArray, List.set_cons_zero, List.set_cons_succ]
      refine wpAnyH_ready (rs := [66]) (by kernel_rfl) (by simp) ?_
      refine AllReadyH.cons (by simp only [List.getElem?_toArray]; rfl) (fun KK hKK => ?_) AllReadyH.nil
      rw [if_pos (by kernel_rfl)]
      go_simp
      refine (hB1 _).mono ?_
      rintro e wc18 ⟨rfl, g18⟩
      have q11 := q11.ext g18
      have q13 := q13.ext g18
      have q15 := q15.ext g18
      have hb := hb.trans (g18.mono hb.size)
      clear g18
      go_wp2_with fail
      refine hKK.out _ _ ?_ (fun hHeld => ?_)
      · exact ⟨q11, q13, q15⟩
      clear hKK KK
      try simp only [Act.put, List.setIfInBounds_toArray, List.set_cons_zero, List.set_cons_succ]
      refine wpAnyH_ready (rs := [69]) (by kernel_rfl) (by simp) ?_
      refine AllReadyH.cons (by simp only [List.getElem?_toArray]; rfl) (fun KK hKK => ?_) AllReadyH.nil
      rw [if_pos (by kernel_rfl)]
      go_simp
      refine (hV4 _).mono ?_
      rintro e wc19 ⟨rfl, g19⟩
      have q11 := q11.ext g19
      have q13 := q13.ext g19
      have q15 := q15.ext g19
      have hb := hb.trans (g19.mono hb.size)
      clear g19
      go_wp2_with fail
      refine hKK.out _ _ ?_ (fun hHeld => ?_)
      · exact ⟨q11, q13, q15⟩
      clear hKK KK
      try simp only [Act.put, List.setIfInBounds_toArray, List.set_cons_zero, List.set_cons_succ]
      refine wpAnyH_ready (rs := [70]) (by kernel_rfl) (by simp) ?_
      refine AllReadyH.cons (by simp only [List.getElem?_toArray]; rfl) (fun KK hKK => ?_) AllReadyH.nil
      rw [if_pos (by kernel_rfl)]
      go_simp
      refine (hB2 _).mono ?_
      rintro e wc20 ⟨rfl, g20⟩
      have q11 := q11.ext g20
      have q13 := q13.ext g20
      have q15 := q15.ext g20
      have hb := hb.trans (g20.mono hb.size)
      clear g20
      go_wp2_with fail
      refine hKK.out _ _ ?_ (fun hHeld => ?_)
      · exact ⟨q11, q13, q15⟩
      clear hKK KK
      try simp only [Act.put, List.setIfInBounds_toArray, List.set_cons_zero, List.set_cons_succ]
      refine wpAnyH_take (i := 71) (v := ?zv71) (by simp only [List.getElem?_toArray]; rfl) (by kernel_rfl) (by kernel_rfl) (by kernel_rfl) (by exact fun _ _ _ h => h) (Or.inl ⟨by kernel_rfl, ?zy71⟩) hHeld ?_
      case zy71 => (intro w hSw; (try dsimp only at hSw); skip; go_simp; try (with_reducible rfl))
      try simp only [Act.put, List.setIfInBounds_toArray, List.set_cons_zero, List.set_cons_succ]
      refine wpAnyH_take (i := 72) (v := ?zv72) (by simp only [List.getElem?_toArray]; rfl) (by kernel_rfl) (by kernel_rfl) (by kernel_rfl) (by exact fun _ _ _ h => h) (Or.inl ⟨by kernel_rfl, ?zy72⟩) hHeld ?_
      case zy72 => (intro w hSw; (try dsimp only at hSw); skip; go_simp; try (with_reducible rfl))
      try simp only [Act.put, List.setIfInBounds_toArray, List.set_cons_zero, List.set_cons_succ]
      refine wpAnyH_take (i := 73) (v := ?zv73) (by simp only [List.getElem?_toArray]; rfl) (by kernel_rfl) (by kernel_rfl) (by kernel_rfl) (by exact fun _ _ _ h => h) (Or.inl ⟨by kernel_rfl, ?zy73⟩) hHeld ?_
      case zy73 => (intro w hSw; (try dsimp only at hSw); skip; go_simp; try (with_reducible rfl))
      try simp only [Act.put, List.setIfInBounds_toArray, List.set_cons_zero, List.set_cons_succ]
      refine wpAnyH_done (by kernel_rfl) ?_ _
      go_wp2_with fail
      go_ret
      exact ⟨rfl, hb⟩
end Go.Proofs.Ytemhglcdcpobpaa
