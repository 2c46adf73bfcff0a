/- BoardViews: the walk. Conditions: the list is no longer than may be; the cells fit. -/
import Derived.Test.YtemhglcdcpobpaaBAwake
import Derived.Test.YtemhglcdcpobpaaFewC
import Derived.Test.YtemhglcdcpobpaaBoardRefH
import Derived.Test.YtemhglcdcpobpaaViewN
namespace Go.Proofs.Ytemhglcdcpobpaa
open Go.RowKit

theorem sl_same {a a' : World} {p : Addr} {v : Value} (h : Below a.heap.size a a') (hc : a.cell? p = some v) : a'.cell? p = some v :=
  (h.cell (World.block_lt_of_cell? a p hc)).trans hc
set_option maxHeartbeats 16000000 in
set_option maxRecDepth 40000 in
theorem BoardViews_walk (A : Option Addr) (L : List (Int × Nat)) (n c b : Nat) (o p : Int) (w : World) (hs : Sl w b A (cv L)) (hn : L.length = n) (_hm : n ≤ maxLen) (hnc : n ≤ c) (hok : okC L) (_h1 : -9223372036854775808 ≤ o) (_h2 : o ≤ 9223372036854775807) (_h3 : -9223372036854775808 ≤ p) (_h4 : p ≤ 9223372036854775807) :
    Calls Try.prog 9 #[.slice A n c, .int .i64 o, .int .i64 p] w fun e w' => e = .returned (.bool true) ∧ Below w.heap.size w w' := by
  have hF := fun W h => FewC_calls A L n c b W h hn hnc
  obtain ⟨M, hM⟩ : ∃ M, M = L.take 48 := ⟨_, rfl⟩
  have hML : M.length ≤ 48 := by rw [hM, List.length_take]; omega
  have hMo : okC M := by rw [hM]; exact okC_take hok 48
  rw [← hM] at hF
  clear hM hok hn
  have hN := fun W A c b h => New_in A M M.length c b W h rfl hML
  have hV1 := fun W => View_calls M o W hML hMo
  have hV2 := fun W => View_calls (viewL o M) p W (by simp; omega) (okC_view hMo o)
  have hV3 := fun W => View_calls M p W hML hMo
  have hV4 := fun W => View_calls (viewL p M) o W (by simp; omega) (okC_view hMo p)
  rw [view_comm o p M] at hV4
  obtain ⟨V2, hVe⟩ : ∃ V2, V2 = viewL p (viewL o M) := ⟨_, rfl⟩
  have hVl : V2.length = M.length := by rw [hVe]; simp
  have hVL : V2.length ≤ 48 := by omega
  have hVo : okC V2 := by rw [hVe]; exact okC_view (okC_view hMo o) p
  have hLb : labsL V2 = labsL M := by rw [hVe, labs_view, labs_view]
  have HV : Hid (∀ k (hk : k < M.length) (_ : k < V2.length), V2[k] = if sees M[k].2 o = true ∧ sees M[k].2 p = true then M[k] else (0, M[k].2))  := Lib.hid fun k hk _ => by
    have : V2 = _ := hVe.trans (view_view o p M)
    simp only [this, List.getElem_map]
  rw [← hVe] at hV2 hV4
  have hC := fun W => Cells_calls V2 W hVL
  have hLv := fun W => Labels_calls V2 W hVL hVo
  have hLm := fun W => Labels_calls M W hML hMo
  rw [hLb] at hLv
  obtain ⟨lab, hlab⟩ : ∃ lab, lab = labsL M := ⟨_, rfl⟩
  rw [← hlab] at hLv hLm
  have HA := Lib.hid (fun (h : (M.all fun c => sees c.2 o) = true) => view_all h)
  obtain ⟨VO, hVO⟩ : ∃ VO, VO = viewL o M := ⟨_, rfl⟩
  obtain ⟨VP, hVP⟩ : ∃ VP, VP = viewL p M := ⟨_, rfl⟩
  have hVOl : VO.length ≤ 48 := by rw [hVO]; simp; omega
  rw [← hVO] at hV1 hV2 HA
  rw [← hVP] at hV3 hV4
  clear hVe hLb hlab hVO hVP
  have HVl := Lib.hid hVl
  clear hVl
  go_enter Try.func9, Try.ntmps9
  go_wp2_with fail
  have hs0 := hs
  refine (Awake_calls _).mono ?_
  rintro e w1 ⟨rfl, hb1⟩
  have hs := Sl.ext hs hb1
  have hb := hb1
  clear hb1
  go_wp2_with fail
  refine (hF _ hs).mono ?_
  rintro e w2 ⟨v, rfl, hrow, hb2⟩
  have hs := Sl.ext hs hb2
  have hb := hb.trans (hb2.mono hb.size)
  clear hb2
  clear hs
  clear hF hs0
  obtain ⟨A2, c2, b2, rfl, hlc, hcm, hA2, hbb, hs2, hbk⟩ := hrow.sl
  clear hrow hA2 hbb hbk
  go_wp2_with fail
  refine (hN _ A2 c2 b2 hs2).mono ?_
  rintro e w3 ⟨rfl, hb3⟩
  have hs2 := Sl.ext hs2 hb3
  have hb := hb.trans (hb3.mono hb.size)
  clear hb3
  clear hN
  have hs2 := Sl.alloc hs2 (.cells (bdL M) 31)
  have hb := hb.alloc hb.size (.cells (bdL M) 31)
  have q7 := BoxL.new_ w3 M
  go_wp2_with (first | ((with_reducible refine at_al 31 7 ?_); refine wpList_al rfl rfl (some 7) rfl w3.heap.size rfl ?_) | ((with_reducible refine at_st 31 7 21 ?_); refine wpList_put rfl (.tmp 7) (.tmp 21) rfl rfl M rfl rfl ?_) | ((with_reducible refine at_ld 31 7 ?_); refine wpList_ld rfl (.tmp 7) rfl w3.heap.size rfl M q7 ?_))
  refine (hV1 _).mono ?_
  rintro e w4 ⟨rfl, hb4⟩
  have hs2 := Sl.ext hs2 hb4
  have q7 := q7.ext hb4
  have hb := hb.trans (hb4.mono hb.size)
  clear hb4
  go_wp2_with ((with_reducible refine at_ld 31 7 ?_); refine wpList_ld rfl (.tmp 7) rfl w3.heap.size rfl M q7 ?_)
  refine (hV2 _).mono ?_
  rintro e w5 ⟨rfl, hb5⟩
  have hs2 := Sl.ext hs2 hb5
  have q7 := q7.ext hb5
  have hb := hb.trans (hb5.mono hb.size)
  clear hb5
  clear hV2
  have hs2 := Sl.alloc hs2 (.cells (bdL V2) 31)
  have q7 := q7.alloc (.cells (bdL V2) 31)
  have hb := hb.alloc hb.size (.cells (bdL V2) 31)
  have q9 := BoxL.new_ w5 V2
  go_wp2_with (first | ((with_reducible refine at_al 31 9 ?_); refine wpList_al rfl rfl (some 9) rfl w5.heap.size rfl ?_) | ((with_reducible refine at_st 31 9 27 ?_); refine wpList_put rfl (.tmp 9) (.tmp 27) rfl rfl V2 rfl rfl ?_) | ((with_reducible refine at_ld 31 7 ?_); refine wpList_ld rfl (.tmp 7) rfl w3.heap.size rfl M q7 ?_) | ((with_reducible refine at_ld 31 9 ?_); refine wpList_ld rfl (.tmp 9) rfl w5.heap.size rfl V2 q9 ?_))
  refine (hC _).mono ?_
  rintro e w6 ⟨v, rfl, hrow, hb6⟩
  have hs2 := Sl.ext hs2 hb6
  have q7 := q7.ext hb6
  have q9 := q9.ext hb6
  have hb := hb.trans (hb6.mono hb.size)
  clear hb6
  clear hC
  obtain ⟨A5, c5, b5, rfl, hx1, hx2, hx3, hx4, hs5, hx5⟩ := hrow.sl
  clear hrow hx1 hx2 hx3 hx4 hx5
  rw [HVl.out]
  go_wp2_with (first | ((with_reducible refine at_ld 31 7 ?_); refine wpList_ld rfl (.tmp 7) rfl w3.heap.size rfl M q7 ?_) | ((with_reducible refine at_ld 31 9 ?_); refine wpList_ld rfl (.tmp 9) rfl w5.heap.size rfl V2 q9 ?_))
  go_loopw [10, 31] (fun al i wr => ∃ k : Nat, k ≤ M.length ∧ i = .int .i64 k ∧ al = .bool ((M.take k).all fun c => sees c.2 o) ∧ Sl wr b2 A2 (cv M) ∧ Sl wr b5 A5 (cv V2) ∧ BoxL wr w3.heap.size M ∧ BoxL wr w5.heap.size V2 ∧ Below w.heap.size w wr) (fun _ i _ => M.length - (intOf i).toNat)
  case atStart => exact ⟨0, Nat.zero_le _, rfl, rfl, hs2, hs5, q7, q9, hb⟩
  case round =>
    clear hs2 hs5 q7 q9 hb
    obtain ⟨k, hk, rfl, rfl, hs2, hs5, q7, q9, hb⟩ := hrel
    by_cases hlt : k < M.length
    · have hl5 : k < V2.length := by have := HVl.out; omega
      obtain ⟨off5, rfl, e0, e1⟩ := sl_off hs5 hl5
      have hcv := HV.out k hlt hl5
      have hy := (okC_get hMo hlt).2
      have htk : ((M.take (k + 1)).all fun c => sees c.2 o) = (((M.take k).all fun c => sees c.2 o) && sees M[k].2 o) := by rw [take_snoc1 hlt, List.all_append, List.all_cons, List.all_nil, Bool.and_true]
      rw [hcv] at e0 e1
      obtain ⟨off2, rfl, f0, f1⟩ := sl_off hs2 hlt
      obtain ⟨pr, hpr⟩ : ∃ pr, pr = M[k] := ⟨_, rfl⟩
      rw [← hpr] at e0 e1 f0 f1 hy htk
      obtain ⟨X, Y⟩ := pr
      simp only at f0 f1 hy htk
      have hHo := fun W => MHas_calls Y o W hy
      have hHp := fun W => MHas_calls Y p W hy
      obtain ⟨so, hso⟩ : ∃ so, so = sees Y o := ⟨_, rfl⟩
      obtain ⟨sp, hsp⟩ : ∃ sp, sp = sees Y p := ⟨_, rfl⟩
      rw [show decide (Y &&& aloneN o ≠ 0) = so from hso.symm] at hHo
      rw [show decide (Y &&& aloneN p ≠ 0) = sp from hsp.symm] at hHp
      rw [← hso, ← hsp] at e0 e1
      rw [← hso] at htk
      obtain ⟨al, hal⟩ : ∃ al, al = ((M.take k).all fun c => sees c.2 o) := ⟨_, rfl⟩
      rw [← hal] at htk ⊢
      have HT := Lib.hid htk
      have ej : (k : Int) < (M.length : Int) := by omega
      clear hpr hso hsp hal htk hcv
      cases so with
      | true =>
        cases sp with
        | true =>
          rw [if_pos ⟨rfl, rfl⟩] at e0 e1
          simp only at e0 e1
          cases al with
          | true =>
            have hs2 := Sl.alloc hs2 (.cells #[.int .i32 X, .int .u32 (Y : Int)] 28)
            have hs5 := Sl.alloc hs5 (.cells #[.int .i32 X, .int .u32 (Y : Int)] 28)
            have q7 := q7.alloc (.cells #[.int .i32 X, .int .u32 (Y : Int)] 28)
            have q9 := q9.alloc (.cells #[.int .i32 X, .int .u32 (Y : Int)] 28)
            have hb := hb.alloc hb.size (.cells #[.int .i32 X, .int .u32 (Y : Int)] 28)
            have hz := hb.size
            have g0 := (sl_same (below_alloc1 wr (.cells #[.int .i32 X, .int .u32 (Y : Int)] 28)) f0)
            have g1 := (sl_same (below_alloc1 wr (.cells #[.int .i32 X, .int .u32 (Y : Int)] 28)) f1)
            clear f0 f1
            go_wp2_with fail
            refine (hHo _).mono ?_
            rintro e wx ⟨rfl, hwx⟩
            have hwx := hwx.symm
            subst hwx
            go_wp2_with fail
            refine (hHp _).mono ?_
            rintro e wx ⟨rfl, hwx⟩
            have hwx := hwx.symm
            subst hwx
            go_wp2_with fail
            refine (hHo _).mono ?_
            rintro e wx ⟨rfl, hwx⟩
            have hwx := hwx.symm
            subst hwx
            go_wp2_with fail
            go_quiet (fail)
            go_wp2_with fail
            go_roundw
            case rel => exact ⟨k + 1, by omega, by go_num, by rw [HT.out]; rfl, hs2, hs5, q7, q9, below_drewN hb _⟩
            case measure => simp [intOf]; omega
          | false =>
            have hs2 := Sl.alloc hs2 (.cells #[.int .i32 X, .int .u32 (Y : Int)] 28)
            have hs5 := Sl.alloc hs5 (.cells #[.int .i32 X, .int .u32 (Y : Int)] 28)
            have q7 := q7.alloc (.cells #[.int .i32 X, .int .u32 (Y : Int)] 28)
            have q9 := q9.alloc (.cells #[.int .i32 X, .int .u32 (Y : Int)] 28)
            have hb := hb.alloc hb.size (.cells #[.int .i32 X, .int .u32 (Y : Int)] 28)
            have hz := hb.size
            have g0 := (sl_same (below_alloc1 wr (.cells #[.int .i32 X, .int .u32 (Y : Int)] 28)) f0)
            have g1 := (sl_same (below_alloc1 wr (.cells #[.int .i32 X, .int .u32 (Y : Int)] 28)) f1)
            clear f0 f1
            go_wp2_with fail
            refine (hHo _).mono ?_
            rintro e wx ⟨rfl, hwx⟩
            have hwx := hwx.symm
            subst hwx
            go_wp2_with fail
            refine (hHp _).mono ?_
            rintro e wx ⟨rfl, hwx⟩
            have hwx := hwx.symm
            subst hwx
            go_wp2_with fail
            go_quiet (fail)
            go_wp2_with fail
            go_roundw
            case rel => exact ⟨k + 1, by omega, by go_num, by rw [HT.out]; rfl, hs2, hs5, q7, q9, below_drewN hb _⟩
            case measure => simp [intOf]; omega
        | false =>
          rw [if_neg (by simp)] at e0 e1
          simp only at e0 e1
          cases al with
          | true =>
            have hs2 := Sl.alloc hs2 (.cells #[.int .i32 0, .int .u32 (Y : Int)] 28)
            have hs5 := Sl.alloc hs5 (.cells #[.int .i32 0, .int .u32 (Y : Int)] 28)
            have q7 := q7.alloc (.cells #[.int .i32 0, .int .u32 (Y : Int)] 28)
            have q9 := q9.alloc (.cells #[.int .i32 0, .int .u32 (Y : Int)] 28)
            have hb := hb.alloc hb.size (.cells #[.int .i32 0, .int .u32 (Y : Int)] 28)
            have hz := hb.size
            have g0 := (sl_same (below_alloc1 wr (.cells #[.int .i32 0, .int .u32 (Y : Int)] 28)) f0)
            have g1 := (sl_same (below_alloc1 wr (.cells #[.int .i32 0, .int .u32 (Y : Int)] 28)) f1)
            clear f0 f1
            go_wp2_with fail
            refine (hHo _).mono ?_
            rintro e wx ⟨rfl, hwx⟩
            have hwx := hwx.symm
            subst hwx
            go_wp2_with fail
            refine (hHp _).mono ?_
            rintro e wx ⟨rfl, hwx⟩
            have hwx := hwx.symm
            subst hwx
            go_wp2_with fail
            refine (hHo _).mono ?_
            rintro e wx ⟨rfl, hwx⟩
            have hwx := hwx.symm
            subst hwx
            go_wp2_with fail
            go_quiet (fail)
            go_wp2_with fail
            go_roundw
            case rel => exact ⟨k + 1, by omega, by go_num, by rw [HT.out]; rfl, hs2, hs5, q7, q9, below_drewN hb _⟩
            case measure => simp [intOf]; omega
          | false =>
            have hs2 := Sl.alloc hs2 (.cells #[.int .i32 0, .int .u32 (Y : Int)] 28)
            have hs5 := Sl.alloc hs5 (.cells #[.int .i32 0, .int .u32 (Y : Int)] 28)
            have q7 := q7.alloc (.cells #[.int .i32 0, .int .u32 (Y : Int)] 28)
            have q9 := q9.alloc (.cells #[.int .i32 0, .int .u32 (Y : Int)] 28)
            have hb := hb.alloc hb.size (.cells #[.int .i32 0, .int .u32 (Y : Int)] 28)
            have hz := hb.size
            have g0 := (sl_same (below_alloc1 wr (.cells #[.int .i32 0, .int .u32 (Y : Int)] 28)) f0)
            have g1 := (sl_same (below_alloc1 wr (.cells #[.int .i32 0, .int .u32 (Y : Int)] 28)) f1)
            clear f0 f1
            go_wp2_with fail
            refine (hHo _).mono ?_
            rintro e wx ⟨rfl, hwx⟩
            have hwx := hwx.symm
            subst hwx
            go_wp2_with fail
            refine (hHp _).mono ?_
            rintro e wx ⟨rfl, hwx⟩
            have hwx := hwx.symm
            subst hwx
            go_wp2_with fail
            go_quiet (fail)
            go_wp2_with fail
            go_roundw
            case rel => exact ⟨k + 1, by omega, by go_num, by rw [HT.out]; rfl, hs2, hs5, q7, q9, below_drewN hb _⟩
            case measure => simp [intOf]; omega
      | false =>
        rw [if_neg (by simp)] at e0 e1
        simp only at e0 e1
        cases al with
        | true =>
          have hs2 := Sl.alloc hs2 (.cells #[.int .i32 0, .int .u32 (Y : Int)] 28)
          have hs5 := Sl.alloc hs5 (.cells #[.int .i32 0, .int .u32 (Y : Int)] 28)
          have q7 := q7.alloc (.cells #[.int .i32 0, .int .u32 (Y : Int)] 28)
          have q9 := q9.alloc (.cells #[.int .i32 0, .int .u32 (Y : Int)] 28)
          have hb := hb.alloc hb.size (.cells #[.int .i32 0, .int .u32 (Y : Int)] 28)
          have hz := hb.size
          have g0 := (sl_same (below_alloc1 wr (.cells #[.int .i32 0, .int .u32 (Y : Int)] 28)) f0)
          have g1 := (sl_same (below_alloc1 wr (.cells #[.int .i32 0, .int .u32 (Y : Int)] 28)) f1)
          clear f0 f1
          go_wp2_with fail
          refine (hHo _).mono ?_
          rintro e wx ⟨rfl, hwx⟩
          have hwx := hwx.symm
          subst hwx
          go_wp2_with fail
          refine (hHo _).mono ?_
          rintro e wx ⟨rfl, hwx⟩
          have hwx := hwx.symm
          subst hwx
          go_wp2_with fail
          go_quiet (fail)
          go_wp2_with fail
          go_roundw
          case rel => exact ⟨k + 1, by omega, by go_num, by rw [HT.out]; rfl, hs2, hs5, q7, q9, below_drewN hb _⟩
          case measure => simp [intOf]; omega
        | false =>
          have hs2 := Sl.alloc hs2 (.cells #[.int .i32 0, .int .u32 (Y : Int)] 28)
          have hs5 := Sl.alloc hs5 (.cells #[.int .i32 0, .int .u32 (Y : Int)] 28)
          have q7 := q7.alloc (.cells #[.int .i32 0, .int .u32 (Y : Int)] 28)
          have q9 := q9.alloc (.cells #[.int .i32 0, .int .u32 (Y : Int)] 28)
          have hb := hb.alloc hb.size (.cells #[.int .i32 0, .int .u32 (Y : Int)] 28)
          have hz := hb.size
          have g0 := (sl_same (below_alloc1 wr (.cells #[.int .i32 0, .int .u32 (Y : Int)] 28)) f0)
          have g1 := (sl_same (below_alloc1 wr (.cells #[.int .i32 0, .int .u32 (Y : Int)] 28)) f1)
          clear f0 f1
          go_wp2_with fail
          refine (hHo _).mono ?_
          rintro e wx ⟨rfl, hwx⟩
          have hwx := hwx.symm
          subst hwx
          go_wp2_with fail
          go_quiet (fail)
          go_wp2_with fail
          go_roundw
          case rel => exact ⟨k + 1, by omega, by go_num, by rw [HT.out]; rfl, hs2, hs5, q7, q9, below_drewN hb _⟩
          case measure => simp [intOf]; omega
    · obtain rfl : k = M.length := by omega
      rw [List.take_length]
      obtain ⟨al, hal⟩ : ∃ al, al = (M.all fun c => sees c.2 o) := ⟨_, rfl⟩
      rw [← hal]
      rw [← hal] at HA
      clear hal
      cases al with
      | true =>
        go_wp2_with fail
        refine wp_region_held_drew (S := fun w' => BoxL w' w3.heap.size M ∧ BoxL w' w5.heap.size V2) (by kernel_rfl) ?_ (fun hHeld => ?_)
        · exact ⟨q7, q9⟩
        refine wpAnyH_take (i := 0) (by simp only [List.getElem?_toArray, List.getElem?_cons_zero]; rfl) (by kernel_rfl) (by kernel_rfl) (by kernel_rfl) (by exact fun _ _ _ h => h) (by exact yieldsIf_ld (by rfl) (.tmp 9) rfl w5.heap.size rfl V2 (fun w h => h.2)) hHeld ?_
        try simp only [Act.put, List.setIfInBounds_toArray, List.set_cons_zero, List.set_cons_succ]
        refine wpAnyH_take (i := 1) (by simp only [List.getElem?_toArray, List.getElem?_cons_succ, List.getElem?_cons_zero]; rfl) (by kernel_rfl) (by kernel_rfl) (by kernel_rfl) (by exact fun _ _ _ h => h) (by exact yieldsIf_ld (by rfl) (.tmp 7) rfl w3.heap.size rfl M (fun w h => h.1)) hHeld ?_
        try simp only [Act.put, List.setIfInBounds_toArray, List.set_cons_zero, List.set_cons_succ]
        refine wpAnyH_take (i := 2) (v := ?tv2) (by simp only [List.getElem?_toArray, List.getElem?_cons_succ, List.getElem?_cons_zero]; rfl) (by kernel_rfl) (by kernel_rfl) (by kernel_rfl) (by exact fun _ _ _ h => h) (Or.inl ⟨by rfl, ?ty2⟩) hHeld ?_
        case ty2 => (intro w hSw; (try dsimp only at hSw); skip; go_simp; try (with_reducible rfl))
        try simp only [Act.put, List.setIfInBounds_toArray, List.set_cons_zero, List.set_cons_succ]
        refine wpAnyH_take (i := 4) (v := ?tv4) (by simp only [List.getElem?_toArray, List.getElem?_cons_succ, List.getElem?_cons_zero]; rfl) (by kernel_rfl) (by kernel_rfl) (by kernel_rfl) (by exact fun _ _ _ h => h) (Or.inl ⟨by rfl, ?ty4⟩) hHeld ?_
        case ty4 => (intro w hSw; (try dsimp only at hSw); skip; go_simp; try (with_reducible rfl))
        try simp only [Act.put, List.setIfInBounds_toArray, List.set_cons_zero, List.set_cons_succ]
        refine wpAnyH_ready (rs := [3]) (by kernel_rfl) (by simp) ?_
        refine AllReadyH.cons (by simp only [List.getElem?_toArray, List.getElem?_cons_succ, List.getElem?_cons_zero]; rfl) (fun KK hKK => ?_) AllReadyH.nil
        go_simp
        refine (hV3 _).mono ?_
        rintro e wy1 ⟨rfl, h91⟩
        have h91 := below_undrew2 h91
        have q7 := q7.ext h91
        have q9 := q9.ext h91
        have hb := hb.trans (h91.mono hb.size)
        clear h91
        go_wp2_with fail
        refine hKK.out _ _ ?_ (fun hHeld => ?_)
        · exact ⟨q7, q9⟩
        clear hKK KK
        try simp only [Act.put, List.setIfInBounds_toArray, List.set_cons_zero, List.set_cons_succ]
        refine wpAnyH_ready (rs := [5]) (by kernel_rfl) (by simp) ?_
        refine AllReadyH.cons (by simp only [List.getElem?_toArray, List.getElem?_cons_succ, List.getElem?_cons_zero]; rfl) (fun KK hKK => ?_) AllReadyH.nil
        go_simp
        refine (hV4 _).mono ?_
        rintro e wy2 ⟨rfl, h92⟩
        have q7 := q7.ext h92
        have q9 := q9.ext h92
        have hb := hb.trans (h92.mono hb.size)
        clear h92
        go_wp2_with fail
        refine hKK.out _ _ ?_ (fun hHeld => ?_)
        · exact ⟨q7, q9⟩
        clear hKK KK
        try simp only [Act.put, List.setIfInBounds_toArray, List.set_cons_zero, List.set_cons_succ]
        refine wpAnyH_take (i := 6) (by simp only [List.getElem?_toArray, List.getElem?_cons_succ, List.getElem?_cons_zero]; rfl) (by kernel_rfl) (by kernel_rfl) (by kernel_rfl) (by exact fun _ _ _ h => h) (by exact yieldsIf_eql (by rfl) (.tmp 84) (.tmp 89) rfl V2 V2 rfl rfl hVL true (by simp)) hHeld ?_
        try simp only [Act.put, List.setIfInBounds_toArray, List.set_cons_zero, List.set_cons_succ]
        refine wpAnyH_take (i := 7) (v := ?tv7) (by simp only [List.getElem?_toArray, List.getElem?_cons_succ, List.getElem?_cons_zero]; rfl) (by kernel_rfl) (by kernel_rfl) (by kernel_rfl) (by exact fun _ _ _ h => h) (Or.inl ⟨by rfl, ?ty7⟩) hHeld ?_
        case ty7 => (intro w hSw; (try dsimp only at hSw); skip; go_simp; try (with_reducible rfl))
        try simp only [Act.put, List.setIfInBounds_toArray, List.set_cons_zero, List.set_cons_succ]
        refine wpAnyH_take (i := 8) (v := ?tv8) (by simp only [List.getElem?_toArray, List.getElem?_cons_succ, List.getElem?_cons_zero]; rfl) (by kernel_rfl) (by kernel_rfl) (by kernel_rfl) (by exact fun _ _ _ h => h) (Or.inl ⟨by rfl, ?ty8⟩) hHeld ?_
        case ty8 => (intro w hSw; (try dsimp only at hSw); skip; go_simp; try (with_reducible rfl))
        try simp only [Act.put, List.setIfInBounds_toArray, List.set_cons_zero, List.set_cons_succ]
        refine wpAnyH_take (i := 9) (v := ?tv9) (by simp only [List.getElem?_toArray, List.getElem?_cons_succ, List.getElem?_cons_zero]; rfl) (by kernel_rfl) (by kernel_rfl) (by kernel_rfl) (by exact fun _ _ _ h => h) (Or.inl ⟨by rfl, ?ty9⟩) hHeld ?_
        case ty9 => (intro w hSw; (try dsimp only at hSw); skip; go_simp; try (with_reducible rfl))
        try simp only [Act.put, List.setIfInBounds_toArray, List.set_cons_zero, List.set_cons_succ]
        refine wpAnyH_take (i := 10) (v := ?tv10) (by simp only [List.getElem?_toArray, List.getElem?_cons_succ, List.getElem?_cons_zero]; rfl) (by kernel_rfl) (by kernel_rfl) (by kernel_rfl) (by exact fun _ _ _ h => h) (Or.inl ⟨by rfl, ?ty10⟩) hHeld ?_
        case ty10 => (intro w hSw; (try dsimp only at hSw); skip; go_simp; try (with_reducible rfl))
        try simp only [Act.put, List.setIfInBounds_toArray, List.set_cons_zero, List.set_cons_succ]
        refine wpAnyH_take (i := 11) (by simp only [List.getElem?_toArray, List.getElem?_cons_succ, List.getElem?_cons_zero]; rfl) (by kernel_rfl) (by kernel_rfl) (by kernel_rfl) (by exact fun _ _ _ h => h) (by exact yieldsIf_ld (by rfl) (.tmp 7) rfl w3.heap.size rfl M (fun w h => h.1)) hHeld ?_
        try simp only [Act.put, List.setIfInBounds_toArray, List.set_cons_zero, List.set_cons_succ]
        refine wpAnyH_take (i := 12) (v := ?tv12) (by simp only [List.getElem?_toArray, List.getElem?_cons_succ, List.getElem?_cons_zero]; rfl) (by kernel_rfl) (by kernel_rfl) (by kernel_rfl) (by exact fun _ _ _ h => h) (Or.inl ⟨by rfl, ?ty12⟩) hHeld ?_
        case ty12 => (intro w hSw; (try dsimp only at hSw); skip; go_simp; try (with_reducible rfl))
        try simp only [Act.put, List.setIfInBounds_toArray, List.set_cons_zero, List.set_cons_succ]
        refine wpAnyH_take (i := 14) (by simp only [List.getElem?_toArray, List.getElem?_cons_succ, List.getElem?_cons_zero]; rfl) (by kernel_rfl) (by kernel_rfl) (by kernel_rfl) (by exact fun _ _ _ h => h) (by exact yieldsIf_ld (by rfl) (.tmp 7) rfl w3.heap.size rfl M (fun w h => h.1)) hHeld ?_
        try simp only [Act.put, List.setIfInBounds_toArray, List.set_cons_zero, List.set_cons_succ]
        refine wpAnyH_ready (rs := [13]) (by kernel_rfl) (by simp) ?_
        refine AllReadyH.cons (by simp only [List.getElem?_toArray, List.getElem?_cons_succ, List.getElem?_cons_zero]; rfl) (fun KK hKK => ?_) AllReadyH.nil
        go_simp
        refine (hV1 _).mono ?_
        rintro e wy3 ⟨rfl, h93⟩
        have q7 := q7.ext h93
        have q9 := q9.ext h93
        have hb := hb.trans (h93.mono hb.size)
        clear h93
        go_wp2_with fail
        refine hKK.out _ _ ?_ (fun hHeld => ?_)
        · exact ⟨q7, q9⟩
        clear hKK KK
        try simp only [Act.put, List.setIfInBounds_toArray, List.set_cons_zero, List.set_cons_succ]
        refine wpAnyH_take (i := 15) (by simp only [List.getElem?_toArray, List.getElem?_cons_succ, List.getElem?_cons_zero]; rfl) (by kernel_rfl) (by kernel_rfl) (by kernel_rfl) (by exact fun _ _ _ h => h) (by exact yieldsIf_eql (by rfl) (.tmp 97) (.tmp 98) rfl VO M rfl rfl hVOl true (by rw [HA.out (by trivial)]; simp)) hHeld ?_
        try simp only [Act.put, List.setIfInBounds_toArray, List.set_cons_zero, List.set_cons_succ]
        refine wpAnyH_take (i := 16) (v := ?tv16) (by simp only [List.getElem?_toArray, List.getElem?_cons_succ, List.getElem?_cons_zero]; rfl) (by kernel_rfl) (by kernel_rfl) (by kernel_rfl) (by exact fun _ _ _ h => h) (Or.inl ⟨by rfl, ?ty16⟩) hHeld ?_
        case ty16 => (intro w hSw; (try dsimp only at hSw); skip; go_simp; try (with_reducible rfl))
        try simp only [Act.put, List.setIfInBounds_toArray, List.set_cons_zero, List.set_cons_succ]
        refine wpAnyH_take (i := 17) (v := ?tv17) (by simp only [List.getElem?_toArray, List.getElem?_cons_succ, List.getElem?_cons_zero]; rfl) (by kernel_rfl) (by kernel_rfl) (by kernel_rfl) (by exact fun _ _ _ h => h) (Or.inl ⟨by rfl, ?ty17⟩) hHeld ?_
        case ty17 => (intro w hSw; (try dsimp only at hSw); skip; go_simp; try (with_reducible rfl))
        try simp only [Act.put, List.setIfInBounds_toArray, List.set_cons_zero, List.set_cons_succ]
        refine wpAnyH_take (i := 18) (v := ?tv18) (by simp only [List.getElem?_toArray, List.getElem?_cons_succ, List.getElem?_cons_zero]; rfl) (by kernel_rfl) (by kernel_rfl) (by kernel_rfl) (by exact fun _ _ _ h => h) (Or.inl ⟨by rfl, ?ty18⟩) hHeld ?_
        case ty18 => (intro w hSw; (try dsimp only at hSw); skip; go_simp; try (with_reducible rfl))
        try simp only [Act.put, List.setIfInBounds_toArray, List.set_cons_zero, List.set_cons_succ]
        refine wpAnyH_take (i := 19) (by simp only [List.getElem?_toArray, List.getElem?_cons_succ, List.getElem?_cons_zero]; rfl) (by kernel_rfl) (by kernel_rfl) (by kernel_rfl) (by exact fun _ _ _ h => h) (by exact yieldsIf_ld (by rfl) (.tmp 9) rfl w5.heap.size rfl V2 (fun w h => h.2)) hHeld ?_
        try simp only [Act.put, List.setIfInBounds_toArray, List.set_cons_zero, List.set_cons_succ]
        refine wpAnyH_take (i := 21) (by simp only [List.getElem?_toArray, List.getElem?_cons_succ, List.getElem?_cons_zero]; rfl) (by kernel_rfl) (by kernel_rfl) (by kernel_rfl) (by exact fun _ _ _ h => h) (by exact yieldsIf_ld (by rfl) (.tmp 7) rfl w3.heap.size rfl M (fun w h => h.1)) hHeld ?_
        try simp only [Act.put, List.setIfInBounds_toArray, List.set_cons_zero, List.set_cons_succ]
        refine wpAnyH_ready (rs := [20]) (by kernel_rfl) (by simp) ?_
        refine AllReadyH.cons (by simp only [List.getElem?_toArray, List.getElem?_cons_succ, List.getElem?_cons_zero]; rfl) (fun KK hKK => ?_) AllReadyH.nil
        go_simp
        refine (hLv _).mono ?_
        rintro e wy4 ⟨rfl, h94⟩
        have q7 := q7.ext h94
        have q9 := q9.ext h94
        have hb := hb.trans (h94.mono hb.size)
        clear h94
        go_wp2_with fail
        refine hKK.out _ _ ?_ (fun hHeld => ?_)
        · exact ⟨q7, q9⟩
        clear hKK KK
        try simp only [Act.put, List.setIfInBounds_toArray, List.set_cons_zero, List.set_cons_succ]
        refine wpAnyH_ready (rs := [22]) (by kernel_rfl) (by simp) ?_
        refine AllReadyH.cons (by simp only [List.getElem?_toArray, List.getElem?_cons_succ, List.getElem?_cons_zero]; rfl) (fun KK hKK => ?_) AllReadyH.nil
        go_simp
        refine (hLm _).mono ?_
        rintro e wy5 ⟨rfl, h95⟩
        have q7 := q7.ext h95
        have q9 := q9.ext h95
        have hb := hb.trans (h95.mono hb.size)
        clear h95
        go_wp2_with fail
        refine hKK.out _ _ ?_ (fun hHeld => ?_)
        · exact ⟨q7, q9⟩
        clear hKK KK
        try simp only [Act.put, List.setIfInBounds_toArray, List.set_cons_zero, List.set_cons_succ]
        refine wpAnyH_take (i := 23) (v := ?tv23) (by simp only [List.getElem?_toArray, List.getElem?_cons_succ, List.getElem?_cons_zero]; rfl) (by kernel_rfl) (by kernel_rfl) (by kernel_rfl) (by exact fun _ _ _ h => h) (Or.inl ⟨by rfl, ?ty23⟩) hHeld ?_
        case ty23 => (intro w hSw; (try dsimp only at hSw); skip; go_simp; try (with_reducible rfl))
        try simp only [Act.put, List.setIfInBounds_toArray, List.set_cons_zero, List.set_cons_succ]
        refine wpAnyH_take (i := 24) (v := ?tv24) (by simp only [List.getElem?_toArray, List.getElem?_cons_succ, List.getElem?_cons_zero]; rfl) (by kernel_rfl) (by kernel_rfl) (by kernel_rfl) (by exact fun _ _ _ h => h) (Or.inl ⟨by rfl, ?ty24⟩) hHeld ?_
        case ty24 => (intro w hSw; (try dsimp only at hSw); skip; go_simp; try (with_reducible rfl))
        try simp only [Act.put, List.setIfInBounds_toArray, List.set_cons_zero, List.set_cons_succ]
        refine wpAnyH_take (i := 25) (v := ?tv25) (by simp only [List.getElem?_toArray, List.getElem?_cons_succ, List.getElem?_cons_zero]; rfl) (by kernel_rfl) (by kernel_rfl) (by kernel_rfl) (by exact fun _ _ _ h => h) (Or.inl ⟨by rfl, ?ty25⟩) hHeld ?_
        case ty25 => (intro w hSw; (try dsimp only at hSw); skip; go_simp; try (with_reducible rfl))
        try simp only [Act.put, List.setIfInBounds_toArray, List.set_cons_zero, List.set_cons_succ]
        refine wpAnyH_done (by kernel_rfl) ?_ _
        go_wp2_with fail
        go_ret
        exact ⟨rfl, hb⟩
      | false =>
        go_wp2_with fail
        refine wp_region_held_drew (S := fun w' => BoxL w' w3.heap.size M ∧ BoxL w' w5.heap.size V2) (by kernel_rfl) ?_ (fun hHeld => ?_)
        · exact ⟨q7, q9⟩
        refine wpAnyH_take (i := 0) (by simp only [List.getElem?_toArray, List.getElem?_cons_zero]; rfl) (by kernel_rfl) (by kernel_rfl) (by kernel_rfl) (by exact fun _ _ _ h => h) (by exact yieldsIf_ld (by rfl) (.tmp 9) rfl w5.heap.size rfl V2 (fun w h => h.2)) hHeld ?_
        try simp only [Act.put, List.setIfInBounds_toArray, List.set_cons_zero, List.set_cons_succ]
        refine wpAnyH_take (i := 1) (by simp only [List.getElem?_toArray, List.getElem?_cons_succ, List.getElem?_cons_zero]; rfl) (by kernel_rfl) (by kernel_rfl) (by kernel_rfl) (by exact fun _ _ _ h => h) (by exact yieldsIf_ld (by rfl) (.tmp 7) rfl w3.heap.size rfl M (fun w h => h.1)) hHeld ?_
        try simp only [Act.put, List.setIfInBounds_toArray, List.set_cons_zero, List.set_cons_succ]
        refine wpAnyH_take (i := 2) (v := ?fv2) (by simp only [List.getElem?_toArray, List.getElem?_cons_succ, List.getElem?_cons_zero]; rfl) (by kernel_rfl) (by kernel_rfl) (by kernel_rfl) (by exact fun _ _ _ h => h) (Or.inl ⟨by rfl, ?fy2⟩) hHeld ?_
        case fy2 => (intro w hSw; (try dsimp only at hSw); skip; go_simp; try (with_reducible rfl))
        try simp only [Act.put, List.setIfInBounds_toArray, List.set_cons_zero, List.set_cons_succ]
        refine wpAnyH_take (i := 4) (v := ?fv4) (by simp only [List.getElem?_toArray, List.getElem?_cons_succ, List.getElem?_cons_zero]; rfl) (by kernel_rfl) (by kernel_rfl) (by kernel_rfl) (by exact fun _ _ _ h => h) (Or.inl ⟨by rfl, ?fy4⟩) hHeld ?_
        case fy4 => (intro w hSw; (try dsimp only at hSw); skip; go_simp; try (with_reducible rfl))
        try simp only [Act.put, List.setIfInBounds_toArray, List.set_cons_zero, List.set_cons_succ]
        refine wpAnyH_ready (rs := [3]) (by kernel_rfl) (by simp) ?_
        refine AllReadyH.cons (by simp only [List.getElem?_toArray, List.getElem?_cons_succ, List.getElem?_cons_zero]; rfl) (fun KK hKK => ?_) AllReadyH.nil
        go_simp
        refine (hV3 _).mono ?_
        rintro e wy1 ⟨rfl, h91⟩
        have h91 := below_undrew2 h91
        have q7 := q7.ext h91
        have q9 := q9.ext h91
        have hb := hb.trans (h91.mono hb.size)
        clear h91
        go_wp2_with fail
        refine hKK.out _ _ ?_ (fun hHeld => ?_)
        · exact ⟨q7, q9⟩
        clear hKK KK
        try simp only [Act.put, List.setIfInBounds_toArray, List.set_cons_zero, List.set_cons_succ]
        refine wpAnyH_ready (rs := [5]) (by kernel_rfl) (by simp) ?_
        refine AllReadyH.cons (by simp only [List.getElem?_toArray, List.getElem?_cons_succ, List.getElem?_cons_zero]; rfl) (fun KK hKK => ?_) AllReadyH.nil
        go_simp
        refine (hV4 _).mono ?_
        rintro e wy2 ⟨rfl, h92⟩
        have q7 := q7.ext h92
        have q9 := q9.ext h92
        have hb := hb.trans (h92.mono hb.size)
        clear h92
        go_wp2_with fail
        refine hKK.out _ _ ?_ (fun hHeld => ?_)
        · exact ⟨q7, q9⟩
        clear hKK KK
        try simp only [Act.put, List.setIfInBounds_toArray, List.set_cons_zero, List.set_cons_succ]
        refine wpAnyH_take (i := 6) (by simp only [List.getElem?_toArray, List.getElem?_cons_succ, List.getElem?_cons_zero]; rfl) (by kernel_rfl) (by kernel_rfl) (by kernel_rfl) (by exact fun _ _ _ h => h) (by exact yieldsIf_eql (by rfl) (.tmp 84) (.tmp 89) rfl V2 V2 rfl rfl hVL true (by simp)) hHeld ?_
        try simp only [Act.put, List.setIfInBounds_toArray, List.set_cons_zero, List.set_cons_succ]
        refine wpAnyH_take (i := 7) (v := ?fv7) (by simp only [List.getElem?_toArray, List.getElem?_cons_succ, List.getElem?_cons_zero]; rfl) (by kernel_rfl) (by kernel_rfl) (by kernel_rfl) (by exact fun _ _ _ h => h) (Or.inl ⟨by rfl, ?fy7⟩) hHeld ?_
        case fy7 => (intro w hSw; (try dsimp only at hSw); skip; go_simp; try (with_reducible rfl))
        try simp only [Act.put, List.setIfInBounds_toArray, List.set_cons_zero, List.set_cons_succ]
        refine wpAnyH_take (i := 8) (v := ?fv8) (by simp only [List.getElem?_toArray, List.getElem?_cons_succ, List.getElem?_cons_zero]; rfl) (by kernel_rfl) (by kernel_rfl) (by kernel_rfl) (by exact fun _ _ _ h => h) (Or.inl ⟨by rfl, ?fy8⟩) hHeld ?_
        case fy8 => (intro w hSw; (try dsimp only at hSw); skip; go_simp; try (with_reducible rfl))
        try simp only [Act.put, List.setIfInBounds_toArray, List.set_cons_zero, List.set_cons_succ]
        refine wpAnyH_take (i := 9) (v := ?fv9) (by simp only [List.getElem?_toArray, List.getElem?_cons_succ, List.getElem?_cons_zero]; rfl) (by kernel_rfl) (by kernel_rfl) (by kernel_rfl) (by exact fun _ _ _ h => h) (Or.inl ⟨by rfl, ?fy9⟩) hHeld ?_
        case fy9 => (intro w hSw; (try dsimp only at hSw); skip; go_simp; try (with_reducible rfl))
        try simp only [Act.put, List.setIfInBounds_toArray, List.set_cons_zero, List.set_cons_succ]
        refine wpAnyH_take (i := 10) (v := ?fv10) (by simp only [List.getElem?_toArray, List.getElem?_cons_succ, List.getElem?_cons_zero]; rfl) (by kernel_rfl) (by kernel_rfl) (by kernel_rfl) (by exact fun _ _ _ h => h) (Or.inl ⟨by rfl, ?fy10⟩) hHeld ?_
        case fy10 => (intro w hSw; (try dsimp only at hSw); skip; go_simp; try (with_reducible rfl))
        try simp only [Act.put, List.setIfInBounds_toArray, List.set_cons_zero, List.set_cons_succ]
        refine wpAnyH_take (i := 11) (by simp only [List.getElem?_toArray, List.getElem?_cons_succ, List.getElem?_cons_zero]; rfl) (by kernel_rfl) (by kernel_rfl) (by kernel_rfl) (by exact fun _ _ _ h => h) (Or.inr ⟨by rfl, rfl⟩) hHeld ?_
        try simp only [Act.put, List.setIfInBounds_toArray, List.set_cons_zero, List.set_cons_succ]
        refine wpAnyH_take (i := 12) (by simp only [List.getElem?_toArray, List.getElem?_cons_succ, List.getElem?_cons_zero]; rfl) (by kernel_rfl) (by kernel_rfl) (by kernel_rfl) (by exact fun _ _ _ h => h) (Or.inr ⟨by rfl, rfl⟩) hHeld ?_
        try simp only [Act.put, List.setIfInBounds_toArray, List.set_cons_zero, List.set_cons_succ]
        refine wpAnyH_take (i := 14) (by simp only [List.getElem?_toArray, List.getElem?_cons_succ, List.getElem?_cons_zero]; rfl) (by kernel_rfl) (by kernel_rfl) (by kernel_rfl) (by exact fun _ _ _ h => h) (Or.inr ⟨by rfl, rfl⟩) hHeld ?_
        try simp only [Act.put, List.setIfInBounds_toArray, List.set_cons_zero, List.set_cons_succ]
        refine wpAnyH_take (i := 13) (by simp only [List.getElem?_toArray, List.getElem?_cons_succ, List.getElem?_cons_zero]; rfl) (by kernel_rfl) (by kernel_rfl) (by kernel_rfl) (by exact fun _ _ _ h => h) (Or.inr ⟨by rfl, rfl⟩) hHeld ?_
        try simp only [Act.put, List.setIfInBounds_toArray, List.set_cons_zero, List.set_cons_succ]
        refine wpAnyH_take (i := 15) (by simp only [List.getElem?_toArray, List.getElem?_cons_succ, List.getElem?_cons_zero]; rfl) (by kernel_rfl) (by kernel_rfl) (by kernel_rfl) (by exact fun _ _ _ h => h) (Or.inr ⟨by rfl, rfl⟩) hHeld ?_
        try simp only [Act.put, List.setIfInBounds_toArray, List.set_cons_zero, List.set_cons_succ]
        refine wpAnyH_take (i := 16) (v := ?fv16) (by simp only [List.getElem?_toArray, List.getElem?_cons_succ, List.getElem?_cons_zero]; rfl) (by kernel_rfl) (by kernel_rfl) (by kernel_rfl) (by exact fun _ _ _ h => h) (Or.inl ⟨by rfl, ?fy16⟩) hHeld ?_
        case fy16 => (intro w hSw; (try dsimp only at hSw); skip; go_simp; try (with_reducible rfl))
        try simp only [Act.put, List.setIfInBounds_toArray, List.set_cons_zero, List.set_cons_succ]
        refine wpAnyH_take (i := 17) (v := ?fv17) (by simp only [List.getElem?_toArray, List.getElem?_cons_succ, List.getElem?_cons_zero]; rfl) (by kernel_rfl) (by kernel_rfl) (by kernel_rfl) (by exact fun _ _ _ h => h) (Or.inl ⟨by rfl, ?fy17⟩) hHeld ?_
        case fy17 => (intro w hSw; (try dsimp only at hSw); skip; go_simp; try (with_reducible rfl))
        try simp only [Act.put, List.setIfInBounds_toArray, List.set_cons_zero, List.set_cons_succ]
        refine wpAnyH_take (i := 18) (v := ?fv18) (by simp only [List.getElem?_toArray, List.getElem?_cons_succ, List.getElem?_cons_zero]; rfl) (by kernel_rfl) (by kernel_rfl) (by kernel_rfl) (by exact fun _ _ _ h => h) (Or.inl ⟨by rfl, ?fy18⟩) hHeld ?_
        case fy18 => (intro w hSw; (try dsimp only at hSw); skip; go_simp; try (with_reducible rfl))
        try simp only [Act.put, List.setIfInBounds_toArray, List.set_cons_zero, List.set_cons_succ]
        refine wpAnyH_take (i := 19) (by simp only [List.getElem?_toArray, List.getElem?_cons_succ, List.getElem?_cons_zero]; rfl) (by kernel_rfl) (by kernel_rfl) (by kernel_rfl) (by exact fun _ _ _ h => h) (by exact yieldsIf_ld (by rfl) (.tmp 9) rfl w5.heap.size rfl V2 (fun w h => h.2)) hHeld ?_
        try simp only [Act.put, List.setIfInBounds_toArray, List.set_cons_zero, List.set_cons_succ]
        refine wpAnyH_take (i := 21) (by simp only [List.getElem?_toArray, List.getElem?_cons_succ, List.getElem?_cons_zero]; rfl) (by kernel_rfl) (by kernel_rfl) (by kernel_rfl) (by exact fun _ _ _ h => h) (by exact yieldsIf_ld (by rfl) (.tmp 7) rfl w3.heap.size rfl M (fun w h => h.1)) hHeld ?_
        try simp only [Act.put, List.setIfInBounds_toArray, List.set_cons_zero, List.set_cons_succ]
        refine wpAnyH_ready (rs := [20]) (by kernel_rfl) (by simp) ?_
        refine AllReadyH.cons (by simp only [List.getElem?_toArray, List.getElem?_cons_succ, List.getElem?_cons_zero]; rfl) (fun KK hKK => ?_) AllReadyH.nil
        go_simp
        refine (hLv _).mono ?_
        rintro e wy3 ⟨rfl, h93⟩
        have q7 := q7.ext h93
        have q9 := q9.ext h93
        have hb := hb.trans (h93.mono hb.size)
        clear h93
        go_wp2_with fail
        refine hKK.out _ _ ?_ (fun hHeld => ?_)
        · exact ⟨q7, q9⟩
        clear hKK KK
        try simp only [Act.put, List.setIfInBounds_toArray, List.set_cons_zero, List.set_cons_succ]
        refine wpAnyH_ready (rs := [22]) (by kernel_rfl) (by simp) ?_
        refine AllReadyH.cons (by simp only [List.getElem?_toArray, List.getElem?_cons_succ, List.getElem?_cons_zero]; rfl) (fun KK hKK => ?_) AllReadyH.nil
        go_simp
        refine (hLm _).mono ?_
        rintro e wy4 ⟨rfl, h94⟩
        have q7 := q7.ext h94
        have q9 := q9.ext h94
        have hb := hb.trans (h94.mono hb.size)
        clear h94
        go_wp2_with fail
        refine hKK.out _ _ ?_ (fun hHeld => ?_)
        · exact ⟨q7, q9⟩
        clear hKK KK
        try simp only [Act.put, List.setIfInBounds_toArray, List.set_cons_zero, List.set_cons_succ]
        refine wpAnyH_take (i := 23) (v := ?fv23) (by simp only [List.getElem?_toArray, List.getElem?_cons_succ, List.getElem?_cons_zero]; rfl) (by kernel_rfl) (by kernel_rfl) (by kernel_rfl) (by exact fun _ _ _ h => h) (Or.inl ⟨by rfl, ?fy23⟩) hHeld ?_
        case fy23 => (intro w hSw; (try dsimp only at hSw); skip; go_simp; try (with_reducible rfl))
        try simp only [Act.put, List.setIfInBounds_toArray, List.set_cons_zero, List.set_cons_succ]
        refine wpAnyH_take (i := 24) (v := ?fv24) (by simp only [List.getElem?_toArray, List.getElem?_cons_succ, List.getElem?_cons_zero]; rfl) (by kernel_rfl) (by kernel_rfl) (by kernel_rfl) (by exact fun _ _ _ h => h) (Or.inl ⟨by rfl, ?fy24⟩) hHeld ?_
        case fy24 => (intro w hSw; (try dsimp only at hSw); skip; go_simp; try (with_reducible rfl))
        try simp only [Act.put, List.setIfInBounds_toArray, List.set_cons_zero, List.set_cons_succ]
        refine wpAnyH_take (i := 25) (v := ?fv25) (by simp only [List.getElem?_toArray, List.getElem?_cons_succ, List.getElem?_cons_zero]; rfl) (by kernel_rfl) (by kernel_rfl) (by kernel_rfl) (by exact fun _ _ _ h => h) (Or.inl ⟨by rfl, ?fy25⟩) hHeld ?_
        case fy25 => (intro w hSw; (try dsimp only at hSw); skip; go_simp; try (with_reducible rfl))
        try simp only [Act.put, List.setIfInBounds_toArray, List.set_cons_zero, List.set_cons_succ]
        refine wpAnyH_done (by kernel_rfl) ?_ _
        go_wp2_with fail
        go_ret
        exact ⟨rfl, hb⟩
end Go.Proofs.Ytemhglcdcpobpaa
