/- DeltaWrong: the walk. Conditions: the list is no longer than may be; the cells and the numbers fit. -/
import Derived.Test.YtpppjlcfhijdgaaDAwake
import Derived.Test.YtpppjlcfhijdgaaFewD
import Derived.Test.YtpppjlcfhijdgaaViewND
import Derived.Test.YtpppjlcfhijdgaaTreeD
namespace Go.Proofs.Ytpppjlcfhijdgaa
open Go.RowKit

set_option maxHeartbeats 16000000 in
set_option maxRecDepth 40000 in
theorem DeltaWrong_walk (A : Option Addr) (L : List (Int × Nat)) (n c b t : Nat) (o : Int) (turn : Nat) (w : World) (hs : Sl w b A (cv L)) (hn : L.length = n) (_hm : n ≤ maxLen) (hnc : n ≤ c) (hok : okC L) (ht : t ≤ 18446744073709551615) (_h1 : -9223372036854775808 ≤ o) (_h2 : o ≤ 9223372036854775807) (htu : turn ≤ 4294967295) :
    Calls Try.prog 7 #[.slice A n c, .int .u64 t, .int .i64 o, .int .u32 turn] w fun e w' => e = .returned (.bool true) ∧ Below w.heap.size w w' := by
  have hF := fun W h => FewC_calls A L n c b W h hn hnc
  obtain ⟨M, hM⟩ : ∃ M, M = L.take 48 := ⟨_, rfl⟩
  have hML : M.length ≤ 48 := by rw [hM, List.length_take]; omega
  have hMo : okC M := by rw [hM]; exact okC_take hok 48
  rw [← hM] at hF
  clear hM hok hn
  have hN := fun W A c b h => New_in A M M.length c b W h rfl hML
  have hO := fun W => Of_calls M t o 3 W hML hMo ht (by omega)
  have hFu := fun W => Full_calls M o 3 W hML hMo (by omega)
  have hVw := fun W => View_calls M o W hML hMo
  have hVl : (viewL o M).length = M.length := by simp
  have hVo := okC_view hMo o
  obtain ⟨V, hV⟩ : ∃ V, V = viewL o M := ⟨_, rfl⟩
  rw [← hV] at hO hFu hVw hVl hVo
  have hHl := sum_lt V
  have hpt := put_touched (V := V) (W := V) (t := t) (n := M.length) (k := (placesB t M.length).length) hVl hVl hML (by simp) (fun i _ _ _ => rfl)
  obtain ⟨H, hH⟩ : ∃ H, H = hashL V := ⟨_, rfl⟩
  rw [← hH] at hO hFu hHl
  obtain ⟨K, hK⟩ : ∃ K, K = H ^^^ turn := ⟨_, rfl⟩
  have hKl : K < 4294967296 := by rw [hK]; exact Nat.xor_lt_two_pow (n := 32) hHl (by omega)
  have hx : bits .xor .u32 (H : Int) (turn : Int) = (K : Int) := by rw [hK]; exact u32_xor_nat H turn hHl (by omega)
  obtain ⟨d, hd⟩ : ∃ d, d = ((turn : Int) == 0) := ⟨_, rfl⟩
  have hdK : ((H : Int) == (K : Int)) = d := by
    rw [hd, Bool.eq_iff_iff, beq_iff_eq, beq_iff_eq]
    constructor
    · intro h
      have h1 : H = H ^^^ turn := by rw [← hK]; omega
      have h2 : H ^^^ (H ^^^ turn) = H ^^^ H := by rw [← h1]
      rw [← Nat.xor_assoc, Nat.xor_self, Nat.zero_xor] at h2
      omega
    · intro h
      have h1 : turn = 0 := by omega
      rw [hK, h1, Nat.xor_zero]
  obtain ⟨E, hE⟩ : ∃ E : Int, E = if d = true then 0 else 13 := ⟨_, rfl⟩
  have hA : ∀ (W : World) (Ap Ac : Option Addr) (cp cc bp bc : Nat) (_ : Bs W bp Ap (placesB t M.length)) (_ : Sl W bc Ac (cv (cellsTo V t M.length))), Calls Try.prog 17 #[.agg #[.int .u32 3, .int .u32 (K : Int), .slice Ap (placesB t M.length).length cp, .slice Ac (cellsTo V t M.length).length cc], .agg (bdL V)] W fun e w' => e = .returned (.tuple #[.agg (bdL V), .int .i64 E]) ∧ Below W.heap.size W w' := by
    intro W Ap Ac cp cc bp bc h1 h2
    have := Apply_calls 3 K Ap (placesB t M.length) _ cp bp Ac (cellsTo V t M.length) _ cc bc V d W h1 rfl h2 rfl (by simp) (by have := placesTo_len t M.length; simp; omega) (by omega) hVo (cellsTo_ok hVo t M.length) (fun i hi => by rw [hVl]; exact placesB_lt (by omega) hi) (by rw [hpt, ← hH]; exact hdK)
    rw [hpt, ite_self, ← hE] at this
    exact this
  obtain ⟨X, hX⟩ : ∃ X, X = if d = true then V else [] := ⟨_, rfl⟩
  have hBd : ∀ (W : World) (Ap Ac : Option Addr) (cp cc bp bc : Nat) (_ : Bs W bp Ap (placesB 281474976710655 M.length)) (_ : Sl W bc Ac (cv V)), Calls Try.prog 19 #[.agg #[.int .u32 3, .int .u32 (K : Int), .slice Ap (placesB 281474976710655 M.length).length cp, .slice Ac V.length cc]] W fun e w' => e = .returned (.tuple #[.agg (bdL X), .int .i64 E]) ∧ Below W.heap.size W w' := by
    intro W Ap Ac cp cc bp bc h1 h2
    have hpl : (placesB 281474976710655 M.length).length = M.length := by rw [placesB_len, placesTo_all hML]; simp
    rw [hpl, hVl]
    have := Board_calls 3 K Ap (placesB 281474976710655 M.length) M.length cp bp Ac V cc bc d W h1 hpl h2 hVl hML (placesB_rises hML) (fun i hi => placesB_all hML hi) hVo (by rw [← hH]; exact hdK)
    rw [← hX, ← hE] at this
    exact this
  have hde := hd.symm
  have hVL : V.length ≤ 48 := by omega
  obtain ⟨np, hnp⟩ : ∃ np, np = (placesB t M.length).length := ⟨_, rfl⟩
  obtain ⟨nc, hnc'⟩ : ∃ nc, nc = (cellsTo V t M.length).length := ⟨_, rfl⟩
  obtain ⟨mp, hmp⟩ : ∃ mp, mp = (placesB 281474976710655 M.length).length := ⟨_, rfl⟩
  obtain ⟨mc, hmc⟩ : ∃ mc, mc = V.length := ⟨_, rfl⟩
  rw [← hnp, ← hnc'] at hA
  rw [← hmp, ← hmc] at hBd
  have HNP := Lib.hid hnp
  have HNC := Lib.hid hnc'
  have HMP := Lib.hid hmp
  have HMC := Lib.hid hmc
  obtain ⟨ps, hps⟩ : ∃ ps, ps = placesB t M.length := ⟨_, rfl⟩
  obtain ⟨cs, hcs⟩ : ∃ cs, cs = cellsTo V t M.length := ⟨_, rfl⟩
  obtain ⟨qs, hqs⟩ : ∃ qs, qs = placesB 281474976710655 M.length := ⟨_, rfl⟩
  rw [← hps] at hA hO HNP
  rw [← hcs] at hA hO HNC
  rw [← hqs] at hBd hFu HMP
  have HE := Lib.hid hE
  have HX := Lib.hid hX
  clear hH hK hE hX hdK hpt hd hVo hVl hnp hnc' hmp hmc hps hcs hqs hHl hV ht htu
  go_enter Try.func7, Try.ntmps7
  go_wp2_with fail
  refine (Awake_calls _).mono ?_
  rintro e w1 ⟨rfl, hb1⟩
  replace hs := Sl.ext hs hb1
  have hb := hb1
  clear hb1
  go_wp2_with fail
  refine (hF _ hs).mono ?_
  rintro e w2 ⟨v, rfl, hrow, hb2⟩
  replace hs := Sl.ext hs hb2
  replace hb := hb.trans (hb2.mono hb.size)
  clear hb2
  clear hs
  clear hF
  obtain ⟨A2, c2, b2, rfl, hlc, hcm, hA2, hbb, hs2, hbk⟩ := hrow.sl
  clear hrow hA2 hbb hbk
  go_wp2_with fail
  refine (hN _ A2 c2 b2 hs2).mono ?_
  rintro e w3 ⟨rfl, hb3⟩
  replace hs2 := Sl.ext hs2 hb3
  replace hb := hb.trans (hb3.mono hb.size)
  clear hb3
  clear hs2
  clear hN
  replace hb := hb.alloc hb.size (.cells (bdL M) 32)
  have q9 := BoxL.new_ w3 M
  go_wp2_with (first | ((with_reducible refine at_al 32 9 ?_); refine wpList_al rfl rfl (some 9) rfl w3.heap.size rfl ?_) | ((with_reducible refine at_st 32 9 23 ?_); refine wpList_put rfl (.tmp 9) (.tmp 23) rfl rfl M rfl rfl ?_) | ((with_reducible refine at_ld 32 9 ?_); refine wpList_ld rfl (.tmp 9) rfl w3.heap.size rfl M q9 ?_))
  refine (hO _).mono ?_
  rintro e w4 ⟨vp, vc, rfl, hp, hc, hb4⟩
  replace q9 := q9.ext hb4
  replace hb := hb.trans (hb4.mono hb.size)
  clear hb4
  clear hO
  obtain ⟨Ap, cp, bp, hvp, -, -, -, -, hps, -⟩ := Row.sl hp
  obtain ⟨Ac, cc, bc, hvc, -, -, -, -, hcs, -⟩ := RowC.sl hc
  rw [← HNP.out] at hvp
  rw [← HNC.out] at hvc
  subst hvp hvc
  clear hp hc
  have q11 := BoxD.new_ w4 3 K (.slice Ap np cp) (.slice Ac nc cc)
  replace q9 := q9.alloc (.cells #[.int .u32 3, .int .u32 (K : Int), .slice Ap np cp, .slice Ac nc cc] 38)
  replace hps := Sl.alloc hps (.cells #[.int .u32 3, .int .u32 (K : Int), .slice Ap np cp, .slice Ac nc cc] 38)
  replace hcs := Sl.alloc hcs (.cells #[.int .u32 3, .int .u32 (K : Int), .slice Ap np cp, .slice Ac nc cc] 38)
  replace hb := hb.alloc hb.size (.cells #[.int .u32 3, .int .u32 (K : Int), .slice Ap np cp, .slice Ac nc cc] 38)
  go_upto_region 6 with fail
  obtain ⟨wp, hwp⟩ : ∃ wp, wp = w4.alloc (.cells #[.int .u32 3, .int .u32 (K : Int), .slice Ap np cp, .slice Ac nc cc] 38) := ⟨_, rfl⟩
  rw [show ((3 : Nat) : Int) = 3 from rfl] at *
  rw [← hwp] at hb q9 q11 hps hcs ⊢
  clear hwp
  go_cut [12, 13] (fun s12 s13 wx => ∃ (G : Nat) (wz : World), wz = wx ∧ s12 = .pointer (some ⟨G, 0, none⟩) ∧ s13 = .int .i64 E ∧ BoxL wz G V ∧ BoxL wz w3.heap.size M ∧ Below w.heap.size w wz)
  case first =>
    clear hFu hBd HE HX HNP HNC HMP HMC hMo hnc _hm _h1 _h2 hx hde hKl hVL
    refine wp_region_held_drew (S := fun w' => BoxL w' w3.heap.size M ∧ BoxD w' w4.heap.size 3 K (.slice Ap np cp) (.slice Ac nc cc)) (by kernel_rfl) ?_ (fun hHeld => ?_)
    · exact ⟨q9, q11⟩
    obtain ⟨wd2, hwd2⟩ : ∃ wd2, wd2 = World.drew wp := ⟨_, rfl⟩
    have h9 : Below wp.heap.size wp wd2 := by rw [hwd2]; exact below_drew (Below.refl _ _)
    rw [← hwd2] at hHeld ⊢
    replace q9 := q9.ext h9
    replace q11 := q11.ext h9
    replace hps := Sl.ext hps h9
    replace hcs := Sl.ext hcs h9
    replace hb := hb.trans (h9.mono hb.size)
    clear h9
    clear hwd2
    refine wpAnyH_take (i := 0) (v := ?vt13) (by simp only [List.getElem?_toArray, List.getElem?_cons_zero]; rfl) (by kernel_rfl) (by kernel_rfl) (by kernel_rfl) (by exact fun _ _ _ h => h) (Or.inl ⟨by kernel_rfl, ?yt13⟩) hHeld ?_
    case yt13 => (intro ww hSw; (try dsimp only at hSw); have hy0 := hSw.2.c0; have hy1 := hSw.2.c1; have hy2 := hSw.2.c2; have hy3 := hSw.2.c3; clear hSw; go_simp; try (with_reducible rfl))
    try simp only [Act.put, List.setIfInBounds_toArray, List.set_cons_zero, List.set_cons_succ]
    refine wpAnyH_take (i := 1) (by simp only [List.getElem?_toArray, List.getElem?_cons_succ, List.getElem?_cons_zero]; rfl) (by kernel_rfl) (by kernel_rfl) (by kernel_rfl) (by exact fun _ _ _ h => h) (by exact yieldsIf_ld (by kernel_rfl) (.tmp 9) rfl w3.heap.size rfl M (fun w h => h.1)) hHeld ?_
    try simp only [Act.put, List.setIfInBounds_toArray, List.set_cons_zero, List.set_cons_succ]
    refine wpAnyH_take (i := 2) (v := ?vt14) (by simp only [List.getElem?_toArray, List.getElem?_cons_succ, List.getElem?_cons_zero]; rfl) (by kernel_rfl) (by kernel_rfl) (by kernel_rfl) (by exact fun _ _ _ h => h) (Or.inl ⟨by kernel_rfl, ?yt14⟩) hHeld ?_
    case yt14 => (intro ww hSw; (try dsimp only at hSw); clear hSw; go_simp; try (with_reducible rfl))
    try simp only [Act.put, List.setIfInBounds_toArray, List.set_cons_zero, List.set_cons_succ]
    refine wpAnyH_ready (rs := [3, 8]) (by kernel_rfl) (by simp) ?_
    refine AllReadyH.cons (by simp only [List.getElem?_toArray, List.getElem?_cons_succ, List.getElem?_cons_zero]; rfl) (fun KK hKK => ?_) (AllReadyH.cons (by simp only [List.getElem?_toArray, List.getElem?_cons_succ, List.getElem?_cons_zero]; rfl) (fun KK hKK => ?_) AllReadyH.nil)
    · skip
      rw [if_pos (by kernel_rfl)]
      go_simp
      (with_reducible refine (hVw _).mono ?_)
      rintro e wc6 ⟨rfl, g5⟩
      replace q9 := q9.ext g5
      replace q11 := q11.ext g5
      replace hps := Sl.ext hps g5
      replace hcs := Sl.ext hcs g5
      replace hb := hb.trans (g5.mono hb.size)
      clear g5
      go_wp2_with fail
      refine hKK.out _ _ ?_ (fun hHeld => ?_)
      · exact ⟨q9, q11⟩
      clear hKK KK
      try simp only [Act.put, List.setIfInBounds_toArray, List.set_cons_zero, List.set_cons_succ]
      refine wpAnyH_ready (rs := [4, 8]) (by kernel_rfl) (by simp) ?_
      refine AllReadyH.cons (by simp only [List.getElem?_toArray, List.getElem?_cons_succ, List.getElem?_cons_zero]; rfl) (fun KK hKK => ?_) (AllReadyH.cons (by simp only [List.getElem?_toArray, List.getElem?_cons_succ, List.getElem?_cons_zero]; rfl) (fun KK hKK => ?_) AllReadyH.nil)
      · skip
        rw [if_pos (by kernel_rfl)]
        go_simp
        (with_reducible refine (hA _ Ap Ac cp cc bp bc hps hcs).mono ?_)
        rintro e wc8 ⟨rfl, g7⟩
        replace q9 := q9.ext g7
        replace q11 := q11.ext g7
        replace hps := Sl.ext hps g7
        replace hcs := Sl.ext hcs g7
        replace hb := hb.trans (g7.mono hb.size)
        clear g7
        go_wp2_with fail
        refine hKK.out _ _ ?_ (fun hHeld => ?_)
        · exact ⟨q9, q11⟩
        clear hKK KK
        try simp only [Act.put, List.setIfInBounds_toArray, List.set_cons_zero, List.set_cons_succ]
        refine wpAnyH_take (i := 5) (v := ?vt19) (by simp only [List.getElem?_toArray, List.getElem?_cons_succ, List.getElem?_cons_zero]; rfl) (by kernel_rfl) (by kernel_rfl) (by kernel_rfl) (by exact fun _ _ _ h => h) (Or.inl ⟨by kernel_rfl, ?yt19⟩) hHeld ?_
        case yt19 => (intro ww hSw; (try dsimp only at hSw); clear hSw; go_simp; try (with_reducible rfl))
        try simp only [Act.put, List.setIfInBounds_toArray, List.set_cons_zero, List.set_cons_succ]
        refine wpAnyH_take (i := 6) (v := ?vt110) (by simp only [List.getElem?_toArray, List.getElem?_cons_succ, List.getElem?_cons_zero]; rfl) (by kernel_rfl) (by kernel_rfl) (by kernel_rfl) (by exact fun _ _ _ h => h) (Or.inl ⟨by kernel_rfl, ?yt110⟩) hHeld ?_
        case yt110 => (intro ww hSw; (try dsimp only at hSw); clear hSw; go_simp; try (with_reducible rfl))
        try simp only [Act.put, List.setIfInBounds_toArray, List.set_cons_zero, List.set_cons_succ]
        refine wpAnyH_take (i := 7) (v := ?vt111) (by simp only [List.getElem?_toArray, List.getElem?_cons_succ, List.getElem?_cons_zero]; rfl) (by kernel_rfl) (by kernel_rfl) (by kernel_rfl) (by exact fun _ _ _ h => h) (Or.inl ⟨by kernel_rfl, ?yt111⟩) hHeld ?_
        case yt111 => (intro ww hSw; (try dsimp only at hSw); clear hSw; go_simp; try (with_reducible rfl))
        try simp only [Act.put, List.setIfInBounds_toArray, List.set_cons_zero, List.set_cons_succ]
        refine wpAnyH_ready (rs := [8]) (by kernel_rfl) (by simp) ?_
        refine AllReadyH.cons (by simp only [List.getElem?_toArray, List.getElem?_cons_succ, List.getElem?_cons_zero]; rfl) (fun KK hKK => ?_) AllReadyH.nil
        rw [if_pos (by kernel_rfl)]
        have ne_q9_k12 := Nat.ne_of_lt q9.lt
        have ne_q11_k12 := Nat.ne_of_lt q11.lt
        have ne_hps_k12 := fun h => Nat.ne_of_lt (Sl.lt hps h)
        have ne_hcs_k12 := fun h => Nat.ne_of_lt (Sl.lt hcs h)
        refine wp_al rfl ?_
        obtain ⟨wa12, hwa12⟩ : ∃ wa12, wa12 = wc8.alloc (.cells (bdL []) 32) := ⟨_, rfl⟩
        have h9 : Below wc8.heap.size wc8 wa12 := by rw [hwa12]; exact below_alloc1 _ _
        have q12 : BoxL wa12 wc8.heap.size [] := by rw [hwa12]; exact BoxL.new_ _ _
        rw [← hwa12]
        clear hwa12
        have ha_k12 := hb.size
        replace q9 := q9.ext h9
        replace q11 := q11.ext h9
        replace hps := Sl.ext hps h9
        replace hcs := Sl.ext hcs h9
        replace hb := hb.trans (h9.mono hb.size)
        clear h9
        refine hKK.out _ _ ?_ (fun hHeld => ?_)
        · exact ⟨q9, q11⟩
        clear hKK KK
        try simp only [Act.put, List.setIfInBounds_toArray, List.set_cons_zero, List.set_cons_succ]
        refine wpAnyH_ready (rs := [9]) (by kernel_rfl) (by simp) ?_
        refine AllReadyH.cons (by simp only [List.getElem?_toArray, List.getElem?_cons_succ, List.getElem?_cons_zero]; rfl) (fun KK hKK => ?_) AllReadyH.nil
        rw [if_pos (by kernel_rfl)]
        refine wp_store_row 32 (.tmp 12) (.tmp 40) rfl (wc8.heap.size) (bdL V) rfl rfl _ _ q12 (bd_size _ _ _) (by rw [bdL_size, bdL_size]) (bdA_all _ _ _) ?_
        obtain ⟨ws13, hws13⟩ : ∃ ws13, ws13 = wa12.setRow (wc8.heap.size) (bdL V) := ⟨_, rfl⟩
        replace q9 := q9.orow ne_q9_k12 (bdL V)
        replace q11 := bd_orow q11 ne_q11_k12 (bdL V)
        replace hps := sl_row_ne hps ne_hps_k12 (bdL V)
        replace hcs := sl_row_ne hcs ne_hcs_k12 (bdL V)
        replace q12 := q12.row_ V
        replace hb := below_setRow hb (wc8.heap.size) (bdL V) (by omega)
        rw [← hws13] at hb ⊢
        rw [← hws13] at q9 q11 hps hcs q12
        clear hws13
        refine hKK.out _ _ ?_ (fun hHeld => ?_)
        · exact ⟨q9, q11⟩
        clear hKK KK
        try simp only [Act.put]
        refine wpAnyH_take (i := 10) (v := ?vt114) (by simp only [List.getElem?_toArray, List.getElem?_cons_succ, List.getElem?_cons_zero]; rfl) (by kernel_rfl) (by kernel_rfl) (by kernel_rfl) (by exact fun _ _ _ h => h) (Or.inl ⟨by kernel_rfl, ?yt114⟩) hHeld ?_
        case yt114 => (intro ww hSw; (try dsimp only at hSw); clear hSw; go_simp; try (with_reducible rfl))
        try simp only [Act.put, List.setIfInBounds_toArray, List.set_cons_zero, List.set_cons_succ]
        refine wpAnyH_done (by kernel_rfl) ?_ _
        go_wp2_with fail
        go_meet
        exact ⟨_, _, rfl, rfl, rfl, q12, q9, hb⟩
      · skip
        rw [if_pos (by kernel_rfl)]
        have ne_q9_k12 := Nat.ne_of_lt q9.lt
        have ne_q11_k12 := Nat.ne_of_lt q11.lt
        have ne_hps_k12 := fun h => Nat.ne_of_lt (Sl.lt hps h)
        have ne_hcs_k12 := fun h => Nat.ne_of_lt (Sl.lt hcs h)
        refine wp_al rfl ?_
        obtain ⟨wa15, hwa15⟩ : ∃ wa15, wa15 = wc6.alloc (.cells (bdL []) 32) := ⟨_, rfl⟩
        have h9 : Below wc6.heap.size wc6 wa15 := by rw [hwa15]; exact below_alloc1 _ _
        have q12 : BoxL wa15 wc6.heap.size [] := by rw [hwa15]; exact BoxL.new_ _ _
        rw [← hwa15]
        clear hwa15
        have ha_k12 := hb.size
        replace q9 := q9.ext h9
        replace q11 := q11.ext h9
        replace hps := Sl.ext hps h9
        replace hcs := Sl.ext hcs h9
        replace hb := hb.trans (h9.mono hb.size)
        clear h9
        refine hKK.out _ _ ?_ (fun hHeld => ?_)
        · exact ⟨q9, q11⟩
        clear hKK KK
        try simp only [Act.put, List.setIfInBounds_toArray, List.set_cons_zero, List.set_cons_succ]
        refine wpAnyH_ready (rs := [4]) (by kernel_rfl) (by simp) ?_
        refine AllReadyH.cons (by simp only [List.getElem?_toArray, List.getElem?_cons_succ, List.getElem?_cons_zero]; rfl) (fun KK hKK => ?_) AllReadyH.nil
        rw [if_pos (by kernel_rfl)]
        go_simp
        (with_reducible refine (hA _ Ap Ac cp cc bp bc hps hcs).mono ?_)
        rintro e wc17 ⟨rfl, g16⟩
        replace q9 := q9.ext g16
        replace q11 := q11.ext g16
        replace hps := Sl.ext hps g16
        replace hcs := Sl.ext hcs g16
        replace q12 := q12.ext g16
        replace hb := hb.trans (g16.mono hb.size)
        clear g16
        go_wp2_with fail
        refine hKK.out _ _ ?_ (fun hHeld => ?_)
        · exact ⟨q9, q11⟩
        clear hKK KK
        try simp only [Act.put, List.setIfInBounds_toArray, List.set_cons_zero, List.set_cons_succ]
        refine wpAnyH_take (i := 5) (v := ?vt118) (by simp only [List.getElem?_toArray, List.getElem?_cons_succ, List.getElem?_cons_zero]; rfl) (by kernel_rfl) (by kernel_rfl) (by kernel_rfl) (by exact fun _ _ _ h => h) (Or.inl ⟨by kernel_rfl, ?yt118⟩) hHeld ?_
        case yt118 => (intro ww hSw; (try dsimp only at hSw); clear hSw; go_simp; try (with_reducible rfl))
        try simp only [Act.put, List.setIfInBounds_toArray, List.set_cons_zero, List.set_cons_succ]
        refine wpAnyH_take (i := 6) (v := ?vt119) (by simp only [List.getElem?_toArray, List.getElem?_cons_succ, List.getElem?_cons_zero]; rfl) (by kernel_rfl) (by kernel_rfl) (by kernel_rfl) (by exact fun _ _ _ h => h) (Or.inl ⟨by kernel_rfl, ?yt119⟩) hHeld ?_
        case yt119 => (intro ww hSw; (try dsimp only at hSw); clear hSw; go_simp; try (with_reducible rfl))
        try simp only [Act.put, List.setIfInBounds_toArray, List.set_cons_zero, List.set_cons_succ]
        refine wpAnyH_take (i := 7) (v := ?vt120) (by simp only [List.getElem?_toArray, List.getElem?_cons_succ, List.getElem?_cons_zero]; rfl) (by kernel_rfl) (by kernel_rfl) (by kernel_rfl) (by exact fun _ _ _ h => h) (Or.inl ⟨by kernel_rfl, ?yt120⟩) hHeld ?_
        case yt120 => (intro ww hSw; (try dsimp only at hSw); clear hSw; go_simp; try (with_reducible rfl))
        try simp only [Act.put, List.setIfInBounds_toArray, List.set_cons_zero, List.set_cons_succ]
        refine wpAnyH_ready (rs := [9]) (by kernel_rfl) (by simp) ?_
        refine AllReadyH.cons (by simp only [List.getElem?_toArray, List.getElem?_cons_succ, List.getElem?_cons_zero]; rfl) (fun KK hKK => ?_) AllReadyH.nil
        rw [if_pos (by kernel_rfl)]
        refine wp_store_row 32 (.tmp 12) (.tmp 40) rfl (wc6.heap.size) (bdL V) rfl rfl _ _ q12 (bd_size _ _ _) (by rw [bdL_size, bdL_size]) (bdA_all _ _ _) ?_
        obtain ⟨ws21, hws21⟩ : ∃ ws21, ws21 = wc17.setRow (wc6.heap.size) (bdL V) := ⟨_, rfl⟩
        replace q9 := q9.orow ne_q9_k12 (bdL V)
        replace q11 := bd_orow q11 ne_q11_k12 (bdL V)
        replace hps := sl_row_ne hps ne_hps_k12 (bdL V)
        replace hcs := sl_row_ne hcs ne_hcs_k12 (bdL V)
        replace q12 := q12.row_ V
        replace hb := below_setRow hb (wc6.heap.size) (bdL V) (by omega)
        rw [← hws21] at hb ⊢
        rw [← hws21] at q9 q11 hps hcs q12
        clear hws21
        refine hKK.out _ _ ?_ (fun hHeld => ?_)
        · exact ⟨q9, q11⟩
        clear hKK KK
        try simp only [Act.put]
        refine wpAnyH_take (i := 10) (v := ?vt122) (by simp only [List.getElem?_toArray, List.getElem?_cons_succ, List.getElem?_cons_zero]; rfl) (by kernel_rfl) (by kernel_rfl) (by kernel_rfl) (by exact fun _ _ _ h => h) (Or.inl ⟨by kernel_rfl, ?yt122⟩) hHeld ?_
        case yt122 => (intro ww hSw; (try dsimp only at hSw); clear hSw; go_simp; try (with_reducible rfl))
        try simp only [Act.put, List.setIfInBounds_toArray, List.set_cons_zero, List.set_cons_succ]
        refine wpAnyH_done (by kernel_rfl) ?_ _
        go_wp2_with fail
        go_meet
        exact ⟨_, _, rfl, rfl, rfl, q12, q9, hb⟩
    · skip
      rw [if_pos (by kernel_rfl)]
      have ne_q9_k12 := Nat.ne_of_lt q9.lt
      have ne_q11_k12 := Nat.ne_of_lt q11.lt
      have ne_hps_k12 := fun h => Nat.ne_of_lt (Sl.lt hps h)
      have ne_hcs_k12 := fun h => Nat.ne_of_lt (Sl.lt hcs h)
      refine wp_al rfl ?_
      obtain ⟨wa23, hwa23⟩ : ∃ wa23, wa23 = wd2.alloc (.cells (bdL []) 32) := ⟨_, rfl⟩
      have h9 : Below wd2.heap.size wd2 wa23 := by rw [hwa23]; exact below_alloc1 _ _
      have q12 : BoxL wa23 wd2.heap.size [] := by rw [hwa23]; exact BoxL.new_ _ _
      rw [← hwa23]
      clear hwa23
      have ha_k12 := hb.size
      replace q9 := q9.ext h9
      replace q11 := q11.ext h9
      replace hps := Sl.ext hps h9
      replace hcs := Sl.ext hcs h9
      replace hb := hb.trans (h9.mono hb.size)
      clear h9
      refine hKK.out _ _ ?_ (fun hHeld => ?_)
      · exact ⟨q9, q11⟩
      clear hKK KK
      try simp only [Act.put, List.setIfInBounds_toArray, List.set_cons_zero, List.set_cons_succ]
      refine wpAnyH_ready (rs := [3]) (by kernel_rfl) (by simp) ?_
      refine AllReadyH.cons (by simp only [List.getElem?_toArray, List.getElem?_cons_succ, List.getElem?_cons_zero]; rfl) (fun KK hKK => ?_) AllReadyH.nil
      rw [if_pos (by kernel_rfl)]
      go_simp
      (with_reducible refine (hVw _).mono ?_)
      rintro e wc25 ⟨rfl, g24⟩
      replace q9 := q9.ext g24
      replace q11 := q11.ext g24
      replace hps := Sl.ext hps g24
      replace hcs := Sl.ext hcs g24
      replace q12 := q12.ext g24
      replace hb := hb.trans (g24.mono hb.size)
      clear g24
      go_wp2_with fail
      refine hKK.out _ _ ?_ (fun hHeld => ?_)
      · exact ⟨q9, q11⟩
      clear hKK KK
      try simp only [Act.put, List.setIfInBounds_toArray, List.set_cons_zero, List.set_cons_succ]
      refine wpAnyH_ready (rs := [4]) (by kernel_rfl) (by simp) ?_
      refine AllReadyH.cons (by simp only [List.getElem?_toArray, List.getElem?_cons_succ, List.getElem?_cons_zero]; rfl) (fun KK hKK => ?_) AllReadyH.nil
      rw [if_pos (by kernel_rfl)]
      go_simp
      (with_reducible refine (hA _ Ap Ac cp cc bp bc hps hcs).mono ?_)
      rintro e wc27 ⟨rfl, g26⟩
      replace q9 := q9.ext g26
      replace q11 := q11.ext g26
      replace hps := Sl.ext hps g26
      replace hcs := Sl.ext hcs g26
      replace q12 := q12.ext g26
      replace hb := hb.trans (g26.mono hb.size)
      clear g26
      go_wp2_with fail
      refine hKK.out _ _ ?_ (fun hHeld => ?_)
      · exact ⟨q9, q11⟩
      clear hKK KK
      try simp only [Act.put, List.setIfInBounds_toArray, List.set_cons_zero, List.set_cons_succ]
      refine wpAnyH_take (i := 5) (v := ?vt128) (by simp only [List.getElem?_toArray, List.getElem?_cons_succ, List.getElem?_cons_zero]; rfl) (by kernel_rfl) (by kernel_rfl) (by kernel_rfl) (by exact fun _ _ _ h => h) (Or.inl ⟨by kernel_rfl, ?yt128⟩) hHeld ?_
      case yt128 => (intro ww hSw; (try dsimp only at hSw); clear hSw; go_simp; try (with_reducible rfl))
      try simp only [Act.put, List.setIfInBounds_toArray, List.set_cons_zero, List.set_cons_succ]
      refine wpAnyH_take (i := 6) (v := ?vt129) (by simp only [List.getElem?_toArray, List.getElem?_cons_succ, List.getElem?_cons_zero]; rfl) (by kernel_rfl) (by kernel_rfl) (by kernel_rfl) (by exact fun _ _ _ h => h) (Or.inl ⟨by kernel_rfl, ?yt129⟩) hHeld ?_
      case yt129 => (intro ww hSw; (try dsimp only at hSw); clear hSw; go_simp; try (with_reducible rfl))
      try simp only [Act.put, List.setIfInBounds_toArray, List.set_cons_zero, List.set_cons_succ]
      refine wpAnyH_take (i := 7) (v := ?vt130) (by simp only [List.getElem?_toArray, List.getElem?_cons_succ, List.getElem?_cons_zero]; rfl) (by kernel_rfl) (by kernel_rfl) (by kernel_rfl) (by exact fun _ _ _ h => h) (Or.inl ⟨by kernel_rfl, ?yt130⟩) hHeld ?_
      case yt130 => (intro ww hSw; (try dsimp only at hSw); clear hSw; go_simp; try (with_reducible rfl))
      try simp only [Act.put, List.setIfInBounds_toArray, List.set_cons_zero, List.set_cons_succ]
      refine wpAnyH_ready (rs := [9]) (by kernel_rfl) (by simp) ?_
      refine AllReadyH.cons (by simp only [List.getElem?_toArray, List.getElem?_cons_succ, List.getElem?_cons_zero]; rfl) (fun KK hKK => ?_) AllReadyH.nil
      rw [if_pos (by kernel_rfl)]
      refine wp_store_row 32 (.tmp 12) (.tmp 40) rfl (wd2.heap.size) (bdL V) rfl rfl _ _ q12 (bd_size _ _ _) (by rw [bdL_size, bdL_size]) (bdA_all _ _ _) ?_
      obtain ⟨ws31, hws31⟩ : ∃ ws31, ws31 = wc27.setRow (wd2.heap.size) (bdL V) := ⟨_, rfl⟩
      replace q9 := q9.orow ne_q9_k12 (bdL V)
      replace q11 := bd_orow q11 ne_q11_k12 (bdL V)
      replace hps := sl_row_ne hps ne_hps_k12 (bdL V)
      replace hcs := sl_row_ne hcs ne_hcs_k12 (bdL V)
      replace q12 := q12.row_ V
      replace hb := below_setRow hb (wd2.heap.size) (bdL V) (by omega)
      rw [← hws31] at hb ⊢
      rw [← hws31] at q9 q11 hps hcs q12
      clear hws31
      refine hKK.out _ _ ?_ (fun hHeld => ?_)
      · exact ⟨q9, q11⟩
      clear hKK KK
      try simp only [Act.put]
      refine wpAnyH_take (i := 10) (v := ?vt132) (by simp only [List.getElem?_toArray, List.getElem?_cons_succ, List.getElem?_cons_zero]; rfl) (by kernel_rfl) (by kernel_rfl) (by kernel_rfl) (by exact fun _ _ _ h => h) (Or.inl ⟨by kernel_rfl, ?yt132⟩) hHeld ?_
      case yt132 => (intro ww hSw; (try dsimp only at hSw); clear hSw; go_simp; try (with_reducible rfl))
      try simp only [Act.put, List.setIfInBounds_toArray, List.set_cons_zero, List.set_cons_succ]
      refine wpAnyH_done (by kernel_rfl) ?_ _
      go_wp2_with fail
      go_meet
      exact ⟨_, _, rfl, rfl, rfl, q12, q9, hb⟩
  case rest =>
    clear q9 q11 hps hcs hb hA
    obtain ⟨G12, wz, rfl, rfl, rfl, q12, q9, hb⟩ := hcut
    go_wp2_with (first | ((with_reducible refine at_ld 32 9 ?_); refine wpList_ld rfl (.tmp 9) rfl w3.heap.size rfl M q9 ?_) | ((with_reducible refine at_ld 32 12 ?_); refine wpList_ld rfl (.tmp 12) rfl G12 rfl V q12 ?_))
    refine (hFu _).mono ?_
    rintro e w5 ⟨vp, vc, rfl, hp, hc, hb5⟩
    replace q9 := q9.ext hb5
    replace q12 := q12.ext hb5
    replace hb := hb.trans (hb5.mono hb.size)
    clear hb5
    clear hFu
    obtain ⟨Aq, cq, bq, hvp, -, -, -, -, hps, -⟩ := Row.sl hp
    obtain ⟨Ar, cr, br, hvc, -, -, -, -, hcs, -⟩ := RowC.sl hc
    rw [← HMP.out] at hvp
    rw [← HMC.out] at hvc
    subst hvp hvc
    clear hp hc
    have q14 := BoxD.new_ w5 3 K (.slice Aq mp cq) (.slice Ar mc cr)
    replace q9 := q9.alloc (.cells #[.int .u32 3, .int .u32 (K : Int), .slice Aq mp cq, .slice Ar mc cr] 38)
    replace q12 := q12.alloc (.cells #[.int .u32 3, .int .u32 (K : Int), .slice Aq mp cq, .slice Ar mc cr] 38)
    replace hps := Sl.alloc hps (.cells #[.int .u32 3, .int .u32 (K : Int), .slice Aq mp cq, .slice Ar mc cr] 38)
    replace hcs := Sl.alloc hcs (.cells #[.int .u32 3, .int .u32 (K : Int), .slice Aq mp cq, .slice Ar mc cr] 38)
    replace hb := hb.alloc hb.size (.cells #[.int .u32 3, .int .u32 (K : Int), .slice Aq mp cq, .slice Ar mc cr] 38)
    obtain ⟨e0, e1, e2, e3⟩ := And.intro q14.c0 (And.intro q14.c1 (And.intro q14.c2 q14.c3))
    rw [show ((3 : Nat) : Int) = 3 from rfl] at e0
    clear q14
    go_wp2_with (first | ((with_reducible refine at_ld 32 9 ?_); refine wpList_ld rfl (.tmp 9) rfl w3.heap.size rfl M q9 ?_) | ((with_reducible refine at_ld 32 12 ?_); refine wpList_ld rfl (.tmp 12) rfl G12 rfl V q12 ?_))
    clear e0 e1 e2 e3
    refine (hBd _ Aq Ar cq cr bq br hps hcs).mono ?_
    rintro e w6 ⟨rfl, hb6⟩
    replace q9 := q9.ext hb6
    replace q12 := q12.ext hb6
    replace hps := Sl.ext hps hb6
    replace hcs := Sl.ext hcs hb6
    replace hb := hb.trans (hb6.mono hb.size)
    clear hb6
    clear hBd
    clear hps hcs
    replace q9 := q9.alloc (.cells (bdL X) 32)
    replace q12 := q12.alloc (.cells (bdL X) 32)
    replace hb := hb.alloc hb.size (.cells (bdL X) 32)
    have q15 := BoxL.new_ w6 X
    have he := HE.out
    cases d with
    | true =>
      simp only [if_true] at he
      subst he
      go_wp2_with (first | ((with_reducible refine at_al 32 15 ?_); refine wpList_al rfl rfl (some 15) rfl w6.heap.size rfl ?_) | ((with_reducible refine at_st 32 15 53 ?_); refine wpList_put rfl (.tmp 15) (.tmp 53) rfl rfl X rfl rfl ?_) | ((with_reducible refine at_ld 32 9 ?_); refine wpList_ld rfl (.tmp 9) rfl w3.heap.size rfl M q9 ?_) | ((with_reducible refine at_ld 32 12 ?_); refine wpList_ld rfl (.tmp 12) rfl G12 rfl V q12 ?_) | ((with_reducible refine at_ld 32 15 ?_); refine wpList_ld rfl (.tmp 15) rfl w6.heap.size rfl X q15 ?_))
      go_ret
      exact ⟨rfl, hb⟩
    | false =>
      simp only [Bool.false_eq_true, if_false] at he
      subst he
      go_wp2_with (first | ((with_reducible refine at_al 32 15 ?_); refine wpList_al rfl rfl (some 15) rfl w6.heap.size rfl ?_) | ((with_reducible refine at_st 32 15 53 ?_); refine wpList_put rfl (.tmp 15) (.tmp 53) rfl rfl X rfl rfl ?_) | ((with_reducible refine at_ld 32 9 ?_); refine wpList_ld rfl (.tmp 9) rfl w3.heap.size rfl M q9 ?_) | ((with_reducible refine at_ld 32 12 ?_); refine wpList_ld rfl (.tmp 12) rfl G12 rfl V q12 ?_) | ((with_reducible refine at_ld 32 15 ?_); refine wpList_ld rfl (.tmp 15) rfl w6.heap.size rfl X q15 ?_))
      refine wp_region_held_drew (S := fun w' => BoxL w' G12 V ∧ BoxL w' w3.heap.size M) (by kernel_rfl) ?_ (fun hHeld => ?_)
      · exact ⟨q12, q9⟩
      obtain ⟨wd34, hwd34⟩ : ∃ wd34, wd34 = World.drew (w6.alloc (.cells (bdL X) 32)) := ⟨_, rfl⟩
      have h9 : Below (w6.alloc (.cells (bdL X) 32)).heap.size (w6.alloc (.cells (bdL X) 32)) wd34 := by rw [hwd34]; exact below_drew (Below.refl _ _)
      rw [← hwd34] at hHeld ⊢
      replace q12 := q12.ext h9
      replace q9 := q9.ext h9
      replace hb := hb.trans (h9.mono hb.size)
      clear h9
      clear hwd34
      refine wpAnyH_take (i := 0) (v := ?vt3335) (by simp only [List.getElem?_toArray, List.getElem?_cons_zero]; rfl) (by kernel_rfl) (by kernel_rfl) (by kernel_rfl) (by exact fun _ _ _ h => h) (Or.inl ⟨by kernel_rfl, ?yt3335⟩) hHeld ?_
      case yt3335 => (intro ww hSw; (try dsimp only at hSw); clear hSw; go_simp; try (with_reducible rfl))
      try simp only [Act.put, List.setIfInBounds_toArray, List.set_cons_zero, List.set_cons_succ]
      refine wpAnyH_take (i := 1) (v := ?vt3336) (by simp only [List.getElem?_toArray, List.getElem?_cons_succ, List.getElem?_cons_zero]; rfl) (by kernel_rfl) (by kernel_rfl) (by kernel_rfl) (by exact fun _ _ _ h => h) (Or.inl ⟨by kernel_rfl, ?yt3336⟩) hHeld ?_
      case yt3336 => (intro ww hSw; (try dsimp only at hSw); clear hSw; go_simp; try (with_reducible rfl))
      try simp only [Act.put, List.setIfInBounds_toArray, List.set_cons_zero, List.set_cons_succ]
      refine wpAnyH_take (i := 2) (v := ?vt3337) (by simp only [List.getElem?_toArray, List.getElem?_cons_succ, List.getElem?_cons_zero]; rfl) (by kernel_rfl) (by kernel_rfl) (by kernel_rfl) (by exact fun _ _ _ h => h) (Or.inl ⟨by kernel_rfl, ?yt3337⟩) hHeld ?_
      case yt3337 => (intro ww hSw; (try dsimp only at hSw); clear hSw; go_simp; try (with_reducible rfl))
      try simp only [Act.put, List.setIfInBounds_toArray, List.set_cons_zero, List.set_cons_succ]
      refine wpAnyH_take (i := 3) (v := ?vt3338) (by simp only [List.getElem?_toArray, List.getElem?_cons_succ, List.getElem?_cons_zero]; rfl) (by kernel_rfl) (by kernel_rfl) (by kernel_rfl) (by exact fun _ _ _ h => h) (Or.inl ⟨by kernel_rfl, ?yt3338⟩) hHeld ?_
      case yt3338 => (intro ww hSw; (try dsimp only at hSw); clear hSw; go_simp; try (with_reducible rfl))
      try simp only [Act.put, List.setIfInBounds_toArray, List.set_cons_zero, List.set_cons_succ]
      refine wpAnyH_take (i := 4) (v := ?vt3339) (by simp only [List.getElem?_toArray, List.getElem?_cons_succ, List.getElem?_cons_zero]; rfl) (by kernel_rfl) (by kernel_rfl) (by kernel_rfl) (by exact fun _ _ _ h => h) (Or.inl ⟨by kernel_rfl, ?yt3339⟩) hHeld ?_
      case yt3339 => (intro ww hSw; (try dsimp only at hSw); clear hSw; go_simp; try (with_reducible rfl))
      try simp only [Act.put, List.setIfInBounds_toArray, List.set_cons_zero, List.set_cons_succ]
      refine wpAnyH_take (i := 5) (v := ?vt3340) (by simp only [List.getElem?_toArray, List.getElem?_cons_succ, List.getElem?_cons_zero]; rfl) (by kernel_rfl) (by kernel_rfl) (by kernel_rfl) (by exact fun _ _ _ h => h) (Or.inl ⟨by kernel_rfl, ?yt3340⟩) hHeld ?_
      case yt3340 => (intro ww hSw; (try dsimp only at hSw); clear hSw; go_simp; try (with_reducible rfl))
      try simp only [Act.put, List.setIfInBounds_toArray, List.set_cons_zero, List.set_cons_succ]
      refine wpAnyH_take (i := 6) (v := ?vt3341) (by simp only [List.getElem?_toArray, List.getElem?_cons_succ, List.getElem?_cons_zero]; rfl) (by kernel_rfl) (by kernel_rfl) (by kernel_rfl) (by exact fun _ _ _ h => h) (Or.inl ⟨by kernel_rfl, ?yt3341⟩) hHeld ?_
      case yt3341 => (intro ww hSw; (try dsimp only at hSw); clear hSw; go_simp; try (with_reducible rfl))
      try simp only [Act.put, List.setIfInBounds_toArray, List.set_cons_zero, List.set_cons_succ]
      refine wpAnyH_take (i := 7) (by simp only [List.getElem?_toArray, List.getElem?_cons_succ, List.getElem?_cons_zero]; rfl) (by kernel_rfl) (by kernel_rfl) (by kernel_rfl) (by exact fun _ _ _ h => h) (by exact yieldsIf_ld (by kernel_rfl) (.tmp 12) rfl G12 rfl V (fun w h => h.1)) hHeld ?_
      try simp only [Act.put, List.setIfInBounds_toArray, List.set_cons_zero, List.set_cons_succ]
      refine wpAnyH_take (i := 8) (by simp only [List.getElem?_toArray, List.getElem?_cons_succ, List.getElem?_cons_zero]; rfl) (by kernel_rfl) (by kernel_rfl) (by kernel_rfl) (by exact fun _ _ _ h => h) (by exact yieldsIf_ld (by kernel_rfl) (.tmp 9) rfl w3.heap.size rfl M (fun w h => h.2)) hHeld ?_
      try simp only [Act.put, List.setIfInBounds_toArray, List.set_cons_zero, List.set_cons_succ]
      refine wpAnyH_take (i := 9) (v := ?vt3342) (by simp only [List.getElem?_toArray, List.getElem?_cons_succ, List.getElem?_cons_zero]; rfl) (by kernel_rfl) (by kernel_rfl) (by kernel_rfl) (by exact fun _ _ _ h => h) (Or.inl ⟨by kernel_rfl, ?yt3342⟩) hHeld ?_
      case yt3342 => (intro ww hSw; (try dsimp only at hSw); clear hSw; go_simp; try (with_reducible rfl))
      try simp only [Act.put, List.setIfInBounds_toArray, List.set_cons_zero, List.set_cons_succ]
      refine wpAnyH_ready (rs := [10]) (by kernel_rfl) (by simp) ?_
      refine AllReadyH.cons (by simp only [List.getElem?_toArray, List.getElem?_cons_succ, List.getElem?_cons_zero]; rfl) (fun KK hKK => ?_) AllReadyH.nil
      rw [if_pos (by kernel_rfl)]
      go_simp
      (with_reducible refine (hVw _).mono ?_)
      rintro e wc44 ⟨rfl, g43⟩
      replace q12 := q12.ext g43
      replace q9 := q9.ext g43
      replace hb := hb.trans (g43.mono hb.size)
      clear g43
      go_wp2_with fail
      refine hKK.out _ _ ?_ (fun hHeld => ?_)
      · exact ⟨q12, q9⟩
      clear hKK KK
      try simp only [Act.put, List.setIfInBounds_toArray, List.set_cons_zero, List.set_cons_succ]
      refine wpAnyH_take (i := 11) (by simp only [List.getElem?_toArray, List.getElem?_cons_succ, List.getElem?_cons_zero]; rfl) (by kernel_rfl) (by kernel_rfl) (by kernel_rfl) (by exact fun _ _ _ h => h) (by exact yieldsIf_eql (by kernel_rfl) (.tmp 70) (.tmp 73) rfl V V rfl rfl hVL true (by simp)) hHeld ?_
      try simp only [Act.put, List.setIfInBounds_toArray, List.set_cons_zero, List.set_cons_succ]
      refine wpAnyH_take (i := 12) (v := ?vt3345) (by simp only [List.getElem?_toArray, List.getElem?_cons_succ, List.getElem?_cons_zero]; rfl) (by kernel_rfl) (by kernel_rfl) (by kernel_rfl) (by exact fun _ _ _ h => h) (Or.inl ⟨by kernel_rfl, ?yt3345⟩) hHeld ?_
      case yt3345 => (intro ww hSw; (try dsimp only at hSw); clear hSw; go_simp; try (with_reducible rfl))
      try simp only [Act.put, List.setIfInBounds_toArray, List.set_cons_zero, List.set_cons_succ]
      refine wpAnyH_take (i := 13) (v := ?vt3346) (by simp only [List.getElem?_toArray, List.getElem?_cons_succ, List.getElem?_cons_zero]; rfl) (by kernel_rfl) (by kernel_rfl) (by kernel_rfl) (by exact fun _ _ _ h => h) (Or.inl ⟨by kernel_rfl, ?yt3346⟩) hHeld ?_
      case yt3346 => (intro ww hSw; (try dsimp only at hSw); clear hSw; go_simp; try (with_reducible rfl))
      try simp only [Act.put, List.setIfInBounds_toArray, List.set_cons_zero, List.set_cons_succ]
      refine wpAnyH_done (by kernel_rfl) ?_ _
      go_wp2_with fail
      go_ret
      exact ⟨rfl, hb⟩
end Go.Proofs.Ytpppjlcfhijdgaa
