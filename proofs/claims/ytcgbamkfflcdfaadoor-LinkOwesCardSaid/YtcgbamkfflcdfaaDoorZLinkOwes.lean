/- LinkOwes: the walk. Conditions: the numbers fit; the library's table lies as it lays it. -/
import Derived.Test.YtcgbamkfflcdfaaDoorZLkBase
namespace Go.Proofs.YtcgbamkfflcdfaaDoor
open Go.RowKit
set_option linter.unusedVariables false

theorem bs_new (w : World) (l : List UInt8) : Bs (w.alloc (.cells (bv l).toArray 5)) w.heap.size (some ⟨w.heap.size, 0, none⟩) l := sl_newF w (bv l) _
/-- What is known of one who took the first frame. -/
structure Took1 (ep : Nat) (p : Pk) : Prop where
  still : p.Still
  ep_ : p.L.ep = ep
  nx : p.L.nx = 0
  cn : p.L.cn = 1
  cb : p.L.cb = 0
  ow : p.L.ow = true
theorem took1 (ep : Nat) (fr : Fr) (hs : fr.seq = 0) (ha : fr.alone = false) : Took1 ep (takesP (newP ep) [fr]) := by
  have e : takesP (newP ep) [fr] = (takeP (newP ep) fr).1 := rfl
  rw [e]
  unfold takeP
  rw [if_neg (by rw [ha]; decide), hs]
  have hn : noteN (newP ep).L.cn (newP ep).L.cb 0 = some (1, 0) := by
    show noteN 0 0 0 = _
    decide +kernel
  simp only [hn]
  exact ⟨⟨rfl, by show keepX fr [] = []; rfl⟩, rfl, rfl, rfl, rfl, rfl⟩
set_option maxHeartbeats 16000000 in
set_option maxRecDepth 20000 in
theorem LinkOwes_walk (ep : Nat) (say : Bool) (n : Nat) (w : World) (hTab : Tab w) (h1 : ep ≤ 65535) (h2 : n ≤ 255) :
    Calls Tryd.prog 10 #[.int .u16 (ep : Int), .bool say, .int .u8 (n : Int)] w fun e w' => e = .returned (.bool true) ∧ Below w.heap.size w w' := by
  obtain ⟨x, hx⟩ : ∃ x : UInt8, x.toNat = n := ⟨UInt8.ofNat n, by rw [UInt8.toNat_ofNat']; omega⟩
  have HX := Lib.hid hx
  have HT0 := Lib.hid hTab
  clear hx hTab
  go_enter Tryd.func10, Tryd.ntmps10
  go_wp2_with fail
  refine (awake_calls w).mono ?_
  rintro e w1 ⟨rfl, hb⟩
  go_wp2_with fail
  refine (LrNew_calls ep _ rfl w1).mono ?_
  rintro e w2 ⟨ga, rfl, hla, hb2⟩
  have ht1 := Tab.ext HT0.out hb
  have ht2 := Tab.ext ht1 hb2
  have hs1 := hb.size
  replace hb := hb.trans (hb2.mono hb.size)
  clear hb2
  go_wp2_with fail
  refine (LrNew_calls ep _ rfl w2).mono ?_
  rintro e w3 ⟨gb, rfl, hlb, hb3⟩
  have hP := L2.new ht2 (tab_lt ht1) hla hb3 hlb
  have hs2 := hb.size
  replace hb := hb.trans (hb3.mono hb.size)
  clear hb3 hla hlb ht1 ht2
  obtain ⟨Ba, hBa⟩ : ∃ Ba, Ba = w1.heap.size := ⟨_, rfl⟩
  obtain ⟨Bb, hBb⟩ : ∃ Bb, Bb = w2.heap.size := ⟨_, rfl⟩
  rw [← hBa, ← hBb] at hP
  rw [← hBa] at hs1
  rw [← hBb] at hs2
  clear hBa hBb
  have hok0 := newP_ok (ep := ep) (by omega)
  have HK := Lib.hid (L2Tick hP.symm 0 0 hok0 (by omega) (by omega) 0 [] (by rw [still_told ⟨rfl, rfl⟩]; rfl) rfl)
  clear hP
  go_wp2_with fail
  refine HK.out.mono ?_
  rintro e w4 ⟨A0, c0, us0, rfl, hP, -, hT⟩
  replace hb := hb.trans (hT.bel.mono hs2)
  rw [show tickP 0 (newP ep) = newP ep from rfl] at hP
  have HP := Lib.hid hP.symm.free
  clear HK hP hT
  go_wp2_with fail
  have hba := below_alloc1 w4 (.cells #[.int .u8 (n : Int)] 5)
  have hbs := bs_new w4 [x]
  rw [show (bv [x]).toArray = #[Value.int .u8 (n : Int)] by simp [bv, HX.out]] at hbs
  have HS := Lib.hid (L2Send (HP.out.ext hba) (some ⟨w4.heap.size, 0, none⟩) [x] 1 1 w4.heap.size hbs rfl (by omega) (by omega) (by simp [maxLen]) (by show 0 + cnt 1 ≤ 128; decide))
  replace hb := hb.trans (hba.mono hb.size)
  clear HP hba hbs
  refine HS.out.mono ?_
  rintro e w5 ⟨rfl, hP, hT⟩
  replace hb := hb.trans (hT.bel.mono hs1)
  obtain ⟨pa, hpa⟩ : ∃ pa, pa = sendP (newP ep) [x] := ⟨_, rfl⟩
  rw [← hpa] at hP
  have hpw : pa.ws = [⟨true, true, [x]⟩] := by rw [hpa]; show [] ++ splitP [x] = _; rw [split_one (by simp)]; rfl
  have hpx : pa.xs = [] := by rw [hpa]; rfl
  have hpL : pa.L = ⟨ep, 0, 0, 0, false, false⟩ := by rw [hpa]; rfl
  have hok1 : pa.Ok 1 := by rw [hpa]; exact (sendP_ok hok0 [x]).mono (by simp [cnt])
  obtain ⟨fr, hfr⟩ : ∃ fr, fr = frK pa.L ⟨⟨true, true, [x]⟩, 0, false, 0⟩ := ⟨_, rfl⟩
  have hto : toldP 0 pa = [fr] := by rw [fresh_told 0 0 hpx (by rw [hpL]) (by rw [hpw]; simp) (by rw [hpw]; simp) (by omega), hpw, hfr]; rfl
  have hfo := fr_ok (L := pa.L) (ws := pa.ws) (n := 0) (by rw [hpL]; show ep < 65536; omega) (by rw [hpL]; show (0 : Nat) < 65536; decide) (by rw [hpL]; show (0 : Nat) < 4294967296; decide) (by rw [hpw]; simp) (by rw [hpw]; intro y hy; simp at hy; rw [hy]; simp) fr (by rw [hpw, hfr]; simp [flyF])
  have hfep : fr.epoch = ep := by rw [hfo.2.2.1, hpL]
  have HK := Lib.hid (L2Tick hP 1 0 hok1 (by omega) (by omega) 1 [fr] hto rfl)
  have HTK := Lib.hid (took1 ep fr (by rw [hfr]; rfl) hfo.2.2.2)
  have HFO := Lib.hid hfo
  have HFE := Lib.hid hfep
  clear HS hP hT hpa hpw hpx hpL hok1 hfr hto hfo hfep
  go_wp2_with fail
  refine HK.out.mono ?_
  rintro e w6 ⟨A1, c1, us1, rfl, hP, hTo, hT⟩
  replace hb := hb.trans (hT.bel.mono hs1)
  obtain ⟨Z, hZ⟩ : ∃ Z : Nat → Prop, Z = fun i => w5.heap.size ≤ i ∧ i < w6.heap.size := ⟨_, rfl⟩
  have hP1 : L2 w6 Ba ga (tickP 0 pa) 0 Bb gb (newP ep) 0 noZ Z := hP.mono (fun i h => h) (fun i hi => .inr (by rw [hZ] at hi; exact hi))
  rw [← hZ] at hTo
  obtain ⟨pT, hpT⟩ : ∃ pT, pT = tickP 0 pa := ⟨_, rfl⟩
  rw [← hpT] at hP1
  have HP := Lib.hid hP1
  have HTO := Lib.hid hTo
  have HB := Lib.hid hb
  have hcap := hTo.cap
  have hws := hb.size
  clear HK hP hP1 hT hZ hTo hpT hb
  go_wp2_with fail
  go_loopw [31] (fun i wr => ∃ k : Nat, k ≤ 1 ∧ i = .int .i64 k ∧ L2 wr Ba ga pT 0 Bb gb (takesP (newP ep) ([fr].take k)) k noZ Z ∧ ToldZ wr Z A1 1 c1 us1 [fr] ∧ Below w.heap.size w wr) (fun i _ => 1 - (intOf i).toNat)
  case atStart => exact ⟨0, Nat.zero_le _, rfl, HP.out, HTO.out, HB.out⟩
  case round =>
    clear HP HTO HB
    obtain ⟨k, hk, rfl, hP, hTo, hb⟩ := hrel
    by_cases hlt : k < 1
    · obtain rfl : k = 0 := by omega
      obtain ⟨g, oa, A5, m5, c5, b5, hA, ca, hl5, hc5, hs5⟩ := hTo.at_ hlt (by simp)
      subst hA
      rw [Nat.add_zero] at ca
      obtain ⟨ho, hr, -, ha⟩ := HFO.out
      have HT := Lib.hid (L2Take hP.symm 0 fr A5 m5 c5 b5 (takesP_ok hok0 _) (by omega) (by omega) ho hr hs5 hl5 hc5 (by rw [HFE.out]; rfl) _ rfl)
      have HTO := Lib.hid hTo
      have HB := Lib.hid hb
      have HTO8 := hP.symm.hA
      clear hl5 hc5 hs5 ho hr ha hP hTo hb
      go_wp2_with fail
      refine HT.out.mono ?_
      rintro e wt ⟨A6, c6, us6, rfl, hP, -, -, hK, -⟩
      have hTo := HTO.out.kept hK
      have hbn := HB.out.trans ((hK.below HTO8).mono hs2)
      have HPN := Lib.hid hP.symm
      clear HT hK ca HTO HB hP
      go_wp2_with fail
      go_roundw
      case rel => exact ⟨1, by omega, by go_num, HPN.out, hTo, hbn⟩
      case measure => simp [intOf]
    · obtain rfl : k = 1 := by omega
      clear hlt
      rw [show [fr].take 1 = [fr] from rfl] at hP
      obtain ⟨pb, hpb⟩ : ∃ pb, pb = takesP (newP ep) [fr] := ⟨_, rfl⟩
      rw [← hpb] at hP HTK
      have hokb : pb.Ok 0 := by rw [hpb]; exact takesP_ok hok0 _
      have HP := Lib.hid hP.free
      have HB := Lib.hid hb
      clear hP hTo hb hpb
      cases say
      · obtain ⟨hst, hep, hnx, hcn, hcb, how⟩ := HTK.out
        have hto1 : toldP 1 pb = [aloneF pb.L] := by rw [still_told hst, if_pos how]
        have htk1 := still_tick hst 1
        have hst2 : (tickP 1 pb).Still := by rw [htk1]; exact ⟨hst.ws, hst.xs⟩
        have hN2 : toldP 2 (tickP 1 pb) = [] := by rw [still_told hst2, htk1]; rfl
        have hok2 := tickP_ok hokb 1 (by omega)
        obtain ⟨hfo, hfr⟩ := alone_ok (L := pb.L) hokb.ep hokb.cn hokb.cb
        obtain ⟨fb, hfb⟩ : ∃ fb, fb = aloneF pb.L := ⟨_, rfl⟩
        rw [← hfb] at hto1 hfo hfr
        have hfn : fb.next = 1 := by rw [hfb]; exact hcn
        have hfe : fb.epoch = ep := by rw [hfb]; exact hep
        have hfa : fb.alone = true := by rw [hfb]; rfl
        have HK := Lib.hid (L2Tick HP.out.symm 0 1 hokb (by omega) (by omega) 1 [fb] hto1 rfl)
        have HN2 := Lib.hid hN2
        have HFN := Lib.hid hfn
        have HFE2 := Lib.hid hfe
        have HFA := Lib.hid hfa
        obtain ⟨pc, hpc⟩ : ∃ pc, pc = tickP 1 pb := ⟨_, rfl⟩
        rw [← hpc] at HK HN2 hok2
        clear HTK hst hep hnx hcn hcb how hto1 htk1 hst2 hN2 hfb hfn hfe hfa hokb HP hpc
        go_wp2_with fail
        refine HK.out.mono ?_
        rintro e w8 ⟨A7, c7, us7, rfl, hP, hTo, hT⟩
        have HP3 := Lib.hid hP.symm
        have HTO2 := Lib.hid hTo
        have HB2 := Lib.hid (HB.out.trans (hT.bel.mono hs2))
        clear HK hP hTo hT HB
        go_wp2_with fail
        refine (L2Tick HP3.out.symm 0 2 hok2 (by omega) (by omega) 0 [] HN2.out rfl).mono ?_
        rintro e w9 ⟨A8, c8, us8, rfl, -, -, hT2⟩
        have hTo9 := HTO2.out.keepT hT2
        have hb9 := HB2.out.trans (hT2.bel.mono hs2)
        obtain ⟨g, oa, A5, m5, c5, b5, hA, ca, hl5, hc5, hs5⟩ := hTo9.at_ (k := 0) (by omega) (by simp)
        have hcap2 := hTo9.cap
        subst hA
        have HPR := Lib.hid (Parse_own fb A5 m5 c5 b5 w9 hfo hfr hs5 hl5 hc5)
        have HB9 := Lib.hid hb9
        have ca0 := ca
        rw [Nat.add_zero] at ca0
        clear hl5 hc5 hs5 hTo9 hb9 HP3 HTO2 HN2 HB2 hT2 ca
        go_wp2_with fail
        refine HPR.out.mono ?_
        rintro e w10 ⟨A11, c11, b11, rfl, -, -, hb11⟩
        have HB10 := Lib.hid (HB9.out.trans (hb11.mono HB9.out.size))
        clear HPR hb11
        have f0 := (show (fb.next : Int) = 1 by rw [HFN.out]; rfl)
        have f1 := (show (fb.epoch : Int) = (ep : Int) by rw [HFE2.out])
        have f2 := HFA.out
        go_wp2_with fail
        go_ret
        exact ⟨rfl, HB10.out.trans ((below_alloc1 w10 _).mono HB10.out.size)⟩
      · obtain ⟨hst, hep, hnx, hcn, hcb, how⟩ := HTK.out
        go_wp2_with fail
        have hba := below_alloc1 wr (.cells #[.int .u8 (n : Int), .int .u8 (n : Int)] 5)
        have hbs := bs_new wr [x, x]
        rw [show (bv [x, x]).toArray = #[Value.int .u8 (n : Int), .int .u8 (n : Int)] by simp [bv, HX.out]] at hbs
        have HS := Lib.hid (L2Send (HP.out.ext hba).symm (some ⟨wr.heap.size, 0, none⟩) [x, x] 2 2 wr.heap.size hbs rfl (by omega) (by omega) (by simp [maxLen]) (by rw [hst.ws]; show 0 + cnt 2 ≤ 128; decide))
        replace HB := Lib.hid (HB.out.trans (hba.mono HB.out.size))
        clear HP hba hbs
        refine HS.out.mono ?_
        rintro e w7 ⟨rfl, hP, hT⟩
        replace HB := Lib.hid (HB.out.trans (hT.bel.mono hs2))
        obtain ⟨pd, hpd⟩ : ∃ pd, pd = sendP pb [x, x] := ⟨_, rfl⟩
        rw [← hpd] at hP
        have hpw : pd.ws = [⟨true, true, [x, x]⟩] := by rw [hpd]; show pb.ws ++ splitP [x, x] = _; rw [hst.ws, split_one (by simp)]; rfl
        have hpx : pd.xs = [] := by rw [hpd]; exact hst.xs
        have hpL : pd.L = pb.L := by rw [hpd]; rfl
        have hokd : pd.Ok 1 := by rw [hpd]; exact (sendP_ok hokb [x, x]).mono (by simp [cnt])
        obtain ⟨fb, hfb⟩ : ∃ fb, fb = frK pd.L ⟨⟨true, true, [x, x]⟩, 0, false, 0⟩ := ⟨_, rfl⟩
        have hto1 : toldP 1 pd = [fb] := by rw [fresh_told 1 0 hpx (by rw [hpL]; exact hnx) (by rw [hpw]; simp) (by rw [hpw]; simp) (by omega), hpw, hfb]; rfl
        have hfo := fr_ok (L := pd.L) (ws := pd.ws) (n := 0) (by rw [hpL, hep]; omega) (by rw [hpL, hcn]; decide) (by rw [hpL, hcb]; decide) (by rw [hpw]; simp) (by rw [hpw]; intro y hy; simp at hy; rw [hy]; simp) fb (by rw [hpw, hfb]; simp [flyF])
        obtain ⟨hfo, hfr, -, hfa⟩ := hfo
        have hfn : fb.next = 1 := by rw [hfb]; show pd.L.cn = 1; rw [hpL]; exact hcn
        have hfe : fb.epoch = ep := by rw [hfb]; show pd.L.ep = ep; rw [hpL]; exact hep
        have htk1 := fresh_tick (p := pd) 1 0 hpx (by rw [hpL]; exact hnx) (by rw [hpw]; simp) (by omega)
        obtain ⟨pc, hpc⟩ : ∃ pc, pc = tickP 1 pd := ⟨_, rfl⟩
        have hok2 : pc.Ok 1 := by rw [hpc]; exact tickP_ok hokd 1 (by omega)
        have hN2 : toldP 2 pc = [] := by
          have hcw : pc.ws = [] := by rw [hpc, htk1]
          have hcx : pc.xs = [⟨⟨true, true, [x, x]⟩, 0, true, 1⟩] := by rw [hpc, htk1, hpw]; rfl
          have hco : pc.L.ow = false := by rw [hpc, htk1]
          have hd : dueP 2 pc = [] := by
            unfold dueP
            rw [hcw, hcx]
            exact sends_none 2 _ _ (by intro y hy; simp [startK] at hy; rw [hy]; exact ⟨rfl, show (2 : Int) - 1 < 3 by decide⟩)
          unfold toldP
          rw [if_neg (by rw [hco]; simp), hd]
        have HK := Lib.hid (L2Tick hP 1 1 hokd (by omega) (by omega) 1 [fb] hto1 rfl)
        rw [← hpc] at HK
        have HN2 := Lib.hid hN2
        have HFN := Lib.hid hfn
        have HFE2 := Lib.hid hfe
        have HFA := Lib.hid hfa
        clear HTK hst hep hnx hcn hcb how hpd hpw hpx hpL hokd hto1 htk1 hN2 hfb hfn hfe hfa hokb HS hP hT hpc
        go_wp2_with fail
        refine HK.out.mono ?_
        rintro e w8 ⟨A7, c7, us7, rfl, hP, hTo, hT⟩
        have HP3 := Lib.hid hP.symm
        have HTO2 := Lib.hid hTo
        have HB2 := Lib.hid (HB.out.trans (hT.bel.mono hs2))
        clear HK hP hTo hT HB
        go_wp2_with fail
        refine (L2Tick HP3.out.symm 1 2 hok2 (by omega) (by omega) 0 [] HN2.out rfl).mono ?_
        rintro e w9 ⟨A8, c8, us8, rfl, -, -, hT2⟩
        have hTo9 := HTO2.out.keepT hT2
        have hb9 := HB2.out.trans (hT2.bel.mono hs2)
        obtain ⟨g, oa, A5, m5, c5, b5, hA, ca, hl5, hc5, hs5⟩ := hTo9.at_ (k := 0) (by omega) (by simp)
        have hcap2 := hTo9.cap
        subst hA
        have HPR := Lib.hid (Parse_own fb A5 m5 c5 b5 w9 hfo hfr hs5 hl5 hc5)
        have HB9 := Lib.hid hb9
        have ca0 := ca
        rw [Nat.add_zero] at ca0
        clear hl5 hc5 hs5 hTo9 hb9 HP3 HTO2 HN2 HB2 hT2 ca
        go_wp2_with fail
        refine HPR.out.mono ?_
        rintro e w10 ⟨A11, c11, b11, rfl, -, -, hb11⟩
        have HB10 := Lib.hid (HB9.out.trans (hb11.mono HB9.out.size))
        clear HPR hb11
        have f0 := (show (fb.next : Int) = 1 by rw [HFN.out]; rfl)
        have f1 := (show (fb.epoch : Int) = (ep : Int) by rw [HFE2.out])
        have f2 := HFA.out
        go_wp2_with fail
        go_ret
        exact ⟨rfl, HB10.out.trans ((below_alloc1 w10 _).mono HB10.out.size)⟩
end Go.Proofs.YtcgbamkfflcdfaaDoor
