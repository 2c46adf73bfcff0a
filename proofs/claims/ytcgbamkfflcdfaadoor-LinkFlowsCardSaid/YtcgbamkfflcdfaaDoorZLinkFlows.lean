/- LinkFlows: the walk. Conditions: the numbers fit; the library's table lies as it lays it. -/
import Derived.Test.YtcgbamkfflcdfaaDoorZLinkPl
namespace Go.Proofs.YtcgbamkfflcdfaaDoor
open Go.RowKit
set_option linter.unusedVariables false

abbrev pcE : Pc := ⟨true, true, []⟩
structure FlA (ep t : Nat) (p : Pk) : Prop where
  still : p.Still
  L : p.L = ⟨ep, 32 * t, 0, 0, false, false⟩
  ok : p.Ok 0
structure FlB (ep c : Nat) (ow : Bool) (p : Pk) : Prop where
  still : p.Still
  L : p.L = ⟨ep, 0, c, 0, false, ow⟩
  hd : p.hd = []
  ok : p.Ok 0
/-- With j pieces that wait. -/
structure FlS (ep t j : Nat) (p : Pk) : Prop where
  ws : p.ws = List.replicate j pcE
  xs : p.xs = []
  L : p.L = ⟨ep, 32 * t, 0, 0, false, false⟩
  ok : p.Ok j
theorem FlS.send {ep t j : Nat} {p : Pk} (h : FlS ep t j p) : FlS ep t (j + 1) (sendP p []) :=
  ⟨by show p.ws ++ splitP [] = _; rw [h.ws, split_one (by simp), List.replicate_succ'], h.xs, h.L, (sendP_ok h.ok []).mono (by simp [cnt])⟩
def flF (ep t : Nat) : List Fr := (flyF (List.replicate 32 pcE) (32 * t)).map (frK ⟨ep, 32 * t, 0, 0, false, false⟩)
theorem flF_len (ep t : Nat) : (flF ep t).length = 32 := by simp [flF, flyF_length]
theorem flF_ok {ep t : Nat} (h : ep < 65536) (ht : t < 100) : ∀ f ∈ flF ep t, f.Ok ∧ f.right = true ∧ f.epoch = ep ∧ f.alone = false := by
  have h1 := fr_ok (L := ⟨ep, 32 * t, 0, 0, false, false⟩) (ws := List.replicate 32 pcE) (n := 32 * t) h (show (0 : Nat) < 65536 by decide) (show (0 : Nat) < 4294967296 by decide) (by simp; omega) (fun x hx => by rw [List.eq_of_mem_replicate hx]; simp)
  exact h1
theorem flF_at {ep t q : Nat} (hq : q < (flF ep t).length) : (flF ep t)[q].seq = 32 * t + q ∧ (⟨(flF ep t)[q].first, (flF ep t)[q].last, (flF ep t)[q].data⟩ : Pc) = pcE := by
  have hw : q < (List.replicate 32 pcE).length := by rw [flF_len] at hq; simpa using hq
  have h := flyF_get (List.replicate 32 pcE) (32 * t) q hw
  rw [List.getElem_replicate] at h
  have h5 : (flF ep t)[q]? = some (frK ⟨ep, 32 * t, 0, 0, false, false⟩ ⟨pcE, 32 * t + q, false, 0⟩) := by
    unfold flF
    rw [List.getElem?_map, List.getElem?_eq_getElem (by rw [flyF_length]; exact hw), h]
    rfl
  rw [List.getElem?_eq_getElem hq] at h5
  injection h5 with h5
  rw [h5]
  exact ⟨rfl, rfl⟩
theorem FlS.told {ep t : Nat} {p : Pk} (h : FlS ep t 32 p) (ht : t < 100) (now : Int) : toldP now p = flF ep t := by
  rw [fresh_told now (32 * t) h.xs (by rw [h.L]) (by rw [h.ws]; simp) (by rw [h.ws]; simp) (by omega), h.ws, h.L]
  rfl
theorem FlS.tick {ep t : Nat} {p : Pk} (h : FlS ep t 32 p) (ht : t < 100) (now : Int) (h0 : 0 ≤ now ∧ now ≤ 1000000) : (tickP now p).ws = [] ∧ (tickP now p).xs.length = 32 ∧ (∀ x ∈ (tickP now p).xs, x.seq < 32 * (t + 1)) ∧ (tickP now p).L = ⟨ep, 32 * (t + 1), 0, 0, false, false⟩ ∧ (tickP now p).Ok 32 := by
  have hok := tickP_ok h.ok now h0
  have e := fresh_tick (p := p) now (32 * t) h.xs (by rw [h.L]) (by rw [h.ws]; simp) (by omega)
  rw [e] at hok ⊢
  refine ⟨rfl, by simp [flyF_length, h.ws], fun x hx => ?_, ?_, hok⟩
  · obtain ⟨y, hy, rfl⟩ := List.mem_map.1 hx
    have h1 := flyF_mem hy
    rw [h.ws, List.length_replicate] at h1
    rw [tick_new now h1.1]
    show y.seq < 32 * (t + 1)
    omega
  · show ({ p.L with nx := 32 * t + p.ws.length, ow := false } : Lk) = _
    rw [h.L, h.ws]
    simp
    omega
theorem FlB.take {ep c : Nat} {ow : Bool} {p : Pk} {f : Fr} (h : FlB ep c ow p) (hc : c < 32000) (hs : f.seq = c) (ha : f.alone = false) (hp : (⟨f.first, f.last, f.data⟩ : Pc) = pcE) : FlB ep (c + 1) true (takeP p f).1 ∧ (takeP p f).2 = ([[]], 0) := by
  obtain ⟨⟨t1, t2, t3, t4⟩, t5⟩ := take_next (p := p) (f := f) (by rw [h.L]; show c < 65536; omega) (by rw [h.L]) (by rw [hs, h.L]) ha
  have hok := takeP_ok h.ok f
  have e1 : putB ⟨p.hd, p.L.lv⟩ ⟨f.first, f.last, f.data⟩ = (⟨[], false⟩, [], true, 0) := by
    rw [hp, h.hd, h.L]
    show putB ⟨[], false⟩ pcE = _
    first | rfl | simp [putB, refuseN]
  rw [e1] at t3 t4 t5
  refine ⟨⟨⟨by rw [t1]; exact h.still.ws, by rw [t2, h.still.xs]; rfl⟩, ?_, t4, hok⟩, t5⟩
  rw [t3, h.L]
  show (⟨ep, 0, (c + 1) % 65536, 0, false, true⟩ : Lk) = _
  rw [Nat.mod_eq_of_lt (by omega)]
set_option maxHeartbeats 16000000 in
set_option maxRecDepth 20000 in
theorem LinkFlows_walk (ep n : Nat) (w : World) (hTab : Tab w) (h1 : ep ≤ 65535) (h2 : n ≤ 255) :
    Calls Tryd.prog 5 #[.int .u16 (ep : Int), .int .u8 (n : Int)] w fun e w' => e = .returned (.bool true) ∧ Below w.heap.size w w' := by
  obtain ⟨K, hK⟩ : ∃ K, K = n % 40 := ⟨_, rfl⟩
  have hK40 : K < 40 := by omega
  have hKi : (n : Int) % 40 = (K : Int) := by omega
  have HK := Lib.hid hK
  clear hK
  have HT0 := Lib.hid hTab
  clear hTab
  go_enter Tryd.func5, Tryd.ntmps5
  go_wp2_with fail
  refine (awake_calls w).mono ?_
  rintro e w1 ⟨rfl, hb⟩
  go_wp2_with fail
  refine (LrNew_calls ep _ rfl w1).mono ?_
  rintro e w2 ⟨ga, rfl, hla, hb2⟩
  have ht1 := Tab.ext HT0.out hb
  have ht2 := Tab.ext ht1 hb2
  have hs1 := hb.size
  replace hb := hb.trans (hb2.mono hb.size)
  clear hb2
  go_wp2_with fail
  refine (LrNew_calls ep _ rfl w2).mono ?_
  rintro e w3 ⟨gb, rfl, hlb, hb3⟩
  have hP := L2.new ht2 (tab_lt ht1) hla hb3 hlb
  have hs2 := hb.size
  replace hb := hb.trans (hb3.mono hb.size)
  clear hb3 hla hlb ht1 ht2
  obtain ⟨Ba, hBa⟩ : ∃ Ba, Ba = w1.heap.size := ⟨_, rfl⟩
  obtain ⟨Bb, hBb⟩ : ∃ Bb, Bb = w2.heap.size := ⟨_, rfl⟩
  rw [← hBa, ← hBb] at hP
  rw [← hBa] at hs1
  rw [← hBb] at hs2
  clear hBa hBb
  have hok0 := newP_ok (ep := ep) (by omega)
  have HP := Lib.hid hP
  have HB := Lib.hid hb
  clear hP hb
  go_wp2_with fail
  try rw [hKi]
  go_loopw [7, 26] (fun cm i wr => ∃ (t C : Nat) (pa pb : Pk), t ≤ K ∧ i = .int .i64 t ∧ cm = .int .i64 (C : Int) ∧ Hid (C = 32 * t) ∧ FlA ep t pa ∧ FlB ep (32 * t) false pb ∧ L2 wr Ba ga pa t Bb gb pb (32 * t) noZ noZ ∧ Below w.heap.size w wr) (fun _ i _ => K - (intOf i).toNat)
  case atStart => exact ⟨0, 0, newP ep, newP ep, Nat.zero_le _, rfl, rfl, Lib.hid rfl, ⟨⟨rfl, rfl⟩, rfl, hok0⟩, ⟨⟨rfl, rfl⟩, rfl, rfl, hok0⟩, HP.out, HB.out⟩
  case round =>
    clear HP HB
    obtain ⟨t, C, pa, pb, ht, rfl, rfl, HC, hA, hB, hP, hb⟩ := hrel
    by_cases hlt : t < K
    · have HA := Lib.hid hA
      have HBB := Lib.hid hB
      have HP := Lib.hid hP
      have HB := Lib.hid hb
      clear hA hB hP hb
      go_wp2_with fail
      go_loopw [29] (fun i wr => ∃ (j : Nat) (pj : Pk), j ≤ 32 ∧ i = .int .i64 j ∧ FlS ep t j pj ∧ L2 wr Ba ga pj t Bb gb pb (32 * t) noZ noZ ∧ Below w.heap.size w wr) (fun i _ => 32 - (intOf i).toNat)
      case atStart => exact ⟨0, pa, by omega, rfl, ⟨HA.out.still.ws, HA.out.still.xs, HA.out.L, HA.out.ok⟩, HP.out, HB.out⟩
      case round =>
        clear HP HB HA
        obtain ⟨j, pj, hj, rfl, hS, hP, hb⟩ := hrel
        by_cases hjl : j < 32
        · have HSN := Lib.hid (L2Send hP none [] 0 0 0 (Sl.nil_ _ _ _) rfl (by omega) (Nat.le_refl _) (by simp [maxLen]) (by rw [hS.ws]; simp [cnt]; omega))
          have HS2 := Lib.hid hS.send
          have HB := Lib.hid hb
          clear hP hb hS
          go_wp2_with fail
          refine HSN.out.mono ?_
          rintro e wt ⟨rfl, hP, hT⟩
          have hb := HB.out.trans (hT.bel.mono hs1)
          clear HSN hT HB
          go_wp2_with fail
          go_roundw
          case rel => exact ⟨j + 1, _, by omega, by go_num, HS2.out, hP, hb⟩
          case measure => simp [intOf]; omega
        · obtain rfl : j = 32 := by omega
          clear hjl hj
          have hto := hS.told (by omega) (t : Int)
          have htk := hS.tick (by omega) (t : Int) (by omega)
          have HKT := Lib.hid (L2Tick hP 32 (t : Int) hS.ok (by omega) (by omega) 32 (flF ep t) hto (flF_len ep t))
          obtain ⟨pT, hpT⟩ : ∃ pT, pT = tickP (t : Int) pj := ⟨_, rfl⟩
          rw [← hpT] at HKT htk
          have HTK := Lib.hid htk
          have HB := Lib.hid hb
          clear hP hb hS hto htk hpT
          go_wp2_with fail
          refine HKT.out.mono ?_
          rintro e w5 ⟨A1, c1, us1, rfl, hP, hTo, hT⟩
          obtain ⟨Z, hZ⟩ : ∃ Z : Nat → Prop, Z = fun i => wr.heap.size ≤ i ∧ i < w5.heap.size := ⟨_, rfl⟩
          have hP2 : L2 w5 Ba ga pT t Bb gb pb (32 * t) noZ Z := hP.mono (fun i h => h) (fun i hi => .inr (by rw [hZ] at hi; exact hi))
          rw [← hZ] at hTo
          have hcap := hTo.cap
          replace HB := Lib.hid (HB.out.trans (hT.bel.mono hs1))
          have HP := Lib.hid hP2
          have HTO := Lib.hid hTo
          clear HKT hP hP2 hT hTo hZ
          go_wp2_with fail
          go_loopw [7, 39] (fun cm i wr => ∃ (q C2 : Nat) (pq : Pk), q ≤ 32 ∧ i = .int .i64 q ∧ cm = .int .i64 (C2 : Int) ∧ Hid (C2 = 32 * t + q) ∧ FlB ep (32 * t + q) (decide (0 < q)) pq ∧ L2 wr Ba ga pT t Bb gb pq (32 * t + q) noZ Z ∧ ToldZ wr Z A1 32 c1 us1 (flF ep t) ∧ Below w.heap.size w wr) (fun _ i _ => 32 - (intOf i).toNat)
          case atStart => exact ⟨0, C, pb, by omega, rfl, rfl, Lib.hid HC.out, HBB.out, HP.out, HTO.out, HB.out⟩
          case round =>
            clear HP HB HBB HTO
            obtain ⟨q, C2, pq, hq, rfl, rfl, HC2, hB, hP, hTo, hb⟩ := hrel
            by_cases hql : q < 32
            · have hqf : q < (flF ep t).length := by rw [flF_len]; exact hql
              obtain ⟨g, oa, A5, m5, c5, b5, hA, ca, hl5, hc5, hs5⟩ := hTo.at_ hql hqf
              subst hA
              obtain ⟨ho, hr, hfe, hfa⟩ := flF_ok (ep := ep) (t := t) (by omega) (by omega) _ (List.getElem_mem hqf)
              obtain ⟨hsq, hpc⟩ := flF_at hqf
              obtain ⟨r1, r2⟩ := hB.take (by omega) hsq hfa hpc
              obtain ⟨pN, hpN⟩ : ∃ pN, pN = (takeP pq (flF ep t)[q]).1 := ⟨_, rfl⟩
              have hR1 : takeP pq (flF ep t)[q] = (pN, [[]], 0) := by rw [hpN, ← r2]
              rw [← hpN] at r1
              have HT := Lib.hid (L2Take hP.symm 0 (flF ep t)[q] A5 m5 c5 b5 hB.ok (by omega) (by omega) ho hr hs5 hl5 hc5 (by rw [hfe, hB.L]) (pN, [[]], 0) hR1)
              have HTO := Lib.hid hTo
              have HB := Lib.hid hb
              have HBb := Lib.hid hP.symm.hA
              have HN := Lib.hid r1
              have hC2 : C2 ≤ 2000 := by rw [HC2.out]; omega
              clear hl5 hc5 hs5 ho hr hfe hfa hsq hpc hP hTo hb hB r1 r2 hpN hR1
              go_wp2_with fail
              refine HT.out.mono ?_
              rintro e wt ⟨A6, c6, us6, rfl, hP, -, -, hKt, -⟩
              have hTo := HTO.out.kept hKt
              have hb := HB.out.trans ((hKt.below HBb.out).mono hs2)
              have HPN := Lib.hid hP.symm
              clear HT hKt ca HTO HB hP HBb
              go_wp2_with fail
              go_roundw
              case rel => exact ⟨q + 1, C2 + 1, pN, by omega, by go_num, by go_num, Lib.hid (by rw [HC2.out]; omega), by rw [decide_eq_true (show 0 < q + 1 by omega)]; exact HN.out, HPN.out, hTo, hb⟩
              case measure => simp [intOf]; omega
            · obtain rfl : q = 32 := by omega
              clear hql hq
              have hB' : FlB ep (32 * (t + 1)) true pq := by rw [show 32 * (t + 1) = 32 * t + 32 by omega]; exact hB
              have hto1 : toldP (t : Int) pq = [aloneF pq.L] := by rw [still_told hB'.still, if_pos (by rw [hB'.L])]
              have htk1 := still_tick hB'.still (t : Int)
              obtain ⟨hfo, hfr⟩ := alone_ok (L := pq.L) hB'.ok.ep hB'.ok.cn hB'.ok.cb
              obtain ⟨fb, hfb⟩ : ∃ fb, fb = aloneF pq.L := ⟨_, rfl⟩
              rw [← hfb] at hto1 hfo hfr
              have hfn : fb.next = 32 * (t + 1) := by rw [hfb, hB'.L]; rfl
              have hfe : fb.epoch = ep := by rw [hfb, hB'.L]; rfl
              have hfa : fb.alone = true := by rw [hfb]; rfl
              obtain ⟨pe, hpe⟩ : ∃ pe, pe = tickP (t : Int) pq := ⟨_, rfl⟩
              have hBe : FlB ep (32 * (t + 1)) false pe := by
                have hoke := tickP_ok hB'.ok (t : Int) (by omega)
                rw [← hpe] at hoke htk1
                exact ⟨by rw [htk1]; exact ⟨hB'.still.ws, hB'.still.xs⟩, by rw [htk1, hB'.L], by rw [htk1]; exact hB'.hd, hoke⟩
              have HF := Lib.hid (L2Flying hP HTK.out.2.1)
              have HW := Lib.hid (L2Waiting hP (n := 0) (by rw [HTK.out.1]; rfl))
              have HKT := Lib.hid (L2Tick hP.free.symm 0 (t : Int) hB'.ok (by omega) (by omega) 1 [fb] hto1 rfl)
              rw [← hpe] at HKT
              have HBE := Lib.hid hBe
              have HB := Lib.hid hb
              have HFB := Lib.hid (And.intro hfo (And.intro hfr (And.intro hfn (And.intro hfe hfa))))
              clear hP hTo hb hB hB' hto1 htk1 hfo hfr hfn hfe hfa hfb hpe hBe
              go_wp2_with fail
              refine HF.out.mono ?_
              rintro e wf ⟨rfl, e7⟩
              subst e7
              clear HF
              go_wp2_with fail
              refine HW.out.mono ?_
              rintro e wf ⟨rfl, e7⟩
              subst e7
              clear HW
              go_wp2_with fail
              refine HKT.out.mono ?_
              rintro e w7 ⟨A2, c2, us2, rfl, hP, hTo, hT⟩
              obtain ⟨Z2, hZ2⟩ : ∃ Z2 : Nat → Prop, Z2 = fun i => wr.heap.size ≤ i ∧ i < w7.heap.size := ⟨_, rfl⟩
              have hP2 : L2 w7 Ba ga pT t Bb gb pe (32 * t + 32) Z2 noZ := hP.symm.mono (fun i hi => .inr (by rw [hZ2] at hi; exact hi)) (fun i h => h)
              rw [← hZ2] at hTo
              have hcap2 := hTo.cap
              replace HB := Lib.hid (HB.out.trans (hT.bel.mono hs2))
              have HP := Lib.hid hP2
              have HTO := Lib.hid hTo
              clear HKT hP hP2 hT hTo hZ2
              go_wp2_with fail
              go_loopw [68] (fun i wr => ∃ (s : Nat) (ps : Pk), s ≤ 1 ∧ i = .int .i64 s ∧ (s = 0 → ps = pT) ∧ (s = 1 → FlA ep (t + 1) ps) ∧ L2 wr Ba ga ps (t + s) Bb gb pe (32 * t + 32) Z2 noZ ∧ ToldZ wr Z2 A2 1 c2 us2 [fb] ∧ Below w.heap.size w wr) (fun i _ => 1 - (intOf i).toNat)
              case atStart => exact ⟨0, pT, by omega, rfl, fun _ => rfl, fun h => by omega, HP.out, HTO.out, HB.out⟩
              case round =>
                clear HP HB HTO
                obtain ⟨s, ps, hs, rfl, hs0, hsA, hP, hTo, hb⟩ := hrel
                by_cases hsl : s < 1
                · obtain rfl : s = 0 := by omega
                  have hps := hs0 rfl
                  subst hps
                  obtain ⟨g, oa, A5, m5, c5, b5, hA, ca, hl5, hc5, hs5⟩ := hTo.at_ hsl (by simp)
                  subst hA
                  rw [Nat.add_zero] at ca
                  obtain ⟨ho, hr, hfn, hfe, hfa⟩ := HFB.out
                  obtain ⟨k1, k2, k3, k4, k5⟩ := HTK.out
                  have hR1 := take_alone (p := ps) hfa
                  rw [keepX_all hfn (by omega) k3] at hR1
                  have hAN : FlA ep (t + 1) { ps with xs := [] } := ⟨⟨k1, rfl⟩, k4, ⟨k5.ep, k5.nx, k5.cn, k5.cb, k5.ws, fun x hx => (by cases hx), by rw [k1]; exact Nat.le_refl _, k5.hd⟩⟩
                  have HT := Lib.hid (L2Take hP 32 fb A5 m5 c5 b5 k5 (by omega) (by omega) ho hr hs5 hl5 hc5 (by rw [hfe, k4]) _ hR1)
                  have HTO := Lib.hid hTo
                  have HB := Lib.hid hb
                  have HBa := Lib.hid hP.hA
                  have HAN := Lib.hid hAN
                  clear hl5 hc5 hs5 ho hr hfn hfe hfa k1 k2 k3 k4 k5 hP hTo hb hR1 hAN hs0 hsA
                  go_wp2_with fail
                  refine HT.out.mono ?_
                  rintro e wt ⟨A6, c6, us6, rfl, hP, -, -, hKt, -⟩
                  have hTo := HTO.out.kept hKt
                  have hb := HB.out.trans ((hKt.below HBa.out).mono hs1)
                  have HPN := Lib.hid hP
                  clear HT hKt ca HTO HB hP HBa
                  go_wp2_with fail
                  go_roundw
                  case rel => exact ⟨1, _, by omega, by go_num, fun h => by omega, fun _ => HAN.out, HPN.out, hTo, hb⟩
                  case measure => simp [intOf]
                · obtain rfl : s = 1 := by omega
                  clear hsl hs hs0
                  have hA := hsA rfl
                  have HID := Lib.hid (L2Idle hP (d := true) (by rw [hA.still.ws, hA.still.xs]; rfl))
                  have HP := Lib.hid hP.free
                  have HB := Lib.hid hb
                  have HAA := Lib.hid hA
                  clear hP hTo hb hsA hA
                  go_wp2_with fail
                  refine HID.out.mono ?_
                  rintro e wi ⟨rfl, hbi⟩
                  have hP := HP.out.ext hbi
                  have hb := HB.out.trans (hbi.mono HB.out.size)
                  clear HID HP HB hbi
                  go_wp2_with fail
                  go_roundw
                  case rel => exact ⟨t + 1, C2, ps, pe, by omega, by go_num, rfl, Lib.hid (by rw [HC2.out]; omega), HAA.out, HBE.out, by rw [show 32 * (t + 1) = 32 * t + 32 by omega]; exact hP, hb⟩
                  case measure => simp [intOf]; omega
    · obtain rfl : t = K := by omega
      clear hlt
      have HACK := Lib.hid (L2Acks hP.symm (x := C) (y := 0) (by rw [hB.L, HC.out]) (by rw [hB.L]))
      have HB := Lib.hid hb
      have hmul : (32 : Int) * (t : Int) = (C : Int) := by have := HC.out; omega
      have hmod : (C : Int) % 65536 = (C : Int) := by have := HC.out; omega
      clear hP hA hB hb
      go_wp2_with fail
      refine HACK.out.mono ?_
      rintro e wa ⟨rfl, hba⟩
      have hbe := HB.out.trans (hba.mono HB.out.size)
      have HBE2 := Lib.hid hbe
      clear HACK hba hbe HB
      go_wp2_with fail
      skip -- LOOK
      go_ret
      exact ⟨rfl, HBE2.out⟩
end Go.Proofs.YtcgbamkfflcdfaaDoor
