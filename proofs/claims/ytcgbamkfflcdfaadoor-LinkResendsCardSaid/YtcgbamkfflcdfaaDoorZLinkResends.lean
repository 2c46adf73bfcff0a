/- LinkResends: the walk. Conditions: the numbers fit; the library's table lies as it lays it. -/
import Derived.Test.YtcgbamkfflcdfaaDoorZLinkPl
import Derived.Test.YtcgbamkfflcdfaaDoorZLkWM
namespace Go.Proofs.YtcgbamkfflcdfaaDoor
open Go.RowKit
set_option linter.unusedVariables false

theorem same_told {w : World} {Z Z' : Nat → Prop} {A A' : Option Addr} {n c c' : Nat} {us us' : List Value} {fs : List Fr} (h : ToldZ w Z A n c us fs) (h' : ToldZ w Z' A' n c' us' fs) (hr : ∀ f ∈ fs, f.right = true) (hn : n ≤ 1000) :
    Calls Tryd.prog 19 #[.slice A n c, .slice A' n c'] w fun e w' => e = .returned (.bool true) ∧ ∃ k, w' = w.drewN k := by
  obtain ⟨C, t⟩ := h.t
  obtain ⟨C', t'⟩ := h'.t
  obtain ⟨A1, c1, b1, hv1, -, -, -, hs1, -⟩ := RowS.sl t.row
  obtain ⟨A2, c2, b2, hv2, -, -, -, hs2, -⟩ := RowS.sl t'.row
  injection hv1 with e1
  injection hv2 with e2
  subst e1 e2
  have hl : ∀ l ∈ fs.map (fun f => sealedL f.raw), l.length ≤ maxLen := by
    intro l hl
    obtain ⟨f, hf, rfl⟩ := List.mem_map.1 hl
    rw [raw_length f (hr f hf)]
    have := Fr.right_len (hr f hf)
    simp only [maxLen]
    omega
  have h9 := SameL_calls A A' us us' (fs.map fun f => sealedL f.raw) (fs.map fun f => sealedL f.raw) n n c c' b1 b2 w hs1 hs2 t.ins.bss t'.ins.bss (by rw [List.length_map]; exact t.len) (by rw [List.length_map]; exact t.len) (by omega) hl hl
  rw [decide_eq_true rfl] at h9
  exact h9
/-- The one, of which all flies since la. -/
structure RsA (ep : Nat) (ws : List Pc) (la : Nat) (p : Pk) : Prop where
  w0 : p.ws = []
  xs : p.xs = (flyF ws 0).map fun x => { x with sent := true, at_ := (la : Int) }
  L : p.L = ⟨ep, ws.length, 0, 0, false, false⟩
  ok : p.Ok ws.length
def rsF (ep : Nat) (ws : List Pc) : List Fr := (flyF ws 0).map (frK ⟨ep, 0, 0, 0, false, false⟩)
theorem rsA_told {ep la : Nat} {ws : List Pc} {p : Pk} (h : RsA ep ws la p) (now : Nat) (h3 : la + 3 ≤ now) (h0 : ws ≠ []) (hn : now ≤ 1000) : toldP now p = rsF ep ws ∧ RsA ep ws now (tickP now p) := by
  have hok := tickP_ok h.ok (now : Int) (by omega)
  have hst : startK p.ws p.L.nx p.xs = (p.L.nx, [], p.xs) := by rw [h.w0]; rfl
  have hdue : ∀ x ∈ p.xs, dueK now x = true := by
    rw [h.xs]
    intro x hx
    obtain ⟨y, hy, rfl⟩ := List.mem_map.1 hx
    unfold dueK
    simp
    omega
  have hd : dueP now p = rsF ep ws := by
    unfold dueP sendsK
    rw [hst]
    simp only
    rw [List.filter_eq_self.2 hdue, h.xs, h.L, List.map_map]
    rfl
  refine ⟨?_, ?_, ?_, ?_, hok⟩
  · unfold toldP
    rw [hd, if_neg]
    intro h9
    have h8 := congrArg List.length h9.1
    simp only [rsF, List.length_map, flyF_length, List.length_nil] at h8
    exact h0 (List.eq_nil_of_length_eq_zero h8)
  · unfold tickP; rw [hst]
  · unfold tickP
    rw [hst]
    simp only
    rw [show p.xs.map (tickK now) = p.xs.map fun x => { x with sent := true, at_ := (now : Int) } from List.map_congr_left fun x hx => by unfold tickK; rw [if_pos (hdue x hx)], h.xs, List.map_map]
    rfl
  · unfold tickP; rw [hst, h.L]
theorem rsA_none {ep la : Nat} {ws : List Pc} {p : Pk} (h : RsA ep ws la p) (now : Nat) (h1 : la ≤ now) (h3 : now < la + 3) (hn : now ≤ 1000) : toldP now p = [] ∧ RsA ep ws la (tickP now p) := by
  have hok := tickP_ok h.ok (now : Int) (by omega)
  have hst : startK p.ws p.L.nx p.xs = (p.L.nx, [], p.xs) := by rw [h.w0]; rfl
  have hdue : ∀ x ∈ p.xs, x.sent = true ∧ (now : Int) - x.at_ < 3 := by
    rw [h.xs]
    intro x hx
    obtain ⟨y, hy, rfl⟩ := List.mem_map.1 hx
    exact ⟨rfl, by show (now : Int) - (la : Int) < 3; omega⟩
  have hd : dueP now p = [] := by
    unfold dueP
    rw [hst]
    exact sends_none now _ _ hdue
  refine ⟨?_, ?_, ?_, ?_, hok⟩
  · unfold toldP
    rw [if_neg (by rw [h.L]; simp), hd]
  · unfold tickP; rw [hst]
  · unfold tickP
    rw [hst]
    simp only
    rw [show p.xs.map (tickK now) = p.xs from (List.map_congr_left fun x hx => tick_same now (hdue x hx)).trans (List.map_id p.xs), h.xs]
  · unfold tickP; rw [hst, h.L]
structure RsB (ep q : Nat) (p : Pk) : Prop where
  still : p.Still
  ep_ : p.L.ep = ep
  cn : p.L.cn = q
  cb : p.L.cb = 0
  ow : 0 < q → p.L.ow = true
  ok : p.Ok 0
theorem RsB.take {ep q : Nat} {p : Pk} {f : Fr} (h : RsB ep q p) (hq : q < 1000) (hs : f.seq = q) (ha : f.alone = false) : RsB ep (q + 1) (takeP p f).1 := by
  obtain ⟨⟨t1, t2, t3, t4⟩, t5⟩ := take_next (p := p) (f := f) (by rw [h.cn]; omega) h.cb (by rw [hs, h.cn]) ha
  exact ⟨⟨by rw [t1]; exact h.still.ws, by rw [t2, h.still.xs]; rfl⟩, by rw [t3]; exact h.ep_, by rw [t3]; show (p.L.cn + 1) % 65536 = q + 1; rw [h.cn]; omega, by rw [t3], fun _ => by rw [t3], takeP_ok h.ok f⟩
theorem rsF_seq {ep : Nat} {ws : List Pc} {q : Nat} (hq : q < (rsF ep ws).length) : (rsF ep ws)[q].seq = q := by
  have hw : q < ws.length := by simpa [rsF, flyF_length] using hq
  have h := flyF_get ws 0 q hw
  have h5 : (rsF ep ws)[q]? = some (frK ⟨ep, 0, 0, 0, false, false⟩ ⟨ws[q], 0 + q, false, 0⟩) := by
    unfold rsF
    rw [List.getElem?_map, List.getElem?_eq_getElem (by rw [flyF_length]; exact hw), h]
    rfl
  rw [List.getElem?_eq_getElem hq] at h5
  injection h5 with h5
  rw [h5]
  show 0 + q = q
  omega
set_option maxHeartbeats 16000000 in
set_option maxRecDepth 20000 in
theorem LinkResends_walk (ep n wait : Nat) (w : World) (hTab : Tab w) (h1 : ep ≤ 65535) (h2 : n ≤ 65535) (h3 : wait ≤ 255) :
    Calls Tryd.prog 8 #[.int .u16 (ep : Int), .int .u16 (n : Int), .int .u8 (wait : Int)] w fun e w' => e = .returned (.bool true) ∧ Below w.heap.size w w' := by
  obtain ⟨m, hm⟩ : ∃ m, m = n % 1000 := ⟨_, rfl⟩
  have hm1 : m < 1000 := by omega
  obtain ⟨R, hR⟩ : ∃ R, R = wait % 20 := ⟨_, rfl⟩
  have hR20 : R < 20 := by omega
  have HM := Lib.hid hm
  have HR := Lib.hid hR
  clear hm hR
  have HT0 := Lib.hid hTab
  clear hTab
  go_enter Tryd.func8, Tryd.ntmps8
  go_wp2_with fail
  refine (awake_calls w).mono ?_
  rintro e w1 ⟨rfl, hb⟩
  go_wp2_with fail
  refine (LrNew_calls ep _ rfl w1).mono ?_
  rintro e w2 ⟨ga, rfl, hla, hb2⟩
  have ht1 := Tab.ext HT0.out hb
  have ht2 := Tab.ext ht1 hb2
  have hs1 := hb.size
  replace hb := hb.trans (hb2.mono hb.size)
  clear hb2
  go_wp2_with fail
  refine (LrNew_calls ep _ rfl w2).mono ?_
  rintro e w3 ⟨gb, rfl, hlb, hb3⟩
  have hP := L2.new ht2 (tab_lt ht1) hla hb3 hlb
  have hs2 := hb.size
  replace hb := hb.trans (hb3.mono hb.size)
  clear hb3 hla hlb ht1 ht2
  obtain ⟨Ba, hBa⟩ : ∃ Ba, Ba = w1.heap.size := ⟨_, rfl⟩
  obtain ⟨Bb, hBb⟩ : ∃ Bb, Bb = w2.heap.size := ⟨_, rfl⟩
  rw [← hBa, ← hBb] at hP
  rw [← hBa] at hs1
  rw [← hBb] at hs2
  clear hBa hBb
  have hok0 := newP_ok (ep := ep) (by omega)
  have HP := Lib.hid hP
  have HB := Lib.hid hb
  clear hP hb
  go_wp2_with fail
  refine (bytes_at m 9 _ _ (by have := HM.out; omega) rfl w3 (by omega) (by decide)).mono ?_
  rintro e w4 ⟨cp, bp, rfl, hcp, hcpm, hBs, hbN⟩
  obtain ⟨l, hl⟩ : ∃ l, l = bytesN m 9 := ⟨_, rfl⟩
  rw [← hl] at hBs
  have hll : l.length = m := by rw [hl]; simp
  replace HB := Lib.hid (HB.out.trans (hbN.mono HB.out.size))
  have HS := Lib.hid (L2Send (HP.out.ext hbN) (some ⟨bp, 0, none⟩) l m cp bp hBs hll (by omega) hcp hcpm (by have := cnt_le m (by omega); show 0 + cnt m ≤ 128; omega))
  have HLL := Lib.hid hll
  clear HP hl hll hBs hbN
  go_wp2_with fail
  refine HS.out.mono ?_
  rintro e w5 ⟨rfl, hP, hT⟩
  replace HB := Lib.hid (HB.out.trans (hT.bel.mono hs1))
  obtain ⟨pa, hpa⟩ : ∃ pa, pa = sendP (newP ep) l := ⟨_, rfl⟩
  rw [← hpa] at hP
  obtain ⟨ws, hws⟩ : ∃ ws, ws = splitP l := ⟨_, rfl⟩
  have hpw : pa.ws = ws := by rw [hpa, hws]; rfl
  have hpx : pa.xs = [] := by rw [hpa]; rfl
  have hpL : pa.L = newL ep 0 := by rw [hpa]; rfl
  obtain ⟨K, hK0⟩ : ∃ K, K = ws.length := ⟨_, rfl⟩
  have hwc : ws.length = cnt l.length := by rw [hws, splitP_length]
  have hK16 : K ≤ 16 := by rw [hK0, hwc]; exact cnt_le _ (by rw [HLL.out]; omega)
  have hK1 : 1 ≤ K := by rw [hK0, hwc]; exact cnt_pos _
  have hw64 : ∀ x ∈ ws, x.data.length ≤ 64 := by rw [hws]; exact split_small
  have hne : ws ≠ [] := by intro h0; rw [h0] at hK0; simp at hK0; omega
  have hokA : pa.Ok K := by rw [hpa, hK0, hwc]; exact (sendP_ok hok0 l).mono (by omega)
  obtain ⟨fs, hfs⟩ : ∃ fs, fs = rsF ep ws := ⟨_, rfl⟩
  have hfl : fs.length = K := by rw [hfs, rsF, List.length_map, flyF_length, hK0]
  have hto : toldP 0 pa = fs := by rw [fresh_told 0 0 hpx (by rw [hpL]) (by rw [hpw]; omega) (by rw [hpw]; exact hne) (by omega), hpw, hpL, hfs]; rfl
  have htk := fresh_tick (p := pa) 0 0 hpx (by rw [hpL]) (by rw [hpw]; omega) (by omega)
  have hfo : ∀ f ∈ fs, f.Ok ∧ f.right = true ∧ f.epoch = ep ∧ f.alone = false := by
    rw [hfs]
    exact fr_ok (L := ⟨ep, 0, 0, 0, false, false⟩) (by show ep < 65536; omega) (show (0 : Nat) < 65536 by decide) (show (0 : Nat) < 4294967296 by decide) (by omega) hw64
  have hfq : ∀ q (hq : q < fs.length), fs[q].seq = q := by subst hfs; exact fun q hq => rsF_seq hq
  obtain ⟨pT, hpT⟩ : ∃ pT, pT = tickP 0 pa := ⟨_, rfl⟩
  have hA0 : RsA ep ws 0 pT := by
    have hokT := tickP_ok hokA 0 (by omega)
    rw [hpT]
    rw [htk] at hokT ⊢
    refine ⟨rfl, ?_, ?_, hK0 ▸ hokT⟩
    · show (flyF pa.ws 0).map (tickK 0) = _
      rw [hpw]
      refine List.map_congr_left fun x hx => ?_
      rw [tick_new 0 (flyF_mem hx).1]
      rfl
    · show ({ pa.L with nx := 0 + pa.ws.length, ow := false } : Lk) = _
      rw [hpL, hpw, Nat.zero_add]
  have HK := Lib.hid (L2Tick hP K 0 hokA (by omega) (by omega) K fs hto hfl)
  rw [← hpT] at HK
  have HFO := Lib.hid hfo
  have HFQ := Lib.hid hfq
  have HFL := Lib.hid hfl
  have HFS := Lib.hid hfs
  have HK0 := Lib.hid hK0
  have HNE := Lib.hid hne
  have HA0 := Lib.hid hA0
  clear HS hP hT hpa hpw hpx hpL hK0 hwc hokA hfs hto hfo hfq hfl hws hw64 hne htk hpT hA0 HLL hcp hcpm
  go_wp2_with fail
  refine HK.out.mono ?_
  rintro e w6 ⟨A1, c1, us1, rfl, hP, hTo, hT⟩
  replace HB := Lib.hid (HB.out.trans (hT.bel.mono hs1))
  obtain ⟨Z, hZ⟩ : ∃ Z : Nat → Prop, Z = fun i => w5.heap.size ≤ i ∧ i < w6.heap.size := ⟨_, rfl⟩
  have hP2 : L2 w6 Ba ga pT 0 Bb gb (newP ep) 0 noZ Z := hP.mono (fun i h => h) (fun i hi => .inr (by rw [hZ] at hi; exact hi))
  rw [← hZ] at hTo
  have HP := Lib.hid hP2
  have HTO := Lib.hid hTo
  have hcap := hTo.cap
  clear HK hP hP2 hT hZ hTo
  have hRI : (wait : Int) % 20 = (R : Int) := by have := HR.out; omega
  go_wp2_with fail
  try rw [hRI]
  go_loopw [11, 12, 13] (fun lt nw xx wr => ∃ (j la : Nat) (pj : Pk), j ≤ R ∧ nw = .int .i64 ((j : Int) + 1) ∧ lt = .int .i64 la ∧ la ≤ j ∧ j < la + 3 ∧ RsA ep ws la pj ∧ L2 wr Ba ga pj 0 Bb gb (newP ep) 0 noZ Z ∧ ToldZ wr Z A1 K c1 us1 fs ∧ Below w.heap.size w wr) (fun _ nw _ _ => R + 1 - (intOf nw).toNat)
  case atStart => exact ⟨0, 0, pT, Nat.zero_le _, rfl, rfl, Nat.le_refl _, by omega, HA0.out, HP.out, HTO.out, HB.out⟩
  case round =>
    clear HP HTO HB HA0
    obtain ⟨j, la, pj, hj, rfl, rfl, hla, hj3, hA, hP, hTo, hb⟩ := hrel
    by_cases hlt : j < R
    · by_cases hre : la + 3 ≤ j + 1
      · obtain ⟨hto, hAN⟩ := rsA_told hA (j + 1) hre HNE.out (by omega)
        rw [show ((j + 1 : Nat) : Int) = (j : Int) + 1 by omega] at hto hAN
        rw [← HFS.out] at hto
        have HKT := Lib.hid (L2Tick hP K ((j : Int) + 1) (by rw [HK0.out]; exact hA.ok) (by omega) (by omega) K fs hto HFL.out)
        have HAN := Lib.hid hAN
        have HTO := Lib.hid hTo
        have HB := Lib.hid hb
        have hge : ¬ (j : Int) + 1 - (la : Int) < 3 := by omega
        have hge2 : (3 : Int) ≤ (j : Int) + 1 - (la : Int) := by omega
        clear hP hTo hb hA hto hAN
        go_wp2_with fail
        refine HKT.out.mono ?_
        rintro e wt ⟨A2, c2, us2, rfl, hP, hTo2, hT⟩
        have hTo1 := HTO.out.keepT hT
        have HSM := Lib.hid (same_told hTo2 hTo1 (fun f hf => (HFO.out f hf).2.1) (by omega))
        have HP := Lib.hid (hP.mono (fun i h => h) (Zb' := Z) (fun i h => .inl h))
        replace HTO := Lib.hid hTo1
        replace HB := Lib.hid (HB.out.trans (hT.bel.mono hs1))
        clear HKT hP hTo2 hT hTo1
        go_wp2_with fail
        refine HSM.out.mono ?_
        rintro e wz ⟨rfl, nk, rfl⟩
        have hbz := below_drewN (Below.refl wt.heap.size wt) nk
        have hP := HP.out.ext hbz
        have hTo := HTO.out.ext hbz
        have hb := HB.out.trans (hbz.mono HB.out.size)
        clear HSM HP HTO HB hbz
        go_wp2_with fail
        go_roundw
        case rel => exact ⟨j + 1, j + 1, _, by omega, by go_num, by first | rfl | go_num, Nat.le_refl _, by omega, HAN.out, hP, hTo, hb⟩
        case measure => simp [intOf]; omega
      · obtain ⟨hto, hAN⟩ := rsA_none hA (j + 1) (by omega) (by omega) (by omega)
        rw [show ((j + 1 : Nat) : Int) = (j : Int) + 1 by omega] at hto hAN
        have HKT := Lib.hid (L2Tick hP K ((j : Int) + 1) (by rw [HK0.out]; exact hA.ok) (by omega) (by omega) 0 [] hto rfl)
        have HAN := Lib.hid hAN
        have HTO := Lib.hid hTo
        have HB := Lib.hid hb
        have hge : (j : Int) + 1 - (la : Int) < 3 := by omega
        have hge2 : ¬ (3 : Int) ≤ (j : Int) + 1 - (la : Int) := by omega
        clear hP hTo hb hA hto hAN
        go_wp2_with fail
        refine HKT.out.mono ?_
        rintro e wt ⟨A2, c2, us2, rfl, hP, -, hT⟩
        have hTo := HTO.out.keepT hT
        have hP2 := hP.mono (fun i h => h) (Zb' := Z) (fun i h => .inl h)
        have hb := HB.out.trans (hT.bel.mono hs1)
        clear HKT hP hT HTO HB
        go_wp2_with fail
        go_roundw
        case rel => exact ⟨j + 1, la, _, by omega, by go_num, rfl, by omega, by omega, HAN.out, hP2, hTo, hb⟩
        case measure => simp [intOf]; omega
    · obtain rfl : j = R := by omega
      have hle : ¬ (j : Int) + 1 ≤ (j : Int) := by omega
      have HA := Lib.hid hA
      have HP := Lib.hid hP
      have HTO := Lib.hid hTo
      have HB := Lib.hid hb
      clear hA hP hTo hb hj3
      go_wp2_with fail
      go_loopw [56] (fun i wr => ∃ (q : Nat) (pq : Pk), q ≤ K ∧ i = .int .i64 q ∧ RsB ep q pq ∧ L2 wr Ba ga pj 0 Bb gb pq q noZ Z ∧ ToldZ wr Z A1 K c1 us1 fs ∧ Below w.heap.size w wr) (fun i _ => K - (intOf i).toNat)
      case atStart => exact ⟨0, newP ep, by omega, rfl, ⟨⟨rfl, rfl⟩, rfl, rfl, rfl, fun h => by omega, hok0⟩, HP.out, HTO.out, HB.out⟩
      case round =>
        clear HP HB HTO
        obtain ⟨q, pq, hq, rfl, hB, hP, hTo, hb⟩ := hrel
        by_cases hql : q < K
        · have hqf : q < fs.length := by rw [HFL.out]; exact hql
          obtain ⟨g, oa, A5, m5, c5, b5, hAa, ca, hl5, hc5, hs5⟩ := hTo.at_ hql hqf
          subst hAa
          obtain ⟨ho, hr, hfe, hfa⟩ := HFO.out _ (List.getElem_mem hqf)
          have r1 := hB.take (by omega) (HFQ.out q hqf) hfa
          have HT := Lib.hid (L2Take hP.symm 0 fs[q] A5 m5 c5 b5 hB.ok (by omega) (by omega) ho hr hs5 hl5 hc5 (by rw [hfe, hB.ep_]) _ rfl)
          have HTO := Lib.hid hTo
          have HB := Lib.hid hb
          have HBb := Lib.hid hP.symm.hA
          have HN := Lib.hid r1
          clear hl5 hc5 hs5 ho hr hfe hfa hP hTo hb hB r1
          go_wp2_with fail
          refine HT.out.mono ?_
          rintro e wt ⟨A6, c6, us6, rfl, hP, -, -, hKt, -⟩
          have hTo := HTO.out.kept hKt
          have hb := HB.out.trans ((hKt.below HBb.out).mono hs2)
          have HPN := Lib.hid hP.symm
          clear HT hKt ca HTO HB hP HBb
          go_wp2_with fail
          go_roundw
          case rel => exact ⟨q + 1, _, by omega, by go_num, HN.out, HPN.out, hTo, hb⟩
          case measure => simp [intOf]; omega
        · obtain rfl : q = K := by omega
          clear hql hq
          have hto1 : toldP 0 pq = [aloneF pq.L] := by rw [still_told hB.still, if_pos (hB.ow (by omega))]
          obtain ⟨hfo, hfr⟩ := alone_ok (L := pq.L) hB.ok.ep hB.ok.cn hB.ok.cb
          obtain ⟨fb, hfb⟩ : ∃ fb, fb = aloneF pq.L := ⟨_, rfl⟩
          rw [← hfb] at hto1 hfo hfr
          have hfn : fb.next = q := by rw [hfb]; exact hB.cn
          have hfe : fb.epoch = ep := by rw [hfb]; exact hB.ep_
          have hfa : fb.alone = true := by rw [hfb]; rfl
          obtain ⟨pe, hpe⟩ : ∃ pe, pe = tickP 0 pq := ⟨_, rfl⟩
          have HKT := Lib.hid (L2Tick hP.free.symm 0 0 hB.ok (by omega) (by omega) 1 [fb] hto1 rfl)
          rw [← hpe] at HKT
          have HB := Lib.hid hb
          have HFB := Lib.hid (And.intro hfo (And.intro hfr (And.intro hfn (And.intro hfe hfa))))
          clear hP hTo hb hB hto1 hfo hfr hfn hfe hfa hfb hpe
          go_wp2_with fail
          refine HKT.out.mono ?_
          rintro e w7 ⟨A2, c2, us2, rfl, hP, hTo, hT⟩
          obtain ⟨Z2, hZ2⟩ : ∃ Z2 : Nat → Prop, Z2 = fun i => wr.heap.size ≤ i ∧ i < w7.heap.size := ⟨_, rfl⟩
          have hP2 : L2 w7 Ba ga pj 0 Bb gb pe q Z2 noZ := hP.symm.mono (fun i hi => .inr (by rw [hZ2] at hi; exact hi)) (fun i h => h)
          rw [← hZ2] at hTo
          have hcap2 := hTo.cap
          replace HB := Lib.hid (HB.out.trans (hT.bel.mono hs2))
          have HP := Lib.hid hP2
          have HTO := Lib.hid hTo
          clear HKT hP hP2 hT hTo hZ2
          go_wp2_with fail
          go_loopw [67] (fun i wr => ∃ (s : Nat) (ps : Pk), s ≤ 1 ∧ i = .int .i64 s ∧ (s = 0 → ps = pj) ∧ (s = 1 → ps = { pj with xs := [] }) ∧ L2 wr Ba ga ps s Bb gb pe q Z2 noZ ∧ ToldZ wr Z2 A2 1 c2 us2 [fb] ∧ Below w.heap.size w wr) (fun i _ => 1 - (intOf i).toNat)
          case atStart => exact ⟨0, pj, by omega, rfl, fun _ => rfl, fun h => by omega, HP.out, HTO.out, HB.out⟩
          case round =>
            clear HP HB HTO
            obtain ⟨s, ps, hs, rfl, hs0, hsA, hP, hTo, hb⟩ := hrel
            by_cases hsl : s < 1
            · obtain rfl : s = 0 := by omega
              have hps := hs0 rfl
              subst hps
              obtain ⟨g, oa, A5, m5, c5, b5, hAa, ca, hl5, hc5, hs5⟩ := hTo.at_ hsl (by simp)
              subst hAa
              rw [Nat.add_zero] at ca
              obtain ⟨ho, hr, hfn, hfe, hfa⟩ := HFB.out
              have hA := HA.out
              have hR1 := take_alone (p := ps) hfa
              rw [keepX_all hfn (by omega) (by
                rw [hA.xs]
                intro x hx
                obtain ⟨y, hy, rfl⟩ := List.mem_map.1 hx
                have h9 := flyF_mem hy
                have h8 := HK0.out
                show y.seq < q
                omega)] at hR1
              have HT := Lib.hid (L2Take hP q fb A5 m5 c5 b5 (by rw [HK0.out]; exact hA.ok) (by omega) (by omega) ho hr hs5 hl5 hc5 (by rw [hfe, hA.L]) _ hR1)
              have HTO := Lib.hid hTo
              have HB := Lib.hid hb
              have HBa := Lib.hid hP.hA
              clear hl5 hc5 hs5 ho hr hfn hfe hfa hA hP hTo hb hR1 hs0 hsA
              go_wp2_with fail
              refine HT.out.mono ?_
              rintro e wt ⟨A6, c6, us6, rfl, hP, -, -, hKt, -⟩
              have hTo := HTO.out.kept hKt
              have hb := HB.out.trans ((hKt.below HBa.out).mono hs1)
              have HPN := Lib.hid hP
              clear HT hKt ca HTO HB hP HBa
              go_wp2_with fail
              go_roundw
              case rel => exact ⟨1, _, by omega, by go_num, fun h => by omega, fun _ => rfl, HPN.out, hTo, hb⟩
              case measure => simp [intOf]
            · obtain rfl : s = 1 := by omega
              clear hsl hs hs0
              have hps := hsA rfl
              have hA := HA.out
              have hst : ps.Still := by rw [hps]; exact ⟨hA.w0, rfl⟩
              have hpL : ps.L = ⟨ep, ws.length, 0, 0, false, false⟩ := by rw [hps]; exact hA.L
              have hpo : ps.Ok 0 := by
                rw [hps]
                exact ⟨hA.ok.ep, hA.ok.nx, hA.ok.cn, hA.ok.cb, hA.ok.ws, fun x hx => (by cases hx), by rw [hA.w0]; exact Nat.le_refl _, hA.ok.hd⟩
              have hto1 : toldP ((j : Int) + 100) ps = [] := by rw [still_told hst, if_neg (by rw [hpL]; simp)]
              have HID := Lib.hid (L2Idle hP (d := true) (by rw [hst.ws, hst.xs]; rfl))
              have HKT := Lib.hid (fun W (h : L2 W Ba ga ps 1 Bb gb pe q noZ noZ) => L2Tick h 0 ((j : Int) + 100) hpo (by omega) (by omega) 0 [] hto1 rfl)
              have HP := Lib.hid hP.free
              have HB := Lib.hid hb
              clear hP hTo hb hsA hps hA hst hpL hpo hto1
              go_wp2_with fail
              refine HID.out.mono ?_
              rintro e wi ⟨rfl, hbi⟩
              have hP := HP.out.ext hbi
              replace HB := Lib.hid (HB.out.trans (hbi.mono HB.out.size))
              have HK9 := Lib.hid (HKT.out wi hP)
              clear HID HP hbi hP HKT
              go_wp2_with fail
              refine HK9.out.mono ?_
              rintro e wj ⟨A3, c3, us3, rfl, -, -, hT⟩
              have HBF := Lib.hid (HB.out.trans (hT.bel.mono hs1))
              clear HK9 hT HB
              go_wp2_with fail
              go_ret
              exact ⟨rfl, HBF.out⟩
end Go.Proofs.YtcgbamkfflcdfaaDoor
