/- LinkOnce: the walk. Conditions: the numbers fit; the library's table lies as it lays it. -/
import Derived.Test.YtcgbamkfflcdfaaDoorZLinkPl
namespace Go.Proofs.YtcgbamkfflcdfaaDoor
open Go.RowKit
set_option linter.unusedVariables false

/-- What one knows who took j of the pieces of l, and nothing else; or all of them, again and again. -/
structure OnB (ep : Nat) (l : List UInt8) (q : Nat) (p : Pk) : Prop where
  still : p.Still
  ep_ : p.L.ep = ep
  cn : p.L.cn = q
  cb : p.L.cb = 0
  ok : p.Ok 0
/-- .. the first time. -/
structure On1 (l : List UInt8) (q : Nat) (p : Pk) : Prop where
  lv : p.L.lv = false
  hd : p.hd = if q = cnt l.length then [] else l.take (64 * q)
theorem once_frame {ep : Nat} {l : List UInt8} (q : Nat) (hq : q < cnt l.length) (hf : q < ((flyF (splitP l) 0).map (frK (newL ep 0))).length) :
    ((flyF (splitP l) 0).map (frK (newL ep 0)))[q].seq = q ∧ ((flyF (splitP l) 0).map (frK (newL ep 0)))[q].alone = false ∧ (⟨((flyF (splitP l) 0).map (frK (newL ep 0)))[q].first, ((flyF (splitP l) 0).map (frK (newL ep 0)))[q].last, ((flyF (splitP l) 0).map (frK (newL ep 0)))[q].data⟩ : Pc) = pieceAt l q := by
  have hw : q < (splitP l).length := by rw [splitP_length]; exact hq
  have h := flyF_get (splitP l) 0 q hw
  rw [List.getElem_map, h]
  refine ⟨by show 0 + q = q; omega, rfl, ?_⟩
  show (⟨(splitP l)[q].first, (splitP l)[q].last, (splitP l)[q].data⟩ : Pc) = _
  rw [splitP_get l q hw]
theorem once_first {ep : Nat} {l : List UInt8} {q : Nat} {p : Pk} {f : Fr} (h : OnB ep l q p) (h1 : On1 l q p) (hl : l.length ≤ 1024) (hq : q < cnt l.length) (hs : f.seq = q) (ha : f.alone = false) (hp : (⟨f.first, f.last, f.data⟩ : Pc) = pieceAt l q) :
    OnB ep l (q + 1) (takeP p f).1 ∧ On1 l (q + 1) (takeP p f).1 ∧ (takeP p f).2 = (if q + 1 = cnt l.length then [l] else [], 0) := by
  have hc16 := cnt_le l.length hl
  obtain ⟨⟨t1, t2, t3, t4⟩, t5⟩ := take_next (p := p) (f := f) (by rw [h.cn]; omega) h.cb (by rw [hs, h.cn]) ha
  have hok := takeP_ok h.ok f
  have e1 : putB ⟨p.hd, p.L.lv⟩ ⟨f.first, f.last, f.data⟩ = if q + 1 = cnt l.length then (⟨[], false⟩, l, true, 0) else (⟨l.take (64 * (q + 1)), false⟩, [], false, 0) := by
    rw [hp, h1.lv, h1.hd, if_neg (by omega)]
    exact put_piece hl hq
  rw [e1] at t3 t4 t5
  refine ⟨⟨⟨by rw [t1]; exact h.still.ws, by rw [t2, h.still.xs]; rfl⟩, by rw [t3]; exact h.ep_, by rw [t3]; show (p.L.cn + 1) % 65536 = q + 1; rw [h.cn]; omega, by rw [t3], hok⟩, ⟨?_, ?_⟩, ?_⟩
  · rw [t3]; split <;> rfl
  · rw [t4]; split <;> rfl
  · rw [t5]; split <;> rfl
theorem once_again {ep : Nat} {l : List UInt8} {p : Pk} {f : Fr} (h : OnB ep l (cnt l.length) p) (hl : l.length ≤ 1024) (hs : f.seq < cnt l.length) (ha : f.alone = false) : OnB ep l (cnt l.length) (takeP p f).1 ∧ (takeP p f).2 = ([], 0) := by
  have hc16 := cnt_le l.length hl
  have e := take_had (p := p) (f := f) (by rw [h.cn]; exact has_old (by omega) hs) ha
  have hok := takeP_ok h.ok f
  rw [e] at hok ⊢
  exact ⟨⟨⟨h.still.ws, by show keepX f p.xs = []; rw [h.still.xs]; rfl⟩, h.ep_, h.cn, h.cb, hok⟩, rfl⟩
theorem same_yes (A B : Option Addr) (l : List UInt8) (n ca cb ba bb : Nat) (w : World) (ha : Bs w ba A l) (hb : Bs w bb B l) (hn : l.length = n) (h1 : n ≤ 2000) :
    Calls Tryd.prog 21 #[.slice A n ca, .slice B n cb] w fun e w' => e = .returned (.bool true) ∧ ∃ k, w' = w.drewN k := by
  have h := Same_calls A B l l n n ca cb ba bb w ha hb hn hn (by simp only [maxLen]; omega) (by simp only [maxLen]; omega)
  rw [decide_eq_true (rfl : l = l)] at h
  exact h
theorem run_field0 (w : World) (a b : Value) : (Instr.field 45 (.agg #[a, b]) 0).run Tryd.prog w = .ok a w := by kernel_rfl
theorem take_ow {p : Pk} {f : Fr} (ha : f.alone = false) : (takeP p f).1.L.ow = true := by
  unfold takeP
  rw [if_neg (by rw [ha]; decide)]
  split <;> rfl
set_option maxHeartbeats 16000000 in
set_option maxRecDepth 20000 in
theorem LinkOnce_walk (ep n times : Nat) (w : World) (hTab : Tab w) (h1 : ep ≤ 65535) (h2 : n ≤ 65535) (h3 : times ≤ 255) :
    Calls Tryd.prog 7 #[.int .u16 (ep : Int), .int .u16 (n : Int), .int .u8 (times : Int)] w fun e w' => e = .returned (.bool true) ∧ Below w.heap.size w w' := by
  obtain ⟨m, hm⟩ : ∃ m, m = n % 1000 := ⟨_, rfl⟩
  have hm1 : m < 1000 := by omega
  obtain ⟨R, hR⟩ : ∃ R, R = 1 + times % 5 := ⟨_, rfl⟩
  have hR5 : R ≤ 5 := by omega
  have hR0 : 0 < R := by omega
  have HM := Lib.hid hm
  have HR := Lib.hid hR
  clear hm hR
  have HT0 := Lib.hid hTab
  clear hTab
  go_enter Tryd.func7, Tryd.ntmps7
  go_wp2_with fail
  refine (awake_calls w).mono ?_
  rintro e w1 ⟨rfl, hb⟩
  go_wp2_with fail
  refine (LrNew_calls ep _ rfl w1).mono ?_
  rintro e w2 ⟨ga, rfl, hla, hb2⟩
  have ht1 := Tab.ext HT0.out hb
  have ht2 := Tab.ext ht1 hb2
  have hs1 := hb.size
  replace hb := hb.trans (hb2.mono hb.size)
  clear hb2
  go_wp2_with fail
  refine (LrNew_calls ep _ rfl w2).mono ?_
  rintro e w3 ⟨gb, rfl, hlb, hb3⟩
  have hP := L2.new ht2 (tab_lt ht1) hla hb3 hlb
  have hs2 := hb.size
  replace hb := hb.trans (hb3.mono hb.size)
  clear hb3 hla hlb ht1 ht2
  obtain ⟨Ba, hBa⟩ : ∃ Ba, Ba = w1.heap.size := ⟨_, rfl⟩
  obtain ⟨Bb, hBb⟩ : ∃ Bb, Bb = w2.heap.size := ⟨_, rfl⟩
  rw [← hBa, ← hBb] at hP
  rw [← hBa] at hs1
  rw [← hBb] at hs2
  clear hBa hBb
  have hok0 := newP_ok (ep := ep) (by omega)
  have HP := Lib.hid hP
  have HB := Lib.hid hb
  clear hP hb
  go_wp2_with fail
  refine (bytesF_at m 3 _ _ (by have := HM.out; omega) rfl w3 (by omega) (by decide)).mono ?_
  rintro e w4 ⟨cp, bp, rfl, hcp, hcpm, hBs, hbw, hbN⟩
  have hPF := HP.out.fence hbN
  obtain ⟨Zp, hZp⟩ : ∃ Zp : Nat → Prop, Zp = fun i => w3.heap.size ≤ i ∧ i < w4.heap.size := ⟨_, rfl⟩
  have hPF2 : L2 w4 Ba ga (newP ep) 0 Bb gb (newP ep) 0 Zp Zp := hPF.mono (fun i hi => .inr (by rw [hZp] at hi; exact hi)) (fun i hi => .inr (by rw [hZp] at hi; exact hi))
  obtain ⟨l, hl⟩ : ∃ l, l = bytesN m 3 := ⟨_, rfl⟩
  rw [← hl] at hBs
  have hll : l.length = m := by rw [hl]; simp
  have hzp : l ≠ [] → Zp bp := fun h0 => by rw [hZp]; exact ⟨hbw, Bs.lt hBs h0⟩
  replace HB := Lib.hid (HB.out.trans (hbN.mono HB.out.size))
  have HS := Lib.hid (L2SendK hPF2 (some ⟨bp, 0, none⟩) l m cp bp hBs hll (by omega) hcp hcpm (by have := cnt_le m (by omega); show 0 + cnt m ≤ 128; omega))
  have HBS := Lib.hid hBs
  have HZP := Lib.hid hzp
  have HLL := Lib.hid hll
  clear HP hPF hPF2 hZp hl hll hzp hBs hbw hbN
  go_wp2_with fail
  refine HS.out.mono ?_
  rintro e w5 ⟨rfl, hP, hT, hK⟩
  replace HB := Lib.hid (HB.out.trans (hT.bel.mono hs1))
  replace HBS := Lib.hid (hK.bs HBS.out HZP.out)
  obtain ⟨pa, hpa⟩ : ∃ pa, pa = sendP (newP ep) l := ⟨_, rfl⟩
  rw [← hpa] at hP
  have hpw : pa.ws = splitP l := by rw [hpa]; rfl
  have hpx : pa.xs = [] := by rw [hpa]; rfl
  have hpL : pa.L = newL ep 0 := by rw [hpa]; rfl
  obtain ⟨K, hK0⟩ : ∃ K, K = cnt l.length := ⟨_, rfl⟩
  have hK16 : K ≤ 16 := by rw [hK0]; exact cnt_le _ (by rw [HLL.out]; omega)
  have hK1 : 1 ≤ K := by rw [hK0]; exact cnt_pos _
  have hwl : (splitP l).length = K := by rw [splitP_length, hK0]
  have hokA : pa.Ok K := by rw [hpa, hK0]; exact (sendP_ok hok0 l).mono (by omega)
  obtain ⟨fs, hfs⟩ : ∃ fs, fs = (flyF (splitP l) 0).map (frK (newL ep 0)) := ⟨_, rfl⟩
  have hfl : fs.length = K := by rw [hfs, List.length_map, flyF_length, hwl]
  have hto : toldP 0 pa = fs := by rw [fresh_told 0 0 hpx (by rw [hpL]) (by rw [hpw]; omega) (by rw [hpw]; intro h0; rw [h0] at hwl; simp at hwl; omega) (by omega), hpw, hpL, hfs]
  have hfo : ∀ f ∈ fs, f.Ok ∧ f.right = true ∧ f.epoch = ep ∧ f.alone = false := by
    rw [hfs]
    exact fr_ok (L := newL ep 0) (by show ep < 65536; omega) (show (0 : Nat) < 65536 by decide) (show (0 : Nat) < 4294967296 by decide) (by omega) split_small
  have hfq : ∀ q (hq : q < fs.length), fs[q].seq = q ∧ fs[q].alone = false ∧ (⟨fs[q].first, fs[q].last, fs[q].data⟩ : Pc) = pieceAt l q := by
    subst hfs
    intro q hq
    exact once_frame q (by rw [← hK0]; omega) hq
  have HK := Lib.hid (L2TickK hP K 0 hokA (by omega) (by omega) K fs hto hfl)
  have HFO := Lib.hid hfo
  have HFQ := Lib.hid hfq
  have HFL := Lib.hid hfl
  have HK0 := Lib.hid hK0
  clear HS hP hT hK hpa hpw hpx hpL hK0 hwl hokA hfs hto hfo hfq hfl
  go_wp2_with fail
  refine HK.out.mono ?_
  rintro e w6 ⟨A1, c1, us1, rfl, hP, hTo, hT, hKp⟩
  replace HB := Lib.hid (HB.out.trans (hT.bel.mono hs1))
  replace HBS := Lib.hid (hKp.bs HBS.out HZP.out)
  obtain ⟨Z, hZ⟩ : ∃ Z : Nat → Prop, Z = fun i => w5.heap.size ≤ i ∧ i < w6.heap.size := ⟨_, rfl⟩
  obtain ⟨Zb, hZb⟩ : ∃ Zb : Nat → Prop, Zb = fun i => Zp i ∨ (w5.heap.size ≤ i ∧ i < w6.heap.size) := ⟨_, rfl⟩
  rw [← hZb] at hP
  rw [← hZ] at hTo
  have hzz : ∀ i, Z i → Zb i := fun i hi => by rw [hZb]; rw [hZ] at hi; exact .inr hi
  have hzq : ∀ i, Zp i → Zb i := fun i hi => by rw [hZb]; exact .inl hi
  obtain ⟨pT, hpT⟩ : ∃ pT, pT = tickP 0 pa := ⟨_, rfl⟩
  rw [← hpT] at hP
  have HP := Lib.hid hP
  have HTO := Lib.hid hTo
  have HZZ := Lib.hid hzz
  have HZQ := Lib.hid hzq
  have hcap := hTo.cap
  have hwsB := HB.out.size
  clear HK hP hT hKp hZ hZb hzz hzq hTo hpT
  have hRI : (1 : Int) + ((times : Int) % 5) = (R : Int) := by have := HR.out; omega
  go_wp2_with fail
  try rw [hRI]
  go_loopw [11, 39] (fun gt i wr => ∃ (j g0 : Nat) (pb : Pk), j ≤ R ∧ i = .int .i64 j ∧ gt = .int .i64 (g0 : Int) ∧ Hid (g0 = if j = 0 then 0 else 1) ∧ OnB ep l (if j = 0 then 0 else K) pb ∧ (j = 0 → On1 l 0 pb) ∧ L2 wr Ba ga pT 0 Bb gb pb (j * K) noZ Zb ∧ ToldZ wr Z A1 K c1 us1 fs ∧ Bs wr bp (some ⟨bp, 0, none⟩) l ∧ Below w.heap.size w wr) (fun _ i _ => R - (intOf i).toNat)
  case atStart => exact ⟨0, 0, newP ep, Nat.zero_le _, rfl, rfl, Lib.hid rfl, ⟨⟨rfl, rfl⟩, rfl, rfl, rfl, hok0⟩, fun _ => ⟨rfl, by rw [if_neg (by have := HK0.out; omega)]; rfl⟩, by rw [Nat.zero_mul]; exact HP.out.mono (fun i hi => hi.elim) (fun i hi => hi), HTO.out, HBS.out, HB.out⟩
  case round =>
    clear HP HTO HBS HB
    obtain ⟨j, g0, pb, hj, rfl, rfl, HG0, hOn, hOn1, hP, hTo, hBs, hb⟩ := hrel
    by_cases hlt : j < R
    · have HTO := Lib.hid hTo
      have HBS := Lib.hid hBs
      have HB := Lib.hid hb
      have HP := Lib.hid hP
      have HON := Lib.hid hOn
      have HON1 := Lib.hid hOn1
      have hjR : j ≤ 5 := by omega
      clear hTo hBs hb hP hOn hOn1
      go_wp2_with fail
      obtain ⟨wl, hwl⟩ : ∃ wl, wl = wr := ⟨_, rfl⟩
      subst hwl
      go_loopw [11, 44] (fun gt i wr => ∃ (q gn : Nat) (pb : Pk), q ≤ K ∧ i = .int .i64 q ∧ gt = .int .i64 (gn : Int) ∧ gn = (if j = 0 then (if q = K then 1 else 0) else 1) ∧ OnB ep l (if j = 0 then q else K) pb ∧ (j = 0 → On1 l q pb) ∧ (0 < q → pb.L.ow = true) ∧ L2 wr Ba ga pT 0 Bb gb pb (j * K + q) noZ Zb ∧ ToldZ wr Z A1 K c1 us1 fs ∧ Bs wr bp (some ⟨bp, 0, none⟩) l ∧ Below w.heap.size w wr) (fun _ i _ => K - (intOf i).toNat)
      case atStart => exact ⟨0, g0, pb, Nat.zero_le _, rfl, rfl, by rw [HG0.out]; split <;> first | rfl | (rw [if_neg (by omega)]), by have := HON.out; split at this <;> (first | (rw [if_pos (by assumption)]; exact this) | (rw [if_neg (by assumption)]; exact this)), HON1.out, fun h => absurd h (by omega), by rw [Nat.add_zero]; exact HP.out, HTO.out, HBS.out, HB.out⟩
      case round =>
        clear HP HTO HBS HB HON HON1
        obtain ⟨q, gn, pb2, hq, rfl, rfl, hgn, hOn, hOn1, how, hP, hTo, hBs, hb⟩ := hrel
        by_cases hqK : q < K
        · have hqf : q < fs.length := by rw [HFL.out]; exact hqK
          obtain ⟨g, oa, A5, m5, c5, b5, hA, ca, hl5, hc5, hs5⟩ := hTo.at_ hqK hqf
          subst hA
          obtain ⟨ho, hr, hfe, hfa⟩ := HFO.out fs[q] (List.getElem_mem hqf)
          obtain ⟨hsq, -, hpc⟩ := HFQ.out q hqf
          have hlen : l.length ≤ 1024 := by rw [HLL.out]; omega
          have hnx : ∃ out : List (List UInt8), (takeP pb2 fs[q]).2 = (out, 0) ∧ OnB ep l (if j = 0 then q + 1 else K) (takeP pb2 fs[q]).1 ∧ (j = 0 → On1 l (q + 1) (takeP pb2 fs[q]).1) ∧ out.length = (if j = 0 then (if q + 1 = K then 1 else 0) else 0) ∧ ∀ x ∈ out, x = l := by
            by_cases hj0 : j = 0
            · rw [if_pos hj0] at hOn
              obtain ⟨r1, r2, r3⟩ := once_first hOn (hOn1 hj0) hlen (by rw [← HK0.out]; exact hqK) hsq hfa hpc
              rw [← HK0.out] at r3
              refine ⟨_, r3, by rw [if_pos hj0]; exact r1, fun _ => r2, ?_, ?_⟩
              · rw [if_pos hj0]; split <;> rfl
              · intro x hx; split at hx <;> simp at hx; exact hx
            · rw [if_neg hj0, HK0.out] at hOn
              obtain ⟨r1, r2⟩ := once_again hOn hlen (by rw [hsq, ← HK0.out]; exact hqK) hfa
              exact ⟨[], r2, by rw [if_neg hj0, HK0.out]; exact r1, fun h => absurd h hj0, by rw [if_neg hj0]; rfl, fun x hx => by cases hx⟩
          obtain ⟨out, ho1, hOnN, hOn1N, hol, hox⟩ := hnx
          have howN := take_ow (p := pb2) hfa
          obtain ⟨pN, hpN⟩ : ∃ pN, pN = (takeP pb2 fs[q]).1 := ⟨_, rfl⟩
          have hR1 : takeP pb2 fs[q] = (pN, out, 0) := by rw [hpN, ← ho1]
          rw [← hpN] at hOnN hOn1N howN
          have HT := Lib.hid (L2Take hP.symm 0 fs[q] A5 m5 c5 b5 hOn.ok (by omega) (by have : j * K ≤ 5 * 16 := Nat.mul_le_mul (by omega) hK16; omega) ho hr hs5 hl5 hc5 (by rw [hfe, hOn.ep_]) (pN, out, 0) hR1)
          have HTO := Lib.hid hTo
          have HBS := Lib.hid hBs
          have HB := Lib.hid hb
          have HBb := Lib.hid hP.symm.hA
          have HN := Lib.hid (And.intro hOnN (And.intro hOn1N (And.intro howN (And.intro hol hox))))
          have hgb : gn ≤ 1 := by rw [hgn]; split <;> (try split) <;> omega
          have HGN := Lib.hid hgn
          clear hl5 hc5 hs5 ho hr hfe hfa hsq hpc hP hTo hBs hb hOn hOn1 how ho1 hOnN hOn1N hol hox howN hpN hR1 hgn
          go_wp2_with fail
          refine HT.out.mono ?_
          rintro e wt ⟨A6, c6, us6, rfl, hP, hrs, hI, hKt, -⟩
          obtain ⟨no, hno⟩ : ∃ no, no = out.length := ⟨_, rfl⟩
          replace HTO := Lib.hid (HTO.out.kept (hKt.mono HZZ.out))
          replace HBS := Lib.hid ((hKt.mono HZQ.out).bs HBS.out HZP.out)
          replace HB := Lib.hid (HB.out.trans ((hKt.below HBb.out).mono hs2))
          have hrs2 : RowS wt wr.heap.size (.slice A6 no c6) us6 := by rw [hno]; exact hrs
          have hc6 := row_cap hrs2
          have HRS := Lib.hid hrs2
          have HI := Lib.hid hI
          have HP := Lib.hid hP.symm
          have HNO := Lib.hid hno
          rw [show (pN, out, (0 : Nat)).2.1.length = no from hno.symm]
          clear HT hKt hP hrs hrs2 hI ca hno HBb
          go_wp2_with fail
          obtain ⟨wk, hwk⟩ : ∃ wk, wk = wt := ⟨_, rfl⟩
          go_loopw [11, 58] (fun gt i wr => ∃ s : Nat, s ≤ no ∧ i = .int .i64 s ∧ gt = .int .i64 ((gn + s : Nat) : Int) ∧ Below wt.heap.size wt wr) (fun _ i _ => no - (intOf i).toNat)
          case atStart => exact ⟨0, Nat.zero_le _, rfl, rfl, Below.refl _ _⟩
          case round =>
            obtain ⟨s, hs, rfl, rfl, hbs⟩ := hrel
            have hno1 : no ≤ 1 := by rw [HNO.out, HN.out.2.2.2.1]; split <;> (try split) <;> omega
            by_cases hsn : s < no
            · have hsl : s < out.length := by rw [← HNO.out]; exact hsn
              obtain ⟨g, oa, Aq, mq, cq, bq, hAq, caq, hlq, hcq, hsq⟩ := row_at (HRS.out.ext hbs) (HI.out.ext hbs) hsn hsl
              subst hAq
              have hxl := HN.out.2.2.2.2 out[s] (List.getElem_mem hsl)
              rw [hxl] at hlq hsq
              have hmq : mq = m := by rw [← hlq]; exact HLL.out
              subst hmq
              have hSm := fun W h1 h2 => same_yes Aq (some ⟨bp, 0, none⟩) l mq cq cp bq bp W h1 h2 HLL.out (by omega)
              have HBQ := Lib.hid hsq
              have HBP := Lib.hid (Sl.ext HBS.out hbs)
              have HBSS := Lib.hid hbs
              clear hlq hsq hxl hbs
              go_wp2_with fail
              refine (hSm _ HBQ.out HBP.out).mono ?_
              rintro e wz ⟨rfl, nk, rfl⟩
              have hbz := below_drewN HBSS.out nk
              clear hSm HBQ HBP caq HBSS
              go_wp2_with fail
              go_roundw
              case rel => exact ⟨s + 1, by omega, by go_num, by first | go_num | (congr 1; omega), hbz⟩
              case measure => simp [intOf]; omega
            · obtain rfl : s = no := by omega
              have hTo := HTO.out.ext hbs
              have hBs := Sl.ext HBS.out hbs
              have hP := HP.out.ext hbs
              have hb := HB.out.trans (hbs.mono HB.out.size)
              have hN := HN.out
              clear HTO HBS HP HB HRS HI hbs
              go_wp2_with fail
              go_roundw
              case rel => exact ⟨q + 1, gn + s, pN, by omega, by go_num, rfl, by have h8 := HGN.out; have h9 := hN.2.2.2.1; rw [← HNO.out] at h9; rw [h8, h9]; clear h8 h9; split <;> (try (split <;> (try split))) <;> omega, hN.1, hN.2.1, fun _ => hN.2.2.1, by rw [← Nat.add_assoc]; exact hP, hTo, hBs, hb⟩
              case measure => simp [intOf]; omega
        · obtain rfl : q = K := by omega
          clear hqK
          have howT := how (by omega)
          have hOn' : OnB ep l q pb2 := by by_cases hj0 : j = 0; rw [if_pos hj0] at hOn; exact hOn; rw [if_neg hj0] at hOn; exact hOn
          have hto1 : toldP (j : Int) pb2 = [aloneF pb2.L] := by rw [still_told hOn'.still, if_pos howT]
          have htk1 := still_tick hOn'.still (j : Int)
          obtain ⟨pc, hpc⟩ : ∃ pc, pc = tickP (j : Int) pb2 := ⟨_, rfl⟩
          have hokc : pc.Ok 0 := by rw [hpc]; exact tickP_ok hOn'.ok _ (by omega)
          have hOnC : OnB ep l q pc := ⟨by rw [hpc, htk1]; exact ⟨hOn'.still.ws, hOn'.still.xs⟩, by rw [hpc, htk1]; exact hOn'.ep_, by rw [hpc, htk1]; exact hOn'.cn, by rw [hpc, htk1]; exact hOn'.cb, hokc⟩
          have hto2 : toldP (j : Int) pc = [] := by rw [still_told hOnC.still, hpc, htk1]; rfl
          have htk2 := still_tick hOnC.still (j : Int)
          obtain ⟨pd, hpd⟩ : ∃ pd, pd = tickP (j : Int) pc := ⟨_, rfl⟩
          have hokd : pd.Ok 0 := by rw [hpd]; exact tickP_ok hokc _ (by omega)
          have hOnD : OnB ep l q pd := ⟨by rw [hpd, htk2]; exact ⟨hOnC.still.ws, hOnC.still.xs⟩, by rw [hpd, htk2]; exact hOnC.ep_, by rw [hpd, htk2]; exact hOnC.cn, by rw [hpd, htk2]; exact hOnC.cb, hokd⟩
          have HK1 := Lib.hid (L2TickK hP.symm 0 (j : Int) hOn'.ok (by omega) (by omega) 1 _ hto1 rfl)
          rw [← hpc] at HK1
          have HK2 := Lib.hid (fun W (h : L2 W Bb gb pc (j * q + q) Ba ga pT 0 Zb noZ) => L2TickK h 0 (j : Int) hokc (by omega) (by omega) 0 _ hto2 rfl)
          rw [← hpd] at HK2
          have hgn1 : gn = 1 := by rw [hgn]; split <;> (try (split <;> (try rfl))) <;> (try rfl) <;> omega
          subst hgn1
          have HTO := Lib.hid hTo
          have HBS := Lib.hid hBs
          have HB := Lib.hid hb
          have HOD := Lib.hid hOnD
          clear hP hTo hBs hb hOn hOn1 how howT hOn' hto1 htk1 hpc hokc hOnC hto2 htk2 hpd hokd hOnD hgn
          go_wp2_with fail
          refine HK1.out.mono ?_
          rintro e wx ⟨A7, c7, us7, rfl, hP, -, hT, hKx⟩
          replace HTO := Lib.hid (HTO.out.keepT hT)
          replace HBS := Lib.hid ((hKx.mono HZQ.out).bs HBS.out HZP.out)
          replace HB := Lib.hid (HB.out.trans (hT.bel.mono hs2))
          have HP := Lib.hid (hP.mono (fun i hi => hi) (Zb' := noZ) (fun i hi => hi.elim))
          clear HK1 hP hT hKx
          go_wp2_with fail
          refine (HK2.out _ HP.out).mono ?_
          rintro e wy ⟨A8, c8, us8, rfl, hP, -, hT, hKx⟩
          have hTo := HTO.out.keepT hT
          have hBs := (hKx.mono HZQ.out).bs HBS.out HZP.out
          have hb := HB.out.trans (hT.bel.mono hs2)
          have hP2 := (hP.mono (fun i hi => hi) (Zb' := noZ) (fun i hi => hi.elim)).symm
          clear HK2 hP hT hKx HP HTO HBS HB
          go_wp2_with fail
          go_roundw
          case rel => exact ⟨j + 1, 1, pd, by omega, by go_num, rfl, Lib.hid (by rw [if_neg (by omega)]), by rw [if_neg (by omega)]; exact HOD.out, fun h => absurd h (by omega), by rw [show (j + 1) * q = j * q + q by rw [Nat.add_mul, Nat.one_mul]]; exact hP2, hTo, hBs, hb⟩
          case measure => simp [intOf]; omega
    · obtain rfl : j = R := by omega
      clear hlt
      rw [if_neg (by omega)] at hOn
      have HACK := Lib.hid (L2Acks hP.symm hOn.cn hOn.cb)
      have HBE := Lib.hid hb
      have hcK : (K : Int) = if m = 0 then 1 else ((m : Int) + 63) / 64 := by
        have h8 := HK0.out
        rw [HLL.out] at h8
        unfold cnt at h8
        rw [h8]
        split <;> omega
      have HCK := Lib.hid hcK
      obtain rfl : g0 = 1 := by rw [HG0.out, if_neg (by omega)]
      clear hP hTo hBs hb hOn hOn1 hcK
      go_wp2_with fail
      refine HACK.out.mono ?_
      rintro e wa ⟨rfl, hba⟩
      have hbe := HBE.out.trans (hba.mono HBE.out.size)
      have HBE2 := Lib.hid hbe
      have hfld := fun W => run_field0 W (.int .u16 (K : Int)) (.int .u32 0)
      clear HACK hba hbe HBE
      go_wp2_with fail
      all_goals
        have h9 := HCK.out
        have k1 : 1 < ((m : Int) + 63) / 64 → ((K : Int) == ((m : Int) + 63) / 64) = true := fun h => by simp only [beq_iff_eq]; split at h9 <;> omega
        have k2 : ¬ 1 < ((m : Int) + 63) / 64 → ((K : Int) == 1) = true := fun h => by simp only [beq_iff_eq]; split at h9 <;> omega
        go_ret
        refine ⟨?_, HBE2.out⟩
        first
          | exact congrArg (fun b => Ending.returned (Value.bool b)) (k1 (by omega))
          | exact congrArg (fun b => Ending.returned (Value.bool b)) (k2 (by omega))
end Go.Proofs.YtcgbamkfflcdfaaDoor
