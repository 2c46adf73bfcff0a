/- LinkWindow: the walk. Conditions: the numbers fit; the library's table lies as it lays it. -/
import Derived.Test.YtcgbamkfflcdfaaDoorZLinkPl
namespace Go.Proofs.YtcgbamkfflcdfaaDoor
open Go.RowKit
set_option linter.unusedVariables false

theorem bs_new (w : World) (l : List UInt8) : Bs (w.alloc (.cells (bv l).toArray 5)) w.heap.size (some ⟨w.heap.size, 0, none⟩) l := sl_newF w (bv l) _
abbrev pc7 : Pc := ⟨true, true, [7]⟩
structure WiS (ep j : Nat) (p : Pk) : Prop where
  ws : p.ws = List.replicate j pc7
  xs : p.xs = []
  L : p.L = ⟨ep, 0, 0, 0, false, false⟩
  ok : p.Ok j
theorem WiS.send {ep j : Nat} {p : Pk} (h : WiS ep j p) : WiS ep (j + 1) (sendP p [7]) :=
  ⟨by show p.ws ++ splitP [7] = _; rw [h.ws, split_one (by simp), List.replicate_succ'], h.xs, h.L, (sendP_ok h.ok [7]).mono (by simp [cnt])⟩
def wiX : List Fn := flyF (List.replicate 32 pc7) 0
theorem wiX_len : wiX.length = 32 := by simp [wiX, flyF_length]
def wiF (ep : Nat) : List Fr := wiX.map (frK ⟨ep, 0, 0, 0, false, false⟩)
theorem wiF_len (ep : Nat) : (wiF ep).length = 32 := by simp [wiF, wiX_len]
theorem wiF_ok {ep : Nat} (h : ep < 65536) : ∀ f ∈ wiF ep, f.Ok ∧ f.right = true ∧ f.epoch = ep ∧ f.alone = false :=
  fr_ok (L := ⟨ep, 0, 0, 0, false, false⟩) (ws := List.replicate 32 pc7) (n := 0) h (show (0 : Nat) < 65536 by decide) (show (0 : Nat) < 4294967296 by decide) (by simp) (fun x hx => by rw [List.eq_of_mem_replicate hx]; simp)
theorem wiF_at {ep q : Nat} (hq : q < (wiF ep).length) : (wiF ep)[q].seq = q ∧ (⟨(wiF ep)[q].first, (wiF ep)[q].last, (wiF ep)[q].data⟩ : Pc) = pc7 := by
  have hw : q < (List.replicate 32 pc7).length := by rw [wiF_len] at hq; simpa using hq
  have h := flyF_get (List.replicate 32 pc7) 0 q hw
  rw [List.getElem_replicate] at h
  have h5 : (wiF ep)[q]? = some (frK ⟨ep, 0, 0, 0, false, false⟩ ⟨pc7, 0 + q, false, 0⟩) := by
    unfold wiF wiX
    rw [List.getElem?_map, List.getElem?_eq_getElem (by rw [flyF_length]; exact hw), h]
    rfl
  rw [List.getElem?_eq_getElem hq] at h5
  injection h5 with h5
  rw [h5]
  exact ⟨by show 0 + q = q; omega, rfl⟩
theorem rep_add (a b : Nat) (x : Pc) : List.replicate (a + b) x = List.replicate a x ++ List.replicate b x := by
  induction a with
  | zero => simp
  | succ a ih => rw [show a + 1 + b = (a + b) + 1 by omega, List.replicate_succ, List.replicate_succ, ih]; rfl
theorem wi_start (n : Nat) (hn : 32 < n) : startK (List.replicate n pc7) 0 [] = (32, List.replicate (n - 32) pc7, wiX) := by
  have e : List.replicate n pc7 = List.replicate 32 pc7 ++ List.replicate (n - 32) pc7 := by have h9 := rep_add 32 (n - 32) pc7; rwa [show 32 + (n - 32) = n by omega] at h9
  have h1 : startK (List.replicate 32 pc7) 0 [] = (32, [], wiX) := by
    have := startK_new (List.replicate 32 pc7) (by simp)
    simpa [wiX] using this
  rw [e, startK_app _ _ _ _ _ _ h1]
  obtain ⟨r, hr⟩ : ∃ r, n - 32 = r + 1 := ⟨n - 33, by omega⟩
  rw [hr, List.replicate_succ, startK, if_neg]
  have h2 : roomK 32 wiX = false := by kernel_rfl
  rw [h2]
  decide
/-- What the one holds behind its first Tick. -/
structure WiT (ep n : Nat) (p : Pk) : Prop where
  ws : p.ws = List.replicate (n - 32) pc7
  xs : p.xs = wiX.map (tickK 0)
  L : p.L = ⟨ep, 32, 0, 0, false, false⟩
  ok : p.Ok n
theorem WiS.first {ep n : Nat} {p : Pk} (h : WiS ep n p) (hn : 32 < n) : toldP 0 p = wiF ep ∧ WiT ep n (tickP 0 p) := by
  have hs := wi_start n hn
  have hd : dueP 0 p = wiF ep := by
    unfold dueP
    rw [h.ws, h.xs, h.L, hs]
    show sendsK 0 _ wiX = _
    rw [sends_new 0 _ wiX (fun x hx => (flyF_mem hx).1)]
    rfl
  refine ⟨?_, ⟨?_, ?_, ?_, tickP_ok h.ok 0 (by omega)⟩⟩
  · unfold toldP
    rw [hd, if_neg]
    intro h0
    have := congrArg List.length h0.1
    rw [wiF_len] at this
    cases this
  · unfold tickP; rw [h.ws, h.xs, h.L, hs]
  · unfold tickP; rw [h.ws, h.xs, h.L, hs]
  · unfold tickP; rw [h.ws, h.xs, h.L, hs]
/-- The other one, that took the pieces from 1 on to q. -/
structure WiB (ep q : Nat) (p : Pk) : Prop where
  still : p.Still
  L : p.L = ⟨ep, 0, 0, 2 ^ q - 1, false, decide (0 < q)⟩
  hd : p.hd = []
  E : ∀ s, 1 ≤ s → s ≤ q → p.E s = some pc7
  ok : p.Ok 0
theorem wi_note : ∀ q, q < 31 → noteN 0 (2 ^ q - 1) (q + 1) = some (0, 2 ^ (q + 1) - 1) := by decide +kernel
theorem WiB.take {ep q : Nat} {p : Pk} {f : Fr} (h : WiB ep q p) (hq : q < 31) (hs : f.seq = q + 1) (ha : f.alone = false) (hp : (⟨f.first, f.last, f.data⟩ : Pc) = pc7) : WiB ep (q + 1) (takeP p f).1 ∧ (takeP p f).2 = ([], 0) := by
  have hok := takeP_ok h.ok f
  have hn : noteN p.L.cn p.L.cb f.seq = some (0, 2 ^ (q + 1) - 1) := by rw [h.L, hs]; exact wi_note q hq
  have ha0 : aheadN p.L.cn 0 = 0 := by rw [h.L]; show aheadN 0 0 = 0; decide
  have e : takeP p f = ({ p with xs := keepX f p.xs, L := { p.L with cn := 0, cb := 2 ^ (q + 1) - 1, lv := p.L.lv, ow := true }, E := (firstK p f).E, hd := p.hd }, [], 0) := by
    unfold takeP
    rw [if_neg (by rw [ha]; decide)]
    simp only [hn, ha0]
    rfl
  rw [e] at hok ⊢
  refine ⟨⟨⟨h.still.ws, by show keepX f p.xs = []; rw [h.still.xs]; rfl⟩, ?_, h.hd, fun s h1 h2 => ?_, hok⟩, rfl⟩
  · show ({ p.L with cn := 0, cb := 2 ^ (q + 1) - 1, lv := p.L.lv, ow := true } : Lk) = _
    rw [h.L, decide_eq_true (show 0 < q + 1 by omega)]
  · show (firstK p f).E s = some pc7
    unfold firstK
    simp only [hs]
    by_cases e : s = q + 1
    · rw [if_pos e, hp]
    · rw [if_neg e]; exact h.E s h1 (by omega)
theorem put7 : putB ⟨[], false⟩ pc7 = (⟨[], false⟩, [7], true, 0) := by first | rfl | simp [putB, refuseN]
theorem drain7 (s : Kp) (h : s.k = ⟨[], false⟩) (ho : s.out = []) (he : s.err = 0) (hE : ∀ j, j < 32 → s.E j = some pc7) (m : Nat) (hm : m ≤ 32) : (drainK s 0 m).k = ⟨[], false⟩ ∧ (drainK s 0 m).out = List.replicate m [7] ∧ (drainK s 0 m).err = 0 ∧ ∀ j, m ≤ j → (drainK s 0 m).E j = s.E j := by
  induction m with
  | zero => exact ⟨h, ho, he, fun _ _ => rfl⟩
  | succ m ih =>
    obtain ⟨i1, i2, i3, i4⟩ := ih (by omega)
    have hmm : (0 + m) % 65536 = m := by omega
    have e : drainK s 0 (m + 1) = putK (drainK s 0 m) m := by show putK (drainK s 0 m) ((0 + m) % 65536) = _; rw [hmm]
    have hx : (drainK s 0 m).E m = some pc7 := by rw [i4 m (Nat.le_refl _)]; exact hE m (by omega)
    have hk : putB (drainK s 0 m).k (((drainK s 0 m).E m).getD pcz) = (⟨[], false⟩, [7], true, 0) := by rw [i1, hx]; exact put7
    rw [e]
    unfold putK
    rw [hk]
    refine ⟨rfl, ?_, by simp [i3], fun j hj => ?_⟩
    · show (if (true : Bool) = true then (drainK s 0 m).out ++ [[7]] else (drainK s 0 m).out) = _
      rw [if_pos rfl, i2, List.replicate_succ']
    · show (if j = m then none else (drainK s 0 m).E j) = _
      rw [if_neg (by omega)]
      exact i4 j (by omega)
theorem wi_last {ep : Nat} {p : Pk} {f : Fr} (hL : p.L = ⟨ep, 0, 0, 2 ^ 31 - 1, false, false⟩) (hhd : p.hd = []) (hE : ∀ s, 1 ≤ s → s ≤ 31 → p.E s = some pc7) (hs : f.seq = 0) (ha : f.alone = false) (hp : (⟨f.first, f.last, f.data⟩ : Pc) = pc7) : (takeP p f).2 = (List.replicate 32 [7], 0) := by
  have hn : noteN 0 p.L.cb f.seq = some (32, 0) := by rw [hL, hs]; show noteN 0 (2 ^ 31 - 1) 0 = _; decide +kernel
  have ha0 : aheadN 0 32 = 32 := by decide
  have hcn : p.L.cn = 0 := by rw [hL]
  obtain ⟨d1, d2, d3, -⟩ := drain7 (firstK p f) (by unfold firstK; rw [hhd, hL]) rfl rfl (fun j hj => by
    unfold firstK
    simp only [hs]
    by_cases e : j = 0
    · rw [if_pos e, hp]
    · rw [if_neg e]; exact hE j (by omega) (by omega)) 32 (Nat.le_refl _)
  unfold takeP
  rw [if_neg (by rw [ha]; decide)]
  simp only [hcn, hn, ha0]
  rw [d2, d3]
theorem wi_has : ∀ s, s < 32 → 1 ≤ s → hasN 0 (2 ^ 31 - 1) s = true := by decide +kernel
theorem wi_kept {f : Fr} (h1 : f.next = 0) (h2 : f.bits = 2 ^ 31 - 1) : keepX f (wiX.map (tickK 0)) = [⟨pc7, 0, true, 0⟩] := by
  have e0 : wiX = ⟨pc7, 0, false, 0⟩ :: flyF (List.replicate 31 pc7) 1 := by
    unfold wiX
    rw [show (32 : Nat) = 31 + 1 from rfl, List.replicate_succ]
    rfl
  have e1 : keepX f ((flyF (List.replicate 31 pc7) 1).map (tickK 0)) = [] := by
    unfold keepX
    rw [List.filter_eq_nil_iff]
    intro x hx
    obtain ⟨y, hy, rfl⟩ := List.mem_map.1 hx
    have h3 := flyF_mem hy
    rw [List.length_replicate] at h3
    rw [tick_new 0 h3.1]
    have h4 := wi_has y.seq (by omega) (by omega)
    unfold goneN
    rw [h1, h2]
    simp [h4]
  have h5 : hasN 0 (2 ^ 31 - 1) 0 = false := by decide +kernel
  rw [e0, List.map_cons, tick_new 0 rfl]
  unfold keepX at e1 ⊢
  rw [List.filter_cons, if_pos (by unfold goneN; rw [h1, h2]; show (!hasN 0 (2 ^ 31 - 1) 0) = true; rw [h5]; rfl), e1]
set_option maxHeartbeats 16000000 in
set_option maxRecDepth 20000 in
theorem LinkWindow_walk (ep n : Nat) (w : World) (hTab : Tab w) (h1 : ep ≤ 65535) (h2 : n ≤ 255) :
    Calls Tryd.prog 9 #[.int .u16 (ep : Int), .int .u8 (n : Int)] w fun e w' => e = .returned (.bool true) ∧ Below w.heap.size w w' := by
  obtain ⟨M, hM⟩ : ∃ M, M = 33 + n % 60 := ⟨_, rfl⟩
  have hM1 : 32 < M := by omega
  have hM2 : M ≤ 92 := by omega
  have hMi : (33 : Int) + (n : Int) % 60 = (M : Int) := by omega
  have HM := Lib.hid hM
  clear hM
  have HT0 := Lib.hid hTab
  clear hTab
  go_enter Tryd.func9, Tryd.ntmps9
  go_wp2_with fail
  refine (awake_calls w).mono ?_
  rintro e w1 ⟨rfl, hb⟩
  go_wp2_with fail
  refine (LrNew_calls ep _ rfl w1).mono ?_
  rintro e w2 ⟨ga, rfl, hla, hb2⟩
  have ht1 := Tab.ext HT0.out hb
  have ht2 := Tab.ext ht1 hb2
  have hs1 := hb.size
  replace hb := hb.trans (hb2.mono hb.size)
  clear hb2
  go_wp2_with fail
  refine (LrNew_calls ep _ rfl w2).mono ?_
  rintro e w3 ⟨gb, rfl, hlb, hb3⟩
  have hP := L2.new ht2 (tab_lt ht1) hla hb3 hlb
  have hs2 := hb.size
  replace hb := hb.trans (hb3.mono hb.size)
  clear hb3 hla hlb ht1 ht2
  obtain ⟨Ba, hBa⟩ : ∃ Ba, Ba = w1.heap.size := ⟨_, rfl⟩
  obtain ⟨Bb, hBb⟩ : ∃ Bb, Bb = w2.heap.size := ⟨_, rfl⟩
  rw [← hBa, ← hBb] at hP
  rw [← hBa] at hs1
  rw [← hBb] at hs2
  clear hBa hBb
  have hok0 := newP_ok (ep := ep) (by omega)
  have HP := Lib.hid hP
  have HB := Lib.hid hb
  clear hP hb
  go_wp2_with fail
  try rw [hMi]
  go_loopw [28] (fun i wr => ∃ (j : Nat) (pj : Pk), j ≤ M ∧ i = .int .i64 j ∧ WiS ep j pj ∧ L2 wr Ba ga pj 0 Bb gb (newP ep) 0 noZ noZ ∧ Below w.heap.size w wr) (fun i _ => M - (intOf i).toNat)
  case atStart => exact ⟨0, newP ep, Nat.zero_le _, rfl, ⟨rfl, rfl, rfl, hok0⟩, HP.out, HB.out⟩
  case round =>
    clear HP HB
    obtain ⟨j, pj, hj, rfl, hS, hP, hb⟩ := hrel
    by_cases hjl : j < M
    · have hba := below_alloc1 wr (.cells #[.int .u8 7] 5)
      have hbs := bs_new wr [7]
      rw [show (bv [7]).toArray = #[Value.int .u8 7] by simp [bv]] at hbs
      have HSN := Lib.hid (L2Send (hP.ext hba) (some ⟨wr.heap.size, 0, none⟩) [7] 1 1 wr.heap.size hbs rfl (by omega) (by omega) (by simp [maxLen]) (by rw [hS.ws]; simp [cnt]; omega))
      have HS2 := Lib.hid hS.send
      have HB := Lib.hid (hb.trans (hba.mono hb.size))
      clear hP hb hS hba hbs
      go_wp2_with fail
      refine HSN.out.mono ?_
      rintro e wt ⟨rfl, hP, hT⟩
      have hb := HB.out.trans (hT.bel.mono hs1)
      clear HSN hT HB
      go_wp2_with fail
      go_roundw
      case rel => exact ⟨j + 1, _, by omega, by go_num, HS2.out, hP, hb⟩
      case measure => simp [intOf]; omega
    · obtain rfl : j = M := by omega
      clear hjl hj
      obtain ⟨hto, htk⟩ := hS.first hM1
      have HKT := Lib.hid (L2Tick hP j 0 hS.ok (by omega) (by omega) 32 (wiF ep) hto (wiF_len ep))
      obtain ⟨pT, hpT⟩ : ∃ pT, pT = tickP 0 pj := ⟨_, rfl⟩
      rw [← hpT] at HKT htk
      have HTK := Lib.hid htk
      have HB := Lib.hid hb
      clear hP hb hS hto htk hpT
      go_wp2_with fail
      refine HKT.out.mono ?_
      rintro e w5 ⟨A1, c1, us1, rfl, hP, hTo, hT⟩
      obtain ⟨Z, hZ⟩ : ∃ Z : Nat → Prop, Z = fun i => wr.heap.size ≤ i ∧ i < w5.heap.size := ⟨_, rfl⟩
      have hP2 : L2 w5 Ba ga pT 0 Bb gb (newP ep) 0 noZ Z := hP.mono (fun i h => h) (fun i hi => .inr (by rw [hZ] at hi; exact hi))
      rw [← hZ] at hTo
      obtain ⟨g0, oa0, A9, m9, c9, b9, hA9, ca9, -, -, -⟩ := hTo.at_ (k := 0) (by omega) (by rw [wiF_len]; omega)
      subst hA9
      have hcap := hTo.cap
      have HW := Lib.hid (L2Waiting hP2 (n := j - 32) (by rw [HTK.out.ws]; simp))
      have hwn : ((j - 32 : Nat) : Int) = (j : Int) - 32 := by omega
      have HWN := Lib.hid hwn
      obtain ⟨J, hJ⟩ : ∃ J, J = j - 32 := ⟨_, rfl⟩
      rw [← hJ] at HW HWN
      have hJi : (j : Int) - 32 = (J : Int) := HWN.out.symm
      replace HB := Lib.hid (HB.out.trans (hT.bel.mono hs1))
      have HP := Lib.hid hP2
      have HTO := Lib.hid hTo
      have hc31 : ¬ c1 = 1 := by omega
      have hc32 : (32 : Int) ≤ (c1 : Int) := by omega
      have hc33 : (1 : Int) ≤ (c1 : Int) := by omega
      clear HKT hP hP2 hT hTo hZ hwn HWN hJ ca9
      go_wp2_with fail
      refine HW.out.mono ?_
      rintro e wf ⟨rfl, e7⟩
      subst e7
      clear HW
      go_wp2_with fail
      go_loopw [50] (fun i wr => ∃ (q : Nat) (pq : Pk), q ≤ 31 ∧ i = .int .i64 q ∧ WiB ep q pq ∧ L2 wr Ba ga pT 0 Bb gb pq q noZ Z ∧ ToldZ wr Z (some ⟨g0, oa0, none⟩) 32 c1 us1 (wiF ep) ∧ Below w.heap.size w wr) (fun i _ => 31 - (intOf i).toNat)
      case atStart => exact ⟨0, newP ep, by omega, rfl, ⟨⟨rfl, rfl⟩, rfl, rfl, fun s h1 h2 => by omega, hok0⟩, HP.out, HTO.out, HB.out⟩
      case round =>
        clear HP HB HTO
        obtain ⟨q, pq, hq, rfl, hB, hP, hTo, hb⟩ := hrel
        by_cases hql : q < 31
        · have hqf : q + 1 < (wiF ep).length := by rw [wiF_len]; omega
          obtain ⟨g, oa, A5, m5, c5, b5, hA, ca, hl5, hc5, hs5⟩ := hTo.at_ (k := q + 1) (by omega) hqf
          injection hA with hA
          injection hA with hA hO
          subst hA hO
          rw [show oa0 + (q + 1) = oa0 + 1 + q by omega] at ca
          obtain ⟨ho, hr, hfe, hfa⟩ := wiF_ok (ep := ep) (by omega) _ (List.getElem_mem hqf)
          obtain ⟨hsq, hpc⟩ := wiF_at hqf
          obtain ⟨r1, r2⟩ := hB.take hql hsq hfa hpc
          obtain ⟨pN, hpN⟩ : ∃ pN, pN = (takeP pq (wiF ep)[q + 1]).1 := ⟨_, rfl⟩
          have hR1 : takeP pq (wiF ep)[q + 1] = (pN, [], 0) := by rw [hpN, ← r2]
          rw [← hpN] at r1
          have HT := Lib.hid (L2Take hP.symm 0 (wiF ep)[q + 1] A5 m5 c5 b5 hB.ok (by omega) (by omega) ho hr hs5 hl5 hc5 (by rw [hfe, hB.L]) (pN, [], 0) hR1)
          have HTO := Lib.hid hTo
          have HB := Lib.hid hb
          have HBb := Lib.hid hP.symm.hA
          have HN := Lib.hid r1
          clear hl5 hc5 hs5 ho hr hfe hfa hsq hpc hP hTo hb hB r1 r2 hpN hR1
          go_wp2_with fail
          refine HT.out.mono ?_
          rintro e wt ⟨A6, c6, us6, rfl, hP, -, -, hKt, -⟩
          have hTo := HTO.out.kept hKt
          have hb := HB.out.trans ((hKt.below HBb.out).mono hs2)
          have HPN := Lib.hid hP.symm
          clear HT hKt ca HTO HB hP HBb
          go_wp2_with fail
          go_roundw
          case rel => exact ⟨q + 1, pN, by omega, by go_num, HN.out, HPN.out, hTo, hb⟩
          case measure => simp [intOf]; omega
        · obtain rfl : q = 31 := by omega
          clear hql hq
          have hto1 : toldP 0 pq = [aloneF pq.L] := by rw [still_told hB.still, if_pos (by rw [hB.L]; rfl)]
          have htk1 := still_tick hB.still 0
          obtain ⟨hfo, hfr⟩ := alone_ok (L := pq.L) hB.ok.ep hB.ok.cn hB.ok.cb
          obtain ⟨fb, hfb⟩ : ∃ fb, fb = aloneF pq.L := ⟨_, rfl⟩
          rw [← hfb] at hto1 hfo hfr
          have hfn : fb.next = 0 := by rw [hfb, hB.L]; rfl
          have hfbt : fb.bits = 2 ^ 31 - 1 := by rw [hfb, hB.L]; rfl
          have hfe : fb.epoch = ep := by rw [hfb, hB.L]; rfl
          have hfa : fb.alone = true := by rw [hfb]; rfl
          obtain ⟨pe, hpe⟩ : ∃ pe, pe = tickP 0 pq := ⟨_, rfl⟩
          have hBe : pe.Still ∧ pe.L = ⟨ep, 0, 0, 2 ^ 31 - 1, false, false⟩ ∧ pe.hd = [] ∧ (∀ s, 1 ≤ s → s ≤ 31 → pe.E s = some pc7) ∧ pe.Ok 0 := by
            have hoke := tickP_ok hB.ok 0 (by omega)
            rw [← hpe] at hoke htk1
            exact ⟨by rw [htk1]; exact ⟨hB.still.ws, hB.still.xs⟩, by rw [htk1, hB.L], by rw [htk1]; exact hB.hd, fun s h1 h2 => by rw [htk1]; exact hB.E s h1 h2, hoke⟩
          have HKT := Lib.hid (L2Tick hP.symm 0 0 hB.ok (by omega) (by omega) 1 [fb] hto1 rfl)
          rw [← hpe] at HKT
          have HBE := Lib.hid hBe
          have HB := Lib.hid hb
          have HTO1 := Lib.hid hTo
          have HFB := Lib.hid (And.intro hfo (And.intro hfr (And.intro hfn (And.intro hfbt (And.intro hfe hfa)))))
          clear hP hTo hb hB hto1 htk1 hfo hfr hfn hfbt hfe hfa hfb hpe hBe
          go_wp2_with fail
          refine HKT.out.mono ?_
          rintro e w7 ⟨A2, c2, us2, rfl, hP, hTo, hT⟩
          obtain ⟨Z2, hZ2⟩ : ∃ Z2 : Nat → Prop, Z2 = fun i => wr.heap.size ≤ i ∧ i < w7.heap.size := ⟨_, rfl⟩
          have hP2 : L2 w7 Ba ga pT 0 Bb gb pe 31 Z2 Z := hP.symm.mono (fun i hi => .inr (by rw [hZ2] at hi; exact hi)) (fun i h => h)
          rw [← hZ2] at hTo
          have hcap2 := hTo.cap
          replace HB := Lib.hid (HB.out.trans (hT.bel.mono hs2))
          replace HTO1 := Lib.hid (HTO1.out.keepT hT)
          have HP := Lib.hid hP2
          have HTO := Lib.hid hTo
          clear HKT hP hP2 hT hTo hZ2
          go_wp2_with fail
          go_loopw [71] (fun i wr => ∃ (s : Nat) (ps : Pk), s ≤ 1 ∧ i = .int .i64 s ∧ (s = 0 → ps = pT) ∧ (s = 1 → ps = { pT with xs := [⟨pc7, 0, true, 0⟩] }) ∧ L2 wr Ba ga ps s Bb gb pe 31 Z2 Z ∧ ToldZ wr Z2 A2 1 c2 us2 [fb] ∧ ToldZ wr Z (some ⟨g0, oa0, none⟩) 32 c1 us1 (wiF ep) ∧ Below w.heap.size w wr) (fun i _ => 1 - (intOf i).toNat)
          case atStart => exact ⟨0, pT, by omega, rfl, fun _ => rfl, fun h => by omega, HP.out, HTO.out, HTO1.out, HB.out⟩
          case round =>
            clear HP HB HTO HTO1
            obtain ⟨s, ps, hs, rfl, hs0, hsA, hP, hTo, hTo1, hb⟩ := hrel
            by_cases hsl : s < 1
            · obtain rfl : s = 0 := by omega
              have hps := hs0 rfl
              subst hps
              obtain ⟨g, oa, A5, m5, c5, b5, hA, ca, hl5, hc5, hs5⟩ := hTo.at_ hsl (by simp)
              subst hA
              rw [Nat.add_zero] at ca
              obtain ⟨ho, hr, hfn, hfbt, hfe, hfa⟩ := HFB.out
              obtain ⟨k1, k2, k3, k4⟩ := HTK.out
              have hR1 := take_alone (p := ps) hfa
              rw [k2, wi_kept hfn hfbt] at hR1
              have HT := Lib.hid (L2Take hP j fb A5 m5 c5 b5 k4 (by omega) (by omega) ho hr hs5 hl5 hc5 (by rw [hfe, k3]) _ hR1)
              have HTO := Lib.hid hTo
              have HTO1 := Lib.hid hTo1
              have HB := Lib.hid hb
              have HBa := Lib.hid hP.hA
              have HFA := Lib.hid hfa
              clear hl5 hc5 hs5 ho hr hfn hfbt hfe hfa k1 k2 k3 k4 hP hTo hTo1 hb hR1 hs0 hsA
              go_wp2_with fail
              refine HT.out.mono ?_
              rintro e wt ⟨A6, c6, us6, rfl, hP, -, -, hKt, hTt⟩
              have hTo := HTO.out.kept hKt
              have hTo1 := HTO1.out.keepT (hTt HFA.out)
              have hb := HB.out.trans ((hKt.below HBa.out).mono hs1)
              have HPN := Lib.hid hP
              clear HT hKt hTt ca HTO HTO1 HB hP HBa
              go_wp2_with fail
              go_roundw
              case rel => exact ⟨1, _, by omega, by go_num, fun h => by omega, fun _ => rfl, HPN.out, hTo, hTo1, hb⟩
              case measure => simp [intOf]
            · obtain rfl : s = 1 := by omega
              clear hsl hs hs0
              have hps := hsA rfl
              obtain ⟨k1, k2, k3, k4⟩ := HTK.out
              have hpx : ps.xs = [⟨pc7, 0, true, 0⟩] := by rw [hps]
              have hpw : ps.ws = List.replicate (j - 32) pc7 := by rw [hps]; exact k1
              have hpL : ps.L = ⟨ep, 32, 0, 0, false, false⟩ := by rw [hps]; exact k3
              have hpo : ps.Ok j := by
                rw [hps]
                exact ⟨k4.ep, k4.nx, k4.cn, k4.cb, k4.ws, fun x hx => by
                  rw [List.mem_singleton] at hx
                  rw [hx]
                  exact ⟨show (0 : Nat) < 65536 by decide, show (1 : Nat) ≤ 64 by decide, Int.le_refl 0, show (0 : Int) ≤ 1000000 by decide⟩, by rw [k1]; simp; omega, k4.hd⟩
              have hst : startK ps.ws ps.L.nx ps.xs = (32, ps.ws, ps.xs) := by
                rw [hpw, hpL, hpx]
                obtain ⟨r, hr⟩ : ∃ r, j - 32 = r + 1 := ⟨j - 33, by omega⟩
                rw [hr, List.replicate_succ, startK, if_neg (by show ¬ decide (toI 0 32 < 32) = true; decide)]
              have hto1 : toldP 1 ps = [] := by
                have hd : dueP 1 ps = [] := by
                  unfold dueP
                  rw [hst, hpx]
                  exact sends_none 1 _ _ (by intro y hy; rw [List.mem_singleton] at hy; rw [hy]; exact ⟨rfl, show (1 : Int) - 0 < 3 by decide⟩)
                unfold toldP
                rw [if_neg (by rw [hpL]; simp), hd]
              have htk : (tickP 1 ps).xs.length = 1 := by
                unfold tickP
                rw [hst, hpx]
                rfl
              have HF1 := Lib.hid (L2Flying hP (n := 1) (by rw [hpx]; rfl))
              have HKT := Lib.hid (L2Tick (hP.mono (Za' := noZ) (fun i h => h.elim) (fun i h => h)) j 1 hpo (by omega) (by omega) 0 [] hto1 rfl)
              have HTK1 := Lib.hid htk
              have HTO1 := Lib.hid hTo1
              have HB := Lib.hid hb
              clear hP hTo hTo1 hb hsA hps k1 k2 k3 k4 hpx hpw hpL hpo hst hto1 htk
              go_wp2_with fail
              refine HF1.out.mono ?_
              rintro e wf ⟨rfl, e7⟩
              subst e7
              clear HF1
              go_wp2_with fail
              refine HKT.out.mono ?_
              rintro e w8 ⟨A3, c3, us3, rfl, hP, -, hT⟩
              have HF2 := Lib.hid (L2Flying hP HTK1.out)
              have hTo9 := HTO1.out.keepT hT
              replace HB := Lib.hid (HB.out.trans (hT.bel.mono hs1))
              have hqf : 0 < (wiF ep).length := by rw [wiF_len]; omega
              obtain ⟨g, oa, A5, m5, c5, b5, hA, ca, hl5, hc5, hs5⟩ := hTo9.at_ (k := 0) (by omega) hqf
              injection hA with hA
              injection hA with hA hO
              subst hA hO
              rw [Nat.add_zero] at ca
              obtain ⟨ho, hr, hfe, hfa⟩ := wiF_ok (ep := ep) (by omega) _ (List.getElem_mem hqf)
              obtain ⟨hsq, hpc⟩ := wiF_at hqf
              obtain ⟨b1, b2, b3, b4, b5'⟩ := HBE.out
              have hlast : (takeP pe (wiF ep)[0]).2 = (List.replicate 32 [7], 0) := wi_last b2 b3 b4 hsq hfa hpc
              obtain ⟨pN, hpN⟩ : ∃ pN, pN = (takeP pe (wiF ep)[0]).1 := ⟨_, rfl⟩
              have hR1 : takeP pe (wiF ep)[0] = (pN, List.replicate 32 [7], 0) := by rw [hpN, ← hlast]
              have HT := Lib.hid (L2Take hP.symm 0 (wiF ep)[0] A5 m5 c5 b5 b5' (by omega) (by omega) ho hr hs5 hl5 hc5 (by rw [hfe, b2]) _ hR1)
              have HBb := Lib.hid hP.symm.hA
              clear hl5 hc5 hs5 ho hr hfe hfa hsq hpc hP hTo9 b1 b2 b3 b4 b5' hlast hpN hR1 HKT HTO1 hT
              go_wp2_with fail
              refine HF2.out.mono ?_
              rintro e wf ⟨rfl, e7⟩
              subst e7
              clear HF2
              go_wp2_with fail
              refine HT.out.mono ?_
              rintro e wt ⟨A6, c6, us6, rfl, -, -, -, hKt, -⟩
              have HBF := Lib.hid (HB.out.trans ((hKt.below HBb.out).mono hs2))
              clear HT hKt HB HBb ca
              rw [show (List.replicate 32 [(7 : UInt8)]).length = 32 from List.length_replicate]
              go_wp2_with fail
              go_ret
              exact ⟨rfl, HBF.out⟩
end Go.Proofs.YtcgbamkfflcdfaaDoor
