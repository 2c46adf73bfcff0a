/- Parts of one proof, in their order. -/
import Derived.Test.YtcgbamkfflcdfaaDoorZLkBasf05
import Derived.OwnWalk
/- Tick of a link that has nothing to answer alone. Conditions: those said. -/
namespace Go.Proofs.YtcgbamkfflcdfaaDoor
open Go.RowKit
set_option linter.unusedVariables false

/-- Whether a flight is sent now; what it is then. -/
def dueB (now : Int) (x : Fl) : Bool := !x.sent || decide (3 ≤ now - x.at_)
def tickX (now : Int) (x : Fl) : Fl := if dueB now x then x.stamp now else x
def tickTo (now : Int) (xs : List Fl) (k : Nat) : List Fl := (xs.take k).map (tickX now) ++ xs.drop k
def sendsTo (now : Int) (L : Lk) (xs : List Fl) : List (List UInt8) := (xs.filter (dueB now)).map fun x => sealedL (frOf L x).raw
theorem tickTo_length (now : Int) (xs : List Fl) (k : Nat) : (tickTo now xs k).length = xs.length := by simp [tickTo]; omega
theorem tickTo_get (now : Int) (xs : List Fl) (k : Nat) (hk : k < xs.length) : (tickTo now xs k)[k]'(by rw [tickTo_length]; exact hk) = xs[k] := by
  have h : (tickTo now xs k)[k]? = xs[k]? := by
    rw [tickTo, List.getElem?_append_right (by simp; omega)]
    simp
    congr 1
    omega
  rw [List.getElem?_eq_getElem hk, List.getElem?_eq_getElem (by rw [tickTo_length]; exact hk)] at h
  exact Option.some.inj h
theorem tickTo_set (now : Int) (xs : List Fl) (k : Nat) (hk : k < xs.length) : (tickTo now xs k).set k (tickX now xs[k]) = tickTo now xs (k + 1) := by
  rw [tickTo, tickTo, List.set_append_right _ _ (by simp; omega), List.take_succ_eq_append_getElem hk, List.map_append, List.append_assoc, List.drop_eq_getElem_cons hk]
  congr 1
  rw [show k - ((xs.take k).map (tickX now)).length = 0 by simp; omega, List.set_cons_zero]
  rfl
theorem tickTo_same (now : Int) (xs : List Fl) (k : Nat) (hk : k < xs.length) (h : dueB now xs[k] = false) : tickTo now xs (k + 1) = tickTo now xs k := by
  rw [← tickTo_set now xs k hk, tickX, h, if_neg (by decide), ← tickTo_get now xs k hk]
  exact List.set_getElem_self _
theorem tickTo_all (now : Int) (xs : List Fl) : tickTo now xs xs.length = xs.map (tickX now) := by simp [tickTo]
theorem sendsTo_next (now : Int) (L : Lk) (xs : List Fl) (k : Nat) (hk : k < xs.length) (b : Bool) (hb : dueB now xs[k] = b) : sendsTo now L (xs.take (k + 1)) = sendsTo now L (xs.take k) ++ (if b then [sealedL (frOf L xs[k]).raw] else []) := by
  rw [List.take_succ_eq_append_getElem hk, sendsTo, List.filter_append, List.map_append]
  congr 1
  cases b
  · rw [List.filter_cons, hb]; rfl
  · rw [List.filter_cons, hb]; rfl
theorem sendsTo_le (now : Int) (L : Lk) (xs : List Fl) : (sendsTo now L xs).length ≤ xs.length := by
  unfold sendsTo
  rw [List.length_map]
  exact List.length_filter_le _ _
/-- What start and a Tick leave. -/
def startL (L : Lk) (ws : List PV) (xs : List Fl) : Lk := { L with nx := (startN ws L.nx xs).1 }
structure TickO (B g bm : Nat) (L : Lk) (vw0 vf0 vh : Value) (ws : List PV) (xs : List Fl) (now : Int) (w w' : World) (vo : Value) : Prop where
  out : ∃ vw vf us, LS w' B g bm { startL L ws xs with ow := false } vw vf vh (startN ws L.nx xs).2.1 ((startN ws L.nx xs).2.2.map (tickX now)) ∧ RowS w' w.heap.size vo us ∧ RowsIn w' w.heap.size us (sendsTo now (startL L ws xs) (startN ws L.nx xs).2.2) ∧ TMods LTs B w w' ∧ Mod (fun i => i = g ∨ vw0.ownBlock = some i ∨ vf0.ownBlock = some i) w w' ∧ (∀ i, vw.ownBlock = some i → vw0.ownBlock = some i ∨ w.heap.size ≤ i) ∧ (∀ i, vf.ownBlock = some i → vf0.ownBlock = some i ∨ w.heap.size ≤ i)
set_option maxHeartbeats 16000000 in
set_option maxRecDepth 40000 in
theorem Tick_calls (B g bm : Nat) (L : Lk) (vw vf vh : Value) (ws : List PV) (xs : List Fl) (now : Int) (w : World) (q : LS w B g bm L vw vf vh ws xs) (hg : B ≤ g) (hep : L.ep < 65536) (hnx : L.nx < 65536) (hcn : L.cn < 65536) (hcb : L.cb < 4294967296) (hxs : ∀ x ∈ (startN ws L.nx xs).2.2, x.seq < 65536 ∧ x.p.p.data.length ≤ 64 ∧ 0 ≤ x.at_ ∧ x.at_ ≤ 1000000 ∧ PV.InT w x.p) (hsx : ∀ x ∈ xs, x.seq < 65536) (hl : ws.length + xs.length ≤ 100000) (hsl : (startN ws L.nx xs).2.2.length ≤ 100000) (hnow : 0 ≤ now ∧ now ≤ 1000000) (how : sendsTo now (startL L ws xs) (startN ws L.nx xs).2.2 = [] → L.ow = false) :
    Calls Tryd.prog 17 #[.pointer (some ⟨g, 0, none⟩), .int .i64 now] w fun e w' => ∃ vo, e = .returned vo ∧ TickO B g bm L vw vf vh ws xs now w w' vo := by
  have hS := start_calls B g bm L vw vf vh ws xs w q hnx hsx (by omega)
  have HL := Lib.hid (show startL L ws xs = { L with nx := (startN ws L.nx xs).1 } from rfl)
  obtain ⟨L1, hL1⟩ : ∃ L1, L1 = startL L ws xs := ⟨_, rfl⟩
  obtain ⟨ws1, hws1⟩ : ∃ ws1, ws1 = (startN ws L.nx xs).2.1 := ⟨_, rfl⟩
  obtain ⟨xs1, hxs1⟩ : ∃ xs1, xs1 = (startN ws L.nx xs).2.2 := ⟨_, rfl⟩
  rw [show ({ L with nx := (startN ws L.nx xs).1 } : Lk) = L1 from hL1.symm, ← hws1, ← hxs1] at hS
  rw [← hxs1] at hxs hsl
  rw [← hL1, ← hxs1] at how
  have hep1 : L1.ep < 65536 := by rw [hL1]; exact hep
  have hcn1 : L1.cn < 65536 := by rw [hL1]; exact hcn
  have hcb1 : L1.cb < 4294967296 := by rw [hL1]; exact hcb
  have how1 : L1.ow = L.ow := by rw [hL1]; rfl
  rw [← how1] at how
  have HL1 := Lib.hid hL1
  have HWS1 := Lib.hid hws1
  have HXS1 := Lib.hid hxs1
  have HX := Lib.hid hxs
  have HSL := Lib.hid hsl
  have HOW := Lib.hid how
  obtain ⟨hq0, hq1⟩ : LS w B g bm L vw vf vh ws xs ∧ True := ⟨q, trivial⟩
  have hwB := q.hB
  clear hL1 hws1 hxs1 hxs hsl how hep hnx hcn hcb hsx hl how1 hq1 HL
  go_enter Tryd.func17, Tryd.ntmps17
  go_wp2_with fail
  refine hS.mono ?_
  rintro e w1 ⟨vw1, vf1, rfl, q1, hvw1, hvf1, hm1⟩
  have hT1 := TMods.of_mod hq0 hm1 hg
  obtain ⟨S0, hS0⟩ : ∃ S0 : Nat → Prop, S0 = fun i => i = g ∨ vw.ownBlock = some i ∨ vf.ownBlock = some i := ⟨_, rfl⟩
  have hM1 : Mod S0 w w1 := by rw [hS0]; exact hm1
  have HS0 := Lib.hid hS0
  have HVW := Lib.hid hvw1
  have HVF := Lib.hid hvf1
  have hgl0 := hq0.q.lt
  clear hS hm1 hq0 q hS0 hvw1 hvf1
  obtain ⟨n, hn⟩ : ∃ n, n = xs1.length := ⟨_, rfl⟩
  obtain ⟨Af, cf, bf, hvf, hcf, -⟩ := ownsP_sl q1.rf
  rw [← hn] at hvf hcf
  subst hvf
  have hn9 : n ≤ 100000 := by rw [hn]; exact HSL.out
  have HN := Lib.hid hn
  have HQ1 := Lib.hid q1
  have c2 := q1.q.c2
  have hws := hT1.bel.size
  clear hn q1
  go_wp2_with fail
  go_loopw [5, 18] (fun vo i wr => ∃ (k : Nat) (us : List Value), k ≤ n ∧ i = .int .i64 k ∧ LS wr B g bm L1 vw1 (.slice Af n cf) vh ws1 (tickTo now xs1 k) ∧ RowS wr w.heap.size vo us ∧ RowsIn wr w.heap.size us (sendsTo now L1 (xs1.take k)) ∧ TMods LTs B w wr ∧ Mod S0 w wr) (fun _ i _ => n - (intOf i).toNat)
  case atStart => exact ⟨0, [], Nat.zero_le _, rfl, by simpa [tickTo] using HQ1.out, RowS.nil_ _ _, by simpa [sendsTo] using RowsIn.nil_ _ _, hT1, hM1⟩
  case round =>
    clear c2 hT1 hws hM1
    obtain ⟨k, us, hk, rfl, qr, hvo, hI, hT, hM⟩ := hrel
    have c2 := qr.q.c2
    by_cases hlt : k < n
    · have hkx : k < xs1.length := by rw [← HN.out]; exact hlt
      have hkt : k < (tickTo now xs1 k).length := by rw [tickTo_length]; exact hkx
      obtain ⟨g2, cap2, hv2, hcap, hBg2, hg2l, hob, hcell, hfz⟩ := RowF.at_ qr.rf hkt
      rw [tickTo_get now xs1 k hkx] at hcell
      injection hv2 with hA e1 e2
      subst hA
      clear e1 e2
      obtain ⟨hseq, hd64, hat0, hat1, hin⟩ := HX.out xs1[k] (List.getElem_mem _)
      replace hin := hT.inT hin (by decide)
      have hset := tickTo_set now xs1 k hkx
      have hsame := tickTo_same now xs1 k hkx
      have hnext := sendsTo_next now L1 xs1 k hkx
      have hstp : ∀ W, RowF W B (.slice (some ⟨g2, 0, none⟩) n cf) (tickTo now xs1 k) → dueB now xs1[k] = true → RowF ((W.setCell ⟨g2, k * 6 + 4, none⟩ (.bool true)).setCell ⟨g2, k * 6 + 5, none⟩ (.int .i64 now)) B (.slice (some ⟨g2, 0, none⟩) n cf) (tickTo now xs1 (k + 1)) := fun W h hd => by
        have h1 := RowF.stamp h hkt now
        rw [tickTo_get now xs1 k hkx] at h1
        rw [← hset, tickX, if_pos hd]
        exact h1
      have hk1 : dueB now xs1[k] = true → (tickTo now xs1 (k + 1))[k]'(by rw [tickTo_length]; exact hkx) = xs1[k].stamp now := fun hd => by
        have h1 : (tickTo now xs1 (k + 1))[k]? = some (xs1[k].stamp now) := by
          rw [← hset, List.getElem?_set_self hkt, tickX, if_pos hd]
        rw [List.getElem?_eq_getElem (by rw [tickTo_length]; exact hkx)] at h1
        exact Option.some.inj h1
      have hk0 := tickTo_get now xs1 k hkx
      obtain ⟨x, hx⟩ : ∃ x, x = xs1[k] := ⟨_, rfl⟩
      rw [← hx] at hcell hseq hd64 hat0 hat1 hin hset hsame hnext hstp hk1 hk0
      have d0 := hcell 0 _ (by omega) rfl
      have d1 := hcell 1 _ (by omega) rfl
      have d2 := hcell 2 _ (by omega) rfl
      have d3 := hcell 3 _ (by omega) rfl
      have d4 := hcell 4 _ (by omega) rfl
      have d5 := hcell 5 _ (by omega) rfl
      rw [Nat.add_zero] at d0
      have hdue := fun W => due_calls x now W hat0 hat1 hnow.1 hnow.2
      obtain ⟨D, hD⟩ : ∃ D, D = dueB now x := ⟨_, rfl⟩
      rw [show (!x.sent || decide (3 ≤ now - x.at_)) = D from hD.symm] at hdue
      have HC := Lib.hid hcell
      have HF := Lib.hid hfz
      have HSET := Lib.hid hset
      have HSAME := Lib.hid hsame
      have HNEXT := Lib.hid hnext
      have HIN := Lib.hid hin
      have HD := Lib.hid hD
      have HQR := Lib.hid qr
      have HSTP := Lib.hid hstp
      have HK1 := Lib.hid hk1
      have HK0 := Lib.hid hk0
      clear hset hsame hnext hin hD hx hcell hfz hstp hk1 hk0 qr
      cases D
      · go_wp2_with fail
        refine (hdue _).mono ?_
        rintro e w3 ⟨rfl, hb3⟩
        have HQ3 := Lib.hid (HQR.out.ext hb3)
        have HV3 := Lib.hid (RowS.ext hvo hb3)
        have HI3 := Lib.hid (hI.ext hb3)
        have HT3 := Lib.hid (hT.trans (TMods.of_new hb3 (Nat.le_trans hwB hT.bel.size)))
        have HM3 := Lib.hid (hM.trans (Mod.of_below hb3) (S := S0) (fun i _ h => h) (fun i hi h => absurd hi (by have := hM.size; omega)))
        clear hb3 hdue d0 d1 d2 d3 d4 d5 c2 HQR hvo hI hT hM
        go_wp2_with fail
        go_roundw
        case rel => exact ⟨k + 1, us, by omega, by go_num, by rw [HSAME.out HD.out.symm]; exact HQ3.out, HV3.out, by rw [HNEXT.out false HD.out.symm, if_neg (by decide), List.append_nil]; exact HI3.out, HT3.out, HM3.out⟩
        case measure => simp [intOf]; omega
      · go_wp2_with fail
        refine (hdue _).mono ?_
        rintro e w3 ⟨rfl, hb3⟩
        have q3 := HQR.out.ext hb3
        have hT3 := hT.trans (TMods.of_new (Ts := LTs) hb3 (Nat.le_trans hwB hT.bel.size))
        have hv3 := hvo.ext hb3
        have hI3 := hI.ext hb3
        obtain ⟨g3, cap3, hvv, -, -, hg3l, hob3, hcell3, hfz3⟩ := RowF.at_ q3.rf hkt
        injection hvv with hA3 e1 e2
        injection hA3 with hA3
        injection hA3 with hA3
        subst hA3
        clear e1 e2
        rw [HK0.out] at hcell3
        have i0 := hcell3 0 _ (by omega) rfl
        have i1 := hcell3 1 _ (by omega) rfl
        have i2 := hcell3 2 _ (by omega) rfl
        have i3 := hcell3 3 _ (by omega) rfl
        have i4 := hcell3 4 _ (by omega) rfl
        have i5 := hcell3 5 _ (by omega) rfl
        rw [Nat.add_zero] at i0
        clear hcell3
        have z4 := hfz3 (k * 6 + 4)
        have z5 := hfz3 (k * 6 + 5)
        have hst := HSTP.out w3 q3.rf HD.out.symm
        have hmS : Mod (fun i => i = g2) w3 ((w3.setCell ⟨g2, k * 6 + 4, none⟩ (.bool true)).setCell ⟨g2, k * 6 + 5, none⟩ (.int .i64 now)) := (Mod.setCell w3 ⟨g2, k * 6 + 4, none⟩ (.bool true)).trans (Mod.setCell _ ⟨g2, k * 6 + 5, none⟩ (.int .i64 now)) (fun _ _ h => h) (fun _ _ h => h)
        have hmT := TMods.of_mod q3 (hmS.mono (fun i _ h => .inr (.inr (by rw [show i = g2 from h]; exact hob3)))) hg
        have hkt2 : k < (tickTo now xs1 (k + 1)).length := by rw [tickTo_length]; exact hkx
        obtain ⟨g4, cap4, hvv, -, -, -, -, hcell4, -⟩ := RowF.at_ hst hkt2
        injection hvv with hA3 e1 e2
        injection hA3 with hA3
        injection hA3 with hA3
        subst hA3
        clear e1 e2
        rw [HK1.out HD.out.symm] at hcell4
        have f0 := hcell4 0 _ (by omega) rfl
        have f1 := hcell4 1 _ (by omega) rfl
        have f2 := hcell4 2 _ (by omega) rfl
        have f3 := hcell4 3 _ (by omega) rfl
        have f4 := hcell4 4 _ (by omega) rfl
        have f5 := hcell4 5 _ (by omega) rfl
        rw [Nat.add_zero] at f0
        have hgg : g ≠ g2 := fun e => row_apart q3.rf q3.q (by decide) (by rw [hob3, e])
        have q4 : LkB ((w3.setCell ⟨g2, k * 6 + 4, none⟩ (.bool true)).setCell ⟨g2, k * 6 + 5, none⟩ (.int .i64 now)) g bm L1 vw1 (.slice (some ⟨g2, 0, none⟩) n cf) vh := q3.q.mod hmS hgg
        have rp4 := ownsP_mod q3.rp hmS (fun i hi hh => rows_apartT q3.rf q3.rp (by decide) _ hob3 (by rw [← show i = g2 from hh]; exact hi))
        have hFr := frame_calls g bm L1 vw1 (.slice (some ⟨g2, 0, none⟩) n cf) vh (x.stamp now) _ q4
        have hin4 := (hmT.inT ((TMods.of_new (Ts := LTs) hb3 (Nat.le_refl _)).inT HIN.out (by decide)) (by decide))
        have hok : (frOf L1 x).Ok := ⟨hep1, hseq, hcn1, hcb1⟩
        have hg2S : ∀ i, i < w.heap.size → i = g2 → S0 i := fun i hi h => by
          subst h
          rw [HS0.out]
          rcases HVF.out i hob3 with h1 | h1
          · exact .inr (.inr h1)
          · omega
        have hM4 := (hM.trans (Mod.of_below hb3) (S := S0) (fun i _ h => h) (fun i hi h => absurd hi (by have := hM.size; omega))).trans hmS (S := S0) (fun i _ h => h) hg2S
        have hrt : (frOf L1 x).right = true := decide_eq_true hd64
        have HBy := Lib.hid (fun W h => FBytes_yes (frOf L1 x) x.p.A x.p.c x.p.b W hok h (by show x.p.p.data.length ≤ 1000000; omega) hrt)
        have HA := Lib.hid (And.intro hst (And.intro rp4 (And.intro q4 (And.intro hin4 (And.intro (hmT.own hv3 (by decide)) (And.intro (hmT.rowsIn hI3 (by decide)) (And.intro (hT3.trans hmT) hM4)))))))
        clear hb3 hdue d0 d1 d2 d3 d4 d5 c2 HQR hvo hI hT hM hM4 hg2S q3 hT3 hv3 hI3 hfz3 hst hmS hmT hcell4 q4 rp4 hin4 hok hrt hgg
        go_wp2_with fail
        refine hFr.mono ?_
        rintro e w5 ⟨rfl, hb5⟩
        obtain ⟨hst, rp4, q4, hin4, hv4, hI4, hT4, hM4⟩ := HA.out
        obtain ⟨W4, hW4⟩ : ∃ W4, W4 = (w3.setCell ⟨g2, k * 6 + 4, none⟩ (.bool true)).setCell ⟨g2, k * 6 + 5, none⟩ (.int .i64 now) := ⟨_, rfl⟩
        rw [← hW4] at hb5 hst rp4 q4 hin4 hv4 hI4 hT4 hM4
        have hBy5 := HBy.out w5 (Sl.ext hin4.in_.1 hb5)
        have hst5 := ownsP_ext hst hb5
        have rp5 := ownsP_ext rp4 hb5
        have q5 := q4.ext hb5
        have hv5 := RowS.ext hv4 hb5
        have hI5 := hI4.ext hb5
        have hM5 := hM4.trans (Mod.of_below hb5) (S := S0) (fun i _ h => h) (fun i hi h => absurd hi (by have := hM4.size; omega))
        have hT5 := hT4.trans (TMods.of_new (Ts := LTs) hb5 (Nat.le_trans hwB hT4.bel.size))
        clear hW4 hFr HA HBy hb5 hst rp4 q4 hin4 hv4 hI4 hT4 hM4 f0 f1 f2 f3 f4 f5 z4 z5 i0 i1 i2 i3 i4 i5
        rw [show frOf L1 (x.stamp now) = frOf L1 x from rfl]
        go_wp2_with fail
        refine hBy5.mono ?_
        rintro e w6 ⟨v6, rfl, hrow6, hb6⟩
        obtain ⟨A6, c6, b6, hv6, -⟩ := Row.sl hrow6
        obtain ⟨n6, hn6⟩ : ∃ n6, n6 = (sealedL (frOf L1 x).raw).length := ⟨_, rfl⟩
        rw [← hn6] at hv6
        subst hv6
        have hst6 := ownsP_ext hst5 hb6
        have rp6 := ownsP_ext rp5 hb6
        have q6 := q5.ext hb6
        have hv6' := RowS.ext hv5 hb6
        have hI6 := hI5.ext hb6
        have hM6 := hM5.trans (Mod.of_below hb6) (S := S0) (fun i _ h => h) (fun i hi h => absurd hi (by have := hM5.size; omega))
        have hT6 := hT5.trans (TMods.of_new (Ts := LTs) hb6 (Nat.le_trans hwB hT5.bel.size))
        replace hrow6 := hrow6.low (Nat.le_trans (Nat.le_refl _) hT5.bel.size)
        have hul : us.length + 1 ≤ 1000000 := by have h1 := hI6.1; have h2 := sendsTo_le now L1 (xs1.take k); rw [List.length_take] at h2; omega
        have hws6 := hT6.bel.size
        have HA := Lib.hid (And.intro hst6 (And.intro rp6 (And.intro q6 (And.intro hI6 (And.intro hT6 (And.intro hM6 hrow6))))))
        clear hBy5 hb6 hst5 rp5 q5 hv5 hI5 hT5 hst6 rp6 q6 hI6 hT6 hM5 hM6 hrow6 hn6
        go_wp2_with (at_builtin; go_loud (refine wpList_appS w6 rfl (.tmp 39) (.tmp 46) rfl w.heap.size u5 us rfl hv6' rfl rfl hul hws6 ?_); intro v7 w7 hv7 hm7 _)
        obtain ⟨hst, rp, q7, hI, hT, hM, hrow⟩ := HA.out
        have hst7 := ownsP_mod hst hm7 (fun i hi hh => rows_apartT hst hv6' (by decide) i hi hh)
        have rp7 := ownsP_mod rp hm7 (fun i hi hh => rows_apartT rp hv6' (by decide) i hi hh)
        have q77 := q7.mod hm7 (row_apart hv6' q7 (by decide))
        have hI7 := (hI.mod hv6' hm7).snoc (hrow.mod hm7 (fun i hi hh => rows_apartT hrow hv6' (by decide) i hi hh))
        have hT7 : TMods LTs B w w7 := ⟨hT.bel.trans ((hm7.below (B := w.heap.size) hws6 (fun i hi hh => by have := (World.ownsRow.lt hv6' i hh).1; omega)).mono hwB), fun b cur e fr hc he => by
          have h1 := hT.keep b cur e fr hc he
          have h2 : b < w.heap.size := (Array.getElem?_eq_some_iff.1 hc).1
          exact (hm7.block b (Nat.lt_of_lt_of_le h2 hws6) (fun hh => by have := (World.ownsRow.lt hv6' b hh).1; omega)).trans h1⟩
        have hM7 := hM.trans hm7 (S := S0) (fun i _ h => h) (fun i hi h => absurd hi (by have := (World.ownsRow.lt hv6' i h).1; omega))
        go_roundw
        case rel => exact ⟨k + 1, _, by omega, by go_num, ⟨q77, rp7, hst7, Nat.le_trans hwB hT7.bel.size⟩, hv7, by rw [HNEXT.out true HD.out.symm, if_pos rfl]; exact hI7, hT7, hM7⟩
        case measure => simp [intOf]; omega
    · obtain rfl : k = n := by omega
      have hall : tickTo now xs1 k = xs1.map (tickX now) := by rw [HN.out]; exact tickTo_all now xs1
      have htk : xs1.take k = xs1 := List.take_of_length_le (by rw [HN.out]; exact Nat.le_refl _)
      rw [hall] at qr
      rw [htk] at hI
      have hul := hI.1
      obtain ⟨A9, c9, b9, hv9, -⟩ := ownsP_sl hvo
      obtain ⟨m, hm⟩ : ∃ m, us.length = m := ⟨_, rfl⟩
      rw [hm] at hv9 hul
      subst hv9
      have hno : ((m : Int) == 0) = true → L1.ow = false := fun h => HOW.out (List.eq_nil_of_length_eq_zero (by simp at h; omega))
      obtain ⟨ow, how⟩ : ∃ ow, ow = L1.ow := ⟨_, rfl⟩
      have c9' := qr.q.c9
      rw [← how] at c9' hno
      have f9 := qr.q.fz 9
      have hms := Mod.setCell wr ⟨g, 9, none⟩ (.bool false)
      have hTs := TMods.of_mod qr (hms.mono (fun i _ h => .inl h)) hg
      have q9 := qr.q.set9 false
      have rp9 := ownsP_mod qr.rp hms (fun i hi hh => row_apart qr.rp qr.q (by decide) (by rw [← show i = g from hh]; exact hi))
      have rf9 := ownsP_mod qr.rf hms (fun i hi hh => row_apart qr.rf qr.q (by decide) (by rw [← show i = g from hh]; exact hi))
      have HA := Lib.hid (And.intro (LS.mk q9 rp9 rf9 (Nat.le_trans hwB (Nat.le_trans hT.bel.size hTs.bel.size))) (And.intro (hTs.own hvo (by decide)) (And.intro (hTs.rowsIn hI (by decide)) (And.intro (hT.trans hTs) (hM.trans hms (S := S0) (fun i _ h => h) (fun i hi h => by rw [HS0.out]; exact .inl h))))))
      clear hall htk hI hvo hT hM q9 rp9 rf9 hTs hms qr how hul hm c2
      by_cases h0 : m = 0
      · subst h0
        have hw0 := hno (by simp)
        subst hw0
        clear hno
        go_wp2_with fail
        go_ret
        refine ⟨_, rfl, ⟨vw1, .slice Af k cf, us, ?_, HA.out.2.1, ?_, HA.out.2.2.2.1, by rw [← HS0.out]; exact HA.out.2.2.2.2, fun i hi => .inl (by rw [← HVW.out]; exact hi), HVF.out⟩⟩
        · rw [← HL1.out, ← HWS1.out, ← HXS1.out]; exact HA.out.1
        · rw [← HL1.out, ← HXS1.out]; exact HA.out.2.2.1
      · have hne : ((m : Int) == 0) = false := by simp; omega
        clear hno h0
        go_wp2_with fail
        go_ret
        refine ⟨_, rfl, ⟨vw1, .slice Af k cf, us, ?_, HA.out.2.1, ?_, HA.out.2.2.2.1, by rw [← HS0.out]; exact HA.out.2.2.2.2, fun i hi => .inl (by rw [← HVW.out]; exact hi), HVF.out⟩⟩
        · rw [← HL1.out, ← HWS1.out, ← HXS1.out]; exact HA.out.1
        · rw [← HL1.out, ← HXS1.out]; exact HA.out.2.2.1
end Go.Proofs.YtcgbamkfflcdfaaDoor
/- What is read of a frame's own bytes is the frame. Conditions: the numbers fit. -/
namespace Go.Proofs.YtcgbamkfflcdfaaDoor
open Go.RowKit

theorem rdN_low (k n : Nat) (r : List UInt8) (bad : Bool) (hn : n < 256 ^ k) : rdN k (low n k ++ r) bad = (n, r, bad) := by
  unfold rdN
  rw [if_pos (by simp), List.take_left' (by simp), List.drop_left' (by simp), valN_low, Nat.mod_eq_of_lt hn]
theorem num_small {n : Nat} (h : n < 128) : num n = [UInt8.ofNat n] := by unfold num; rw [numF_small _ _ h]
theorem rdBlob_small {d : List UInt8} (h : d.length ≤ 64) : rdBlob (num d.length ++ d) 64 = some (d, []) := by
  have h1 : (UInt8.ofNat d.length).toNat = d.length := by simp; omega
  have h2 : rd 0 (num d.length ++ d) = some (d.length, 1) := by
    rw [num_small (by omega)]
    show rd 0 (UInt8.ofNat d.length :: d) = _
    unfold rd
    rw [if_pos (by rw [h1]; omega), if_neg (by omega), h1]
  unfold rdBlob
  rw [h2]
  simp only
  have h3 : (num d.length ++ d).drop 1 = d := by rw [num_small (by omega)]; rfl
  rw [h3, if_pos ⟨h, Nat.le_refl _⟩, List.take_length, List.drop_length]
theorem Fr.right_len {f : Fr} (h : f.right = true) : f.data.length ≤ 64 := by
  unfold Fr.right at h
  split at h
  · simp only [Bool.and_eq_true, decide_eq_true_eq] at h
    omega
  · simpa using h
theorem marks_bits (f : Fr) : decide (f.marks % 2 = 1) = f.first ∧ decide (f.marks / 2 % 2 = 1) = f.last ∧ decide (f.marks / 4 % 2 = 1) = f.alone := by
  obtain ⟨e, s, n, b, fi, la, al, d⟩ := f
  unfold Fr.marks
  cases fi <;> cases la <;> cases al <;> simp
theorem gotF_raw (f : Fr) (ho : f.Ok) (hr : f.right = true) : gotF f.raw = ⟨f, 86, f.marks, [], false⟩ := by
  have hl := Fr.right_len hr
  have hm := f.marks_lt
  have e : f.raw = low 86 1 ++ (low f.epoch 2 ++ (low f.seq 2 ++ (low f.next 2 ++ (low f.bits 4 ++ (low f.marks 1 ++ (num f.data.length ++ f.data)))))) := by simp [Fr.raw]
  have h0 := rdN_low 1 86 (low f.epoch 2 ++ (low f.seq 2 ++ (low f.next 2 ++ (low f.bits 4 ++ (low f.marks 1 ++ (num f.data.length ++ f.data)))))) false (by decide)
  have h1 := rdN_low 2 f.epoch (low f.seq 2 ++ (low f.next 2 ++ (low f.bits 4 ++ (low f.marks 1 ++ (num f.data.length ++ f.data))))) false ho.e
  have h2 := rdN_low 2 f.seq (low f.next 2 ++ (low f.bits 4 ++ (low f.marks 1 ++ (num f.data.length ++ f.data)))) false ho.s
  have h3 := rdN_low 2 f.next (low f.bits 4 ++ (low f.marks 1 ++ (num f.data.length ++ f.data))) false ho.n
  have h4 := rdN_low 4 f.bits (low f.marks 1 ++ (num f.data.length ++ f.data)) false ho.b
  have h5 := rdN_low 1 f.marks (num f.data.length ++ f.data) false (by omega)
  have h6 : rdB 64 (num f.data.length ++ f.data) false = (f.data, [], false) := by unfold rdB; rw [rdBlob_small hl]
  obtain ⟨m1, m2, m3⟩ := marks_bits f
  unfold gotF
  rw [e]
  simp only [h0, h1, h2, h3, h4, h5, h6, m1, m2, m3]
theorem got_right (f : Fr) (hr : f.right = true) : Got.right ⟨f, 86, f.marks, [], false⟩ = true := by simp [Got.right, hr]
/-- A frame's own bytes come back. -/
theorem Parse_own (f : Fr) (A : Option Addr) (n c b : Nat) (w : World) (ho : f.Ok) (hr : f.right = true) (hs : Bs w b A (sealedL f.raw)) (hn : (sealedL f.raw).length = n) (hc : n ≤ c) :
    Calls Tryd.prog 31 #[.slice A n c] w fun e w' => ∃ A' c' b', e = .returned (.tuple #[.agg (f.cells A' c'), .int .i64 0]) ∧ Bs w' b' A' f.data ∧ w.heap.size ≤ b' ∧ Below w.heap.size w w' := by
  rw [sealedL_length] at hn
  subst hn
  have hl : f.raw.length ≤ 1000 := by
    have h1 := numF_length 10 f.data.length
    have h2 := Fr.right_len hr
    unfold Fr.raw num
    simp
    omega
  have hg := gotF_raw f ho hr
  refine Parse_yes A (sealedL f.raw) f.raw.length c b w hs (by rw [sealedL_length]) hc (by omega) (sealed_opens _) ⟨f, 86, f.marks, [], false⟩ (by rw [sealed_take]; exact hg) f 0 ?_ ?_
  · rw [got_right f hr]; rfl
  · rw [got_right f hr]; rfl
theorem raw_length (f : Fr) (hr : f.right = true) : (sealedL f.raw).length = 17 + f.data.length := by
  have h2 := Fr.right_len hr
  rw [sealedL_length]
  unfold Fr.raw
  rw [num_small (by omega)]
  simp
  omega
end Go.Proofs.YtcgbamkfflcdfaaDoor
/- Take of a frame of another epoch; Acks. Conditions: those said. -/
namespace Go.Proofs.YtcgbamkfflcdfaaDoor
open Go.RowKit
set_option linter.unusedVariables false

set_option maxHeartbeats 8000000 in
set_option maxRecDepth 20000 in
theorem TakeOld_calls (g bm : Nat) (L : Lk) (vw vf vh : Value) (f : Fr) (A : Option Addr) (n c b : Nat) (w : World) (q : LkB w g bm L vw vf vh) (ho : f.Ok) (hr : f.right = true) (hs : Bs w b A (sealedL f.raw)) (hn : (sealedL f.raw).length = n) (hc : n ≤ c) (hep : L.ep < 65536) (hne : f.epoch ≠ L.ep) :
    Calls Tryd.prog 18 #[.pointer (some ⟨g, 0, none⟩), .slice A n c] w fun e w' => e = .returned (.tuple #[.slice none 0 0, .int .i64 10]) ∧ Below w.heap.size w w' := by
  have hP := Parse_own f A n c b w ho hr hs hn hc
  have hq := q.lt
  have hne1 : ((f.epoch : Int) != (L.ep : Int)) = true := by simp; omega
  clear hn hc hs ho hr hep hne
  go_enter Tryd.func18, Tryd.ntmps18
  go_wp2_with fail
  refine hP.mono ?_
  rintro e w1 ⟨A1, c1, b1, rfl, -, -, hb1⟩
  have q1 := q.ext hb1
  have hb2 := below_alloc1 w1 (.cells (f.cells A1 c1) 47)
  have c0 := (q1.ext hb2).c0
  have HB := Lib.hid (hb1.trans (hb2.mono hb1.size))
  clear hP q q1 hb1 hb2
  go_wp2_with fail
  go_quiet (fail)
  go_wp2_with fail
  go_ret2
  exact ⟨rfl, below_drewN HB.out nq⟩
set_option maxRecDepth 20000 in
theorem LAcks_calls (g bm : Nat) (L : Lk) (vw vf vh : Value) (w : World) (q : LkB w g bm L vw vf vh) :
    Calls Tryd.prog 26 #[.pointer (some ⟨g, 0, none⟩)] w fun e w' => e = .returned (.agg #[.int .u16 (L.cn : Int), .int .u32 (L.cb : Int)]) ∧ Below w.heap.size w w' := by
  have hb := below_alloc1 w (.cells #[.int .u16 (L.cn : Int), .int .u32 (L.cb : Int)] 45)
  have ha := below_alloc1 w (.cells #[.int .u16 0, .int .u32 0] 45)
  have c4 := q.c4
  have c5 := q.c5
  have d4 := (q.ext ha).c4
  have d5 := (q.ext ha).c5
  clear q
  go_enter Tryd.func26, Tryd.ntmps26
  go_wp2_with fail
  have hg := heap_alloc_new w (.cells #[.int .u16 (L.cn : Int), .int .u32 (L.cb : Int)] 45)
  refine bodyPost_ret (results_cell_row (P := Tryd.prog) rfl _ _ w.heap.size _ _ (0, 0) _ rfl hg Tryd.underlying45 rfl (by kernel_rfl)) rfl ⟨rfl, hb⟩
end Go.Proofs.YtcgbamkfflcdfaaDoor
/- Take of a frame of its epoch. Conditions: those said. -/
namespace Go.Proofs.YtcgbamkfflcdfaaDoor
open Go.RowKit
set_option linter.unusedVariables false

/-- A piece that lies apart from what a link turns. -/
def Cold (g bm : Nat) (vw vf vh : Value) (x : PV) : Prop := x.p.data ≠ [] → (¬ x.b = g ∧ ¬ x.b = bm ∧ vh.ownBlock ≠ some x.b) ∧ vw.ownBlock ≠ some x.b ∧ vf.ownBlock ≠ some x.b
/-- How a link lies, with all that it holds. -/
structure LM (w : World) (B g bm : Nat) (L : Lk) (vw vf vh : Value) (wv : List PV) (xv : List Fl) (E : EP) (hd : List UInt8) (n : Nat) : Prop where
  s : LS w B g bm L vw vf vh wv xv
  mp : Mp w bm n (valE E)
  row : Row w B vh hd
  nil_ : hd = [] → vh = .slice none 0 0
  pw : ∀ x ∈ wv, PV.InT w x ∧ (x.p.data ≠ [] → vh.ownBlock ≠ some x.b)
  pf : ∀ x ∈ xv, PV.InT w x.p ∧ (x.p.p.data ≠ [] → vh.ownBlock ≠ some x.p.b)
  pe : ∀ t x, E t = some x → PV.In w x ∧ Cold g bm vw vf vh x
theorem inT_not {w : World} {x : PV} (h : PV.InT w x) {g : Nat} {cs : Array Value} {t : TypeId} {fr : Nat × Nat} (hg : w.heap[g]? = some (.cells cs t fr)) (ht : t ≠ 5) : x.p.data ≠ [] → ¬ x.b = g := fun h0 e => by
  obtain ⟨cur, fr, hc⟩ := h.typ h0
  rw [e, hg] at hc
  injection hc with hc
  injection hc with _ h2 _
  exact ht h2
theorem inT_notrow {w : World} {x : PV} (h : PV.InT w x) {B n sz : Nat} {e : TypeId} {v : Value} {xs : List Value} (hr : w.ownsRow B e sz v n xs) (ht : e ≠ 5) : x.p.data ≠ [] → v.ownBlock ≠ some x.b := fun h0 => by
  obtain ⟨cur, fr, hc⟩ := h.typ h0
  exact row_apart hr hc (fun e => ht e.symm)
theorem inT_notmap {w : World} {x : PV} (h : PV.InT w x) {bm : Nat} (hm : ∃ es clock, w.heap[bm]? = some (.map es clock)) : x.p.data ≠ [] → ¬ x.b = bm := fun h0 e => by
  obtain ⟨es, cl, hm⟩ := hm
  obtain ⟨cur, fr, hc⟩ := h.typ h0
  rw [e, hm] at hc
  cases hc
theorem lk_notmap {w : World} {g bm bm' : Nat} {L : Lk} {vw vf vh : Value} (q : LkB w g bm' L vw vf vh) (hm : ∃ es clock, w.heap[bm]? = some (.map es clock)) : ¬ g = bm := fun e => by
  obtain ⟨es, cl, hm⟩ := hm
  unfold LkB at q
  rw [← e, q] at hm
  cases hm
namespace LM
variable {w w' : World} {B g bm : Nat} {L : Lk} {vw vf vh : Value} {wv : List PV} {xv : List Fl} {E : EP} {hd : List UInt8} {n : Nat}
theorem ext (h : LM w B g bm L vw vf vh wv xv E hd n) (hb : Below w.heap.size w w') : LM w' B g bm L vw vf vh wv xv E hd n :=
  ⟨h.s.ext hb, h.mp.ext hb, h.row.ext hb, h.nil_, fun x hx => ⟨(h.pw x hx).1.ext hb, (h.pw x hx).2⟩, fun x hx => ⟨(h.pf x hx).1.ext hb, (h.pf x hx).2⟩, fun t x hx => ⟨(h.pe t x hx).1.ext hb, (h.pe t x hx).2⟩⟩
theorem gm (h : LM w B g bm L vw vf vh wv xv E hd n) : ¬ g = bm := lk_notmap h.s.q h.mp.isMap
theorem kin (h : LM w B g bm L vw vf vh wv xv E hd n) : KIn ⟨L, vw, vf, bm⟩ w B g vh ⟨hd, L.lv⟩ := ⟨h.s.q, h.row, h.nil_⟩
/-- A step that turns the link, its flights, and leaves the rest. -/
theorem flies (h : LM w B g bm L vw vf vh wv xv E hd n) {vf' : Value} {xv' : List Fl} {L' : Lk} (hm : Mod (fun i => i = g ∨ vf.ownBlock = some i) w w') (hq : LkB w' g bm L' vw vf' vh) (hf : RowF w' B vf' xv') (hob : vf'.ownBlock = vf.ownBlock) (hsub : ∀ x ∈ xv', x ∈ xv) : LM w' B g bm L' vw vf' vh wv xv' E hd n := by
  have hmap := h.mp.isMap
  have hin : ∀ x, PV.InT w x → PV.InT w' x := fun x hx => hx.mod hm (fun h0 hh => by
    rcases hh with hh | hh
    · exact inT_not hx h.s.q (by decide) h0 hh
    · exact inT_notrow hx h.s.rf (by decide) h0 hh)
  refine ⟨⟨hq, ownsP_mod h.s.rp hm (fun k hk hh => ?_), hf, Nat.le_trans h.s.hB hm.size⟩, h.mp.mod hm ?_, h.row.mod hm (fun k hk hh => ?_), h.nil_, fun x hx => ⟨hin x (h.pw x hx).1, (h.pw x hx).2⟩, fun x hx => ⟨hin _ (h.pf x (hsub x hx)).1, (h.pf x (hsub x hx)).2⟩, fun t x hx => ⟨(h.pe t x hx).1.mod hm (fun h0 hh => ?_), fun h0 => ?_⟩⟩
  · rcases hh with hh | hh
    · exact row_apart h.s.rp h.s.q (by decide) (hh ▸ hk)
    · exact rows_apartT h.s.rp h.s.rf (by decide) k hk hh
  · rintro (hh | hh)
    · exact h.gm hh.symm
    · exact row_notmap h.s.rf hmap hh
  · rcases hh with hh | hh
    · exact row_apart h.row h.s.q (by decide) (hh ▸ hk)
    · exact rows_apartT h.row h.s.rf (by decide) k hk hh
  · have h9 := (h.pe t x hx).2 h0
    rcases hh with hh | hh
    · exact h9.1.1 hh
    · exact h9.2.2 hh
  · have h9 := (h.pe t x hx).2 h0
    exact ⟨h9.1, h9.2.1, hob ▸ h9.2.2⟩
/-- Behind keep. -/
theorem keep (h : LM w B g bm L vw vf vh wv xv E hd n) {C : PV → Prop} {cn cb ba : Nat} {E' : EP} {s : Kp} {vh' vo : Value} {us : List Value} (hk : KS C w w' B g ⟨{ L with cn := cn, cb := cb }, vw, vf, bm⟩ vh (n + 1) ba cn cb E' s vh' vo us) (hC : ∀ x, C x → x.p.data ≠ [] → vw.ownBlock ≠ some x.b ∧ vf.ownBlock ≠ some x.b) :
    LM w' B g bm { L with cn := cn, cb := cb, lv := s.k.leaving } vw vf vh' wv xv E' s.k.held (n + 1) := by
  have hmap := h.mp.isMap
  have hm := hk.mod
  have hin : ∀ x, (PV.InT w x ∧ (x.p.data ≠ [] → vh.ownBlock ≠ some x.b)) → PV.InT w' x ∧ (x.p.data ≠ [] → vh'.ownBlock ≠ some x.b) := fun x hx => ⟨hx.1.mod hm (fun h0 hh => by
    rcases hh with hh | hh | hh
    · exact inT_not hx.1 h.s.q (by decide) h0 hh
    · exact inT_notmap hx.1 hmap h0 hh
    · exact hx.2 h0 hh), fun h0 hh => by
    rcases hk.at_ _ hh with h1 | h1
    · exact hx.2 h0 h1
    · have := Bs.lt hx.1.in_.1 h0
      omega⟩
  refine ⟨⟨hk.kin.box, ownsP_mod h.s.rp hm (fun k hk hh => ?_), ownsP_mod h.s.rf hm (fun k hk hh => ?_), Nat.le_trans h.s.hB hm.size⟩, hk.mp, hk.kin.row, hk.kin.none_, fun x hx => hin x (h.pw x hx), fun x hx => hin _ (h.pf x hx), fun t x hx => ⟨(hk.pcs t x hx).1, fun h0 => ⟨((hk.pcs t x hx).2 h0).2, hC x (hk.cs t x hx) h0⟩⟩⟩
  · rcases hh with hh | hh | hh
    · exact row_apart h.s.rp h.s.q (by decide) (by rw [← show k = g from hh]; exact hk)
    · exact row_notmap h.s.rp hmap (by rw [← show k = bm from hh]; exact hk)
    · exact rows_apartT h.s.rp h.row (by decide) k hk hh
  · rcases hh with hh | hh | hh
    · exact row_apart h.s.rf h.s.q (by decide) (by rw [← show k = g from hh]; exact hk)
    · exact row_notmap h.s.rf hmap (by rw [← show k = bm from hh]; exact hk)
    · exact rows_apartT h.s.rf h.row (by decide) k hk hh
end LM
/-- What Take leaves, and tells. -/
structure TkO (C0 : PV → Prop) (w w' : World) (B g bm : Nat) (L' : Lk) (vw vf vh : Value) (wv : List PV) (xv' : List Fl) (Ep : Nat → Option Pc) (hd' : List UInt8) (n' : Nat) (outs : List (List UInt8)) (vo : Value) : Prop where
  out : ∃ vf' vh' E' us, LM w' B g bm L' vw vf' vh' wv xv' E' hd' n' ∧ plE E' = Ep ∧ (∀ t x, E' t = some x → C0 x) ∧ vf'.ownBlock = vf.ownBlock ∧ (∀ i, vh'.ownBlock = some i → vh.ownBlock = some i ∨ w.heap.size ≤ i) ∧ RowS w' w.heap.size vo us ∧ RowsIn w' B us outs ∧ (∀ u ∈ us, ∀ i, u.ownBlock = some i → vh.ownBlock = some i ∨ w.heap.size ≤ i) ∧ Mod (fun i => i = g ∨ i = bm ∨ vh.ownBlock = some i ∨ vf.ownBlock = some i) w w'
/-- What Parse tells of a frame. -/
def Parsed (A : Option Addr) (N c : Nat) (w : World) (f : Fr) : Prop := Calls Tryd.prog 31 #[.slice A N c] w fun e w' => ∃ A' c' b', e = .returned (.tuple #[.agg (f.cells A' c'), .int .i64 0]) ∧ Bs w' b' A' f.data ∧ w.heap.size ≤ b' ∧ Below w.heap.size w w'
theorem low_own {w : World} {B B' n sz : Nat} {e : TypeId} {v : Value} {xs : List Value} (h : w.ownsRow B e sz v n xs) (hB : B' ≤ B) : w.ownsRow B' e sz v n xs := by
  refine ⟨h.1, ?_⟩
  rcases h.2 with h2 | ⟨g, cap, cur, rfl, hg, r⟩
  · exact .inl h2
  · exact .inr ⟨g, cap, cur, rfl, by omega, r⟩
set_option maxHeartbeats 16000000 in
set_option maxRecDepth 40000 in
theorem Take_alone (C0 : PV → Prop) (B g bm : Nat) (L : Lk) (vw vf vh : Value) (wv : List PV) (xv : List Fl) (E : EP) (hd : List UInt8) (n : Nat) (f : Fr) (A : Option Addr) (N c : Nat) (w : World) (h : LM w B g bm L vw vf vh wv xv E hd n) (hP : Parsed A N c w f) (ho : f.Ok) (hdl : f.data.length ≤ maxLen) (hep : f.epoch = L.ep) (hxs : ∀ x ∈ xv, x.seq < 65536) (hxl : xv.length ≤ 1000000) (hc0 : ∀ t x, E t = some x → C0 x) (hc1 : ∀ y : PV, w.heap.size ≤ y.b → C0 y) (hal : f.alone = true) :
    Calls Tryd.prog 18 #[.pointer (some ⟨g, 0, none⟩), .slice A N c] w fun e w' => ∃ vo, e = .returned (.tuple #[vo, .int .i64 (0)]) ∧ TkO C0 w w' B g bm L vw vf vh wv (keptF f xv) (plE E) hd n [] vo ∧ Mod (fun i => i = g ∨ vf.ownBlock = some i) w w' := by
  unfold Parsed at hP
  have hwB := h.s.hB
  have hgl := h.s.q.lt
  have hne1 : ((f.epoch : Int) != (L.ep : Int)) = false := by rw [hep]; simp
  have hvfl := fun k hk => World.ownsRow.lt h.s.rf k hk
  go_enter Tryd.func18, Tryd.ntmps18
  go_wp2_with fail
  refine hP.mono ?_
  rintro e w1 ⟨A1, c1, b1, rfl, hs1, hb1', hb1⟩
  have h1 := h.ext hb1
  have hb2 := below_alloc1 w1 (.cells (f.cells A1 c1) 47)
  have c0 := (h1.s.q.ext hb2).c0
  have z := heap_alloc_new w1 (.cells (f.cells A1 c1) 47)
  have HL := Lib.hid (h1.ext hb2)
  have HZ := Lib.hid z
  have HS := Lib.hid (Sl.ext hs1 hb2)
  have HB := Lib.hid (hb1.trans (hb2.mono hb1.size))
  have HW := Lib.hid hb1.size
  have HB1 := Lib.hid (And.intro hb1' (show f.data ≠ [] → b1 < w1.heap.size from fun h0 => Bs.lt hs1 h0))
  have HVF := Lib.hid hvfl
  have HXS := Lib.hid hxs
  have HEP := Lib.hid hep
  have HAL := Lib.hid hal
  have HC0 := Lib.hid hc0
  have HC1 := Lib.hid hc1
  clear hP h h1 hs1 hb1 hb2 hb1' z hvfl hxs hc0 hc1 hep hal
  go_wp2_with fail
  go_quiet (fail)
  obtain ⟨W1, hW1⟩ : ∃ W1, W1 = w1.alloc (.cells (f.cells A1 c1) 47) := ⟨_, rfl⟩
  have h2 : LM (W1.drewN nq) B g bm L vw vf vh wv xv E hd n := by rw [hW1]; exact HL.out.ext (below_drewN (Below.refl _ _) nq)
  have z2 : FrX (W1.drewN nq) w1.heap.size f A1 c1 := by rw [hW1]; exact HZ.out
  have s2 : Bs (W1.drewN nq) b1 A1 f.data := by rw [hW1]; exact HS.out
  have hb2 : Below w.heap.size w (W1.drewN nq) := by rw [hW1]; exact below_drewN HB.out nq
  rw [← hW1]
  clear hW1 HL HZ HS HB
  obtain ⟨W2, hW2⟩ : ∃ W2, W2 = W1.drewN nq := ⟨_, rfl⟩
  rw [← hW2] at h2 z2 s2 hb2 ⊢
  clear hW2
  obtain ⟨bf, hbf⟩ : ∃ bf, bf = w1.heap.size := ⟨_, rfl⟩
  rw [← hbf] at z2 ⊢
  have hbfw : w.heap.size ≤ bf := by have := HW.out; omega
  have hbb : f.data ≠ [] → b1 < bf := by rw [hbf]; exact HB1.out.2
  have hbw : w.heap.size ≤ b1 := HB1.out.1
  clear hbf HB1 HW c0
  have hD := DeleteF_calls bf f A1 c1 B vf xv W2 z2 ho HXS.out h2.s.rf hxl
  have c2 := h2.s.q.c2
  have H2 := Lib.hid h2
  have Z2 := Lib.hid z2
  have S2 := Lib.hid s2
  have HBB := Lib.hid hbb
  clear h2 z2 s2 hbb
  go_wp2_with fail
  refine hD.mono ?_
  rintro e w3 ⟨vf', rfl, hrf3, hob, hm3⟩
  obtain ⟨Af, cf, bff, hvf, -⟩ := ownsP_sl hrf3
  obtain ⟨m, hm⟩ : ∃ m, m = (keptF f xv).length := ⟨_, rfl⟩
  rw [← hm] at hvf
  subst hvf
  clear hm hD c2
  have hvfl : ∀ k, vf.ownBlock = some k → B ≤ k ∧ k < w.heap.size := HVF.out
  have hgf : vf.ownBlock ≠ some g := row_apart H2.out.s.rf H2.out.s.q (by decide)
  have q3 := H2.out.s.q.mod hm3 hgf
  have z3 : FrX w3 bf f A1 c1 := Z2.out.mod hm3 (fun hh => by have := (hvfl _ hh).2; omega)
  have d2 := q3.c2
  have e2 := q3.fz 2
  have q4 := q3.set2 (.slice Af m cf)
  have hm4 : Mod (fun i => i = g ∨ vf.ownBlock = some i) W2 (w3.setCell ⟨g, 2, none⟩ (.slice Af m cf)) := hm3.trans (Mod.setCell w3 ⟨g, 2, none⟩ _) (fun i _ h => .inr h) (fun i _ h => .inl h)
  have hrf4 : RowF (w3.setCell ⟨g, 2, none⟩ (.slice Af m cf)) B (.slice Af m cf) (keptF f xv) := ownsP_mod hrf3 (Mod.setCell w3 ⟨g, 2, none⟩ _) (fun k hk hh => row_apart hrf3 q3 (by decide) (by rw [← show k = g from hh]; exact hk))
  have h4 := H2.out.flies hm4 q4 hrf4 hob (fun x hx => (List.mem_filter.1 hx).1)
  have z4 : FrX (w3.setCell ⟨g, 2, none⟩ (.slice Af m cf)) bf f A1 c1 := z3.mod (Mod.setCell w3 ⟨g, 2, none⟩ _) (fun e => by have e : bf = g := e; omega)
  have hM4 : Mod (fun i => i = g ∨ i = bm ∨ vh.ownBlock = some i ∨ vf.ownBlock = some i) w (w3.setCell ⟨g, 2, none⟩ (.slice Af m cf)) := (Mod.of_below hb2).trans hm4 (fun i hi hh => absurd hi (by omega)) (fun i _ hh => by rcases hh with hh | hh; exact .inl hh; exact .inr (.inr (.inr hh)))
  have s4 : Bs (w3.setCell ⟨g, 2, none⟩ (.slice Af m cf)) b1 A1 f.data := Bs.modne S2.out hm4 (fun h0 hh => by
    rcases hh with hh | hh
    · omega
    · have := (hvfl _ hh).2; omega)
  have f6 := z4.c6
  rw [HAL.out] at f6
  have HMA := Lib.hid ((Mod.of_below hb2).trans hm4 (S := fun i => i = g ∨ vf.ownBlock = some i) (fun i hi hh => absurd hi (by omega)) (fun i _ hh => hh))
  have H4 := Lib.hid h4
  have HM4 := Lib.hid hM4
  clear h4 z4 hM4 s4 hrf4 hm4 q4 z3 hrf3 hm3 hgf hvfl q3
  go_wp2_with fail
  go_ret2
  exact ⟨_, rfl, ⟨_, vh, E, [], H4.out, rfl, HC0.out, hob, fun i hi => .inl hi, RowS.nil_ _ _, RowsIn.nil_ _ _, fun u hu => (by cases hu), HM4.out⟩, HMA.out⟩
set_option maxHeartbeats 16000000 in
set_option maxRecDepth 40000 in
theorem Take_had (C0 : PV → Prop) (B g bm : Nat) (L : Lk) (vw vf vh : Value) (wv : List PV) (xv : List Fl) (E : EP) (hd : List UInt8) (n : Nat) (f : Fr) (A : Option Addr) (N c : Nat) (w : World) (h : LM w B g bm L vw vf vh wv xv E hd n) (hP : Parsed A N c w f) (ho : f.Ok) (hdl : f.data.length ≤ maxLen) (hep : f.epoch = L.ep) (hxs : ∀ x ∈ xv, x.seq < 65536) (hxl : xv.length ≤ 1000000) (hc0 : ∀ t x, E t = some x → C0 x) (hc1 : ∀ y : PV, w.heap.size ≤ y.b → C0 y) (htab : ∀ W, Mod (fun i => i = g ∨ i = bm ∨ vh.ownBlock = some i ∨ vf.ownBlock = some i) w W → Tab W) (hal : f.alone = false) (hhd : hd.length ≤ 1024) (hn : n ≤ 1000000) (hcn : L.cn < 65536) (hcb : L.cb < 4294967296) (hnote : noteN L.cn L.cb f.seq = none) :
    Calls Tryd.prog 18 #[.pointer (some ⟨g, 0, none⟩), .slice A N c] w fun e w' => ∃ vo, e = .returned (.tuple #[vo, .int .i64 (0)]) ∧ TkO C0 w w' B g bm { L with ow := true } vw vf vh wv (keptF f xv) (plE E) hd n [] vo := by
  unfold Parsed at hP
  have hwB := h.s.hB
  have hgl := h.s.q.lt
  have hne1 : ((f.epoch : Int) != (L.ep : Int)) = false := by rw [hep]; simp
  have hvfl := fun k hk => World.ownsRow.lt h.s.rf k hk
  have LIMW := Lib.hid (fun k hk => (World.ownsRow.lt h.s.rp k hk).2)
  have LIMH := Lib.hid (fun k hk => (World.ownsRow.lt h.row k hk).2)
  have LIMM := Lib.hid h.mp.lt
  go_enter Tryd.func18, Tryd.ntmps18
  go_wp2_with fail
  refine hP.mono ?_
  rintro e w1 ⟨A1, c1, b1, rfl, hs1, hb1', hb1⟩
  have h1 := h.ext hb1
  have hb2 := below_alloc1 w1 (.cells (f.cells A1 c1) 47)
  have c0 := (h1.s.q.ext hb2).c0
  have z := heap_alloc_new w1 (.cells (f.cells A1 c1) 47)
  have HL := Lib.hid (h1.ext hb2)
  have HZ := Lib.hid z
  have HS := Lib.hid (Sl.ext hs1 hb2)
  have HB := Lib.hid (hb1.trans (hb2.mono hb1.size))
  have HW := Lib.hid hb1.size
  have HB1 := Lib.hid (And.intro hb1' (show f.data ≠ [] → b1 < w1.heap.size from fun h0 => Bs.lt hs1 h0))
  have HVF := Lib.hid hvfl
  have HXS := Lib.hid hxs
  have HEP := Lib.hid hep
  have HAL := Lib.hid hal
  have HC0 := Lib.hid hc0
  have HC1 := Lib.hid hc1
  clear hP h h1 hs1 hb1 hb2 hb1' z hvfl hxs hc0 hc1 hep hal
  go_wp2_with fail
  go_quiet (fail)
  obtain ⟨W1, hW1⟩ : ∃ W1, W1 = w1.alloc (.cells (f.cells A1 c1) 47) := ⟨_, rfl⟩
  have h2 : LM (W1.drewN nq) B g bm L vw vf vh wv xv E hd n := by rw [hW1]; exact HL.out.ext (below_drewN (Below.refl _ _) nq)
  have z2 : FrX (W1.drewN nq) w1.heap.size f A1 c1 := by rw [hW1]; exact HZ.out
  have s2 : Bs (W1.drewN nq) b1 A1 f.data := by rw [hW1]; exact HS.out
  have hb2 : Below w.heap.size w (W1.drewN nq) := by rw [hW1]; exact below_drewN HB.out nq
  rw [← hW1]
  clear hW1 HL HZ HS HB
  obtain ⟨W2, hW2⟩ : ∃ W2, W2 = W1.drewN nq := ⟨_, rfl⟩
  rw [← hW2] at h2 z2 s2 hb2 ⊢
  clear hW2
  obtain ⟨bf, hbf⟩ : ∃ bf, bf = w1.heap.size := ⟨_, rfl⟩
  rw [← hbf] at z2 ⊢
  have hbfw : w.heap.size ≤ bf := by have := HW.out; omega
  have hbb : f.data ≠ [] → b1 < bf := by rw [hbf]; exact HB1.out.2
  have hbw : w.heap.size ≤ b1 := HB1.out.1
  clear hbf HB1 HW c0
  have hD := DeleteF_calls bf f A1 c1 B vf xv W2 z2 ho HXS.out h2.s.rf hxl
  have c2 := h2.s.q.c2
  have H2 := Lib.hid h2
  have Z2 := Lib.hid z2
  have S2 := Lib.hid s2
  have HBB := Lib.hid hbb
  clear h2 z2 s2 hbb
  go_wp2_with fail
  refine hD.mono ?_
  rintro e w3 ⟨vf', rfl, hrf3, hob, hm3⟩
  obtain ⟨Af, cf, bff, hvf, -⟩ := ownsP_sl hrf3
  obtain ⟨m, hm⟩ : ∃ m, m = (keptF f xv).length := ⟨_, rfl⟩
  rw [← hm] at hvf
  subst hvf
  clear hm hD c2
  have hvfl : ∀ k, vf.ownBlock = some k → B ≤ k ∧ k < w.heap.size := HVF.out
  have hgf : vf.ownBlock ≠ some g := row_apart H2.out.s.rf H2.out.s.q (by decide)
  have q3 := H2.out.s.q.mod hm3 hgf
  have z3 : FrX w3 bf f A1 c1 := Z2.out.mod hm3 (fun hh => by have := (hvfl _ hh).2; omega)
  have d2 := q3.c2
  have e2 := q3.fz 2
  have q4 := q3.set2 (.slice Af m cf)
  have hm4 : Mod (fun i => i = g ∨ vf.ownBlock = some i) W2 (w3.setCell ⟨g, 2, none⟩ (.slice Af m cf)) := hm3.trans (Mod.setCell w3 ⟨g, 2, none⟩ _) (fun i _ h => .inr h) (fun i _ h => .inl h)
  have hrf4 : RowF (w3.setCell ⟨g, 2, none⟩ (.slice Af m cf)) B (.slice Af m cf) (keptF f xv) := ownsP_mod hrf3 (Mod.setCell w3 ⟨g, 2, none⟩ _) (fun k hk hh => row_apart hrf3 q3 (by decide) (by rw [← show k = g from hh]; exact hk))
  have h4 := H2.out.flies hm4 q4 hrf4 hob (fun x hx => (List.mem_filter.1 hx).1)
  have z4 : FrX (w3.setCell ⟨g, 2, none⟩ (.slice Af m cf)) bf f A1 c1 := z3.mod (Mod.setCell w3 ⟨g, 2, none⟩ _) (fun e => by have e : bf = g := e; omega)
  have hM4 : Mod (fun i => i = g ∨ i = bm ∨ vh.ownBlock = some i ∨ vf.ownBlock = some i) w (w3.setCell ⟨g, 2, none⟩ (.slice Af m cf)) := (Mod.of_below hb2).trans hm4 (fun i hi hh => absurd hi (by omega)) (fun i _ hh => by rcases hh with hh | hh; exact .inl hh; exact .inr (.inr (.inr hh)))
  have s4 : Bs (w3.setCell ⟨g, 2, none⟩ (.slice Af m cf)) b1 A1 f.data := Bs.modne S2.out hm4 (fun h0 hh => by
    rcases hh with hh | hh
    · omega
    · have := (hvfl _ hh).2; omega)
  have f6 := z4.c6
  rw [HAL.out] at f6
  have d9 := q4.c9
  have e9 := q4.fz 9
  have hm5 := Mod.setCell (w3.setCell ⟨g, 2, none⟩ (.slice Af m cf)) ⟨g, 9, none⟩ (.bool true)
  have q5 := q4.set9 true
  have hrf5 := ownsP_mod hrf4 hm5 (fun k hk hh => row_apart hrf4 q4 (by decide) (by rw [← show k = g from hh]; exact hk))
  have h5 := h4.flies (hm5.mono (fun i _ hh => .inl hh)) q5 hrf5 rfl (fun x hx => hx)
  have z5 := z4.mod hm5 (fun e => by have e : bf = g := e; omega)
  have hM5 := hM4.trans hm5 (fun i _ h => h) (fun i _ hh => .inl hh)
  have s5 := Bs.modne s4 hm5 (fun _ e => by have e : b1 = g := e; omega)
  have y0 := z5.c0
  have y1 := z5.c1
  have y2 := z5.c2
  have y3 := z5.c3
  have y4 := z5.c4
  have y5 := z5.c5
  have y6 := z5.c6
  have y7 := z5.c7
  rw [HAL.out] at y6
  have hfc : f.cells A1 c1 = #[.int .u16 (f.epoch : Int), .int .u16 (f.seq : Int), .int .u16 (f.next : Int), .int .u32 (f.bits : Int), .bool f.first, .bool f.last, .bool false, .slice A1 f.data.length c1] := by rw [← HAL.out]
  obtain ⟨W5, hW5⟩ : ∃ W5, W5 = (w3.setCell ⟨g, 2, none⟩ (.slice Af m cf)).setCell ⟨g, 9, none⟩ (.bool true) := ⟨_, rfl⟩
  have HX := Lib.hid (And.intro h5 (And.intro hM5 (And.intro s5 z5)))
  have HW5 := Lib.hid hW5
  have HFC := Lib.hid hfc
  clear h5 hM5 s5 z5 h4 z4 hM4 s4 hrf4 hrf5 hm4 hm5 q4 q5 z3 hrf3 hm3 hgf hvfl q3 hW5 hfc
  go_wp2_with fail
  rw [← HW5.out]
  have hX := HX.out
  rw [← HW5.out] at hX
  obtain ⟨h5, hM5, s5, z5⟩ := hX
  have hT5 : Tab W5 := htab W5 hM5
  rw [← HFC.out]
  have VWL : ∀ k, vw.ownBlock = some k → k < w.heap.size := LIMW.out
  have VHL : ∀ k, vh.ownBlock = some k → k < w.heap.size := LIMH.out
  have BML : bm < w.heap.size := LIMM.out
  obtain ⟨C, hCd⟩ : ∃ C : PV → Prop, C = fun x => C0 x ∧ (x.p.data ≠ [] → vw.ownBlock ≠ some x.b ∧ (Value.slice Af m cf).ownBlock ≠ some x.b) := ⟨_, rfl⟩
  have hCE : ∀ t x, E t = some x → C x := fun t x hx => by rw [hCd]; exact ⟨HC0.out t x hx, fun h0 => ((h5.pe t x hx).2 h0).2⟩
  have hvwl := fun k hk => World.ownsRow.lt H2.out.s.rp k hk
  have hCy : C ⟨⟨f.first, f.last, f.data⟩, A1, c1, b1⟩ := by
    rw [hCd]
    refine ⟨HC1.out _ hbw, fun h0 => ⟨fun hh => ?_, fun hh => ?_⟩⟩
    · have h8 : b1 < w.heap.size := VWL b1 hh; omega
    · rw [hob] at hh
      have h8 : b1 < w.heap.size := (HVF.out b1 hh).2
      omega
  have hy : PV.In W5 ⟨⟨f.first, f.last, f.data⟩, A1, c1, b1⟩ ∧ (f.data ≠ [] → ¬ b1 = g ∧ ¬ b1 = bm ∧ vh.ownBlock ≠ some b1) := ⟨⟨s5, hdl⟩, fun h0 => ⟨by omega, by have := BML; omega, fun hh => by have := VHL _ hh; omega⟩⟩
  have hK := keep_none C B g bm { L with ow := true } vw (.slice Af m cf) vh n E ⟨hd, L.lv⟩ f A1 c1 b1 W5 hT5 h5.kin h5.mp (fun t x hx => ⟨(h5.pe t x hx).1, fun h0 => ((h5.pe t x hx).2 h0).1⟩) hCE hCy hy hhd h5.s.hB hn hcn hcb ho.s hnote
  have HX2 := Lib.hid (And.intro h5 hM5)
  clear h5 hM5 s5 z5 hT5 hCE hCy hy hvwl
  go_wp2_with fail
  refine hK.mono ?_
  rintro e w6 ⟨rfl, hb6⟩
  clear hK
  go_wp2_with fail
  go_ret2
  exact ⟨_, rfl, ⟨_, vh, E, [], HX2.out.1.ext hb6, rfl, HC0.out, hob, fun i hi => .inl hi, RowS.nil_ _ _, RowsIn.nil_ _ _, fun u hu => (by cases hu), HX2.out.2.trans (Mod.of_below hb6) (fun i _ h => h) (fun i hi hh => absurd hi (by have := HX2.out.2.size; omega))⟩⟩
set_option maxHeartbeats 16000000 in
set_option maxRecDepth 40000 in
theorem Take_new (C0 : PV → Prop) (B g bm : Nat) (L : Lk) (vw vf vh : Value) (wv : List PV) (xv : List Fl) (E : EP) (hd : List UInt8) (n : Nat) (f : Fr) (A : Option Addr) (N c : Nat) (cn' cb' : Nat) (s : Kp) (w : World) (h : LM w B g bm L vw vf vh wv xv E hd n) (hP : Parsed A N c w f) (ho : f.Ok) (hdl : f.data.length ≤ maxLen) (hep : f.epoch = L.ep) (hxs : ∀ x ∈ xv, x.seq < 65536) (hxl : xv.length ≤ 1000000) (hc0 : ∀ t x, E t = some x → C0 x) (hc1 : ∀ y : PV, w.heap.size ≤ y.b → C0 y) (htab : ∀ W, Mod (fun i => i = g ∨ i = bm ∨ vh.ownBlock = some i ∨ vf.ownBlock = some i) w W → Tab W) (hal : f.alone = false) (hhd : hd.length ≤ 1024) (hn : n ≤ 1000000) (hcn : L.cn < 65536) (hcb : L.cb < 4294967296) (hnote : noteN L.cn L.cb f.seq = some (cn', cb')) (hs : s = drainK ⟨fun u => if u = f.seq then some ⟨f.first, f.last, f.data⟩ else plE E u, ⟨hd, L.lv⟩, [], 0⟩ L.cn (aheadN L.cn cn')) :
    Calls Tryd.prog 18 #[.pointer (some ⟨g, 0, none⟩), .slice A N c] w fun e w' => ∃ vo, e = .returned (.tuple #[vo, .int .i64 (s.err : Int)]) ∧ TkO C0 w w' B g bm { L with cn := cn', cb := cb', lv := s.k.leaving, ow := true } vw vf vh wv (keptF f xv) s.E s.k.held (n + 1) s.out vo := by
  unfold Parsed at hP
  have hwB := h.s.hB
  have hgl := h.s.q.lt
  have hne1 : ((f.epoch : Int) != (L.ep : Int)) = false := by rw [hep]; simp
  have hvfl := fun k hk => World.ownsRow.lt h.s.rf k hk
  have LIMW := Lib.hid (fun k hk => (World.ownsRow.lt h.s.rp k hk).2)
  have LIMH := Lib.hid (fun k hk => (World.ownsRow.lt h.row k hk).2)
  have LIMM := Lib.hid h.mp.lt
  have HSD := Lib.hid hs
  clear hs
  go_enter Tryd.func18, Tryd.ntmps18
  go_wp2_with fail
  refine hP.mono ?_
  rintro e w1 ⟨A1, c1, b1, rfl, hs1, hb1', hb1⟩
  have h1 := h.ext hb1
  have hb2 := below_alloc1 w1 (.cells (f.cells A1 c1) 47)
  have c0 := (h1.s.q.ext hb2).c0
  have z := heap_alloc_new w1 (.cells (f.cells A1 c1) 47)
  have HL := Lib.hid (h1.ext hb2)
  have HZ := Lib.hid z
  have HS := Lib.hid (Sl.ext hs1 hb2)
  have HB := Lib.hid (hb1.trans (hb2.mono hb1.size))
  have HW := Lib.hid hb1.size
  have HB1 := Lib.hid (And.intro hb1' (show f.data ≠ [] → b1 < w1.heap.size from fun h0 => Bs.lt hs1 h0))
  have HVF := Lib.hid hvfl
  have HXS := Lib.hid hxs
  have HEP := Lib.hid hep
  have HAL := Lib.hid hal
  have HC0 := Lib.hid hc0
  have HC1 := Lib.hid hc1
  clear hP h h1 hs1 hb1 hb2 hb1' z hvfl hxs hc0 hc1 hep hal
  go_wp2_with fail
  go_quiet (fail)
  obtain ⟨W1, hW1⟩ : ∃ W1, W1 = w1.alloc (.cells (f.cells A1 c1) 47) := ⟨_, rfl⟩
  have h2 : LM (W1.drewN nq) B g bm L vw vf vh wv xv E hd n := by rw [hW1]; exact HL.out.ext (below_drewN (Below.refl _ _) nq)
  have z2 : FrX (W1.drewN nq) w1.heap.size f A1 c1 := by rw [hW1]; exact HZ.out
  have s2 : Bs (W1.drewN nq) b1 A1 f.data := by rw [hW1]; exact HS.out
  have hb2 : Below w.heap.size w (W1.drewN nq) := by rw [hW1]; exact below_drewN HB.out nq
  rw [← hW1]
  clear hW1 HL HZ HS HB
  obtain ⟨W2, hW2⟩ : ∃ W2, W2 = W1.drewN nq := ⟨_, rfl⟩
  rw [← hW2] at h2 z2 s2 hb2 ⊢
  clear hW2
  obtain ⟨bf, hbf⟩ : ∃ bf, bf = w1.heap.size := ⟨_, rfl⟩
  rw [← hbf] at z2 ⊢
  have hbfw : w.heap.size ≤ bf := by have := HW.out; omega
  have hbb : f.data ≠ [] → b1 < bf := by rw [hbf]; exact HB1.out.2
  have hbw : w.heap.size ≤ b1 := HB1.out.1
  clear hbf HB1 HW c0
  have hD := DeleteF_calls bf f A1 c1 B vf xv W2 z2 ho HXS.out h2.s.rf hxl
  have c2 := h2.s.q.c2
  have H2 := Lib.hid h2
  have Z2 := Lib.hid z2
  have S2 := Lib.hid s2
  have HBB := Lib.hid hbb
  clear h2 z2 s2 hbb
  go_wp2_with fail
  refine hD.mono ?_
  rintro e w3 ⟨vf', rfl, hrf3, hob, hm3⟩
  obtain ⟨Af, cf, bff, hvf, -⟩ := ownsP_sl hrf3
  obtain ⟨m, hm⟩ : ∃ m, m = (keptF f xv).length := ⟨_, rfl⟩
  rw [← hm] at hvf
  subst hvf
  clear hm hD c2
  have hvfl : ∀ k, vf.ownBlock = some k → B ≤ k ∧ k < w.heap.size := HVF.out
  have hgf : vf.ownBlock ≠ some g := row_apart H2.out.s.rf H2.out.s.q (by decide)
  have q3 := H2.out.s.q.mod hm3 hgf
  have z3 : FrX w3 bf f A1 c1 := Z2.out.mod hm3 (fun hh => by have := (hvfl _ hh).2; omega)
  have d2 := q3.c2
  have e2 := q3.fz 2
  have q4 := q3.set2 (.slice Af m cf)
  have hm4 : Mod (fun i => i = g ∨ vf.ownBlock = some i) W2 (w3.setCell ⟨g, 2, none⟩ (.slice Af m cf)) := hm3.trans (Mod.setCell w3 ⟨g, 2, none⟩ _) (fun i _ h => .inr h) (fun i _ h => .inl h)
  have hrf4 : RowF (w3.setCell ⟨g, 2, none⟩ (.slice Af m cf)) B (.slice Af m cf) (keptF f xv) := ownsP_mod hrf3 (Mod.setCell w3 ⟨g, 2, none⟩ _) (fun k hk hh => row_apart hrf3 q3 (by decide) (by rw [← show k = g from hh]; exact hk))
  have h4 := H2.out.flies hm4 q4 hrf4 hob (fun x hx => (List.mem_filter.1 hx).1)
  have z4 : FrX (w3.setCell ⟨g, 2, none⟩ (.slice Af m cf)) bf f A1 c1 := z3.mod (Mod.setCell w3 ⟨g, 2, none⟩ _) (fun e => by have e : bf = g := e; omega)
  have hM4 : Mod (fun i => i = g ∨ i = bm ∨ vh.ownBlock = some i ∨ vf.ownBlock = some i) w (w3.setCell ⟨g, 2, none⟩ (.slice Af m cf)) := (Mod.of_below hb2).trans hm4 (fun i hi hh => absurd hi (by omega)) (fun i _ hh => by rcases hh with hh | hh; exact .inl hh; exact .inr (.inr (.inr hh)))
  have s4 : Bs (w3.setCell ⟨g, 2, none⟩ (.slice Af m cf)) b1 A1 f.data := Bs.modne S2.out hm4 (fun h0 hh => by
    rcases hh with hh | hh
    · omega
    · have := (hvfl _ hh).2; omega)
  have f6 := z4.c6
  rw [HAL.out] at f6
  have d9 := q4.c9
  have e9 := q4.fz 9
  have hm5 := Mod.setCell (w3.setCell ⟨g, 2, none⟩ (.slice Af m cf)) ⟨g, 9, none⟩ (.bool true)
  have q5 := q4.set9 true
  have hrf5 := ownsP_mod hrf4 hm5 (fun k hk hh => row_apart hrf4 q4 (by decide) (by rw [← show k = g from hh]; exact hk))
  have h5 := h4.flies (hm5.mono (fun i _ hh => .inl hh)) q5 hrf5 rfl (fun x hx => hx)
  have z5 := z4.mod hm5 (fun e => by have e : bf = g := e; omega)
  have hM5 := hM4.trans hm5 (fun i _ h => h) (fun i _ hh => .inl hh)
  have s5 := Bs.modne s4 hm5 (fun _ e => by have e : b1 = g := e; omega)
  have y0 := z5.c0
  have y1 := z5.c1
  have y2 := z5.c2
  have y3 := z5.c3
  have y4 := z5.c4
  have y5 := z5.c5
  have y6 := z5.c6
  have y7 := z5.c7
  rw [HAL.out] at y6
  have hfc : f.cells A1 c1 = #[.int .u16 (f.epoch : Int), .int .u16 (f.seq : Int), .int .u16 (f.next : Int), .int .u32 (f.bits : Int), .bool f.first, .bool f.last, .bool false, .slice A1 f.data.length c1] := by rw [← HAL.out]
  obtain ⟨W5, hW5⟩ : ∃ W5, W5 = (w3.setCell ⟨g, 2, none⟩ (.slice Af m cf)).setCell ⟨g, 9, none⟩ (.bool true) := ⟨_, rfl⟩
  have HX := Lib.hid (And.intro h5 (And.intro hM5 (And.intro s5 z5)))
  have HW5 := Lib.hid hW5
  have HFC := Lib.hid hfc
  clear h5 hM5 s5 z5 h4 z4 hM4 s4 hrf4 hrf5 hm4 hm5 q4 q5 z3 hrf3 hm3 hgf hvfl q3 hW5 hfc
  go_wp2_with fail
  rw [← HW5.out]
  have hX := HX.out
  rw [← HW5.out] at hX
  obtain ⟨h5, hM5, s5, z5⟩ := hX
  have hT5 : Tab W5 := htab W5 hM5
  rw [← HFC.out]
  have VWL : ∀ k, vw.ownBlock = some k → k < w.heap.size := LIMW.out
  have VHL : ∀ k, vh.ownBlock = some k → k < w.heap.size := LIMH.out
  have BML : bm < w.heap.size := LIMM.out
  obtain ⟨C, hCd⟩ : ∃ C : PV → Prop, C = fun x => C0 x ∧ (x.p.data ≠ [] → vw.ownBlock ≠ some x.b ∧ (Value.slice Af m cf).ownBlock ≠ some x.b) := ⟨_, rfl⟩
  have hCE : ∀ t x, E t = some x → C x := fun t x hx => by rw [hCd]; exact ⟨HC0.out t x hx, fun h0 => ((h5.pe t x hx).2 h0).2⟩
  have hvwl := fun k hk => World.ownsRow.lt H2.out.s.rp k hk
  have hCy : C ⟨⟨f.first, f.last, f.data⟩, A1, c1, b1⟩ := by
    rw [hCd]
    refine ⟨HC1.out _ hbw, fun h0 => ⟨fun hh => ?_, fun hh => ?_⟩⟩
    · have h8 : b1 < w.heap.size := VWL b1 hh; omega
    · rw [hob] at hh
      have h8 : b1 < w.heap.size := (HVF.out b1 hh).2
      omega
  have hy : PV.In W5 ⟨⟨f.first, f.last, f.data⟩, A1, c1, b1⟩ ∧ (f.data ≠ [] → ¬ b1 = g ∧ ¬ b1 = bm ∧ vh.ownBlock ≠ some b1) := ⟨⟨s5, hdl⟩, fun h0 => ⟨by omega, by have := BML; omega, fun hh => by have := VHL _ hh; omega⟩⟩
  have hK := keep_some C B g bm { L with ow := true } vw (.slice Af m cf) vh n E ⟨hd, L.lv⟩ f A1 c1 b1 cn' cb' W5 hT5 h5.kin h5.mp (fun t x hx => ⟨(h5.pe t x hx).1, fun h0 => ((h5.pe t x hx).2 h0).1⟩) hCE hCy hy hhd h5.s.hB hn hcn hcb ho.s hnote
  have hpl : plE (fun u => if u = f.seq then some ⟨⟨f.first, f.last, f.data⟩, A1, c1, b1⟩ else E u) = fun u => if u = f.seq then some ⟨f.first, f.last, f.data⟩ else plE E u := by
    funext u
    unfold plE
    by_cases e : u = f.seq <;> simp [e]
  rw [hpl, ← HSD.out] at hK
  have HX2 := Lib.hid (And.intro h5 hM5)
  have HCD := Lib.hid hCd
  clear h5 hM5 s5 z5 hT5 hCE hCy hy hvwl hpl hCd
  go_wp2_with fail
  refine hK.mono ?_
  rintro e w6 ⟨vo, rfl, ⟨vh', E', us, ba, hks⟩⟩
  clear hK
  obtain ⟨Ao, co, bo, hvo, -⟩ := ownsP_sl hks.rs
  obtain ⟨mo, hmo⟩ : ∃ mo, mo = us.length := ⟨_, rfl⟩
  rw [← hmo] at hvo
  subst hvo
  clear hmo
  have HKS := Lib.hid hks
  clear hks
  go_wp2_with fail
  go_ret2
  obtain ⟨h5, hM5⟩ := HX2.out
  have hks := HKS.out
  have h6 := h5.keep hks (fun x hx h0 => by rw [HCD.out] at hx; exact hx.2 h0)
  have hsz := hM5.size
  exact ⟨_, rfl, ⟨_, vh', E', us, h6, hks.hE, fun t x hx => by have h9 := hks.cs t x hx; rw [HCD.out] at h9; exact h9.1, hob, fun i hi => by rcases hks.at_ i hi with h9 | h9; exact .inl h9; exact .inr (by omega), low_own hks.rs hsz, hks.ins, fun u hu i hi => by rcases hks.ib u hu i hi with h9 | h9; exact .inl h9; exact .inr (by omega), hM5.trans hks.mod (fun i _ h => h) (fun i _ hh => by rcases hh with hh | hh | hh; exact .inl hh; exact .inr (.inl hh); exact .inr (.inr (.inl hh)))⟩⟩
end Go.Proofs.YtcgbamkfflcdfaaDoor
/- Tick of a link that has to answer alone. Conditions: those said. -/
namespace Go.Proofs.YtcgbamkfflcdfaaDoor
open Go.RowKit
set_option linter.unusedVariables false

def aloneF (L : Lk) : Fr := ⟨L.ep, 0, L.cn, L.cb, false, false, true, []⟩
theorem sends_nil {now : Int} {L : Lk} {xs : List Fl} (h : sendsTo now L xs = []) : ∀ x ∈ xs, dueB now x = false := by
  intro x hx
  have h1 := List.filter_eq_nil_iff.1 (List.map_eq_nil_iff.1 h) x hx
  simpa using h1
section
variable {o : Oper} {a : Act} {w : World} {K : Act → World → Prop} {Q : Exit → Act → World → Prop}
theorem wp_alF (ho : o.op = .alloc 47) (h : K (a.put o.dst (.pointer (some ⟨w.heap.size, 0, none⟩))) (w.alloc (.cells #[.int .u16 0, .int .u16 0, .int .u16 0, .int .u32 0, .bool false, .bool false, .bool false, .slice none 0 0] 47))) : o.wp Tryd.prog a w K Q := by
  have hz : (zeroValue 47).run Tryd.prog w = .ok (.agg #[.int .u16 0, .int .u16 0, .int .u16 0, .int .u32 0, .bool false, .bool false, .bool false, .slice none 0 0]) w := by kernel_rfl
  unfold Oper.wp execOp
  simp only [ho, Instr.alloc, newVar, newRow, run_newObj_alloc, Sem.run_bind, Sem.run_pure, Result.andThen_ok, hz, Value.cells]
  exact h
end
/-- What a Tick's way carries. -/
structure TkF (B g bm : Nat) (L : Lk) (vw vf vh : Value) (ws : List PV) (xs : List Fl) (S0 : Nat → Prop) (w wr : World) (vo : Value) (us : List Value) : Prop where
  ls : LS wr B g bm L vw vf vh ws xs
  rs : RowS wr w.heap.size vo us
  tm : TMods LTs B w wr
  md : Mod S0 w wr
theorem TkF.ext {B g bm : Nat} {L : Lk} {vw vf vh : Value} {ws : List PV} {xs : List Fl} {S0 : Nat → Prop} {w wr wr' : World} {vo : Value} {us : List Value} (h : TkF B g bm L vw vf vh ws xs S0 w wr vo us) (hB : B ≤ w.heap.size) (hb : Below wr.heap.size wr wr') : TkF B g bm L vw vf vh ws xs S0 w wr' vo us :=
  ⟨h.ls.ext hb, RowS.ext h.rs hb, h.tm.trans (TMods.of_new (Ts := LTs) hb (Nat.le_trans hB h.tm.bel.size)), h.md.trans (Mod.of_below hb) (S := S0) (fun i _ h => h) (fun i hi h9 => absurd hi (by have := h.md.size; omega))⟩
structure TickAO (B g bm : Nat) (L : Lk) (vw0 vf0 vh : Value) (ws : List PV) (xs : List Fl) (now : Int) (w w' : World) (vo : Value) : Prop where
  out : ∃ vw vf us, LS w' B g bm { startL L ws xs with ow := false } vw vf vh (startN ws L.nx xs).2.1 ((startN ws L.nx xs).2.2.map (tickX now)) ∧ RowS w' w.heap.size vo us ∧ RowsIn w' w.heap.size us [sealedL (aloneF L).raw] ∧ TMods LTs B w w' ∧ Mod (fun i => i = g ∨ vw0.ownBlock = some i ∨ vf0.ownBlock = some i) w w' ∧ (∀ i, vw.ownBlock = some i → vw0.ownBlock = some i ∨ w.heap.size ≤ i) ∧ (∀ i, vf.ownBlock = some i → vf0.ownBlock = some i ∨ w.heap.size ≤ i)
set_option maxHeartbeats 16000000 in
set_option maxRecDepth 40000 in
theorem TickA_calls (B g bm : Nat) (L : Lk) (vw vf vh : Value) (ws : List PV) (xs : List Fl) (now : Int) (w : World) (q : LS w B g bm L vw vf vh ws xs) (hg : B ≤ g) (hep : L.ep < 65536) (hnx : L.nx < 65536) (hcn : L.cn < 65536) (hcb : L.cb < 4294967296) (hxs : ∀ x ∈ (startN ws L.nx xs).2.2, x.seq < 65536 ∧ x.p.p.data.length ≤ 64 ∧ 0 ≤ x.at_ ∧ x.at_ ≤ 1000000 ∧ PV.InT w x.p) (hsx : ∀ x ∈ xs, x.seq < 65536) (hl : ws.length + xs.length ≤ 100000) (hsl : (startN ws L.nx xs).2.2.length ≤ 100000) (hnow : 0 ≤ now ∧ now ≤ 1000000) (hsno : sendsTo now (startL L ws xs) (startN ws L.nx xs).2.2 = []) (how : L.ow = true) :
    Calls Tryd.prog 17 #[.pointer (some ⟨g, 0, none⟩), .int .i64 now] w fun e w' => ∃ vo, e = .returned vo ∧ TickAO B g bm L vw vf vh ws xs now w w' vo := by
  have hS := start_calls B g bm L vw vf vh ws xs w q hnx hsx (by omega)
  have HL := Lib.hid (show startL L ws xs = { L with nx := (startN ws L.nx xs).1 } from rfl)
  obtain ⟨L1, hL1⟩ : ∃ L1, L1 = startL L ws xs := ⟨_, rfl⟩
  obtain ⟨ws1, hws1⟩ : ∃ ws1, ws1 = (startN ws L.nx xs).2.1 := ⟨_, rfl⟩
  obtain ⟨xs1, hxs1⟩ : ∃ xs1, xs1 = (startN ws L.nx xs).2.2 := ⟨_, rfl⟩
  rw [show ({ L with nx := (startN ws L.nx xs).1 } : Lk) = L1 from hL1.symm, ← hws1, ← hxs1] at hS
  rw [← hxs1] at hxs hsl
  rw [← hL1, ← hxs1] at hsno
  have hep1 : L1.ep < 65536 := by rw [hL1]; exact hep
  have hcn1 : L1.cn < 65536 := by rw [hL1]; exact hcn
  have hcb1 : L1.cb < 4294967296 := by rw [hL1]; exact hcb
  have how1 : L1.ow = true := by rw [hL1]; exact how
  have hal1 : aloneF L = aloneF L1 := by rw [hL1]; rfl
  have HAL := Lib.hid hal1
  have HSN := Lib.hid hsno
  have HO1 := Lib.hid how1
  have HL1 := Lib.hid hL1
  have HWS1 := Lib.hid hws1
  have HXS1 := Lib.hid hxs1
  have HX := Lib.hid hxs
  have HSL := Lib.hid hsl
  obtain ⟨hq0, hq1⟩ : LS w B g bm L vw vf vh ws xs ∧ True := ⟨q, trivial⟩
  have hwB := q.hB
  clear hL1 hws1 hxs1 hxs hsl how hsno hal1 hep hnx hcn hcb hsx hl how1 hq1 HL
  go_enter Tryd.func17, Tryd.ntmps17
  go_wp2_with fail
  refine hS.mono ?_
  rintro e w1 ⟨vw1, vf1, rfl, q1, hvw1, hvf1, hm1⟩
  have hT1 := TMods.of_mod hq0 hm1 hg
  obtain ⟨S0, hS0⟩ : ∃ S0 : Nat → Prop, S0 = fun i => i = g ∨ vw.ownBlock = some i ∨ vf.ownBlock = some i := ⟨_, rfl⟩
  have hM1 : Mod S0 w w1 := by rw [hS0]; exact hm1
  have HS0 := Lib.hid hS0
  have HVW := Lib.hid hvw1
  have HVF := Lib.hid hvf1
  have hgl0 := hq0.q.lt
  clear hS hm1 hq0 q hS0 hvw1 hvf1
  obtain ⟨n, hn⟩ : ∃ n, n = xs1.length := ⟨_, rfl⟩
  obtain ⟨Af, cf, bf, hvf, hcf, -⟩ := ownsP_sl q1.rf
  rw [← hn] at hvf hcf
  subst hvf
  have hn9 : n ≤ 100000 := by rw [hn]; exact HSL.out
  have HN := Lib.hid hn
  have HQ1 := Lib.hid q1
  have c2 := q1.q.c2
  have hws := hT1.bel.size
  clear hn q1
  go_wp2_with fail
  go_loopw [5, 18] (fun vo i wr => ∃ (k : Nat) (us : List Value), k ≤ n ∧ i = .int .i64 k ∧ LS wr B g bm L1 vw1 (.slice Af n cf) vh ws1 (tickTo now xs1 k) ∧ RowS wr w.heap.size vo us ∧ RowsIn wr w.heap.size us (sendsTo now L1 (xs1.take k)) ∧ TMods LTs B w wr ∧ Mod S0 w wr) (fun _ i _ => n - (intOf i).toNat)
  case atStart => exact ⟨0, [], Nat.zero_le _, rfl, by simpa [tickTo] using HQ1.out, RowS.nil_ _ _, by simpa [sendsTo] using RowsIn.nil_ _ _, hT1, hM1⟩
  case round =>
    clear c2 hT1 hws hM1
    obtain ⟨k, us, hk, rfl, qr, hvo, hI, hT, hM⟩ := hrel
    have c2 := qr.q.c2
    by_cases hlt : k < n
    · have hkx : k < xs1.length := by rw [← HN.out]; exact hlt
      have hkt : k < (tickTo now xs1 k).length := by rw [tickTo_length]; exact hkx
      obtain ⟨g2, cap2, hv2, hcap, hBg2, hg2l, hob, hcell, hfz⟩ := RowF.at_ qr.rf hkt
      rw [tickTo_get now xs1 k hkx] at hcell
      injection hv2 with hA e1 e2
      subst hA
      clear e1 e2
      obtain ⟨hseq, hd64, hat0, hat1, hin⟩ := HX.out xs1[k] (List.getElem_mem _)
      replace hin := hT.inT hin (by decide)
      have hset := tickTo_set now xs1 k hkx
      have hsame := tickTo_same now xs1 k hkx
      have hnext := sendsTo_next now L1 xs1 k hkx
      have hstp : ∀ W, RowF W B (.slice (some ⟨g2, 0, none⟩) n cf) (tickTo now xs1 k) → dueB now xs1[k] = true → RowF ((W.setCell ⟨g2, k * 6 + 4, none⟩ (.bool true)).setCell ⟨g2, k * 6 + 5, none⟩ (.int .i64 now)) B (.slice (some ⟨g2, 0, none⟩) n cf) (tickTo now xs1 (k + 1)) := fun W h hd => by
        have h1 := RowF.stamp h hkt now
        rw [tickTo_get now xs1 k hkx] at h1
        rw [← hset, tickX, if_pos hd]
        exact h1
      have hk1 : dueB now xs1[k] = true → (tickTo now xs1 (k + 1))[k]'(by rw [tickTo_length]; exact hkx) = xs1[k].stamp now := fun hd => by
        have h1 : (tickTo now xs1 (k + 1))[k]? = some (xs1[k].stamp now) := by
          rw [← hset, List.getElem?_set_self hkt, tickX, if_pos hd]
        rw [List.getElem?_eq_getElem (by rw [tickTo_length]; exact hkx)] at h1
        exact Option.some.inj h1
      have hk0 := tickTo_get now xs1 k hkx
      obtain ⟨x, hx⟩ : ∃ x, x = xs1[k] := ⟨_, rfl⟩
      rw [← hx] at hcell hseq hd64 hat0 hat1 hin hset hsame hnext hstp hk1 hk0
      have d0 := hcell 0 _ (by omega) rfl
      have d1 := hcell 1 _ (by omega) rfl
      have d2 := hcell 2 _ (by omega) rfl
      have d3 := hcell 3 _ (by omega) rfl
      have d4 := hcell 4 _ (by omega) rfl
      have d5 := hcell 5 _ (by omega) rfl
      rw [Nat.add_zero] at d0
      have hdue := fun W => due_calls x now W hat0 hat1 hnow.1 hnow.2
      obtain ⟨D, hD⟩ : ∃ D, D = dueB now x := ⟨_, rfl⟩
      rw [show (!x.sent || decide (3 ≤ now - x.at_)) = D from hD.symm] at hdue
      have HC := Lib.hid hcell
      have HF := Lib.hid hfz
      have HSET := Lib.hid hset
      have HSAME := Lib.hid hsame
      have HNEXT := Lib.hid hnext
      have HIN := Lib.hid hin
      have HD := Lib.hid hD
      have HXK := Lib.hid hx
      have HQR := Lib.hid qr
      have HSTP := Lib.hid hstp
      have HK1 := Lib.hid hk1
      have HK0 := Lib.hid hk0
      clear hset hsame hnext hin hD hx hcell hfz hstp hk1 hk0 qr
      cases D
      · go_wp2_with fail
        refine (hdue _).mono ?_
        rintro e w3 ⟨rfl, hb3⟩
        have HQ3 := Lib.hid (HQR.out.ext hb3)
        have HV3 := Lib.hid (RowS.ext hvo hb3)
        have HI3 := Lib.hid (hI.ext hb3)
        have HT3 := Lib.hid (hT.trans (TMods.of_new hb3 (Nat.le_trans hwB hT.bel.size)))
        have HM3 := Lib.hid (hM.trans (Mod.of_below hb3) (S := S0) (fun i _ h => h) (fun i hi h => absurd hi (by have := hM.size; omega)))
        clear hb3 hdue d0 d1 d2 d3 d4 d5 c2 HQR hvo hI hT hM
        go_wp2_with fail
        go_roundw
        case rel => exact ⟨k + 1, us, by omega, by go_num, by rw [HSAME.out HD.out.symm]; exact HQ3.out, HV3.out, by rw [HNEXT.out false HD.out.symm, if_neg (by decide), List.append_nil]; exact HI3.out, HT3.out, HM3.out⟩
        case measure => simp [intOf]; omega
      · exact absurd (sends_nil HSN.out _ (List.getElem_mem hkx)) (by rw [← HXK.out, ← HD.out]; decide)
    · obtain rfl : k = n := by omega
      have hall : tickTo now xs1 k = xs1.map (tickX now) := by rw [HN.out]; exact tickTo_all now xs1
      have htk : xs1.take k = xs1 := List.take_of_length_le (by rw [HN.out]; exact Nat.le_refl _)
      rw [hall] at qr
      rw [htk] at hI
      have hul := hI.1
      have hun : us = [] := List.eq_nil_of_length_eq_zero (by rw [hul, HSN.out]; rfl)
      subst hun
      obtain ⟨A9, c9, b9, hv9, -⟩ := ownsP_sl hvo
      rw [List.length_nil] at hv9
      subst hv9
      have c9' := qr.q.c9
      rw [HO1.out] at c9'
      have hF : TkF B g bm L1 vw1 (.slice Af k cf) vh ws1 (xs1.map (tickX now)) S0 w wr (.slice A9 0 c9) [] := ⟨qr, hvo, hT, hM⟩
      clear hall htk hI hvo hT hM qr hul c2
      go_wp2_with fail
      refine wp_region_E (fun j => j == 10) (fun w9 => LkB w9 g bm L1 vw1 (.slice Af k cf) vh) (by kernel_rfl) ?_ (fun hHeld => ?_)
      · exact (by exact hF.ls.q)
      obtain ⟨wd5', hwd⟩ : ∃ wd5', wd5' = World.drew wr := ⟨_, rfl⟩
      have h9 : Below wr.heap.size wr wd5' := by rw [hwd]; exact below_drew (Below.refl _ _)
      rw [← hwd] at hHeld ⊢
      clear hwd
      replace hF := hF.ext hwB h9
      clear h9
      refine wpAnyE_take (i := 0) (by simp only [List.getElem?_toArray]; rfl) (by kernel_rfl) (by kernel_rfl) (by kernel_rfl) (by kernel_rfl) (by kernel_rfl) (by exact fun _ _ _ h => h) (by exact yk (.pointer (some ⟨g, 0, none⟩)) (by kernel_rfl) (fun _ => by kernel_rfl)) hHeld ?_
      refine wpAnyE_take (i := 1) (by simp only [List.getElem?_toArray]; rfl) (by kernel_rfl) (by kernel_rfl) (by kernel_rfl) (by kernel_rfl) (by kernel_rfl) (by exact fun _ _ _ h => h) (by exact yk (.pointer (some ⟨g, 0, none⟩)) (by kernel_rfl) (fun _ => by kernel_rfl)) hHeld ?_
      refine wpAnyE_take (i := 2) (by simp only [List.getElem?_toArray]; rfl) (by kernel_rfl) (by kernel_rfl) (by kernel_rfl) (by kernel_rfl) (by kernel_rfl) (by exact fun _ _ _ h => h) (by exact yk (.pointer (some ⟨g, 0, none⟩)) (by kernel_rfl) (fun _ => by kernel_rfl)) hHeld ?_
      refine wpAnyE_take (i := 3) (by simp only [List.getElem?_toArray]; rfl) (by kernel_rfl) (by kernel_rfl) (by kernel_rfl) (by kernel_rfl) (by kernel_rfl) (by exact fun _ _ _ h => h) (by exact yk_ldU (by kernel_rfl) (.tmp 60) rfl ⟨g, 0, none⟩ (.int .u16 (L1.ep : Int)) (by kernel_rfl) (fun w hh => hh.c0)) hHeld ?_
      refine wpAnyE_take (i := 4) (by simp only [List.getElem?_toArray]; rfl) (by kernel_rfl) (by kernel_rfl) (by kernel_rfl) (by kernel_rfl) (by kernel_rfl) (by exact fun _ _ _ h => h) (by exact yk (.pointer (some ⟨g, 0, none⟩)) (by kernel_rfl) (fun _ => by kernel_rfl)) hHeld ?_
      refine wpAnyE_take (i := 5) (by simp only [List.getElem?_toArray]; rfl) (by kernel_rfl) (by kernel_rfl) (by kernel_rfl) (by kernel_rfl) (by kernel_rfl) (by exact fun _ _ _ h => h) (by exact yk (.pointer (some ⟨g, 0, none⟩)) (by kernel_rfl) (fun _ => by kernel_rfl)) hHeld ?_
      refine wpAnyE_take (i := 6) (by simp only [List.getElem?_toArray]; rfl) (by kernel_rfl) (by kernel_rfl) (by kernel_rfl) (by kernel_rfl) (by kernel_rfl) (by exact fun _ _ _ h => h) (by exact yk (.pointer (some ⟨g, 4, none⟩)) (by kernel_rfl) (fun _ => by kernel_rfl)) hHeld ?_
      refine wpAnyE_take (i := 7) (by simp only [List.getElem?_toArray]; rfl) (by kernel_rfl) (by kernel_rfl) (by kernel_rfl) (by kernel_rfl) (by kernel_rfl) (by exact fun _ _ _ h => h) (by exact yk_ldA (by kernel_rfl) (.tmp 64) rfl g (.int .u16 (L1.cn : Int)) (.int .u32 (L1.cb : Int)) (by kernel_rfl) (fun w hh => ⟨hh.c4, hh.c5⟩)) hHeld ?_
      refine wpAnyE_take (i := 8) (by simp only [List.getElem?_toArray]; rfl) (by kernel_rfl) (by kernel_rfl) (by kernel_rfl) (by kernel_rfl) (by kernel_rfl) (by exact fun _ _ _ h => h) (by exact yk (.agg #[.int .u16 (L1.ep : Int), .int .u16 0, .int .u16 (L1.cn : Int), .int .u32 (L1.cb : Int), .bool false, .bool false, .bool true, .slice none 0 0]) (by kernel_rfl) (fun _ => by kernel_rfl)) hHeld ?_
      try simp only [Act.put, List.setIfInBounds_toArray, List.set_cons_zero, List.set_cons_succ]
      refine wpAnyE_ready (rs := [9]) (by kernel_rfl) (by simp) ?_
      refine EachE.cons (by rfl) (by simp only [List.getElem?_toArray]; rfl) (fun KK hKK => ?_) EachE.nil
      rw [if_pos (by kernel_rfl)]
      refine wp_alF rfl ?_
      have y := heap_alloc_new wd5' (.cells #[.int .u16 0, .int .u16 0, .int .u16 0, .int .u32 0, .bool false, .bool false, .bool false, .slice none 0 0] 47)
      obtain ⟨ba, hba⟩ : ∃ ba, ba = wd5'.heap.size := ⟨_, rfl⟩
      have hbaw : wd5'.heap.size ≤ ba := by omega
      have h9 := below_alloc1 wd5' (.cells #[.int .u16 0, .int .u16 0, .int .u16 0, .int .u32 0, .bool false, .bool false, .bool false, .slice none 0 0] 47)
      obtain ⟨w6', e⟩ : ∃ w6', w6' = World.alloc wd5' (.cells #[.int .u16 0, .int .u16 0, .int .u16 0, .int .u32 0, .bool false, .bool false, .bool false, .slice none 0 0] 47) := ⟨_, rfl⟩
      rw [← hba] at y ⊢
      rw [← e] at y h9 ⊢
      have hbb := h9
      have hF0 := hF
      clear e hba
      replace hF := hF.ext hwB h9
      clear h9
      refine hKK.out _ _ ?_ (fun hHeld => ?_)
      · exact (by exact hF.ls.q)
      clear hKK KK
      try simp only [Act.put, List.setIfInBounds_toArray, List.set_cons_zero, List.set_cons_succ]
      refine wpAnyE_ready (rs := [10]) (by kernel_rfl) (by simp) ?_
      refine EachE.last (by rfl) (by simp only [List.getElem?_toArray]; rfl) (fun KK hKK => ?_)
      rw [if_pos (by kernel_rfl)]
      refine wp_store_row 47 (.tmp 8) (.tmp 66) rfl ba ((aloneF L1).cells none 0) (by kernel_rfl) (by kernel_rfl) _ _ y (by kernel_rfl) rfl (by kernel_rfl) ?_
      have y2 := setRow_heap w6' ba _ ((aloneF L1).cells none 0) _ _ y
      have h9 := below_setRow hbb ba ((aloneF L1).cells none 0) hbaw
      replace hF := hF0.ext hwB h9
      obtain ⟨w7', e⟩ : ∃ w7', w7' = World.setRow w6' ba ((aloneF L1).cells none 0) := ⟨_, rfl⟩
      rw [← e] at y2 hF ⊢
      clear e h9 hbb hF0 y
      refine hKK.out _ _ ?_
      clear hKK KK
      refine wpAnyE_done (by kernel_rfl) ?_ _
      have p0 := (cell_of_row _ ba 0 _ _ _ y2).trans (show _ = some (.int .u16 (L1.ep : Int)) from rfl)
      have p1 := (cell_of_row _ ba 1 _ _ _ y2).trans (show _ = some (.int .u16 0) from rfl)
      have p2 := (cell_of_row _ ba 2 _ _ _ y2).trans (show _ = some (.int .u16 (L1.cn : Int)) from rfl)
      have p3 := (cell_of_row _ ba 3 _ _ _ y2).trans (show _ = some (.int .u32 (L1.cb : Int)) from rfl)
      have p4 := (cell_of_row _ ba 4 _ _ _ y2).trans (show _ = some (.bool false) from rfl)
      have p5 := (cell_of_row _ ba 5 _ _ _ y2).trans (show _ = some (.bool false) from rfl)
      have p6 := (cell_of_row _ ba 6 _ _ _ y2).trans (show _ = some (.bool true) from rfl)
      have p7 := (cell_of_row _ ba 7 _ _ _ y2).trans (show _ = some (.slice none 0 0) from rfl)
      have hok : (aloneF L1).Ok := ⟨hep1, show (0 : Nat) < 65536 by decide, hcn1, hcb1⟩
      have hBy := FBytes_yes (aloneF L1) none 0 0 w7' hok (Sl.nil_ _ _ _) (Nat.zero_le _) (by rfl)
      have hcE : (aloneF L1).cells none 0 = #[.int .u16 (L1.ep : Int), .int .u16 0, .int .u16 (L1.cn : Int), .int .u32 (L1.cb : Int), .bool false, .bool false, .bool true, .slice none 0 0] := rfl
      rw [hcE] at hBy
      have HF := Lib.hid hF
      clear hF hcE y2 hok
      go_wp2_with fail
      refine hBy.mono ?_
      rintro e w6 ⟨v6, rfl, hrow6, hb6⟩
      obtain ⟨A6, c6, b6, hv6, -⟩ := Row.sl hrow6
      obtain ⟨n6, hn6⟩ : ∃ n6, n6 = (sealedL (aloneF L1).raw).length := ⟨_, rfl⟩
      rw [← hn6] at hv6
      subst hv6
      have hF6 := HF.out.ext hwB hb6
      have hrs6 := hF6.rs
      have hws6 := hF6.tm.bel.size
      have hws5 := HF.out.tm.bel.size
      replace hrow6 := hrow6.low hws5
      have HF6 := Lib.hid hF6
      have HR6 := Lib.hid hrow6
      clear hF6 hrow6 hBy hb6 hn6 p0 p1 p2 p3 p4 p5 p6 p7
      go_wp2_with (at_builtin; go_loud (refine wpList_appS w6 rfl (.tmp 67) (.tmp 70) rfl w.heap.size (.slice A9 0 c9) [] rfl hrs6 rfl rfl (by simp) hws6 ?_); intro v7 w7 hv7 hm7 _; obtain ⟨A8, c8, b8, hv8, -⟩ := RowS.sl hv7; subst hv8; have q7 := HF6.out.ls.q.mod hm7 (row_apart hrs6 HF6.out.ls.q (by decide)); have f9 := q7.fz 9; have d9 := q7.c9; (rw [HO1.out] at d9); have Q7 := Lib.hid q7; clear q7)
      have hF6 := HF6.out
      have hrow := HR6.out
      have q7 := Q7.out
      have rp7 := ownsP_mod hF6.ls.rp hm7 (fun i hi hh => rows_apartT hF6.ls.rp hrs6 (by decide) i hi hh)
      have rf7 := ownsP_mod hF6.ls.rf hm7 (fun i hi hh => rows_apartT hF6.ls.rf hrs6 (by decide) i hi hh)
      have hI7 : RowsIn w7 w.heap.size [.slice A6 n6 c6] [sealedL (aloneF L1).raw] := (RowsIn.nil_ w7 w.heap.size).snoc (hrow.mod hm7 (fun i hi hh => rows_apartT hrow hrs6 (by decide) i hi hh))
      have hT7 : TMods LTs B w w7 := ⟨hF6.tm.bel.trans ((hm7.below (B := w.heap.size) hws6 (fun i hi hh => by have := (World.ownsRow.lt hrs6 i hh).1; omega)).mono hwB), fun b cur e fr hc he => by
          have h1 := hF6.tm.keep b cur e fr hc he
          have h2 : b < w.heap.size := (Array.getElem?_eq_some_iff.1 hc).1
          exact (hm7.block b (Nat.lt_of_lt_of_le h2 hws6) (fun hh => by have := (World.ownsRow.lt hrs6 b hh).1; omega)).trans h1⟩
      have hM7 := hF6.md.trans hm7 (S := S0) (fun i _ h => h) (fun i hi h => absurd hi (by have := (World.ownsRow.lt hrs6 i h).1; omega))
      have hms := Mod.setCell w7 ⟨g, 9, none⟩ (.bool false)
      have hL7 : LS w7 B g bm L1 vw1 (.slice Af k cf) vh ws1 (xs1.map (tickX now)) := ⟨q7, rp7, rf7, Nat.le_trans hwB hT7.bel.size⟩
      have hTs := TMods.of_mod hL7 (hms.mono (fun i _ h => .inl h)) hg
      have q9 := q7.set9 false
      have rp9 := ownsP_mod rp7 hms (fun i hi hh => row_apart rp7 q7 (by decide) (by rw [← show i = g from hh]; exact hi))
      have rf9 := ownsP_mod rf7 hms (fun i hi hh => row_apart rf7 q7 (by decide) (by rw [← show i = g from hh]; exact hi))
      have HA := Lib.hid (And.intro (LS.mk q9 rp9 rf9 (Nat.le_trans hwB (Nat.le_trans hT7.bel.size hTs.bel.size))) (And.intro (hTs.own hv7 (by decide)) (And.intro (hTs.rowsIn hI7 (by decide)) (And.intro (hT7.trans hTs) (hM7.trans hms (S := S0) (fun i _ h => h) (fun i hi h => by rw [HS0.out]; exact .inl h))))))
      clear hv7 hm7 q7 rp7 rf7 hI7 hT7 hM7 hL7 hTs q9 rp9 rf9 hms hF6 hrow hrs6
      go_ret
      refine ⟨_, rfl, ⟨vw1, .slice Af k cf, _, ?_, HA.out.2.1, ?_, HA.out.2.2.2.1, by rw [← HS0.out]; exact HA.out.2.2.2.2, fun i hi => .inl (by rw [← HVW.out]; exact hi), HVF.out⟩⟩
      · rw [← HL1.out, ← HWS1.out, ← HXS1.out]; exact HA.out.1
      · rw [HAL.out]; exact HA.out.2.2.1
end Go.Proofs.YtcgbamkfflcdfaaDoor
/- A link in the laws' words: what waits, what flies, and what Send, Tick, Take make of it. Conditions: those said. -/
namespace Go.Proofs.YtcgbamkfflcdfaaDoor
open Go.RowKit
set_option linter.unusedVariables false

/-- A flight, plainly. -/
structure Fn where
  p : Pc
  seq : Nat
  sent : Bool
  at_ : Int
def Fl.n (x : Fl) : Fn := ⟨x.p.p, x.seq, x.sent, x.at_⟩
def roomK (nx : Nat) : List Fn → Bool
  | [] => true
  | x :: _ => decide (toI x.seq nx < 32)
def startK : List Pc → Nat → List Fn → Nat × List Pc × List Fn
  | [], nx, xs => (nx, [], xs)
  | x :: ws, nx, xs => if roomK nx xs then startK ws ((nx + 1) % 65536) (xs ++ [⟨x, nx, false, 0⟩]) else (nx, x :: ws, xs)
theorem room_key (nx : Nat) (xs : List Fl) : roomK nx (xs.map Fl.n) = roomB nx xs := by cases xs <;> rfl
theorem start_key (ws : List PV) (nx : Nat) (xs : List Fl) : startK (ws.map PV.p) nx (xs.map Fl.n) = ((startN ws nx xs).1, (startN ws nx xs).2.1.map PV.p, (startN ws nx xs).2.2.map Fl.n) := by
  induction ws generalizing nx xs with
  | nil => rfl
  | cons x ws ih =>
    rw [List.map_cons, startK, startN, room_key]
    by_cases h : roomB nx xs = true
    · rw [if_pos h, if_pos h, ← ih]
      congr 1
      rw [List.map_append]
      rfl
    · rw [if_neg h, if_neg h]
      rfl
/-- What was of all pieces, is of those that start leaves. -/
theorem start_all {Q : PV → Prop} (ws : List PV) (nx : Nat) (xs : List Fl) (h1 : ∀ x ∈ ws, Q x) (h2 : ∀ x ∈ xs, Q x.p) : (∀ x ∈ (startN ws nx xs).2.1, Q x) ∧ ∀ x ∈ (startN ws nx xs).2.2, Q x.p := by
  induction ws generalizing nx xs with
  | nil => exact ⟨by simp [startN], h2⟩
  | cons x ws ih =>
    rw [startN]
    split
    · refine ih _ _ (fun y hy => h1 y (List.mem_cons_of_mem _ hy)) (fun y hy => ?_)
      rcases List.mem_append.1 hy with hy | hy
      · exact h2 y hy
      · rw [List.mem_singleton] at hy
        rw [hy]
        exact h1 x (List.mem_cons_self ..)
    · exact ⟨h1, h2⟩
def dueK (now : Int) (x : Fn) : Bool := !x.sent || decide (3 ≤ now - x.at_)
def tickK (now : Int) (x : Fn) : Fn := if dueK now x then { x with sent := true, at_ := now } else x
def frK (L : Lk) (x : Fn) : Fr := ⟨L.ep, x.seq, L.cn, L.cb, x.p.first, x.p.last, false, x.p.data⟩
def sendsK (now : Int) (L : Lk) (xs : List Fn) : List Fr := (xs.filter (dueK now)).map (frK L)
theorem tick_key (now : Int) (x : Fl) : (tickX now x).n = tickK now x.n := by
  unfold tickX tickK
  by_cases h : dueB now x = true
  · rw [if_pos h, if_pos (show dueK now x.n = true from h)]
    rfl
  · rw [if_neg h, if_neg (show ¬ dueK now x.n = true from h)]
theorem sends_key (now : Int) (L : Lk) (xs : List Fl) : sendsTo now L xs = (sendsK now L (xs.map Fl.n)).map fun f => sealedL f.raw := by
  induction xs with
  | nil => rfl
  | cons x l ih =>
    simp only [sendsTo, sendsK, List.map_cons, List.filter_cons] at ih ⊢
    rw [show dueK now x.n = dueB now x from rfl]
    split
    · rw [List.map_cons, List.map_cons, List.map_cons, ih]; rfl
    · exact ih
/-- A link: what waits, what flies; all its blocks are of S. -/
structure Lq (B g : Nat) (S : Nat → Prop) (w : World) (L : Lk) (ws : List Pc) (xs : List Fn) : Prop where
  out : ∃ bm vw vf vh wv xv, LS w B g bm L vw vf vh wv xv ∧ wv.map PV.p = ws ∧ xv.map Fl.n = xs ∧ (∀ x ∈ wv, PV.InT w x) ∧ (∀ x ∈ xv, PV.InT w x.p) ∧ S g ∧ (∀ i, vw.ownBlock = some i → S i) ∧ (∀ i, vf.ownBlock = some i → S i)
  lt : ∀ i, S i → i < w.heap.size
  hg : B ≤ g
/-- Its blocks behind a step. -/
def grow (S : Nat → Prop) (w w' : World) : Nat → Prop := fun i => S i ∨ (w.heap.size ≤ i ∧ i < w'.heap.size)
theorem Lq.ext {B g : Nat} {S : Nat → Prop} {w w' : World} {L : Lk} {ws : List Pc} {xs : List Fn} (h : Lq B g S w L ws xs) (hm : Below w.heap.size w w') : Lq B g S w' L ws xs := by
  obtain ⟨bm, vw, vf, vh, wv, xv, q, h1, h2, h3, h4, h5⟩ := h.out
  exact ⟨⟨bm, vw, vf, vh, wv, xv, q.ext hm, h1, h2, fun x hx => (h3 x hx).ext hm, fun x hx => (h4 x hx).ext hm, h5⟩, fun i hi => Nat.lt_of_lt_of_le (h.lt i hi) hm.size, h.hg⟩
/-- Another link's step. -/
theorem Lq.keep {B g B2 : Nat} {S S2 : Nat → Prop} {w w' : World} {L : Lk} {ws : List Pc} {xs : List Fn} (h : Lq B g S w L ws xs) (hm : Mod S2 w w') (hT : TMods LTs B2 w w') (hd : ∀ i, S i → ¬ S2 i) : Lq B g S w' L ws xs := by
  obtain ⟨bm, vw, vf, vh, wv, xv, q, h1, h2, h3, h4, h5, h6, h7⟩ := h.out
  exact ⟨⟨bm, vw, vf, vh, wv, xv, ⟨q.q.mod hm (hd _ h5), ownsP_mod q.rp hm (fun k hk => hd k (h6 k hk)), ownsP_mod q.rf hm (fun k hk => hd k (h7 k hk)), Nat.le_trans q.hB hm.size⟩, h1, h2, fun x hx => hT.inT (h3 x hx) (by decide), fun x hx => hT.inT (h4 x hx) (by decide), h5, h6, h7⟩, fun i hi => Nat.lt_of_lt_of_le (h.lt i hi) hm.size, h.hg⟩
theorem LqNew_calls (ep : Nat) (w : World) :
    Calls Tryd.prog 13 #[.int .u16 (ep : Int)] w fun e w' => ∃ g, e = .returned (.pointer (some ⟨g, 0, none⟩)) ∧ Lq w.heap.size g (fun i => w.heap.size ≤ i ∧ i < w'.heap.size) w' ⟨ep, 0, 0, 0, false, false⟩ [] [] ∧ Below w.heap.size w w' := by
  refine (LNew_calls ep w).mono ?_
  rintro e w' ⟨g, bm, rfl, q, -, h1, h2, hb⟩
  have hS : w.heap.size ≤ g ∧ g < w'.heap.size := ⟨h1, q.lt⟩
  have hN : ∀ i, (Value.slice none 0 0).ownBlock = some i → w.heap.size ≤ i ∧ i < w'.heap.size := fun i hi => by cases hi
  have hL : LS w' w.heap.size g bm ⟨ep, 0, 0, 0, false, false⟩ (.slice none 0 0) (.slice none 0 0) (.slice none 0 0) [] [] := ⟨q, World.ownsRow_nil _ _ _ _, World.ownsRow_nil _ _ _ _, hb.size⟩
  have hE : (∀ x ∈ ([] : List PV), PV.InT w' x) ∧ ∀ x ∈ ([] : List Fl), PV.InT w' x.p := ⟨fun x hx => (by cases hx), fun x hx => (by cases hx)⟩
  exact ⟨g, rfl, ⟨⟨bm, _, _, _, [], [], hL, rfl, rfl, hE.1, hE.2, hS, hN, hN⟩, fun i hi => hi.2, h1⟩, hb⟩
/-- What a step of a link leaves. -/
structure LqO (B g : Nat) (S : Nat → Prop) (w w' : World) (L : Lk) (ws : List Pc) (xs : List Fn) : Prop where
  lq : Lq B g (grow S w w') w' L ws xs
  typ : TMods LTs B w w'
  mod : Mod S w w'
theorem LqSend_calls (B g : Nat) (S : Nat → Prop) (L : Lk) (ws : List Pc) (xs : List Fn) (A : Option Addr) (l : List UInt8) (n c b : Nat) (w : World) (h : Lq B g S w L ws xs) (hs : Bs w b A l) (hn : l.length = n) (h1024 : n ≤ 1024) (hc : n ≤ c) (hcm : c ≤ maxLen) (hroom : ws.length + cnt n ≤ 128) :
    Calls Tryd.prog 15 #[.pointer (some ⟨g, 0, none⟩), .slice A n c] w fun e w' => e = .returned (.int .i64 0) ∧ LqO B g S w w' L (ws ++ splitP l) xs := by
  obtain ⟨bm, vw, vf, vh, wv, xv, q, h1, h2, h3, h4, h5, h6, h7⟩ := h.out
  obtain ⟨A1, k1, b1, rfl, -⟩ := ownsP_sl q.rp
  have hwl : wv.length = ws.length := by rw [← h1, List.length_map]
  have q0 := q
  refine (LSend_calls B g bm L A1 wv.length k1 wv vf vh A l n c b w q.q q.rp rfl hs hn h1024 hc hcm (by omega) q.hB).mono ?_
  rintro e w' ⟨A2, c2, ys, rfl, q', rp', hys, hin, hat, hm⟩
  have hT := TMods.of_mod q0 (hm.mono (fun i _ hh => by
    rcases hh with h | h
    · exact .inl h
    · exact .inr (.inl h))) h.hg
  have hM : Mod S w w' := hm.mono (fun i _ hh => by
    rcases hh with rfl | hh
    · exact h5
    · exact h6 i hh)
  have hrf := ownsP_mod q.rf hm (fun i hi hh => by
    rcases hh with rfl | hh
    · exact row_apart q.rf q.q (by decide) hi
    · exact rows_apartT q.rp q.rf (by decide) i hh hi)
  refine ⟨rfl, ⟨⟨⟨bm, _, vf, vh, wv ++ ys, xv, ⟨q', rp', hrf, Nat.le_trans q.hB hT.bel.size⟩, by rw [List.map_append, h1, hys], h2, fun x hx => ?_, fun x hx => hT.inT (h4 x hx) (by decide), .inl h5, fun i hi => ?_, fun i hi => .inl (h7 i hi)⟩, fun i hi => ?_, h.hg⟩, hT, hM⟩⟩
  · rcases List.mem_append.1 hx with hx | hx
    · exact hT.inT (h3 x hx) (by decide)
    · exact (hin x hx).1
  · rcases hat i hi with h8 | h8
    · exact .inl (h6 i h8)
    · exact .inr ⟨h8, (World.ownsRow.lt rp' i hi).2⟩
  · rcases hi with hi | hi
    · exact Nat.lt_of_lt_of_le (h.lt i hi) hM.size
    · exact hi.2
/-- What a Tick leaves, and tells. -/
structure LqT (B g : Nat) (S : Nat → Prop) (w w' : World) (L : Lk) (ws : List Pc) (xs : List Fn) (now : Int) (vo : Value) : Prop where
  out : ∃ us, LqO B g S w w' { L with nx := (startK ws L.nx xs).1, ow := false } (startK ws L.nx xs).2.1 ((startK ws L.nx xs).2.2.map (tickK now)) ∧ RowS w' w.heap.size vo us ∧ RowsIn w' w.heap.size us ((sendsK now L (startK ws L.nx xs).2.2).map fun f => sealedL f.raw)
theorem LqTick_calls (B g : Nat) (S : Nat → Prop) (L : Lk) (ws : List Pc) (xs : List Fn) (now : Int) (w : World) (h : Lq B g S w L ws xs) (hep : L.ep < 65536) (hnx : L.nx < 65536) (hcn : L.cn < 65536) (hcb : L.cb < 4294967296) (hxs : ∀ x ∈ (startK ws L.nx xs).2.2, x.seq < 65536 ∧ x.p.data.length ≤ 64 ∧ 0 ≤ x.at_ ∧ x.at_ ≤ 1000000) (hsx : ∀ x ∈ xs, x.seq < 65536) (hl : ws.length + xs.length ≤ 1000) (hsl : (startK ws L.nx xs).2.2.length ≤ 1000) (hnow : 0 ≤ now ∧ now ≤ 1000000) (how : sendsK now L (startK ws L.nx xs).2.2 = [] → L.ow = false) :
    Calls Tryd.prog 17 #[.pointer (some ⟨g, 0, none⟩), .int .i64 now] w fun e w' => ∃ vo, e = .returned vo ∧ LqT B g S w w' L ws xs now vo := by
  obtain ⟨bm, vw, vf, vh, wv, xv, q, h1, h2, h3, h4, h5, h6, h7⟩ := h.out
  have hk := start_key wv L.nx xv
  rw [h1, h2] at hk
  obtain ⟨i1, i2⟩ := start_all (Q := PV.InT w) wv L.nx xv h3 h4
  have hsk : sendsTo now (startL L wv xv) (startN wv L.nx xv).2.2 = (sendsK now L (startK ws L.nx xs).2.2).map fun f => sealedL f.raw := by
    rw [sends_key, hk]
    rfl
  have hwl : wv.length = ws.length := by rw [← h1, List.length_map]
  have hxl : xv.length = xs.length := by rw [← h2, List.length_map]
  have hsl2 : (startN wv L.nx xv).2.2.length = (startK ws L.nx xs).2.2.length := by rw [hk]; simp
  refine (Tick_calls B g bm L vw vf vh wv xv now w q h.hg hep hnx hcn hcb (fun x hx => ?_) (fun x hx => ?_) (by omega) (by omega) hnow (fun h0 => how ?_)).mono ?_
  · have h5 := hxs x.n (by rw [hk]; exact List.mem_map_of_mem hx)
    exact ⟨h5.1, h5.2.1, h5.2.2.1, h5.2.2.2, i2 x hx⟩
  · exact hsx x.n (by rw [← h2]; exact List.mem_map_of_mem hx)
  · rw [hsk] at h0
    exact List.map_eq_nil_iff.1 h0
  · rintro e w' ⟨vo, rfl, ⟨vw', vf', us, q', hvo, hI, hT, hm, ho1, ho2⟩⟩
    have hM : Mod S w w' := hm.mono (fun i _ hh => by
      rcases hh with rfl | hh | hh
      · exact h5
      · exact h6 i hh
      · exact h7 i hh)
    refine ⟨vo, rfl, ⟨us, ⟨⟨⟨bm, vw', vf', vh, (startN wv L.nx xv).2.1, (startN wv L.nx xv).2.2.map (tickX now), ?_, ?_, ?_, ?_, ?_, .inl h5, fun i hi => ?_, fun i hi => ?_⟩, fun i hi => ?_, h.hg⟩, hT, hM⟩, hvo, by rw [← hsk]; exact hI⟩⟩
    · have e : ({ startL L wv xv with ow := false } : Lk) = { L with nx := (startK ws L.nx xs).1, ow := false } := by rw [hk]; rfl
      rw [← e]
      exact q'
    · rw [hk]
    · rw [hk, List.map_map, List.map_map]
      exact List.map_congr_left fun x _ => tick_key now x
    · exact fun x hx => hT.inT (i1 x hx) (by decide)
    · intro x hx
      obtain ⟨y, hy, rfl⟩ := List.mem_map.1 hx
      have h5 := hT.inT (i2 y hy) (by decide)
      unfold tickX
      split
      · exact h5
      · exact h5
    · rcases ho1 i hi with h8 | h8
      · exact .inl (h6 i h8)
      · exact .inr ⟨h8, (World.ownsRow.lt q'.rp i hi).2⟩
    · rcases ho2 i hi with h8 | h8
      · exact .inl (h7 i h8)
      · exact .inr ⟨h8, (World.ownsRow.lt q'.rf i hi).2⟩
    · rcases hi with hi | hi
      · exact Nat.lt_of_lt_of_le (h.lt i hi) hM.size
      · exact hi.2
theorem LqTakeOld_calls (B g : Nat) (S : Nat → Prop) (L : Lk) (ws : List Pc) (xs : List Fn) (f : Fr) (A : Option Addr) (n c b : Nat) (w : World) (h : Lq B g S w L ws xs) (ho : f.Ok) (hr : f.right = true) (hs : Bs w b A (sealedL f.raw)) (hn : (sealedL f.raw).length = n) (hc : n ≤ c) (hep : L.ep < 65536) (hne : f.epoch ≠ L.ep) :
    Calls Tryd.prog 18 #[.pointer (some ⟨g, 0, none⟩), .slice A n c] w fun e w' => e = .returned (.tuple #[.slice none 0 0, .int .i64 10]) ∧ Below w.heap.size w w' := by
  obtain ⟨bm, vw, vf, vh, wv, xv, q, h1, h2, h3, h4⟩ := h.out
  exact TakeOld_calls g bm L vw vf vh f A n c b w q.q ho hr hs hn hc hep hne
theorem LqFlying_calls (B g : Nat) (S : Nat → Prop) (L : Lk) (ws : List Pc) (xs : List Fn) (w : World) (h : Lq B g S w L ws xs) :
    Calls Tryd.prog 25 #[.pointer (some ⟨g, 0, none⟩)] w fun e w' => e = .returned (.int .i64 (xs.length : Int)) ∧ w = w' := by
  obtain ⟨bm, vw, vf, vh, wv, xv, q, h1, h2, h3, h4⟩ := h.out
  obtain ⟨A1, k1, b1, rfl, -⟩ := ownsP_sl q.rf
  rw [← h2, List.length_map]
  exact LFlying_calls g bm L vw A1 xv.length k1 vh w q.q
theorem LqAcks_calls (B g : Nat) (S : Nat → Prop) (L : Lk) (ws : List Pc) (xs : List Fn) (w : World) (h : Lq B g S w L ws xs) :
    Calls Tryd.prog 26 #[.pointer (some ⟨g, 0, none⟩)] w fun e w' => e = .returned (.agg #[.int .u16 (L.cn : Int), .int .u32 (L.cb : Int)]) ∧ Below w.heap.size w w' := by
  obtain ⟨bm, vw, vf, vh, wv, xv, q, h1, h2, h3, h4⟩ := h.out
  exact LAcks_calls g bm L vw vf vh w q.q
theorem LqEpoch_calls (B g : Nat) (S : Nat → Prop) (L : Lk) (ws : List Pc) (xs : List Fn) (w : World) (h : Lq B g S w L ws xs) :
    Calls Tryd.prog 29 #[.pointer (some ⟨g, 0, none⟩)] w fun e w' => e = .returned (.int .u16 (L.ep : Int)) ∧ w = w' := by
  obtain ⟨bm, vw, vf, vh, wv, xv, q, h1, h2, h3, h4⟩ := h.out
  exact LEpoch_calls g bm L vw vf vh w q.q
end Go.Proofs.YtcgbamkfflcdfaaDoor
/- A byte of a row of the call's own, written. No condition. -/
namespace Go.Proofs.YtcgbamkfflcdfaaDoor
open Go.RowKit

theorem Row.set_ {w : World} {B k : Nat} {v : Value} {l : List UInt8} (h : Row w B v l) (hk : k < l.length) :
    ∃ g cap, v = .slice (some ⟨g, 0, none⟩) l.length cap ∧ B ≤ g ∧ g < w.heap.size ∧ w.cell? ⟨g, k, none⟩ = some (.int .u8 (l[k].toNat : Int)) ∧ w.frozen? ⟨g, k, none⟩ = false ∧
      ∀ (q : UInt8) (m : Nat) w', m = q.toNat → w'.heap[g]? = (w.setCell ⟨g, k, none⟩ (.int .u8 (m : Int))).heap[g]? → Row w' B v (l.set k q) := by
  rcases h.2 with ⟨_, hn⟩ | ⟨g, cap, cur, hv, hg, hh, hnc, hcm, hcs, hct⟩
  · omega
  · have hlt : k < cur.size := by omega
    have hct' : cur.toList.take l.length = bv l := by simpa using hct
    refine ⟨g, cap, hv, hg, (Array.getElem?_eq_some_iff.1 hh).1, ?_, frozen_of_row w g k _ _ hh, fun q m w' hm hw => ?_⟩
    · rw [cell_of_row w g k _ _ _ hh]
      have h1 : (cur.toList.take l.length)[k]? = some (.int .u8 (l[k].toNat : Int)) := by
        rw [hct', List.getElem?_eq_getElem (by simpa using hk), bv_get]
      rw [List.getElem?_take, if_pos hk] at h1
      simpa using h1
    · subst hm
      rw [heap_setCell_same w g k cur _ _ hh] at hw
      refine ⟨by simp, .inr ⟨g, cap, _, by rw [hv]; simp, hg, hw, by simpa using hnc, hcm, by simpa using hcs, ?_⟩⟩
      have h2 : (cur.setIfInBounds k (.int .u8 (q.toNat : Int))).toList = cur.toList.set k (.int .u8 (q.toNat : Int)) := by simp
      rw [h2]
      simp only [Nat.mul_one, List.length_set]
      rw [List.take_set, hct']
      simp [bv, List.map_set]
theorem Row.bs_ {w : World} {B g n cap : Nat} {l : List UInt8} (h : Row w B (.slice (some ⟨g, 0, none⟩) n cap) l) : l.length = n ∧ n ≤ cap ∧ Bs w g (some ⟨g, 0, none⟩) l := by
  rcases h.2 with ⟨hv, _⟩ | ⟨g', cap', cur, hv, hb, _, hnc, hcm, _⟩
  · cases hv
  · injection hv with h1 h2 h3
    injection h1 with h1
    injection h1 with h1 _ _
    subst h1 h2 h3
    refine ⟨rfl, hnc, fun _ => ⟨0, rfl, fun j u hu => ?_⟩⟩
    have := h.cells (g := g) rfl j u hu
    simpa [Addr.add_lit] using this
end Go.Proofs.YtcgbamkfflcdfaaDoor
/- A few pieces start at once, and are sent; bytes of the law; awake. Conditions: those said. -/
namespace Go.Proofs.YtcgbamkfflcdfaaDoor
open Go.RowKit
set_option linter.unusedVariables false

/-- Pieces that fly, from a number on, not sent yet. -/
def flyF : List Pc → Nat → List Fn
  | [], _ => []
  | x :: ws, n => ⟨x, n, false, 0⟩ :: flyF ws (n + 1)
theorem flyF_length (ws : List Pc) (n : Nat) : (flyF ws n).length = ws.length := by
  induction ws generalizing n with
  | nil => rfl
  | cons x l ih => simp [flyF, ih]
theorem startK_few (ws : List Pc) (xs : List Fn) (h : ∀ x ∈ xs.head?, x.seq = 0) (hl : xs.length + ws.length ≤ 32) : startK ws xs.length xs = (xs.length + ws.length, [], xs ++ flyF ws xs.length) := by
  induction ws generalizing xs with
  | nil => simp [startK, flyF]
  | cons x ws ih =>
    have hr : roomK xs.length xs = true := by
      cases xs with
      | nil => rfl
      | cons y l =>
        have hy : y.seq = 0 := h y (by simp)
        simp only [List.length_cons] at hl
        simp only [roomK, hy, decide_eq_true_eq, List.length_cons]
        unfold toI
        split <;> omega
    have h2 : (xs.length + 1) % 65536 = (xs ++ [(⟨x, xs.length, false, 0⟩ : Fn)]).length := by simp only [List.length_cons] at hl; simp; omega
    rw [startK, if_pos hr, h2, ih _ (by
      intro z hz
      cases xs with
      | nil => simp at hz; rw [← hz]
      | cons y l => simp at hz; rw [← hz]; exact h y (by simp)) (by simp only [List.length_cons] at hl; simp; omega)]
    simp only [List.length_append, List.length_cons, List.length_nil, flyF, List.append_assoc, List.cons_append, List.nil_append]
    rw [show xs.length + (0 + 1) = xs.length + 1 by omega]
    congr 1
    omega
theorem startK_new (ws : List Pc) (hl : ws.length ≤ 32) : startK ws 0 [] = (ws.length, [], flyF ws 0) := by
  have := startK_few ws [] (by simp) (by simpa using hl)
  simpa using this
theorem flyF_mem {ws : List Pc} {n : Nat} {x : Fn} (h : x ∈ flyF ws n) : x.sent = false ∧ x.at_ = 0 ∧ x.p ∈ ws ∧ n ≤ x.seq ∧ x.seq < n + ws.length := by
  induction ws generalizing n with
  | nil => cases h
  | cons y l ih =>
    rcases List.mem_cons.1 h with rfl | h
    · exact ⟨rfl, rfl, by simp, Nat.le_refl _, by simp⟩
    · obtain ⟨h1, h2, h3, h4, h5⟩ := ih h
      exact ⟨h1, h2, List.mem_cons_of_mem _ h3, by omega, by simp; omega⟩
theorem sends_new (now : Int) (L : Lk) (xs : List Fn) (h : ∀ x ∈ xs, x.sent = false) : sendsK now L xs = xs.map (frK L) := by
  unfold sendsK
  rw [List.filter_eq_self.2 (fun x hx => by simp [dueK, h x hx])]
theorem sends_none (now : Int) (L : Lk) (xs : List Fn) (h : ∀ x ∈ xs, x.sent = true ∧ now - x.at_ < 3) : sendsK now L xs = [] := by
  unfold sendsK
  rw [List.filter_eq_nil_iff.2 (fun x hx => by have h1 := h x hx; simp [dueK, h1.1]; omega)]
  rfl
theorem tick_new (now : Int) {x : Fn} (h : x.sent = false) : tickK now x = { x with sent := true, at_ := now } := by
  unfold tickK
  rw [if_pos (by simp [dueK, h])]
theorem tick_same (now : Int) {x : Fn} (h : x.sent = true ∧ now - x.at_ < 3) : tickK now x = x := by
  unfold tickK
  rw [if_neg (by simp [dueK, h.1]; omega)]
theorem split_small {l : List UInt8} : ∀ p ∈ splitP l, p.data.length ≤ 64 := by
  intro p hp
  unfold splitP at hp
  obtain ⟨i, _, rfl⟩ := List.mem_map.1 hp
  simp only [pieceAt, List.length_take]
  omega
theorem bv_zeros (n : Nat) : (madeCells (Value.int .u8 0).cells (n * 1)).toList = bv (List.replicate n 0) := by
  apply List.ext_getElem (by simp [madeCells])
  intro j h1 h2
  simp [madeCells, Value.cells, bv, Nat.mod_one]
theorem u8_info : (Tryd.prog.info? 5).map (fun i => (i.zero, i.size, i.bytes)) = some (some (.int .u8 0), 1, 1) := by kernel_rfl
theorem at_mk {P : Program} {ops : Array Oper} {rest : List Oper} {a : Act} {w : World} {Q : Exit → Act → World → Prop} {d : Option Tmp} {ty : TypeId} {pos : String} {af : Array Edge} {g : Option (Nat × Bool)} (T : TypeId) (x y : Operand) (h : wpList P ops Q (Oper.mk d (.makeSlice T x y) ty pos af g :: rest) a w) : wpList P ops Q (Oper.mk d (.makeSlice T x y) ty pos af g :: rest) a w := h
set_option maxRecDepth 20000 in
theorem wp_mkBy {op : Oper} {a : Act} {w : World} {K : Act → World → Prop} {Q : Exit → Act → World → Prop} (l c : Operand) (ho : op.op = .makeSlice 31 l c) (n : Nat) (hl : a.eval l = .int .i64 (n : Int)) (hc : a.eval c = .int .i64 (n : Int)) (hn : n ≤ 1000000)
    (h : ∀ w', Row w' w.heap.size (.slice (some ⟨w.heap.size, 0, none⟩) n n) (List.replicate n 0) → Below w.heap.size w w' → K (a.put op.dst (.slice (some ⟨w.heap.size, 0, none⟩) n n)) w') : op.wp Tryd.prog a w K Q := by
  obtain ⟨i0, hi0, hz0, hz1, hz2⟩ := info_parts u8_info
  obtain ⟨w', hrun, r1, r2⟩ := run_make_full (P := Tryd.prog) w w.heap.size 31 5 i0 _ 1 Tryd.underlying31 hi0 hz0 hz1 .i64 .i64 n (by rw [hz2]; omega) (by simp only [maxLen]; omega) (Nat.le_refl _)
  rw [bv_zeros] at r1
  unfold Oper.wp
  simp [execOp, ho, hl, hc, hrun, Result.andThen]
  refine h w' (by unfold Row; simpa using r1) ((Mod.of_grown r2).below (Nat.le_refl _) (fun i _ h => by cases h))
theorem wpList_mkBy (w : World) {ops : Array Oper} {rest : List Oper} {o : Oper} {a : Act} {Q : Exit → Act → World → Prop} (hgd : o.guard = none) (l c : Operand) (ho : o.op = .makeSlice 31 l c) (n : Nat) (hl : a.eval l = .int .i64 (n : Int)) (hc : a.eval c = .int .i64 (n : Int)) (hn : n ≤ 1000000)
    (h : ∀ w', Row w' w.heap.size (.slice (some ⟨w.heap.size, 0, none⟩) n n) (List.replicate n 0) → Below w.heap.size w w' → wpList Tryd.prog ops Q rest (a.put o.dst (.slice (some ⟨w.heap.size, 0, none⟩) n n)) w') : wpList Tryd.prog ops Q (o :: rest) a w :=
  wpList_plain hgd fun _ hK => wp_mkBy l c ho n hl hc hn fun w' h1 h2 => hK _ _ (h w' h1 h2)
set_option maxHeartbeats 8000000 in
set_option maxRecDepth 20000 in
theorem awake_calls (w : World) : Calls Tryd.prog 12 #[] w fun e w' => e = .returned (.bool true) ∧ Below w.heap.size w w' := by
  go_enter Tryd.func12, Tryd.ntmps12
  go_wp2_with fail
  refine (LqNew_calls 3 w).mono ?_
  rintro e w1 ⟨g, rfl, hL, hb⟩
  obtain ⟨ws, hws⟩ : ∃ ws, ws = splitP (List.replicate 100 0) := ⟨_, rfl⟩
  have hwl : ws.length = 2 := by rw [hws]; rfl
  have hw64 : ∀ p ∈ ws, p.data.length ≤ 64 := by rw [hws]; exact split_small
  have hst := startK_new ws (by omega)
  obtain ⟨xs, hxs⟩ : ∃ xs, xs = flyF ws 0 := ⟨_, rfl⟩
  rw [← hxs] at hst
  have hxm : ∀ x ∈ xs, x.sent = false ∧ x.at_ = 0 ∧ x.p ∈ ws ∧ 0 ≤ x.seq ∧ x.seq < 0 + ws.length := by rw [hxs]; exact fun x h => flyF_mem h
  have hxl : xs.length = 2 := by rw [hxs, flyF_length]; exact hwl
  obtain ⟨S0, hS0⟩ : ∃ S0 : Nat → Prop, S0 = fun i => w.heap.size ≤ i ∧ i < w1.heap.size := ⟨_, rfl⟩
  rw [← hS0] at hL
  have hwB : w.heap.size ≤ w1.heap.size := hb.size
  have HWS := Lib.hid hws.symm
  clear hws hxs hS0
  have hz1 : (sendsK 0 ⟨3, 0, 0, 0, false, false⟩ xs).length = 2 := by rw [sends_new 0 _ xs (fun x hx => (hxm x hx).1), List.length_map]; exact hxl
  go_wp2_with (refine at_mk 31 _ _ ?_; refine wpList_mkBy w1 rfl _ _ rfl 100 rfl rfl (by decide) ?_; intro w2 hrow hb2)
  obtain ⟨hs1, hs2, hs3⟩ := Row.bs_ hrow
  replace hL := hL.ext hb2
  have hb := hb.trans (hb2.mono hb.size)
  have hS := LqSend_calls w.heap.size g S0 _ [] [] (some ⟨w1.heap.size, 0, none⟩) (List.replicate 100 0) 100 100 w1.heap.size w2 hL hs3 (by simp) (by decide) (by decide) (by simp [maxLen]) (by decide)
  rw [List.nil_append, HWS.out] at hS
  clear hrow hs1 hs2 hs3 hb2 hL
  go_wp2_with fail
  refine hS.mono ?_
  rintro e w3 ⟨rfl, hL, hT, -⟩
  replace hb := hb.trans (hT.bel)
  have hK := LqTick_calls w.heap.size g _ _ ws [] 0 w3 hL (by decide) (by decide) (by decide) (by decide) (fun x hx => by rw [hst] at hx; have h1 := hxm x hx; have h2 := hw64 x.p h1.2.2.1; exact ⟨by omega, h2, by omega, by omega⟩) (by simp) (by simp; omega) (by rw [hst]; show xs.length ≤ 1000; omega) (by decide) (fun _ => rfl)
  clear hS hT hL
  go_wp2_with fail
  refine hK.mono ?_
  rintro e w4 ⟨vo, rfl, ⟨us, ⟨hL, hT, -⟩, hvo, hI⟩⟩
  clear hK
  rw [hst] at hL hI
  have hun : us.length = 2 := by rw [hI.1, List.length_map]; exact hz1
  obtain ⟨A1, c1, b1, hvo1, -⟩ := ownsP_sl hvo
  rw [hun] at hvo1
  subst hvo1
  have htk : xs.map (tickK 0) = xs.map fun x => { x with sent := true, at_ := 0 } := List.map_congr_left fun x hx => tick_new 0 (hxm x hx).1
  obtain ⟨ys, hys⟩ : ∃ ys, ys = xs.map (tickK 0) := ⟨_, rfl⟩
  have hym : ∀ y ∈ ys, y.sent = true ∧ y.at_ = 0 ∧ y.seq < 65536 ∧ y.p.data.length ≤ 64 := by
    rw [hys, htk]
    intro y hy
    obtain ⟨x, hx, rfl⟩ := List.mem_map.1 hy
    have h1 := hxm x hx
    exact ⟨rfl, rfl, by simp only; omega, hw64 x.p h1.2.2.1⟩
  have hyl : ys.length = 2 := by rw [hys, List.length_map]; exact hxl
  rw [← hys] at hL
  replace hb := hb.trans (hT.bel)
  have hn0 : sendsK 1 ⟨3, ws.length, 0, 0, false, false⟩ ys = [] := sends_none 1 _ ys (fun y hy => by have h1 := hym y hy; exact ⟨h1.1, by omega⟩)
  have hys2 : ys.map (tickK 1) = ys := (List.map_congr_left fun y hy => tick_same 1 (by have h1 := hym y hy; exact ⟨h1.1, by omega⟩)).trans (List.map_id ys)
  have hK := LqTick_calls w.heap.size g _ _ [] ys 1 w4 hL (show (3 : Nat) < 65536 by decide) (show ws.length < 65536 by omega) (show (0 : Nat) < 65536 by decide) (show (0 : Nat) < 4294967296 by decide) (fun y hy => by have h1 := hym y hy; exact ⟨h1.2.2.1, h1.2.2.2, by omega, by omega⟩) (fun y hy => (hym y hy).2.2.1) (by simp; omega) (by show ys.length ≤ 1000; omega) (by decide) (fun _ => rfl)
  clear hT hL hvo hI htk hxm hys
  go_wp2_with fail
  refine hK.mono ?_
  rintro e w5 ⟨vo5, rfl, ⟨us5, ⟨hL, hT, -⟩, hvo, hI⟩⟩
  rw [show (startK [] ws.length ys).2.2 = ys from rfl] at hL hI
  rw [hn0] at hI
  rw [hys2] at hL
  have hun5 : us5.length = 0 := hI.1
  obtain ⟨A2, c2, b2, hvo1, -⟩ := ownsP_sl hvo
  rw [hun5] at hvo1
  subst hvo1
  replace hb := hb.trans (hT.bel)
  have hE := LqEpoch_calls w.heap.size g _ _ _ _ w5 hL
  have hF := LqFlying_calls w.heap.size g _ _ _ _ w5 hL
  rw [hyl] at hF
  have HB := Lib.hid hb
  clear hK hT hL hvo hI hn0 hys2 hym hb
  go_wp2_with fail
  refine hE.mono ?_
  rintro e w6 ⟨rfl, e6⟩
  subst e6
  clear hE
  go_wp2_with fail
  refine hF.mono ?_
  rintro e w7 ⟨rfl, e7⟩
  subst e7
  clear hF
  go_wp2_with fail
  go_ret
  exact ⟨rfl, HB.out⟩
end Go.Proofs.YtcgbamkfflcdfaaDoor
/- The law's bytes: so many, counted on from one. Conditions: the numbers fit. -/
namespace Go.Proofs.YtcgbamkfflcdfaaDoor
open Go.RowKit
set_option linter.unusedVariables false

def bytesN (m b : Nat) : List UInt8 := (List.range m).map fun i => UInt8.ofNat (b + i)
@[simp] theorem bytesN_length (m b : Nat) : (bytesN m b).length = m := by simp [bytesN]
def bytesTo (m b k : Nat) : List UInt8 := bytesN k b ++ List.replicate (m - k) 0
theorem bytesTo_length (m b k : Nat) (hk : k ≤ m) : (bytesTo m b k).length = m := by simp [bytesTo]; omega
theorem bytesTo_set (m b k : Nat) (hk : k < m) : (bytesTo m b k).set k (UInt8.ofNat (b + k)) = bytesTo m b (k + 1) := by
  unfold bytesTo
  obtain ⟨r, hr⟩ : ∃ r, m - k = r + 1 := ⟨m - k - 1, by omega⟩
  rw [List.set_append_right _ _ (by simp), bytesN_length, Nat.sub_self, hr, List.replicate_succ, List.set_cons_zero, show m - (k + 1) = r by omega]
  simp [bytesN, List.range_succ]
set_option maxRecDepth 20000 in
theorem wpList_mkU (w : World) {ops : Array Oper} {rest : List Oper} {o : Oper} {a : Act} {Q : Exit → Act → World → Prop} (hgd : o.guard = none) (l c : Operand) (ho : o.op = .makeSlice 31 l c) (n : Nat) (L : Int) (hL : L = (n : Int)) (hl : a.eval l = .int .u16 L) (hc : a.eval c = .int .u16 L) (hn : n ≤ 1000000)
    (h : ∀ w', Row w' w.heap.size (.slice (some ⟨w.heap.size, 0, none⟩) n n) (List.replicate n 0) → Below w.heap.size w w' → wpList Tryd.prog ops Q rest (a.put o.dst (.slice (some ⟨w.heap.size, 0, none⟩) n n)) w') : wpList Tryd.prog ops Q (o :: rest) a w := by
  subst hL
  refine wpList_plain hgd fun K hK => ?_
  obtain ⟨i0, hi0, hz0, hz1, hz2⟩ := info_parts u8_info
  obtain ⟨w', hrun, r1, r2⟩ := run_make_full (P := Tryd.prog) w w.heap.size 31 5 i0 _ 1 Tryd.underlying31 hi0 hz0 hz1 .u16 .u16 n (by rw [hz2]; omega) (by simp only [maxLen]; omega) (Nat.le_refl _)
  rw [bv_zeros] at r1
  unfold Oper.wp
  simp [execOp, ho, hl, hc, hrun, Result.andThen]
  exact hK _ _ (h w' (by unfold Row; simpa using r1) ((Mod.of_grown r2).below (Nat.le_refl _) (fun i _ h => by cases h)))
set_option maxHeartbeats 8000000 in
set_option maxRecDepth 20000 in
theorem bytes_calls (n b : Nat) (w : World) (hn : n ≤ 65535) (hb : b ≤ 255) :
    Calls Tryd.prog 14 #[.int .u16 (n : Int), .int .u8 (b : Int)] w fun e w' => ∃ c bb, e = .returned (.slice (some ⟨bb, 0, none⟩) (n % 1100) c) ∧ n % 1100 ≤ c ∧ c ≤ maxLen ∧ Bs w' bb (some ⟨bb, 0, none⟩) (bytesN (n % 1100) b) ∧ Below w.heap.size w w' := by
  obtain ⟨m, hm⟩ : ∃ m, m = n % 1100 := ⟨_, rfl⟩
  have hmi : (n : Int) % 1100 = (m : Int) := by omega
  have hm1 : m < 1100 := by omega
  rw [← hm]
  clear hm
  go_enter Tryd.func14, Tryd.ntmps14
  go_wp2_with (refine at_mk 31 _ _ ?_; refine wpList_mkU w rfl _ _ rfl m _ hmi rfl rfl (by omega) ?_; intro w2 hrow hb2)
  obtain ⟨g, hg⟩ : ∃ g, g = w.heap.size := ⟨_, rfl⟩
  have hr0 : Row w2 g (.slice (some ⟨g, 0, none⟩) m m) (bytesTo m b 0) := by rw [hg]; simpa [bytesTo, bytesN] using hrow
  rw [← hg]
  have hgw : w.heap.size ≤ g := by omega
  clear hrow hg
  go_loopw [12] (fun i wr => ∃ k : Nat, k ≤ m ∧ i = .int .i64 k ∧ Row wr g (.slice (some ⟨g, 0, none⟩) m m) (bytesTo m b k) ∧ Below w.heap.size w wr) (fun i _ => m - (intOf i).toNat)
  case atStart => exact ⟨0, Nat.zero_le _, rfl, hr0, hb2⟩
  case round =>
    clear hr0 hb2
    obtain ⟨k, hk, rfl, hr, hbr⟩ := hrel
    by_cases hlt : k < m
    · obtain ⟨g', cap, hv, hBg, hgl, hc, hf, hset⟩ := Row.set_ hr (k := k) (by rw [bytesTo_length m b k hk]; exact hlt)
      injection hv with hA e1 e2
      injection hA with hA
      injection hA with hA
      subst hA
      clear e1 e2 hc
      have hnx := bytesTo_set m b k hlt
      obtain ⟨y, hy⟩ : ∃ y, y = UInt8.ofNat (b + k) := ⟨_, rfl⟩
      have hyv : ((b : Int) + (k : Int) % 256) % 256 = (y.toNat : Int) := by rw [hy, UInt8.toNat_ofNat']; omega
      have hyv2 : ((b : Int) + (k : Int)) % 256 = (y.toNat : Int) := by rw [hy, UInt8.toNat_ofNat']; omega
      rw [← hy] at hnx
      have HR := Lib.hid ((hset y y.toNat _ rfl rfl).cast hnx)
      have HB := Lib.hid (hbr.setCell (p := ⟨g, k, none⟩) hgw (.int .u8 (y.toNat : Int)))
      obtain ⟨u0, hu0⟩ : ∃ u, wr.cell? ⟨g, k, none⟩ = some u := by
        obtain ⟨oa, hA, hca⟩ := Bs.at_ (Row.bs_ hr).2.2 (k := k) (by rw [bytesTo_length m b k hk]; exact hlt)
        injection hA with hA
        injection hA with _ hA _
        subst hA
        exact ⟨_, by have := hca k (by rw [bytesTo_length m b k hk]; exact hlt); simpa using this⟩
      clear hset hr hbr hnx hy
      go_wp2_with fail
      go_roundw
      case rel => exact ⟨k + 1, by omega, by go_num, HR.out, HB.out⟩
      case measure => simp [intOf]; omega
    · obtain rfl : k = m := by omega
      have hs := (Row.bs_ hr).2.2
      have e : bytesTo k b k = bytesN k b := by simp [bytesTo]
      rw [e] at hs
      clear hr e
      go_wp2_with fail
      go_ret
      exact ⟨k, g, rfl, Nat.le_refl _, by simp only [maxLen]; omega, hs, hbr⟩
end Go.Proofs.YtcgbamkfflcdfaaDoor
