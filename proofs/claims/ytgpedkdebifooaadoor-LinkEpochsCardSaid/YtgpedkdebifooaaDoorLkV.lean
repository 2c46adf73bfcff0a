/- Tick of a link that has nothing to answer alone. Conditions: those said. -/
import Derived.Test.YtgpedkdebifooaaDoorLkA
namespace Go.Proofs.YtgpedkdebifooaaDoor
open Go.RowKit
set_option linter.unusedVariables false

/-- Whether a flight is sent now; what it is then. -/
def dueB (now : Int) (x : Fl) : Bool := !x.sent || decide (3 ≤ now - x.at_)
def tickX (now : Int) (x : Fl) : Fl := if dueB now x then x.stamp now else x
def tickTo (now : Int) (xs : List Fl) (k : Nat) : List Fl := (xs.take k).map (tickX now) ++ xs.drop k
def sendsTo (now : Int) (L : Lk) (xs : List Fl) : List (List UInt8) := (xs.filter (dueB now)).map fun x => sealedL (frOf L x).raw
theorem tickTo_length (now : Int) (xs : List Fl) (k : Nat) : (tickTo now xs k).length = xs.length := by simp [tickTo]; omega
theorem tickTo_get (now : Int) (xs : List Fl) (k : Nat) (hk : k < xs.length) : (tickTo now xs k)[k]'(by rw [tickTo_length]; exact hk) = xs[k] := by
  have h : (tickTo now xs k)[k]? = xs[k]? := by
    rw [tickTo, List.getElem?_append_right (by simp; omega)]
    simp
    congr 1
    omega
  rw [List.getElem?_eq_getElem hk, List.getElem?_eq_getElem (by rw [tickTo_length]; exact hk)] at h
  exact Option.some.inj h
theorem tickTo_set (now : Int) (xs : List Fl) (k : Nat) (hk : k < xs.length) : (tickTo now xs k).set k (tickX now xs[k]) = tickTo now xs (k + 1) := by
  rw [tickTo, tickTo, List.set_append_right _ _ (by simp; omega), List.take_succ_eq_append_getElem hk, List.map_append, List.append_assoc, List.drop_eq_getElem_cons hk]
  congr 1
  rw [show k - ((xs.take k).map (tickX now)).length = 0 by simp; omega, List.set_cons_zero]
  rfl
theorem tickTo_same (now : Int) (xs : List Fl) (k : Nat) (hk : k < xs.length) (h : dueB now xs[k] = false) : tickTo now xs (k + 1) = tickTo now xs k := by
  rw [← tickTo_set now xs k hk, tickX, h, if_neg (by decide), ← tickTo_get now xs k hk]
  exact List.set_getElem_self _
theorem tickTo_all (now : Int) (xs : List Fl) : tickTo now xs xs.length = xs.map (tickX now) := by simp [tickTo]
theorem sendsTo_next (now : Int) (L : Lk) (xs : List Fl) (k : Nat) (hk : k < xs.length) (b : Bool) (hb : dueB now xs[k] = b) : sendsTo now L (xs.take (k + 1)) = sendsTo now L (xs.take k) ++ (if b then [sealedL (frOf L xs[k]).raw] else []) := by
  rw [List.take_succ_eq_append_getElem hk, sendsTo, List.filter_append, List.map_append]
  congr 1
  cases b
  · rw [List.filter_cons, hb]; rfl
  · rw [List.filter_cons, hb]; rfl
theorem sendsTo_le (now : Int) (L : Lk) (xs : List Fl) : (sendsTo now L xs).length ≤ xs.length := by
  unfold sendsTo
  rw [List.length_map]
  exact List.length_filter_le _ _
/-- What start and a Tick leave. -/
def startL (L : Lk) (ws : List PV) (xs : List Fl) : Lk := { L with nx := (startN ws L.nx xs).1 }
structure TickO (B g bm : Nat) (L : Lk) (vw0 vf0 vh : Value) (ws : List PV) (xs : List Fl) (now : Int) (w w' : World) (vo : Value) : Prop where
  out : ∃ vw vf us, LS w' B g bm { startL L ws xs with ow := false } vw vf vh (startN ws L.nx xs).2.1 ((startN ws L.nx xs).2.2.map (tickX now)) ∧ RowS w' w.heap.size vo us ∧ RowsIn w' w.heap.size us (sendsTo now (startL L ws xs) (startN ws L.nx xs).2.2) ∧ TMods LTs B w w' ∧ Mod (fun i => i = g ∨ vw0.ownBlock = some i ∨ vf0.ownBlock = some i) w w' ∧ (∀ i, vw.ownBlock = some i → vw0.ownBlock = some i ∨ w.heap.size ≤ i) ∧ (∀ i, vf.ownBlock = some i → vf0.ownBlock = some i ∨ w.heap.size ≤ i)
set_option maxHeartbeats 16000000 in
set_option maxRecDepth 40000 in
theorem Tick_calls (B g bm : Nat) (L : Lk) (vw vf vh : Value) (ws : List PV) (xs : List Fl) (now : Int) (w : World) (q : LS w B g bm L vw vf vh ws xs) (hg : B ≤ g) (hep : L.ep < 65536) (hnx : L.nx < 65536) (hcn : L.cn < 65536) (hcb : L.cb < 4294967296) (hxs : ∀ x ∈ (startN ws L.nx xs).2.2, x.seq < 65536 ∧ x.p.p.data.length ≤ 64 ∧ 0 ≤ x.at_ ∧ x.at_ ≤ 1000000 ∧ PV.InT w x.p) (hsx : ∀ x ∈ xs, x.seq < 65536) (hl : ws.length + xs.length ≤ 100000) (hsl : (startN ws L.nx xs).2.2.length ≤ 100000) (hnow : 0 ≤ now ∧ now ≤ 1000000) (how : sendsTo now (startL L ws xs) (startN ws L.nx xs).2.2 = [] → L.ow = false) :
    Calls Tryd.prog 17 #[.pointer (some ⟨g, 0, none⟩), .int .i64 now] w fun e w' => ∃ vo, e = .returned vo ∧ TickO B g bm L vw vf vh ws xs now w w' vo := by
  have hS := start_calls B g bm L vw vf vh ws xs w q hnx hsx (by omega)
  have HL := Lib.hid (show startL L ws xs = { L with nx := (startN ws L.nx xs).1 } from rfl)
  obtain ⟨L1, hL1⟩ : ∃ L1, L1 = startL L ws xs := ⟨_, rfl⟩
  obtain ⟨ws1, hws1⟩ : ∃ ws1, ws1 = (startN ws L.nx xs).2.1 := ⟨_, rfl⟩
  obtain ⟨xs1, hxs1⟩ : ∃ xs1, xs1 = (startN ws L.nx xs).2.2 := ⟨_, rfl⟩
  rw [show ({ L with nx := (startN ws L.nx xs).1 } : Lk) = L1 from hL1.symm, ← hws1, ← hxs1] at hS
  rw [← hxs1] at hxs hsl
  rw [← hL1, ← hxs1] at how
  have hep1 : L1.ep < 65536 := by rw [hL1]; exact hep
  have hcn1 : L1.cn < 65536 := by rw [hL1]; exact hcn
  have hcb1 : L1.cb < 4294967296 := by rw [hL1]; exact hcb
  have how1 : L1.ow = L.ow := by rw [hL1]; rfl
  rw [← how1] at how
  have HL1 := Lib.hid hL1
  have HWS1 := Lib.hid hws1
  have HXS1 := Lib.hid hxs1
  have HX := Lib.hid hxs
  have HSL := Lib.hid hsl
  have HOW := Lib.hid how
  obtain ⟨hq0, hq1⟩ : LS w B g bm L vw vf vh ws xs ∧ True := ⟨q, trivial⟩
  have hwB := q.hB
  clear hL1 hws1 hxs1 hxs hsl how hep hnx hcn hcb hsx hl how1 hq1 HL
  go_enter Tryd.func17, Tryd.ntmps17
  go_wp2_with fail
  refine hS.mono ?_
  rintro e w1 ⟨vw1, vf1, rfl, q1, hvw1, hvf1, hm1⟩
  have hT1 := TMods.of_mod hq0 hm1 hg
  obtain ⟨S0, hS0⟩ : ∃ S0 : Nat → Prop, S0 = fun i => i = g ∨ vw.ownBlock = some i ∨ vf.ownBlock = some i := ⟨_, rfl⟩
  have hM1 : Mod S0 w w1 := by rw [hS0]; exact hm1
  have HS0 := Lib.hid hS0
  have HVW := Lib.hid hvw1
  have HVF := Lib.hid hvf1
  have hgl0 := hq0.q.lt
  clear hS hm1 hq0 q hS0 hvw1 hvf1
  obtain ⟨n, hn⟩ : ∃ n, n = xs1.length := ⟨_, rfl⟩
  obtain ⟨Af, cf, bf, hvf, hcf, -⟩ := ownsP_sl q1.rf
  rw [← hn] at hvf hcf
  subst hvf
  have hn9 : n ≤ 100000 := by rw [hn]; exact HSL.out
  have HN := Lib.hid hn
  have HQ1 := Lib.hid q1
  have c2 := q1.q.c2
  have hws := hT1.bel.size
  clear hn q1
  go_wp2_with fail
  go_loopw [5, 18] (fun vo i wr => ∃ (k : Nat) (us : List Value), k ≤ n ∧ i = .int .i64 k ∧ LS wr B g bm L1 vw1 (.slice Af n cf) vh ws1 (tickTo now xs1 k) ∧ RowS wr w.heap.size vo us ∧ RowsIn wr w.heap.size us (sendsTo now L1 (xs1.take k)) ∧ TMods LTs B w wr ∧ Mod S0 w wr) (fun _ i _ => n - (intOf i).toNat)
  case atStart => exact ⟨0, [], Nat.zero_le _, rfl, by simpa [tickTo] using HQ1.out, RowS.nil_ _ _, by simpa [sendsTo] using RowsIn.nil_ _ _, hT1, hM1⟩
  case round =>
    clear c2 hT1 hws hM1
    obtain ⟨k, us, hk, rfl, qr, hvo, hI, hT, hM⟩ := hrel
    have c2 := qr.q.c2
    by_cases hlt : k < n
    · have hkx : k < xs1.length := by rw [← HN.out]; exact hlt
      have hkt : k < (tickTo now xs1 k).length := by rw [tickTo_length]; exact hkx
      obtain ⟨g2, cap2, hv2, hcap, hBg2, hg2l, hob, hcell, hfz⟩ := RowF.at_ qr.rf hkt
      rw [tickTo_get now xs1 k hkx] at hcell
      injection hv2 with hA e1 e2
      subst hA
      clear e1 e2
      obtain ⟨hseq, hd64, hat0, hat1, hin⟩ := HX.out xs1[k] (List.getElem_mem _)
      replace hin := hT.inT hin (by decide)
      have hset := tickTo_set now xs1 k hkx
      have hsame := tickTo_same now xs1 k hkx
      have hnext := sendsTo_next now L1 xs1 k hkx
      have hstp : ∀ W, RowF W B (.slice (some ⟨g2, 0, none⟩) n cf) (tickTo now xs1 k) → dueB now xs1[k] = true → RowF ((W.setCell ⟨g2, k * 6 + 4, none⟩ (.bool true)).setCell ⟨g2, k * 6 + 5, none⟩ (.int .i64 now)) B (.slice (some ⟨g2, 0, none⟩) n cf) (tickTo now xs1 (k + 1)) := fun W h hd => by
        have h1 := RowF.stamp h hkt now
        rw [tickTo_get now xs1 k hkx] at h1
        rw [← hset, tickX, if_pos hd]
        exact h1
      have hk1 : dueB now xs1[k] = true → (tickTo now xs1 (k + 1))[k]'(by rw [tickTo_length]; exact hkx) = xs1[k].stamp now := fun hd => by
        have h1 : (tickTo now xs1 (k + 1))[k]? = some (xs1[k].stamp now) := by
          rw [← hset, List.getElem?_set_self hkt, tickX, if_pos hd]
        rw [List.getElem?_eq_getElem (by rw [tickTo_length]; exact hkx)] at h1
        exact Option.some.inj h1
      have hk0 := tickTo_get now xs1 k hkx
      obtain ⟨x, hx⟩ : ∃ x, x = xs1[k] := ⟨_, rfl⟩
      rw [← hx] at hcell hseq hd64 hat0 hat1 hin hset hsame hnext hstp hk1 hk0
      have d0 := hcell 0 _ (by omega) rfl
      have d1 := hcell 1 _ (by omega) rfl
      have d2 := hcell 2 _ (by omega) rfl
      have d3 := hcell 3 _ (by omega) rfl
      have d4 := hcell 4 _ (by omega) rfl
      have d5 := hcell 5 _ (by omega) rfl
      rw [Nat.add_zero] at d0
      have hdue := fun W => due_calls x now W hat0 hat1 hnow.1 hnow.2
      obtain ⟨D, hD⟩ : ∃ D, D = dueB now x := ⟨_, rfl⟩
      rw [show (!x.sent || decide (3 ≤ now - x.at_)) = D from hD.symm] at hdue
      have HC := Lib.hid hcell
      have HF := Lib.hid hfz
      have HSET := Lib.hid hset
      have HSAME := Lib.hid hsame
      have HNEXT := Lib.hid hnext
      have HIN := Lib.hid hin
      have HD := Lib.hid hD
      have HQR := Lib.hid qr
      have HSTP := Lib.hid hstp
      have HK1 := Lib.hid hk1
      have HK0 := Lib.hid hk0
      clear hset hsame hnext hin hD hx hcell hfz hstp hk1 hk0 qr
      cases D
      · go_wp2_with fail
        refine (hdue _).mono ?_
        rintro e w3 ⟨rfl, hb3⟩
        have HQ3 := Lib.hid (HQR.out.ext hb3)
        have HV3 := Lib.hid (RowS.ext hvo hb3)
        have HI3 := Lib.hid (hI.ext hb3)
        have HT3 := Lib.hid (hT.trans (TMods.of_new hb3 (Nat.le_trans hwB hT.bel.size)))
        have HM3 := Lib.hid (hM.trans (Mod.of_below hb3) (S := S0) (fun i _ h => h) (fun i hi h => absurd hi (by have := hM.size; omega)))
        clear hb3 hdue d0 d1 d2 d3 d4 d5 c2 HQR hvo hI hT hM
        go_wp2_with fail
        go_roundw
        case rel => exact ⟨k + 1, us, by omega, by go_num, by rw [HSAME.out HD.out.symm]; exact HQ3.out, HV3.out, by rw [HNEXT.out false HD.out.symm, if_neg (by decide), List.append_nil]; exact HI3.out, HT3.out, HM3.out⟩
        case measure => simp [intOf]; omega
      · go_wp2_with fail
        refine (hdue _).mono ?_
        rintro e w3 ⟨rfl, hb3⟩
        have q3 := HQR.out.ext hb3
        have hT3 := hT.trans (TMods.of_new (Ts := LTs) hb3 (Nat.le_trans hwB hT.bel.size))
        have hv3 := hvo.ext hb3
        have hI3 := hI.ext hb3
        obtain ⟨g3, cap3, hvv, -, -, hg3l, hob3, hcell3, hfz3⟩ := RowF.at_ q3.rf hkt
        injection hvv with hA3 e1 e2
        injection hA3 with hA3
        injection hA3 with hA3
        subst hA3
        clear e1 e2
        rw [HK0.out] at hcell3
        have i0 := hcell3 0 _ (by omega) rfl
        have i1 := hcell3 1 _ (by omega) rfl
        have i2 := hcell3 2 _ (by omega) rfl
        have i3 := hcell3 3 _ (by omega) rfl
        have i4 := hcell3 4 _ (by omega) rfl
        have i5 := hcell3 5 _ (by omega) rfl
        rw [Nat.add_zero] at i0
        clear hcell3
        have z4 := hfz3 (k * 6 + 4)
        have z5 := hfz3 (k * 6 + 5)
        have hst := HSTP.out w3 q3.rf HD.out.symm
        have hmS : Mod (fun i => i = g2) w3 ((w3.setCell ⟨g2, k * 6 + 4, none⟩ (.bool true)).setCell ⟨g2, k * 6 + 5, none⟩ (.int .i64 now)) := (Mod.setCell w3 ⟨g2, k * 6 + 4, none⟩ (.bool true)).trans (Mod.setCell _ ⟨g2, k * 6 + 5, none⟩ (.int .i64 now)) (fun _ _ h => h) (fun _ _ h => h)
        have hmT := TMods.of_mod q3 (hmS.mono (fun i _ h => .inr (.inr (by rw [show i = g2 from h]; exact hob3)))) hg
        have hkt2 : k < (tickTo now xs1 (k + 1)).length := by rw [tickTo_length]; exact hkx
        obtain ⟨g4, cap4, hvv, -, -, -, -, hcell4, -⟩ := RowF.at_ hst hkt2
        injection hvv with hA3 e1 e2
        injection hA3 with hA3
        injection hA3 with hA3
        subst hA3
        clear e1 e2
        rw [HK1.out HD.out.symm] at hcell4
        have f0 := hcell4 0 _ (by omega) rfl
        have f1 := hcell4 1 _ (by omega) rfl
        have f2 := hcell4 2 _ (by omega) rfl
        have f3 := hcell4 3 _ (by omega) rfl
        have f4 := hcell4 4 _ (by omega) rfl
        have f5 := hcell4 5 _ (by omega) rfl
        rw [Nat.add_zero] at f0
        have hgg : g ≠ g2 := fun e => row_apart q3.rf q3.q (by decide) (by rw [hob3, e])
        have q4 : LkB ((w3.setCell ⟨g2, k * 6 + 4, none⟩ (.bool true)).setCell ⟨g2, k * 6 + 5, none⟩ (.int .i64 now)) g bm L1 vw1 (.slice (some ⟨g2, 0, none⟩) n cf) vh := q3.q.mod hmS hgg
        have rp4 := ownsP_mod q3.rp hmS (fun i hi hh => rows_apartT q3.rf q3.rp (by decide) _ hob3 (by rw [← show i = g2 from hh]; exact hi))
        have hFr := frame_calls g bm L1 vw1 (.slice (some ⟨g2, 0, none⟩) n cf) vh (x.stamp now) _ q4
        have hin4 := (hmT.inT ((TMods.of_new (Ts := LTs) hb3 (Nat.le_refl _)).inT HIN.out (by decide)) (by decide))
        have hok : (frOf L1 x).Ok := ⟨hep1, hseq, hcn1, hcb1⟩
        have hg2S : ∀ i, i < w.heap.size → i = g2 → S0 i := fun i hi h => by
          subst h
          rw [HS0.out]
          rcases HVF.out i hob3 with h1 | h1
          · exact .inr (.inr h1)
          · omega
        have hM4 := (hM.trans (Mod.of_below hb3) (S := S0) (fun i _ h => h) (fun i hi h => absurd hi (by have := hM.size; omega))).trans hmS (S := S0) (fun i _ h => h) hg2S
        have hrt : (frOf L1 x).right = true := decide_eq_true hd64
        have HBy := Lib.hid (fun W h => FBytes_yes (frOf L1 x) x.p.A x.p.c x.p.b W hok h (by show x.p.p.data.length ≤ 1000000; omega) hrt)
        have HA := Lib.hid (And.intro hst (And.intro rp4 (And.intro q4 (And.intro hin4 (And.intro (hmT.own hv3 (by decide)) (And.intro (hmT.rowsIn hI3 (by decide)) (And.intro (hT3.trans hmT) hM4)))))))
        clear hb3 hdue d0 d1 d2 d3 d4 d5 c2 HQR hvo hI hT hM hM4 hg2S q3 hT3 hv3 hI3 hfz3 hst hmS hmT hcell4 q4 rp4 hin4 hok hrt hgg
        go_wp2_with fail
        refine hFr.mono ?_
        rintro e w5 ⟨rfl, hb5⟩
        obtain ⟨hst, rp4, q4, hin4, hv4, hI4, hT4, hM4⟩ := HA.out
        obtain ⟨W4, hW4⟩ : ∃ W4, W4 = (w3.setCell ⟨g2, k * 6 + 4, none⟩ (.bool true)).setCell ⟨g2, k * 6 + 5, none⟩ (.int .i64 now) := ⟨_, rfl⟩
        rw [← hW4] at hb5 hst rp4 q4 hin4 hv4 hI4 hT4 hM4
        have hBy5 := HBy.out w5 (Sl.ext hin4.in_.1 hb5)
        have hst5 := ownsP_ext hst hb5
        have rp5 := ownsP_ext rp4 hb5
        have q5 := q4.ext hb5
        have hv5 := RowS.ext hv4 hb5
        have hI5 := hI4.ext hb5
        have hM5 := hM4.trans (Mod.of_below hb5) (S := S0) (fun i _ h => h) (fun i hi h => absurd hi (by have := hM4.size; omega))
        have hT5 := hT4.trans (TMods.of_new (Ts := LTs) hb5 (Nat.le_trans hwB hT4.bel.size))
        clear hW4 hFr HA HBy hb5 hst rp4 q4 hin4 hv4 hI4 hT4 hM4 f0 f1 f2 f3 f4 f5 z4 z5 i0 i1 i2 i3 i4 i5
        rw [show frOf L1 (x.stamp now) = frOf L1 x from rfl]
        go_wp2_with fail
        refine hBy5.mono ?_
        rintro e w6 ⟨v6, rfl, hrow6, hb6⟩
        obtain ⟨A6, c6, b6, hv6, -⟩ := Row.sl hrow6
        obtain ⟨n6, hn6⟩ : ∃ n6, n6 = (sealedL (frOf L1 x).raw).length := ⟨_, rfl⟩
        rw [← hn6] at hv6
        subst hv6
        have hst6 := ownsP_ext hst5 hb6
        have rp6 := ownsP_ext rp5 hb6
        have q6 := q5.ext hb6
        have hv6' := RowS.ext hv5 hb6
        have hI6 := hI5.ext hb6
        have hM6 := hM5.trans (Mod.of_below hb6) (S := S0) (fun i _ h => h) (fun i hi h => absurd hi (by have := hM5.size; omega))
        have hT6 := hT5.trans (TMods.of_new (Ts := LTs) hb6 (Nat.le_trans hwB hT5.bel.size))
        replace hrow6 := hrow6.low (Nat.le_trans (Nat.le_refl _) hT5.bel.size)
        have hul : us.length + 1 ≤ 1000000 := by have h1 := hI6.1; have h2 := sendsTo_le now L1 (xs1.take k); rw [List.length_take] at h2; omega
        have hws6 := hT6.bel.size
        have HA := Lib.hid (And.intro hst6 (And.intro rp6 (And.intro q6 (And.intro hI6 (And.intro hT6 (And.intro hM6 hrow6))))))
        clear hBy5 hb6 hst5 rp5 q5 hv5 hI5 hT5 hst6 rp6 q6 hI6 hT6 hM5 hM6 hrow6 hn6
        go_wp2_with (at_builtin; go_loud (refine wpList_appS w6 rfl (.tmp 39) (.tmp 46) rfl w.heap.size u5 us rfl hv6' rfl rfl hul hws6 ?_); intro v7 w7 hv7 hm7 _)
        obtain ⟨hst, rp, q7, hI, hT, hM, hrow⟩ := HA.out
        have hst7 := ownsP_mod hst hm7 (fun i hi hh => rows_apartT hst hv6' (by decide) i hi hh)
        have rp7 := ownsP_mod rp hm7 (fun i hi hh => rows_apartT rp hv6' (by decide) i hi hh)
        have q77 := q7.mod hm7 (row_apart hv6' q7 (by decide))
        have hI7 := (hI.mod hv6' hm7).snoc (hrow.mod hm7 (fun i hi hh => rows_apartT hrow hv6' (by decide) i hi hh))
        have hT7 : TMods LTs B w w7 := ⟨hT.bel.trans ((hm7.below (B := w.heap.size) hws6 (fun i hi hh => by have := (World.ownsRow.lt hv6' i hh).1; omega)).mono hwB), fun b cur e fr hc he => by
          have h1 := hT.keep b cur e fr hc he
          have h2 : b < w.heap.size := (Array.getElem?_eq_some_iff.1 hc).1
          exact (hm7.block b (Nat.lt_of_lt_of_le h2 hws6) (fun hh => by have := (World.ownsRow.lt hv6' b hh).1; omega)).trans h1⟩
        have hM7 := hM.trans hm7 (S := S0) (fun i _ h => h) (fun i hi h => absurd hi (by have := (World.ownsRow.lt hv6' i h).1; omega))
        go_roundw
        case rel => exact ⟨k + 1, _, by omega, by go_num, ⟨q77, rp7, hst7, Nat.le_trans hwB hT7.bel.size⟩, hv7, by rw [HNEXT.out true HD.out.symm, if_pos rfl]; exact hI7, hT7, hM7⟩
        case measure => simp [intOf]; omega
    · obtain rfl : k = n := by omega
      have hall : tickTo now xs1 k = xs1.map (tickX now) := by rw [HN.out]; exact tickTo_all now xs1
      have htk : xs1.take k = xs1 := List.take_of_length_le (by rw [HN.out]; exact Nat.le_refl _)
      rw [hall] at qr
      rw [htk] at hI
      have hul := hI.1
      obtain ⟨A9, c9, b9, hv9, -⟩ := ownsP_sl hvo
      obtain ⟨m, hm⟩ : ∃ m, us.length = m := ⟨_, rfl⟩
      rw [hm] at hv9 hul
      subst hv9
      have hno : ((m : Int) == 0) = true → L1.ow = false := fun h => HOW.out (List.eq_nil_of_length_eq_zero (by simp at h; omega))
      obtain ⟨ow, how⟩ : ∃ ow, ow = L1.ow := ⟨_, rfl⟩
      have c9' := qr.q.c9
      rw [← how] at c9' hno
      have f9 := qr.q.fz 9
      have hms := Mod.setCell wr ⟨g, 9, none⟩ (.bool false)
      have hTs := TMods.of_mod qr (hms.mono (fun i _ h => .inl h)) hg
      have q9 := qr.q.set9 false
      have rp9 := ownsP_mod qr.rp hms (fun i hi hh => row_apart qr.rp qr.q (by decide) (by rw [← show i = g from hh]; exact hi))
      have rf9 := ownsP_mod qr.rf hms (fun i hi hh => row_apart qr.rf qr.q (by decide) (by rw [← show i = g from hh]; exact hi))
      have HA := Lib.hid (And.intro (LS.mk q9 rp9 rf9 (Nat.le_trans hwB (Nat.le_trans hT.bel.size hTs.bel.size))) (And.intro (hTs.own hvo (by decide)) (And.intro (hTs.rowsIn hI (by decide)) (And.intro (hT.trans hTs) (hM.trans hms (S := S0) (fun i _ h => h) (fun i hi h => by rw [HS0.out]; exact .inl h))))))
      clear hall htk hI hvo hT hM q9 rp9 rf9 hTs hms qr how hul hm c2
      by_cases h0 : m = 0
      · subst h0
        have hw0 := hno (by simp)
        subst hw0
        clear hno
        go_wp2_with fail
        go_ret
        refine ⟨_, rfl, ⟨vw1, .slice Af k cf, us, ?_, HA.out.2.1, ?_, HA.out.2.2.2.1, by rw [← HS0.out]; exact HA.out.2.2.2.2, fun i hi => .inl (by rw [← HVW.out]; exact hi), HVF.out⟩⟩
        · rw [← HL1.out, ← HWS1.out, ← HXS1.out]; exact HA.out.1
        · rw [← HL1.out, ← HXS1.out]; exact HA.out.2.2.1
      · have hne : ((m : Int) == 0) = false := by simp; omega
        clear hno h0
        go_wp2_with fail
        go_ret
        refine ⟨_, rfl, ⟨vw1, .slice Af k cf, us, ?_, HA.out.2.1, ?_, HA.out.2.2.2.1, by rw [← HS0.out]; exact HA.out.2.2.2.2, fun i hi => .inl (by rw [← HVW.out]; exact hi), HVF.out⟩⟩
        · rw [← HL1.out, ← HWS1.out, ← HXS1.out]; exact HA.out.1
        · rw [← HL1.out, ← HXS1.out]; exact HA.out.2.2.1
end Go.Proofs.YtgpedkdebifooaaDoor
