/- Take: what comes now; the others are a Take nearer. Waiting. Conditions: those said. -/
import Derived.Test.YtbcfelihncnofaaWiE
namespace Go.Proofs.Ytbcfelihncnofaa
open Go.RowKit
set_option linter.unusedVariables false

/-- A Take nearer. -/
def Pl.near (x : Pl) : Pl := x.at_ (x.t - 1)
def laterP (ps : List Pl) : List Pl := keptP (ps.map Pl.near)
def nowP (ps : List Pl) : List Pl := ps.filter fun x => x.t - 1 == 0
def nearTo (ps : List Pl) (k : Nat) : List Pl := (ps.take k).map Pl.near ++ ps.drop k
theorem nearTo_length (ps : List Pl) (k : Nat) : (nearTo ps k).length = ps.length := by simp [nearTo]; omega
theorem nearTo_get (ps : List Pl) (k : Nat) (hk : k < ps.length) : (nearTo ps k)[k]'(by rw [nearTo_length]; exact hk) = ps[k] := by
  have h : (nearTo ps k)[k]? = ps[k]? := by
    rw [nearTo, List.getElem?_append_right (by simp; omega)]
    simp
    congr 1
    omega
  rw [List.getElem?_eq_getElem hk, List.getElem?_eq_getElem (by rw [nearTo_length]; exact hk)] at h
  exact Option.some.inj h
theorem nearTo_next (ps : List Pl) (k : Nat) (hk : k < ps.length) : (nearTo ps k).set k (ps[k].at_ (ps[k].t - 1)) = nearTo ps (k + 1) := by
  rw [nearTo, nearTo, List.set_append_right _ _ (by simp; omega), List.take_succ_eq_append_getElem hk, List.map_append, List.append_assoc, List.drop_eq_getElem_cons hk]
  congr 1
  rw [show k - ((ps.take k).map Pl.near).length = 0 by simp; omega, List.set_cons_zero]
  rfl
theorem nearTo_all (ps : List Pl) : nearTo ps ps.length = ps.map Pl.near := by simp [nearTo]
theorem nowP_next (ps : List Pl) (k : Nat) (hk : k < ps.length) (b : Bool) (hb : (ps[k].t - 1 == 0) = b) : (nowP (ps.take (k + 1))).map Pl.sv = (nowP (ps.take k)).map Pl.sv ++ (if b then [ps[k].sv] else []) := by
  rw [List.take_succ_eq_append_getElem hk, nowP, List.filter_append, List.map_append]
  congr 1
  cases b
  · rw [List.filter_cons, hb]; rfl
  · rw [List.filter_cons, hb]; rfl
/-- append(out, x) of one slice, which lies in a new block of its own, behind a store. -/
theorem wpList_appS2 (w : World) {u : Value} {ops : Array Oper} {rest : List Oper} {o : Oper} {a : Act} {Q : Exit → Act → World → Prop} (hgd : o.guard = none) (s x : Operand)
    (ho : o.op = .call { callee := .builtin .append, args := #[s, x], argTypes := #[31, 31] })
    (B : Nat) (v : Value) (us : List Value) (hs : a.eval s = v) (hown : RowS w B v us)
    (hu : u.oneCell' = true) (sz : Nat) (hsz : w.heap.size = sz) (hx : a.eval x = .slice (some ⟨sz, 0, none⟩) 1 1)
    (hlen : us.length + 1 ≤ 1000000) (hbase : B ≤ w.heap.size)
    (h : ∀ v' w', RowS w' B v' (us ++ [u]) → Mod (fun i => v.ownBlock = some i) w w' → (v'.ownBlock = v.ownBlock ∨ ∃ k, v'.ownBlock = some k ∧ w.heap.size ≤ k) → wpList Try.prog ops Q rest (a.put o.dst v') w') : wpList Try.prog ops Q (o :: rest) a (w.alloc (.cells #[u] 46)) := by
  subst hsz
  exact wpList_appS w hgd s x ho B v us hs hown hu hx hlen hbase h
theorem nowP_le (ps : List Pl) : ((nowP ps).map Pl.sv).length ≤ ps.length := by
  rw [List.length_map]
  exact List.length_filter_le _ _
/-- What a Take leaves. -/
structure WTake (B g : Nat) (v : Value) (ps : List Pl) (w w' : World) (vo : Value) : Prop where
  out : ∃ v', Box w' g v' 26 ∧ RowW 68 w' B v' (laterP ps) ∧ RowS w' w.heap.size vo ((nowP ps).map Pl.sv) ∧ Mod (fun i => i = g ∨ v.ownBlock = some i) w w' ∧ v'.ownBlock = v.ownBlock
set_option maxHeartbeats 8000000 in
set_option maxRecDepth 20000 in
theorem Take_calls (B g : Nat) (v : Value) (ps : List Pl) (w : World) (q : Box w g v 26) (hr : RowW 68 w B v ps) (hps : ps.length ≤ 900000) (hB : B ≤ w.heap.size) (ht : ∀ x ∈ ps, 0 ≤ x.t ∧ x.t ≤ 1000) :
    Calls Try.prog 16 #[.pointer (some ⟨g, 0, none⟩)] w fun e w' => ∃ vo, e = .returned vo ∧ WTake B g v ps w w' vo := by
  have hap : v.ownBlock ≠ some g := row_apart hr q (by decide)
  have hlt := fun k hk => World.ownsRow.lt hr k hk
  obtain ⟨A0, c0, b0, hv0, hc0, hcm, -, hB0, hsl, -⟩ := own_sl hr
  obtain ⟨n, hn⟩ : ∃ n, n = ps.length := ⟨_, rfl⟩
  rw [← hn] at hv0 hc0 hps
  subst hv0
  have HN := Lib.hid hn
  have qc := q.cell
  have hgw := q.lt
  clear hn hsl hc0
  go_enter Try.func16, Try.ntmps16
  go_wp2_with fail
  go_loopw [3, 13] (fun vo i wr => ∃ k : Nat, k ≤ n ∧ i = .int .i64 k ∧ RowW 68 wr B (.slice A0 n c0) (nearTo ps k) ∧ Box wr g (.slice A0 n c0) 26 ∧ RowS wr w.heap.size vo ((nowP (ps.take k)).map Pl.sv) ∧ Mod (fun i => (Value.slice A0 n c0).ownBlock = some i) w wr) (fun _ i _ => n - (intOf i).toNat)
  case atStart => exact ⟨0, Nat.zero_le _, rfl, by simpa [nearTo] using hr, q, by simpa [nowP] using RowS.nil_ _ _, Mod.refl _ _⟩
  case round =>
    obtain ⟨k, hk, rfl, hrk, qk, hvo, hm⟩ := hrel
    by_cases hlt2 : k < n
    · have hkp : k < ps.length := by rw [← HN.out]; exact hlt2
      have hkn : k < (nearTo ps k).length := by rw [nearTo_length]; exact hkp
      obtain ⟨g2, cap2, hv2, hcap, -, hg2l, hob, d0, d1, hfz⟩ := RowW.at_ hrk hkn
      injection hv2 with hA e1 e2
      subst hA
      rw [nearTo_get ps k hkp] at d0 d1
      have hnx := nearTo_next ps k hkp
      have hset := RowW.set1 hrk hkn (ps[k].t - 1)
      rw [nearTo_get ps k hkp, hnx] at hset
      have hnow := nowP_next ps k hkp
      have htk := ht ps[k] (List.getElem_mem _)
      obtain ⟨x, hx⟩ : ∃ x, x = ps[k] := ⟨_, rfl⟩
      rw [← hx] at d0 d1 hset hnow htk
      have z1 := hfz (k * 2 + 1)
      have hm1 := Mod.setCell wr ⟨g2, k * 2 + 1, none⟩ (.int .i64 (x.t - 1))
      have hgg : g2 ≠ g := fun e => hap (by rw [e]; rfl)
      have qk2 := qk.mod hm1 (fun h => hgg h.symm)
      have hvo2 := hvo.mod hm1 (fun j hj h => own_apart hrk hvo (by decide) (k := j) (by rw [show j = g2 from h]; rfl) hj)
      have hm2 := hm.trans hm1 (S := fun i => (Value.slice (some ⟨g2, 0, none⟩) n c0).ownBlock = some i) (fun i hi h => h) (fun i hi h => by rw [show i = g2 from h]; rfl)
      have qc1 := qk.cell
      have htw : IntKind.i64.wrap (x.t - 1) = x.t - 1 := IntWalk.i64_in _ (by omega)
      clear hnx hx e1 e2 hfz hm1 hob
      by_cases h0 : (x.t - 1 == 0) = true
      · replace hnow := hnow true h0
        rw [if_pos rfl] at hnow
        have hnl := nowP_le (ps.take k)
        obtain ⟨us, hus⟩ : ∃ us, us = (nowP (ps.take k)).map Pl.sv := ⟨_, rfl⟩
        rw [← hus] at hvo2 hnow hnl
        have hul : us.length + 1 ≤ 1000000 := by rw [List.length_take] at hnl; omega
        have hsz : (wr.setCell ⟨g2, k * 2 + 1, none⟩ (.int .i64 (x.t - 1))).heap.size = wr.heap.size := by simp [World.setCell]
        have hwb : w.heap.size ≤ (wr.setCell ⟨g2, k * 2 + 1, none⟩ (.int .i64 (x.t - 1))).heap.size := hm2.size
        have hvlt := fun k hk => World.ownsRow.lt hvo2 k hk
        have HNOW := Lib.hid hnow
        have HSET := Lib.hid hset
        have HQ2 := Lib.hid qk2
        have HM2 := Lib.hid hm2
        have HVLT := Lib.hid hvlt
        clear hnow hset qk2 hm2 hvlt hvo hus hnl hrk qk hm
        go_wp2_with (at_builtin; refine wpList_appS2 (wr.setCell ⟨g2, k * 2 + 1, none⟩ (.int .i64 (x.t - 1))) rfl (.tmp 34) (.tmp 39) rfl w.heap.size _ us rfl hvo2 rfl wr.heap.size hsz rfl hul hwb ?_; intro v5 w5 hv5 hm5 hat5)
        have hm5' := HM2.out.trans hm5 (fun i hi h => h) (fun i hi h => absurd (HVLT.out i h).1 (by omega))
        have hq5 := HQ2.out.mod hm5 (fun h => absurd (HVLT.out _ h).1 (by omega))
        have hr5 := own_mod HSET.out hm5 (fun j hj h => own_apart hvo2 HSET.out (by decide) h hj)
        go_roundw
        case rel => exact ⟨k + 1, by omega, by go_num, hr5, hq5, by rw [HNOW.out]; exact hv5, hm5'⟩
        case measure => simp [intOf]; omega
      · have h1 : (x.t - 1 == 0) = false := by simpa using h0
        replace hnow := hnow false h1
        rw [if_neg (by decide), List.append_nil] at hnow
        rw [← hnow] at hvo2
        have HSET := Lib.hid hset
        have HQ2 := Lib.hid qk2
        have HM2 := Lib.hid hm2
        have HV2 := Lib.hid hvo2
        clear hnow hset qk2 hm2 hvo hvo2 hrk qk hm h0
        go_wp2_with fail
        go_roundw
        case rel => exact ⟨k + 1, by omega, by go_num, HSET.out, HQ2.out, HV2.out, HM2.out⟩
        case measure => simp [intOf]; omega
    · obtain rfl : k = n := by omega
      have hka : nearTo ps k = ps.map Pl.near := by rw [HN.out]; exact nearTo_all ps
      rw [hka] at hrk
      have hva : ps.take k = ps := List.take_of_length_le (by rw [HN.out]; exact Nat.le_refl _)
      rw [hva] at hvo
      have hD := Delete_calls B (.slice A0 k c0) (ps.map Pl.near) wr hrk (by rw [List.length_map, ← HN.out]; omega)
      have qc1 := qk.cell
      have HQ := Lib.hid qk
      have HVO := Lib.hid hvo
      have HM := Lib.hid hm
      have HRK := Lib.hid hrk
      have HAP := Lib.hid hap
      clear hka hva qk hvo hm hrk hap hr q
      go_wp2_with fail
      refine hD.mono ?_
      rintro e w5 ⟨v5, rfl, hr5, hob5, hm5⟩
      have q5 := HQ.out.mod hm5 HAP.out
      have hvo5 := HVO.out.mod hm5 (fun j hj h => own_apart HRK.out HVO.out (by decide) h hj)
      have hmm := HM.out.trans hm5 (S := fun i => (Value.slice A0 k c0).ownBlock = some i) (fun i hi h => h) (fun i hi h => h)
      obtain ⟨A5, c5, b5, hv5, -⟩ := own_sl hr5
      obtain ⟨n5, hn5⟩ : ∃ n5, n5 = (keptP (ps.map Pl.near)).length := ⟨_, rfl⟩
      rw [← hn5] at hv5
      subst hv5
      have q5c := q5.cell
      have q5f := q5.frozen
      have HQ5 := Lib.hid (q5.set_ (.slice A5 n5 c5))
      have hms := Mod.setCell w5 ⟨g, 0, none⟩ (.slice A5 n5 c5)
      have hap5 : (Value.slice A5 n5 c5).ownBlock ≠ some g := by rw [hob5]; exact HAP.out
      have HR5 := Lib.hid (own_mod hr5 hms (fun j hj h => hap5 (by rw [hj]; exact congrArg some h)))
      have HV5 := Lib.hid (hvo5.mod hms (fun j hj h => by have := (World.ownsRow.lt hvo5 j hj).1; have h : j = g := h; omega))
      have HMM := Lib.hid (hmm.trans hms (S := fun i => i = g ∨ (Value.slice A0 k c0).ownBlock = some i) (fun i hi h => .inr h) (fun i hi h => .inl h))
      have HOB := Lib.hid hob5
      clear hr5 hob5 hm5 q5 hvo5 hmm hn5 hms hap5
      go_wp2_with fail
      go_ret
      exact ⟨_, rfl, ⟨_, HQ5.out, HR5.out, HV5.out, HMM.out, HOB.out⟩⟩
set_option maxHeartbeats 8000000 in
set_option maxRecDepth 20000 in
theorem Waiting_calls (B g : Nat) (v : Value) (ps : List Pl) (w : World) (q : Box w g v 26) (hr : RowW 68 w B v ps) :
    Calls Try.prog 13 #[.pointer (some ⟨g, 0, none⟩)] w fun e w' => e = .returned (.int .i64 (ps.length : Int)) ∧ w' = w := by
  obtain ⟨A0, c0, b0, hv0, -⟩ := own_sl hr
  obtain ⟨n, hn⟩ : ∃ n, n = ps.length := ⟨_, rfl⟩
  rw [← hn] at hv0 ⊢
  subst hv0
  have qc := q.cell
  clear hn hr q
  go_enter Try.func13, Try.ntmps13
  go_wp2_with fail
  go_ret
  exact ⟨rfl, rfl⟩
end Go.Proofs.Ytbcfelihncnofaa
