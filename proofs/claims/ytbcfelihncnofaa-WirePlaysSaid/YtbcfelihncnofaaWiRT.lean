/- The reference's Take, Waiting. Conditions: those said. -/
import Derived.Test.YtbcfelihncnofaaWiQ
import Derived.Test.YtbcfelihncnofaaWiT
namespace Go.Proofs.Ytbcfelihncnofaa
open Go.RowKit
set_option linter.unusedVariables false

def atK (now : Int) (fs : List (List UInt8 × Int)) : List (List UInt8) := (fs.filter fun x => x.2 == now).map Prod.fst
def atP (now : Int) (ps : List Pl) : List Pl := ps.filter fun x => x.t == now
theorem atP_key (now : Int) (ps : List Pl) : (atP now ps).map Pl.l = atK now (ps.map keyP) := by
  induction ps with
  | nil => rfl
  | cons x l ih =>
    simp only [atP, atK, List.map_cons, List.filter_cons, keyP] at ih ⊢
    split <;> simp [ih]
theorem atP_next (now : Int) (ps : List Pl) (k : Nat) (hk : k < ps.length) (b : Bool) (hb : (ps[k].t == now) = b) : (atP now (ps.take (k + 1))).map Pl.sv = (atP now (ps.take k)).map Pl.sv ++ (if b then [ps[k].sv] else []) := by
  rw [List.take_succ_eq_append_getElem hk, atP, List.filter_append, List.map_append]
  congr 1
  cases b
  · rw [List.filter_cons, hb]; rfl
  · rw [List.filter_cons, hb]; rfl
theorem bssT_of {w : World} : ∀ (xs : List Pl), (∀ x ∈ xs, SlT 5 w x.b x.A (bv x.l)) → BssT w (xs.map Pl.sv) (xs.map Pl.l)
  | [], _ => BssT.nil_ _
  | x :: l, h => BssT.cons (h x (by simp)) rfl (bssT_of l fun y hy => h y (by simp [hy]))
theorem atP_le (now : Int) (ps : List Pl) : ((atP now ps).map Pl.sv).length ≤ ps.length := by
  rw [List.length_map]
  exact List.length_filter_le _ _
/-- What the reference's Take tells, and leaves. -/
structure RTkO (C g : Nat) (fs : List (List UInt8 × Int)) (now : Int) (w w' : World) (vo : Value) : Prop where
  out : ∃ us, RowS w' w.heap.size vo us ∧ BssT w' us (atK now fs) ∧ Ri C g w' fs (now + 1) ∧ TMod 30 65 C w w'
set_option maxHeartbeats 8000000 in
set_option maxRecDepth 20000 in
theorem RTake_calls (C g : Nat) (fs : List (List UInt8 × Int)) (now : Int) (w : World) (h : Ri C g w fs now) (hk : fs.length ≤ 900000) (hC : C ≤ w.heap.size) (hCg : C ≤ g) (hnow : 0 ≤ now ∧ now ≤ 1000) :
    Calls Try.prog 17 #[.pointer (some ⟨g, 0, none⟩)] w fun e w' => ∃ vo, e = .returned vo ∧ RTkO C g fs now w w' vo := by
  obtain ⟨v, ps, q, hr, hkey, hx⟩ := h.out
  obtain ⟨A0, c0, b0, hv0, hc0, hcm, -, hB0, hsl, -⟩ := own_sl hr
  obtain ⟨n, hn⟩ : ∃ n, n = ps.length := ⟨_, rfl⟩
  have hn9 : n ≤ 900000 := by have := congrArg List.length hkey; rw [List.length_map] at this; omega
  rw [← hn] at hv0 hc0
  subst hv0
  have HN := Lib.hid hn
  have qc := q.c0
  clear hn hc0
  go_enter Try.func17, Try.ntmps17
  go_wp2_with fail
  go_loopw [3, 11] (fun vo i wr => ∃ k : Nat, k ≤ n ∧ i = .int .i64 k ∧ RowS wr w.heap.size vo ((atP now (ps.take k)).map Pl.sv) ∧ Below w.heap.size w wr) (fun _ i _ => n - (intOf i).toNat)
  case atStart => exact ⟨0, Nat.zero_le _, rfl, by simpa [atP] using RowS.nil_ _ _, Below.refl _ _⟩
  case round =>
    obtain ⟨k, hk', rfl, hvo, hb⟩ := hrel
    clear qc
    by_cases hlt : k < n
    · have hkp : k < ps.length := by rw [← HN.out]; exact hlt
      have hne : plv ps ≠ [] := by
        intro h0
        have := plv_length ps
        rw [h0] at this
        simp at this
        omega
      obtain ⟨oa, rfl, hca⟩ := (Sl.ext hsl hb) hne
      have d0 := hca (k * 2 + 0) _ (plv_at ps k hkp 0 (by omega))
      have d1 := hca (k * 2 + 1) _ (plv_at ps k hkp 1 (by omega))
      rw [Nat.add_zero] at d0
      rw [← Nat.add_assoc] at d1
      have hnx := atP_next now ps k hkp
      obtain ⟨x, hxe⟩ : ∃ x, x = ps[k] := ⟨_, rfl⟩
      rw [← hxe] at d0 d1 hnx
      have hul := atP_le now (ps.take k)
      obtain ⟨us, hus⟩ : ∃ us, us = (atP now (ps.take k)).map Pl.sv := ⟨_, rfl⟩
      rw [← hus] at hvo hnx hul
      have hul1 : us.length + 1 ≤ 1000000 := by rw [List.length_take] at hul; omega
      have q9 := q.ext hb
      obtain ⟨xl, xt, xA, xc, xb⟩ := x
      simp only at d0 d1 hnx
      clear hca hxe hus hul hne
      by_cases h0 : xt = now
      · subst h0
        have hnx := hnx true (by simp)
        rw [if_pos rfl] at hnx
        have HNX := Lib.hid hnx
        have ha := below_alloc1 wr (.cells #[.slice xA xl.length xc, .int .i64 xt] 65)
        have e1 := (q9.ext ha).c1
        have HVO := Lib.hid (hvo.ext ha)
        have HBB := Lib.hid (hb.trans (ha.mono hb.size))
        clear hnx ha hvo hb q9
        go_wp2_with fail
        go_quiet (fail)
        obtain ⟨wq, hwq⟩ : ∃ wq, wq = (wr.alloc (.cells #[.slice xA xl.length xc, .int .i64 xt] 65)).drewN nq := ⟨_, rfl⟩
        have hvo : RowS wq w.heap.size u3 us := by rw [hwq]; exact HVO.out
        have hb : Below w.heap.size w wq := by rw [hwq]; exact below_drewN HBB.out nq
        have hfz : wq.cell? ⟨wr.heap.size, 0, none⟩ = some (.slice xA xl.length xc) := by rw [hwq, World.cell?_drewN, cell_of_row _ _ _ _ _ _ (heap_alloc_new wr _)]; rfl
        rw [← hwq]
        clear hwq HVO HBB e1
        go_wp2_with (at_builtin; refine wpList_appS2 wq rfl (.tmp 22) (.tmp 25) rfl w.heap.size _ us rfl hvo rfl wq.heap.size rfl rfl hul1 hb.size ?_; intro v5 w5 hv5 hm5 hat5)
        go_roundw
        case rel => exact ⟨k + 1, by omega, by go_num, by rw [HNX.out]; exact hv5, hb.trans (hm5.below hb.size (fun i hi hh => by have := (World.ownsRow.lt hvo i hh).1; omega))⟩
        case measure => simp [intOf]; omega
      · have h1 : (xt == now) = false := by simpa using h0
        have hnx := hnx false h1
        rw [if_neg (by decide), List.append_nil] at hnx
        have HNX := Lib.hid hnx
        have ha := below_alloc1 wr (.cells #[.slice xA xl.length xc, .int .i64 xt] 65)
        have e1 := (q9.ext ha).c1
        have HVO := Lib.hid (hvo.ext ha)
        have HBB := Lib.hid (hb.trans (ha.mono hb.size))
        clear hnx ha hvo hb q9 h0
        go_wp2_with fail
        go_quiet (fail)
        go_wp2_with fail
        go_roundw
        case rel => exact ⟨k + 1, by omega, by go_num, by rw [HNX.out]; exact HVO.out, below_drewN HBB.out nq⟩
        case measure => simp [intOf]; omega
    · obtain rfl : k = n := by omega
      rw [List.take_of_length_le (by rw [HN.out]; exact Nat.le_refl _)] at hvo
      have q9 := q.ext hb
      have e1 := q9.c1
      have e2 := q9.fz 1
      have hw1 := IntWalk.i64_in (now + 1) (by omega)
      have q10 := q9.set1 (now + 1)
      have hm := Mod.setCell wr ⟨g, 1, none⟩ (.int .i64 (now + 1))
      have hTM : TMod 30 65 C wr (wr.setCell ⟨g, 1, none⟩ (.int .i64 (now + 1))) := TMod.setR q9 hCg
      have hT0 : TMod 30 65 C w wr := TMod.of_new hb hC
      have hT1 := hT0.trans hTM
      have HR := Lib.hid (hTM.own hvo (by decide) (by decide))
      have hr1 := own_mod (own_ext hr hb) hm (fun i hi hh => q9.ne_row (own_ext hr hb) (by decide) (by rw [← show i = g from hh]; exact hi))
      have HO := Lib.hid (And.intro q10 (And.intro hr1 hT1))
      have HX := Lib.hid (fun y hy => hT1.slT (hx y hy) (by decide) (by decide))
      clear q9 q10 hm hTM hT0 hT1 hr1 hvo hx hr hsl q
      go_wp2_with fail
      go_ret
      refine ⟨_, rfl, ⟨_, HR.out, ?_, ⟨_, ps, HO.out.1, HO.out.2.1, hkey, HX.out⟩, HO.out.2.2⟩⟩
      rw [← hkey, ← atP_key]
      exact bssT_of _ fun y hy => HX.out y (List.mem_filter.1 hy).1
def restK (now : Int) (fs : List (List UInt8 × Int)) : List (List UInt8 × Int) := fs.filter fun x => decide (now ≤ x.2)
theorem rest_next (now : Int) (ps : List Pl) (k : Nat) (hk : k < ps.length) (b : Bool) (hb : decide (now ≤ ps[k].t) = b) : (restK now ((ps.take (k + 1)).map keyP)).length = (restK now ((ps.take k).map keyP)).length + (if b then 1 else 0) := by
  rw [List.take_succ_eq_append_getElem hk, List.map_append, restK, List.filter_append, List.length_append]
  congr 1
  cases b
  · have h1 : ¬ now ≤ ps[k].t := by simpa using hb
    simp [keyP, h1]
  · have h1 : now ≤ ps[k].t := by simpa using hb
    simp [keyP, h1]
theorem rest_le (now : Int) (fs : List (List UInt8 × Int)) : (restK now fs).length ≤ fs.length := List.length_filter_le _ _
set_option maxHeartbeats 8000000 in
set_option maxRecDepth 20000 in
theorem RWait_calls (C g : Nat) (fs : List (List UInt8 × Int)) (now : Int) (w : World) (h : Ri C g w fs now) (hk : fs.length ≤ 900000) :
    Calls Try.prog 14 #[.pointer (some ⟨g, 0, none⟩)] w fun e w' => e = .returned (.int .i64 ((restK now fs).length : Int)) ∧ Below w.heap.size w w' := by
  obtain ⟨v, ps, q, hr, hkey, hx⟩ := h.out
  obtain ⟨A0, c0, b0, hv0, hc0, hcm, -, hB0, hsl, -⟩ := own_sl hr
  obtain ⟨n, hn⟩ : ∃ n, n = ps.length := ⟨_, rfl⟩
  have hn9 : n ≤ 900000 := by have := congrArg List.length hkey; rw [List.length_map] at this; omega
  rw [← hn] at hv0 hc0
  subst hv0
  have HN := Lib.hid hn
  have qc := q.c0
  obtain ⟨R, hR⟩ : ∃ R, R = (restK now fs).length := ⟨_, rfl⟩
  rw [← hR]
  have HR := Lib.hid hR
  have HKEY := Lib.hid hkey
  clear hn hc0 hR hkey hr hx h
  go_enter Try.func14, Try.ntmps14
  go_wp2_with fail
  go_loopw [3, 11] (fun vo i wr => ∃ k c : Nat, k ≤ n ∧ i = .int .i64 k ∧ vo = .int .i64 c ∧ c ≤ k ∧ Hid (c = (restK now ((ps.take k).map keyP)).length) ∧ Below w.heap.size w wr) (fun _ i _ => n - (intOf i).toNat)
  case atStart => exact ⟨0, 0, Nat.zero_le _, rfl, rfl, Nat.le_refl _, Lib.hid (by simp [restK]), Below.refl _ _⟩
  case round =>
    obtain ⟨k, c, hk', rfl, rfl, hck, hc, hb⟩ := hrel
    clear qc
    by_cases hlt : k < n
    · have hkp : k < ps.length := by rw [← HN.out]; exact hlt
      have hne : plv ps ≠ [] := by
        intro h0
        have := plv_length ps
        rw [h0] at this
        simp at this
        omega
      obtain ⟨oa, rfl, hca⟩ := (Sl.ext hsl hb) hne
      have d0 := hca (k * 2 + 0) _ (plv_at ps k hkp 0 (by omega))
      have d1 := hca (k * 2 + 1) _ (plv_at ps k hkp 1 (by omega))
      rw [Nat.add_zero] at d0
      rw [← Nat.add_assoc] at d1
      have hnx := rest_next now ps k hkp
      obtain ⟨x, hxe⟩ : ∃ x, x = ps[k] := ⟨_, rfl⟩
      rw [← hxe] at d0 d1 hnx
      rw [← hc.out] at hnx
      have q9 := q.ext hb
      obtain ⟨xl, xt, xA, xc, xb⟩ := x
      simp only at d0 d1 hnx
      have ha := below_alloc1 wr (.cells #[.slice xA xl.length xc, .int .i64 xt] 65)
      have e1 := (q9.ext ha).c1
      have HBB := Lib.hid (hb.trans (ha.mono hb.size))
      clear hca hxe hne hc ha hb q9
      by_cases h0 : now ≤ xt
      · have g1 : decide (now ≤ xt) = true := by simpa using h0
        have g2 : decide (xt ≥ now) = true := by simpa using h0
        have hnx := hnx true g1
        rw [if_pos rfl] at hnx
        have HNX := Lib.hid hnx
        clear hnx
        go_wp2_with fail
        go_quiet (fail)
        go_wp2_with fail
        go_roundw
        case rel => exact ⟨k + 1, c + 1, by omega, by go_num, by go_num, by omega, Lib.hid HNX.out.symm, below_drewN HBB.out nq⟩
        case measure => simp [intOf]; omega
      · have g1 : decide (now ≤ xt) = false := by simpa using h0
        have g2 : decide (xt ≥ now) = false := by simpa using h0
        have hnx := hnx false g1
        rw [if_neg (by decide)] at hnx
        have HNX := Lib.hid hnx
        clear hnx
        go_wp2_with fail
        go_quiet (fail)
        go_wp2_with fail
        go_roundw
        case rel => exact ⟨k + 1, c, by omega, by go_num, rfl, by omega, Lib.hid HNX.out.symm, below_drewN HBB.out nq⟩
        case measure => simp [intOf]; omega
    · obtain rfl : k = n := by omega
      have hcR : c = R := by rw [hc.out, HR.out, ← HKEY.out, List.take_of_length_le (by rw [HN.out]; exact Nat.le_refl _)]
      subst hcR
      clear hc
      go_wp2_with fail
      go_ret
      exact ⟨rfl, hb⟩
end Go.Proofs.Ytbcfelihncnofaa
