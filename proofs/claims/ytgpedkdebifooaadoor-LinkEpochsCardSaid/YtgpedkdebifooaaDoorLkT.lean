/- start of a link. Conditions: those said. -/
import Derived.Test.YtgpedkdebifooaaDoorLkE
import Derived.Deep.LoopGhost
namespace Go.Proofs.YtgpedkdebifooaaDoor
open Go.RowKit
set_option linter.unusedVariables false

set_option maxHeartbeats 16000000 in
set_option maxRecDepth 40000 in
theorem start_calls (B g bm : Nat) (L : Lk) (vw vf vh : Value) (ws : List PV) (xs : List Fl) (w : World) (q : LS w B g bm L vw vf vh ws xs) (hx : L.nx < 65536) (hs : ∀ x ∈ xs, x.seq < 65536) (hl : ws.length + xs.length ≤ 1000000) :
    Calls Tryd.prog 34 #[.pointer (some ⟨g, 0, none⟩)] w fun e w' => ∃ vw' vf', e = .returned (.tuple #[]) ∧ LS w' B g bm { L with nx := (startN ws L.nx xs).1 } vw' vf' vh (startN ws L.nx xs).2.1 (startN ws L.nx xs).2.2 ∧ vw'.ownBlock = vw.ownBlock ∧ (∀ i, vf'.ownBlock = some i → vf.ownBlock = some i ∨ w.heap.size ≤ i) ∧ Mod (fun i => i = g ∨ vw.ownBlock = some i ∨ vf.ownBlock = some i) w w' := by
  obtain ⟨S, hS⟩ : ∃ S : Nat → Prop, S = fun i => i = g ∨ vw.ownBlock = some i ∨ vf.ownBlock = some i := ⟨_, rfl⟩
  rw [← hS]
  have HS := Lib.hid hS
  obtain ⟨R, hR⟩ : ∃ R, R = startN ws L.nx xs := ⟨_, rfl⟩
  rw [← hR]
  have hmm : Mod S w w := (Mod.of_below (Below.refl w.heap.size w)).mono (fun i hi h => absurd hi (by omega))
  go_enter Tryd.func34, Tryd.ntmps34
  go_wp2_with fail
  go_loopg [2] ws.length (fun k _ wr => ∃ (nx : Nat) (vw' vf' : Value) (ws' : List PV) (xs' : List Fl), LS wr B g bm { L with nx := nx } vw' vf' vh ws' xs' ∧ Hid (nx < 65536 ∧ (∀ x ∈ xs', x.seq < 65536) ∧ ws'.length + xs'.length ≤ 1000000 ∧ ws'.length = k ∧ R = startN ws' nx xs' ∧ vw'.ownBlock = vw.ownBlock ∧ (∀ i, vf'.ownBlock = some i → vf.ownBlock = some i ∨ w.heap.size ≤ i)) ∧ Mod S w wr)
  case atStart => exact ⟨L.nx, vw, vf, ws, xs, q, Lib.hid ⟨hx, hs, hl, rfl, hR, rfl, fun i h => .inl h⟩, hmm⟩
  case round =>
    clear hmm q hx hs hl hR hS
    obtain ⟨nx, vw', vf', ws', xs', q, hh, hm⟩ := hrel
    cases ws' with
    | nil =>
      obtain ⟨A1, k1, b1, rfl, -⟩ := ownsP_sl q.rp
      have c1 := q.q.c1
      have HQ := Lib.hid q
      have HM := Lib.hid hm
      clear q hm
      go_wp2_with fail
      go_end0
      obtain ⟨g1, g2, g3, g4, g5, g6, g7⟩ := hh.out
      have HR : R = (nx, [], xs') := g5
      refine ⟨_, _, rfl, ?_, g6, g7, HM.out⟩
      rw [HR]
      exact HQ.out
    | cons x ws2 =>
      obtain ⟨n1, hn1⟩ : ∃ n1, n1 = ws2.length := ⟨_, rfl⟩
      obtain ⟨b1, k1, hve, hk1, hb1, hbl, hob, d0, d1, d2⟩ := row_first q.rp
      rw [← hn1] at hve hk1
      subst hve
      have c1 := q.q.c1
      have e1 : (0 : Int) < ((n1 + 1 : Nat) : Int) := by omega
      have hroom := fun W h => room_any B g bm { L with nx := nx } (.slice (some ⟨b1, 0, none⟩) (n1 + 1) k1) vf' vh (x :: ws2) xs' W h hh.out.1 hh.out.2.1
      obtain ⟨z, hz⟩ : ∃ z, z = roomB nx xs' := ⟨_, rfl⟩
      simp only at hroom
      rw [← hz] at hroom
      have HZ := Lib.hid hz
      have HM := Lib.hid hm
      clear hm hz
      go_wp2_with fail
      refine (hroom _ q).mono ?_
      rintro e w2 ⟨rfl, h2⟩
      cases z with
      | false =>
        have HQ := Lib.hid (q.ext h2)
        have HM2 := Lib.hid (HM.out.trans (Mod.of_below h2) (fun i hi h => h) (fun i hi h => absurd hi (by have := HM.out.size; omega)))
        clear q h2 hroom d0 d1 d2 c1
        go_wp2_with fail
        go_end0
        obtain ⟨g1, g2, g3, g4, g5, g6, g7⟩ := hh.out
        have HR : R = (nx, x :: ws2, xs') := by
          rw [g5, startN, ← HZ.out]
          rfl
        refine ⟨_, _, rfl, ?_, g6, g7, HM2.out⟩
        rw [HR]
        exact HQ.out
      | true =>
        obtain ⟨qq, rp, rf, hB⟩ := q.ext h2
        have e5 : (x :: ws2).length = n1 + 1 := by rw [hn1]; rfl
        have rp2 : w2.ownsRow B 96 3 (.slice (some ⟨b1, 0, none⟩) (n1 + 1) k1) (x :: ws2).length (pvs (x :: ws2)) := rp
        rw [e5] at rp2
        replace rp := rp2
        clear e5 rp2
        have hmw : Mod (fun i => i = g ∨ vf'.ownBlock = some i) w2 w2 := (Mod.of_below (Below.refl w2.heap.size w2)).mono (fun i hi h => absurd hi (by omega))
        have HM2 := Lib.hid (HM.out.trans (Mod.of_below h2) (S := S) (fun i hi h => h) (fun i hi h => absurd hi (by have := HM.out.size; omega)))
        have hb2 : b1 < w2.heap.size := by have := h2.size; omega
        clear q h2 hroom d0 d1 d2 c1 hbl
        go_wp2_with fail
        refine wp_region_E (fun j => j == 20) (fun w9 => LkB w9 g bm { L with nx := nx } (.slice (some ⟨b1, 0, none⟩) (n1 + 1) k1) vf' vh ∧ w9.ownsRow B 96 3 (.slice (some ⟨b1, 0, none⟩) (n1 + 1) k1) (n1 + 1) (pvs (x :: ws2))) (by kernel_rfl) ?_ (fun hHeld => ?_)
        · exact (by exact ⟨qq, rp⟩)
        obtain ⟨wd1', hwd⟩ : ∃ wd1', wd1' = World.drew w2 := ⟨_, rfl⟩
        have h9 : Below w2.heap.size w2 wd1' := by rw [hwd]; exact below_drew (Below.refl _ _)
        rw [← hwd] at hHeld ⊢
        clear hwd
        replace hmw := hmw.trans (Mod.of_below h9) (fun i hi h => h) (fun i hi h => absurd hi (by have := hmw.size; omega))
        replace qq := qq.ext h9
        replace rp := ownsP_ext rp h9
        replace rf := ownsP_ext rf h9
        replace hB := Nat.le_trans hB h9.size
        clear h9
        refine wpAnyE_take (i := 0) (by simp only [List.getElem?_toArray]; rfl) (by kernel_rfl) (by kernel_rfl) (by kernel_rfl) (by kernel_rfl) (by kernel_rfl) (by exact fun _ _ _ h => h) (by exact yk (.pointer (some ⟨g, 0, none⟩)) (by kernel_rfl) (fun _ => by kernel_rfl)) hHeld ?_
        refine wpAnyE_take (i := 1) (by simp only [List.getElem?_toArray]; rfl) (by kernel_rfl) (by kernel_rfl) (by kernel_rfl) (by kernel_rfl) (by kernel_rfl) (by exact fun _ _ _ h => h) (by exact yk (.pointer (some ⟨g, 0, none⟩)) (by kernel_rfl) (fun _ => by kernel_rfl)) hHeld ?_
        refine wpAnyE_take (i := 2) (by simp only [List.getElem?_toArray]; rfl) (by kernel_rfl) (by kernel_rfl) (by kernel_rfl) (by kernel_rfl) (by kernel_rfl) (by exact fun _ _ _ h => h) (by exact yk (.pointer (some ⟨g, 0, none⟩)) (by kernel_rfl) (fun _ => by kernel_rfl)) hHeld ?_
        refine wpAnyE_take (i := 3) (by simp only [List.getElem?_toArray]; rfl) (by kernel_rfl) (by kernel_rfl) (by kernel_rfl) (by kernel_rfl) (by kernel_rfl) (by exact fun _ _ _ h => h) (by exact yk (.pointer (some ⟨g, 2, none⟩)) (by kernel_rfl) (fun _ => by kernel_rfl)) hHeld ?_
        refine wpAnyE_take (i := 4) (by simp only [List.getElem?_toArray]; rfl) (by kernel_rfl) (by kernel_rfl) (by kernel_rfl) (by kernel_rfl) (by kernel_rfl) (by exact fun _ _ _ h => h) (by exact yk_ldF (by kernel_rfl) (.tmp 15) rfl ⟨g, 2, none⟩ vf' (by kernel_rfl) (fun w hh => hh.1.c2)) hHeld ?_
        refine wpAnyE_take (i := 5) (by simp only [List.getElem?_toArray]; rfl) (by kernel_rfl) (by kernel_rfl) (by kernel_rfl) (by kernel_rfl) (by kernel_rfl) (by exact fun _ _ _ h => h) (by exact yk (.pointer (some ⟨g, 0, none⟩)) (by kernel_rfl) (fun _ => by kernel_rfl)) hHeld ?_
        refine wpAnyE_take (i := 6) (by simp only [List.getElem?_toArray]; rfl) (by kernel_rfl) (by kernel_rfl) (by kernel_rfl) (by kernel_rfl) (by kernel_rfl) (by exact fun _ _ _ h => h) (by exact yk (.pointer (some ⟨g, 0, none⟩)) (by kernel_rfl) (fun _ => by kernel_rfl)) hHeld ?_
        refine wpAnyE_take (i := 7) (by simp only [List.getElem?_toArray]; rfl) (by kernel_rfl) (by kernel_rfl) (by kernel_rfl) (by kernel_rfl) (by kernel_rfl) (by exact fun _ _ _ h => h) (by exact yk (.pointer (some ⟨g, 1, none⟩)) (by kernel_rfl) (fun _ => by kernel_rfl)) hHeld ?_
        refine wpAnyE_take (i := 8) (by simp only [List.getElem?_toArray]; rfl) (by kernel_rfl) (by kernel_rfl) (by kernel_rfl) (by kernel_rfl) (by kernel_rfl) (by exact fun _ _ _ h => h) (by exact yk_ldW (by kernel_rfl) (.tmp 19) rfl ⟨g, 1, none⟩ (.slice (some ⟨b1, 0, none⟩) (n1 + 1) k1) (by kernel_rfl) (fun w hh => hh.1.c1)) hHeld ?_
        refine wpAnyE_take (i := 9) (v := .pointer (some ⟨b1, 0, none⟩)) (by simp only [List.getElem?_toArray]; rfl) (by kernel_rfl) (by kernel_rfl) (by kernel_rfl) (by kernel_rfl) (by kernel_rfl) (by exact fun _ _ _ h => h) (.inl ⟨by kernel_rfl, fun ww hSw => by clear hSw; go_simp⟩) hHeld ?_
        refine wpAnyE_take (i := 10) (by simp only [List.getElem?_toArray]; rfl) (by kernel_rfl) (by kernel_rfl) (by kernel_rfl) (by kernel_rfl) (by kernel_rfl) (by exact fun _ _ _ h => h) (by exact yk_ldPc (by kernel_rfl) (.tmp 21) rfl b1 x.p.first x.p.last (.slice x.A x.p.data.length x.c) (by kernel_rfl) (fun w hh => row_cells (e := 96) (B := B) (m := n1 + 1) (k1 := k1) (xs := ws2) (by rw [← hn1]; exact hh.2))) hHeld ?_
        refine wpAnyE_take (i := 11) (by simp only [List.getElem?_toArray]; rfl) (by kernel_rfl) (by kernel_rfl) (by kernel_rfl) (by kernel_rfl) (by kernel_rfl) (by exact fun _ _ _ h => h) (by exact yk (.pointer (some ⟨g, 0, none⟩)) (by kernel_rfl) (fun _ => by kernel_rfl)) hHeld ?_
        refine wpAnyE_take (i := 12) (by simp only [List.getElem?_toArray]; rfl) (by kernel_rfl) (by kernel_rfl) (by kernel_rfl) (by kernel_rfl) (by kernel_rfl) (by exact fun _ _ _ h => h) (by exact yk (.pointer (some ⟨g, 0, none⟩)) (by kernel_rfl) (fun _ => by kernel_rfl)) hHeld ?_
        refine wpAnyE_take (i := 13) (by simp only [List.getElem?_toArray]; rfl) (by kernel_rfl) (by kernel_rfl) (by kernel_rfl) (by kernel_rfl) (by kernel_rfl) (by exact fun _ _ _ h => h) (by exact yk (.pointer (some ⟨g, 3, none⟩)) (by kernel_rfl) (fun _ => by kernel_rfl)) hHeld ?_
        refine wpAnyE_take (i := 14) (by simp only [List.getElem?_toArray]; rfl) (by kernel_rfl) (by kernel_rfl) (by kernel_rfl) (by kernel_rfl) (by kernel_rfl) (by exact fun _ _ _ h => h) (by exact yk_ldQ (by kernel_rfl) (.tmp 25) rfl ⟨g, 3, none⟩ (.int .u16 (nx : Int)) (by kernel_rfl) (fun w hh => hh.1.c3)) hHeld ?_
        refine wpAnyE_take (i := 15) (by simp only [List.getElem?_toArray]; rfl) (by kernel_rfl) (by kernel_rfl) (by kernel_rfl) (by kernel_rfl) (by kernel_rfl) (by exact fun _ _ _ h => h) (by exact yk (.agg #[.bool x.p.first, .bool x.p.last, .slice x.A x.p.data.length x.c, .int .u16 (nx : Int), .bool false, .int .i64 0]) (by kernel_rfl) (fun _ => by kernel_rfl)) hHeld ?_
        refine wpAnyE_ready (rs := [16]) (by kernel_rfl) (by simp) ?_
        refine EachE.cons (by rfl) (by simp only [List.getElem?_toArray]; rfl) (fun KK hKK => ?_) EachE.nil
        rw [if_pos (by kernel_rfl)]
        refine wp_bsF (.tmp 27) rfl (⟨x, nx, false, 0⟩ : Fl) (by kernel_rfl) ?_
        have hsn := sl_newF1 wd1' (⟨x, nx, false, 0⟩ : Fl)
        have h9 := below_alloc1 wd1' (.cells (⟨x, nx, false, 0⟩ : Fl).cells.toArray 98)
        replace hmw := hmw.trans (Mod.of_below h9) (fun i hi h => h) (fun i hi h => absurd hi (by have := hmw.size; omega))
        replace qq := qq.ext h9
        replace rp := ownsP_ext rp h9
        replace rf := ownsP_ext rf h9
        replace hB := Nat.le_trans hB h9.size
        obtain ⟨b6, hb6⟩ : ∃ b6, b6 = wd1'.heap.size := ⟨_, rfl⟩
        obtain ⟨w2', e⟩ : ∃ w2', w2' = World.alloc wd1' (.cells (⟨x, nx, false, 0⟩ : Fl).cells.toArray 98) := ⟨_, rfl⟩
        rw [← e] at hsn hmw qq rp rf hB ⊢
        rw [← hb6] at hsn ⊢
        clear e h9 hb6
        refine hKK.out _ _ ?_ (fun hHeld => ?_)
        · exact (by exact ⟨qq, rp⟩)
        clear hKK KK
        refine wpAnyE_ready (rs := [17]) (by kernel_rfl) (by simp) ?_
        refine EachE.cons (by rfl) (by simp only [List.getElem?_toArray]; rfl) (fun KK hKK => ?_) EachE.nil
        rw [if_pos (by kernel_rfl)]
        have hfa := qq.fap rf
        have hra := rows_apartT rf rp (by decide)
        refine wp_appF (.tmp 16) (.tmp 28) rfl B vf' xs' (by kernel_rfl) rf b6 (some ⟨b6, 0, none⟩) 1 1 [(⟨x, nx, false, 0⟩ : Fl)] (by kernel_rfl) hsn rfl (by have := hh.out.2.2.1; rw [List.length_cons] at this; omega) hB ?_
        intro v17 w3' hrf hm7 hat
        have hat7 : ∀ i, v17.ownBlock = some i → vf'.ownBlock = some i ∨ w.heap.size ≤ i := fun i hi => by
          rcases hat with h | h
          · exact .inl (by rw [← h]; exact hi)
          · rw [h] at hi
            injection hi with hi
            have := HM2.out.size
            have := hmw.size
            right
            omega
        clear hat
        replace hmw := hmw.trans hm7 (fun i hi h => h) (fun i hi h => .inr h)
        replace qq := qq.mod hm7 hfa
        replace rp := ownsP_mod rp hm7 (fun i hi h => hra i h hi)
        replace hB := Nat.le_trans hB hm7.size
        obtain ⟨N7, hN7⟩ : ∃ N7, (xs' ++ [(⟨x, nx, false, 0⟩ : Fl)]).length = N7 := ⟨_, rfl⟩
        obtain ⟨A7, c7, b7, hve, -⟩ := ownsP_sl hrf
        rw [hN7] at hve
        subst hve
        clear hfa hra hm7 rf hsn
        refine hKK.out _ _ ?_ (fun hHeld => ?_)
        · exact (by exact ⟨qq, rp⟩)
        clear hKK KK
        refine wpAnyE_take (i := 18) (by simp only [List.getElem?_toArray]; rfl) (by kernel_rfl) (by kernel_rfl) (by kernel_rfl) (by kernel_rfl) (by kernel_rfl) (by exact fun _ _ _ h => h) (by exact yk (.pointer (some ⟨g, 0, none⟩)) (by kernel_rfl) (fun _ => by kernel_rfl)) hHeld ?_
        refine wpAnyE_take (i := 19) (by simp only [List.getElem?_toArray]; rfl) (by kernel_rfl) (by kernel_rfl) (by kernel_rfl) (by kernel_rfl) (by kernel_rfl) (by exact fun _ _ _ h => h) (by exact yk (.pointer (some ⟨g, 2, none⟩)) (by kernel_rfl) (fun _ => by kernel_rfl)) hHeld ?_
        try simp only [Act.put, List.setIfInBounds_toArray, List.set_cons_zero, List.set_cons_succ]
        refine wpAnyE_ready (rs := [20]) (by kernel_rfl) (by simp) ?_
        refine EachE.last (by rfl) (by simp only [List.getElem?_toArray]; rfl) (fun KK hKK => ?_)
        rw [if_pos (by kernel_rfl)]
        refine wp_stF (.tmp 31) (.tmp 29) rfl ⟨g, 2, none⟩ A7 N7 c7 (by kernel_rfl) (by kernel_rfl) _ qq.c2 (qq.fz 2) ?_
        have hm8 := Mod.setCell w3' ⟨g, 2, none⟩ (.slice A7 N7 c7)
        have hpa := row_apart rp qq (by decide)
        have hfa := qq.fap hrf
        replace qq := qq.set2 (.slice A7 N7 c7)
        replace rp := ownsP_mod rp hm8 (fun i hi h => hpa (by rw [hi]; exact congrArg some h))
        replace hrf := ownsP_mod hrf hm8 (fun i hi h => hfa (by rw [hi]; exact congrArg some h))
        replace hmw := hmw.trans hm8 (fun i hi h => h) (fun i hi h => .inl h)
        replace hB := Nat.le_trans hB hm8.size
        obtain ⟨w4', e⟩ : ∃ w4', w4' = World.setCell w3' ⟨g, 2, none⟩ (.slice A7 N7 c7) := ⟨_, rfl⟩
        rw [← e] at qq rp hrf hmw hB ⊢
        clear e hm8 hpa hfa
        refine hKK.out _ _ ?_
        clear hKK KK
        refine wpAnyE_done (by kernel_rfl) ?_ _
        have rp3 : RowP 96 w4' B (.slice (some ⟨b1, 0, none⟩) (n1 + 1) k1) (x :: ws2) := by
          unfold RowP
          rw [show (x :: ws2).length = n1 + 1 by rw [hn1]; rfl]
          exact rp
        have hpa := row_apart rp qq (by decide)
        have hra := rows_apartT hrf rp (by decide)
        have c1 := qq.c1
        have hlen : ws2.length ≤ 1000000 := by have := hh.out.2.2.1; rw [List.length_cons] at this; omega
        have HN := Lib.hid hn1
        clear hn1 hb1 hk1 e1
        go_wp2_with fail
        refine (Delete_calls B (.slice (some ⟨b1, 0, none⟩) (n1 + 1) k1) x ws2 _ rp3 hlen).mono ?_
        rintro e w4 ⟨v4, rfl, hr4, hv4, hm4⟩
        obtain ⟨A4, c4, b4, hve, -⟩ := ownsP_sl hr4
        rw [← HN.out] at hve
        subst hve
        replace qq := qq.mod hm4 hpa
        replace hrf := ownsP_mod hrf hm4 (fun i hi h => hra i hi h)
        replace hB := Nat.le_trans hB hm4.size
        have hmv := hmw.trans hm4 (S := fun i => i = g ∨ (Value.slice (some ⟨b1, 0, none⟩) (n1 + 1) k1).ownBlock = some i ∨ vf'.ownBlock = some i) (fun i hi h => h.elim .inl (fun h => .inr (.inr h))) (fun i hi h => .inr (.inl h))
        have HR4 := Lib.hid hr4
        have HV4 := Lib.hid hv4
        have HMV := Lib.hid hmv
        have HRF := Lib.hid hrf
        have HAT := Lib.hid hat7
        have HQ := Lib.hid qq
        replace c1 := qq.c1
        have fz1 := qq.fz 1
        have c3 := qq.c3
        have fz3 := qq.fz 3
        clear hr4 hv4 hmv hmw hrf hat7 qq rp rp3 hm4 hpa hra hlen
        obtain ⟨r, hr⟩ : ∃ r : Nat, r = (nx + 1) % 65536 := ⟨_, rfl⟩
        have hA := fun V => Add_calls nx 1 r V (by omega)
        have HRR := Lib.hid hr
        clear hr
        go_wp2_with fail
        refine (hA _).mono ?_
        rintro e w5 ⟨rfl, rfl⟩
        go_wp2_with fail
        go_roundg n1
        case measure =>
          have h4 := hh.out.2.2.2.1
          rw [List.length_cons, ← HN.out] at h4
          omega
        case rel =>
          obtain ⟨g1, g2, g3, g4, g5, g6, g7⟩ := hh.out
          have hS := HS.out
          rw [List.length_cons, ← HN.out] at g3
          have hmS := (Mod.setCell w4 ⟨g, 1, none⟩ (.slice A4 n1 c4)).trans (Mod.setCell (w4.setCell ⟨g, 1, none⟩ (.slice A4 n1 c4)) ⟨g, 3, none⟩ (.int .u16 (r : Int))) (S := fun i => i = g) (fun i hi h => h) (fun i hi h => h)
          have h1 := row_apart HR4.out HQ.out (by decide)
          have h2 := row_apart HRF.out HQ.out (by decide)
          refine ⟨r, .slice A4 n1 c4, .slice A7 N7 c7, ws2, xs' ++ [⟨x, nx, false, 0⟩], ⟨(HQ.out.set1 (.slice A4 n1 c4)).set3 r, ownsP_mod HR4.out hmS (fun i hi h => h1 (by rw [hi]; exact congrArg some h)), ownsP_mod HRF.out hmS (fun i hi h => h2 (by rw [hi]; exact congrArg some h)), Nat.le_trans hB hmS.size⟩, Lib.hid ⟨?_, ?_, ?_, ?_, ?_, ?_, ?_⟩, ?_⟩
          · rw [HRR.out]; omega
          · intro y hy
            rcases List.mem_append.1 hy with hy | hy
            · exact g2 y hy
            · rw [List.mem_singleton.1 hy]; exact g1
          · rw [List.length_append, ← HN.out, List.length_singleton]; omega
          · exact HN.out.symm
          · rw [g5, startN, ← HZ.out, if_pos rfl, HRR.out]
          · exact HV4.out.trans g6
          · exact fun i hi => (HAT.out i hi).elim (g7 i) .inr
          · refine HM2.out.trans (HMV.out.trans hmS (S := fun i => i = g ∨ (Value.slice (some ⟨b1, 0, none⟩) (n1 + 1) k1).ownBlock = some i ∨ vf'.ownBlock = some i) (fun i hi h => h) (fun i hi h => .inl h)) (fun i hi h => h) (fun i hi h => ?_)
            rw [hS]
            rcases h with h | h | h
            · exact .inl h
            · exact .inr (.inl (by rw [← g6]; exact h))
            · rcases g7 i h with h | h
              · exact .inr (.inr h)
              · omega
end Go.Proofs.YtgpedkdebifooaaDoor
