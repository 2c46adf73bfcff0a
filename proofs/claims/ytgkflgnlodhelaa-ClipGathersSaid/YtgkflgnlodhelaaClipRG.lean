/- The reference's Put: as the plain basket says (the first). Conditions: what it holds is no more than a message may be, each piece is full. -/
import Derived.Test.YtgkflgnlodhelaaClipRK
namespace Go.Proofs.Ytgkflgnlodhelaa
open Go.RowKit
set_option linter.unusedVariables false

set_option maxHeartbeats 16000000 in
set_option maxRecDepth 20000 in
theorem RPut_G (B h : Nat) (v : Value) (xs : List PV) (k : Bk) (x : Pc) (A : Option Addr) (c b : Nat) (w : World) (q : RFull w B h v xs k) (hk : k.held.length ≤ 1024) (hs : Bs w b A x.data) (hx : x.data.length ≤ maxLen) (hB : B ≤ w.heap.size) (hbh : b ≠ h) (hbv : v.ownBlock ≠ some b) (hbl : b < w.heap.size) (hc1 : k.leaving = false) (hc2 : x.first = true) :
    Calls Try.prog 21 #[.pointer (some ⟨h, 0, none⟩), .agg #[.bool x.first, .bool x.last, .slice A x.data.length c]] w fun e w' => ∃ v2 xs2 vo, e = .returned (.tuple #[vo, .bool (putB k x).2.2.1, .int .i64 (putB k x).2.2.2]) ∧ RFull w' B h v2 xs2 (putB k x).1 ∧ Row w' w.heap.size vo (putB k x).2.1 ∧ Mod (fun i => i = h ∨ v.ownBlock = some i) w w' ∧ (∀ z ∈ xs2, z ∈ xs ∨ z.b = b) := by
  obtain ⟨Av, cv, bv', hv, -, -, -, -, -, -⟩ := ownsP_sl q.rin.row
  have hdl := dataOf_len xs q.full
  have hpos : decide (0 < k.held.length) = decide (0 < xs.length) := by rw [← q.held, hdl, Bool.eq_iff_iff]; simp
  have hn16 : xs.length ≤ 16 := by rw [q.held] at hdl; omega
  obtain ⟨s, hss⟩ : ∃ s, s = x.data.length := ⟨_, rfl⟩
  obtain ⟨n, hnn⟩ : ∃ n, n = xs.length := ⟨_, rfl⟩
  obtain ⟨fi, hfi⟩ : ∃ fi, fi = x.first := ⟨_, rfl⟩
  obtain ⟨la, hla⟩ : ∃ la, la = x.last := ⟨_, rfl⟩
  obtain ⟨sk, hsk⟩ : ∃ sk, sk = k.leaving := ⟨_, rfl⟩
  have hR : refuseN k x = if fi = decide (0 < n) then 2 else if 64 < s then 2 else if la = false ∧ s < 64 then 2 else if 1024 < k.held.length + s then 4 else 0 := by
    unfold refuseN; rw [hpos, hss, hfi, hla, hnn]
  rw [← hss] at hx
  rw [← hss, ← hfi, ← hla]
  have hb := below_alloc1 w (.cells #[.bool fi, .bool la, .slice A s c] 39)
  have qp := heap_alloc_new w (.cells #[.bool fi, .bool la, .slice A s c] 39)
  have q1 := q.ext hb
  have hsx := Sl.ext hs hb
  have d0 := (cell_of_row _ _ 0 _ _ _ qp).trans (show _ = some (.bool fi) from rfl)
  have d1 := (cell_of_row _ _ 1 _ _ _ qp).trans (show _ = some (.bool la) from rfl)
  have d2 := (cell_of_row _ _ 2 _ _ _ qp).trans (show _ = some (.slice A s c) from rfl)
  have k0 := q1.rin.box.c0
  have k1 := q1.rin.box.c1
  have f0 := q1.rin.box.fz 0
  have f1 := q1.rin.box.fz 1
  have hhl := q.rin.box.lt
  have hhne : ¬ h = w.heap.size := by omega
  have hhne2 : ¬ w.heap.size = h := by omega
  rw [hv, ← hnn] at k0
  rw [← hsk] at k1
  unfold maxLen at hx
  have Q1 := Lib.hid q1
  have QP := Lib.hid qp
  have HS := Lib.hid hsx
  have HV := Lib.hid hv
  have HN := Lib.hid hnn
  have HSS := Lib.hid hss
  have HFI := Lib.hid hfi
  have HLA := Lib.hid hla
  have HLS := Lib.hid hla
  have HSK := Lib.hid hsk
  have HB := Lib.hid hB
  have HVH : Hid (∀ i, v.ownBlock = some i → i ≠ h ∧ i < w.heap.size) := Lib.hid (fun i hi => ⟨fun e => box_apart q.rin.box q.rin.row (by rw [hi, e]), (World.ownsRow.lt q.rin.row i hi).2⟩)
  have HR := Lib.hid hR
  have HAW := Lib.hid (And.intro hbh (And.intro hbv (And.intro hbl hk)))
  have HHL := Lib.hid hhl
  have hn16' : n ≤ 16 := by rw [hnn]; exact hn16
  clear q1 qp hsx hv hnn hss hfi hla hsk hB hR hbh hbv hbl hk q hs hhl hdl hpos hn16
  obtain rfl : sk = false := HSK.out.trans hc1
  obtain rfl : fi = true := HFI.out.trans hc2
  clear hc1 hc2
  by_cases hn0 : n = 0
  · have hn0' : ¬ 0 < (n : Int) := by omega
    have HN0 := Lib.hid hn0
    clear hn0
    by_cases h1 : 64 < s
    · have h1' : 64 < (s : Int) := by omega
      have hr2 : refuseN k x = 2 := by rw [HR.out]; rw [if_neg (by have := HN0.out; simp; omega), if_pos h1]
      have e1 := putB_bad (k := k) (x := x) (by rw [← HSK.out, ← HFI.out]; simp) (by rw [hr2]; decide)
      rw [e1, hr2]
      go_enter Try.func21, Try.ntmps21
      go_wp2_with fail
      go_ret3
      exact ⟨_, [], _, rfl, ⟨⟨(Q1.out.rin.box.set0 _).set1 _, World.ownsRow_nil _ _ _ _, by simp⟩, by simp, rfl, by simp, fun _ => rfl⟩, Row.nil_ _ _, ((Mod.of_below hb).trans ((Mod.setCell _ ⟨h, 0, none⟩ _).trans (Mod.setCell _ ⟨h, 1, none⟩ _) (fun i _ h => h) (fun i _ h => h)) (fun i hi h => by omega) (fun i _ h => .inl h)), by simp⟩
    · have h1' : ¬ 64 < (s : Int) := by omega
      cases la
      · by_cases h2 : s < 64
        · have h2' : (s : Int) < 64 := by omega
          have hr2 : refuseN k x = 2 := by rw [HR.out]; rw [if_neg (by have := HN0.out; simp; omega), if_neg h1, if_pos ⟨rfl, h2⟩]
          have e1 := putB_bad (k := k) (x := x) (by rw [← HSK.out, ← HFI.out]; simp) (by rw [hr2]; decide)
          rw [e1, hr2]
          go_enter Try.func21, Try.ntmps21
          go_wp2_with fail
          go_ret3
          exact ⟨_, [], _, rfl, ⟨⟨(Q1.out.rin.box.set0 _).set1 _, World.ownsRow_nil _ _ _ _, by simp⟩, by simp, rfl, by simp, fun _ => rfl⟩, Row.nil_ _ _, ((Mod.of_below hb).trans ((Mod.setCell _ ⟨h, 0, none⟩ _).trans (Mod.setCell _ ⟨h, 1, none⟩ _) (fun i _ h => h) (fun i _ h => h)) (fun i hi h => by omega) (fun i _ h => .inl h)), by simp⟩
        · have h2' : ¬ (s : Int) < 64 := by omega
          obtain ⟨hd, hhd⟩ : ∃ hd, hd = k.held.length := ⟨_, rfl⟩
          have hdk : hd ≤ 1024 := by rw [hhd]; exact HAW.out.2.2.2
          have e65 := IntWalk.i64_in ((hd : Int) + (s : Int)) (by omega)
          have HHD := Lib.hid hhd
          clear hhd
          by_cases h3 : 1024 < hd + s
          · have h3' : 1024 < (hd : Int) + (s : Int) := by omega
            have hr2 : refuseN k x = 4 := by rw [HR.out, if_neg (by have := HN0.out; simp; omega), if_neg h1, if_neg (by rintro ⟨_, h⟩; exact h2 h), ← HHD.out, if_pos h3]
            have e1 := putB_bad (k := k) (x := x) (by rw [← HSK.out, ← HFI.out]; simp) (by rw [hr2]; decide)
            rw [e1, hr2]
            go_enter Try.func21, Try.ntmps21
            go_wp2_with fail
            have hHeld := RHeld_calls B h v xs k.leaving ((w.alloc (.cells #[.bool true, .bool false, .slice A s c] 39)).drew) ⟨Q1.out.rin.box, Q1.out.rin.row, Q1.out.rin.ins⟩ (by rw [Q1.out.held]; have := HAW.out.2.2.2; omega) (by rw [← HN.out]; omega)
            go_region_with (go_at_call 22; refine hHeld.mono ?_; rintro e w2 ⟨vo, rfl, hro, h2⟩; (obtain ⟨Ao, co, bo, rfl, -, -, -, -, -, -⟩ := hro.sl); (rw [Q1.out.held, ← HHD.out]); (have q2 := Q1.out.ext (w' := w2) ⟨h2.os, h2.tape, h2.output, h2.size, h2.block⟩); (have h2' : Below (w.alloc (.cells #[.bool true, .bool false, .slice A s c] 39)).heap.size (w.alloc (.cells #[.bool true, .bool false, .slice A s c] 39)) w2 := ⟨h2.os, h2.tape, h2.output, h2.size, h2.block⟩); (have qp2 := (h2'.block _ (by simp)).trans QP.out); (have m0 := (cell_of_row _ _ 0 _ _ _ qp2).trans (show _ = some (.bool true) from rfl)); (have m1 := (cell_of_row _ _ 1 _ _ _ qp2).trans (show _ = some (.bool false) from rfl)); (have m2 := (cell_of_row _ _ 2 _ _ _ qp2).trans (show _ = some (.slice A s c) from rfl)); (have n0 := q2.rin.box.c0); (rw [HV.out, ← HN.out] at n0); (have n1 := q2.rin.box.c1); (have g0 := q2.rin.box.fz 0); (have g1 := q2.rin.box.fz 1); (have Q2 := Lib.hid q2); (have QP2 := Lib.hid qp2); (have H2 := Lib.hid h2'); clear q2 qp2 hro h2 h2')
            all_goals (
              go_wp2_with fail
              go_ret3
              exact ⟨_, [], _, rfl, ⟨⟨(Q2.out.rin.box.set0 _).set1 _, World.ownsRow_nil _ _ _ _, by simp⟩, by simp, rfl, by simp, fun _ => rfl⟩, Row.nil_ _ _, (((Mod.of_below hb).trans (Mod.of_below H2.out) (S := fun i => w.heap.size ≤ i) (fun i _ h => h) (fun i hi h => by simp at h; omega)).trans ((Mod.setCell _ ⟨h, 0, none⟩ _).trans (Mod.setCell _ ⟨h, 1, none⟩ _) (fun i _ h => h) (fun i _ h => h)) (fun i hi h => by omega) (fun i _ h => .inl h)), by simp⟩)
          · have h3' : ¬ 1024 < (hd : Int) + (s : Int) := by omega
            have hr2 : refuseN k x = 0 := by rw [HR.out, if_neg (by have := HN0.out; simp; omega), if_neg h1, if_neg (by rintro ⟨_, h⟩; exact h2 h), ← HHD.out, if_neg h3]
            have e1 := putB_more (k := k) (x := x) (by rw [← HSK.out, ← HFI.out]; simp) hr2 HLA.out.symm
            rw [e1]
            go_enter Try.func21, Try.ntmps21
            go_wp2_with fail
            have hHeld := RHeld_calls B h v xs k.leaving ((w.alloc (.cells #[.bool true, .bool false, .slice A s c] 39)).drew) ⟨Q1.out.rin.box, Q1.out.rin.row, Q1.out.rin.ins⟩ (by rw [Q1.out.held]; have := HAW.out.2.2.2; omega) (by rw [← HN.out]; omega)
            go_region_with (go_at_call 22; refine hHeld.mono ?_; rintro e w2 ⟨vo, rfl, hro, h2⟩; (obtain ⟨Ao, co, bo, rfl, -, -, -, -, -, -⟩ := hro.sl); (rw [Q1.out.held, ← HHD.out]); (have q2 := Q1.out.ext (w' := w2) ⟨h2.os, h2.tape, h2.output, h2.size, h2.block⟩); (have h2' : Below (w.alloc (.cells #[.bool true, .bool false, .slice A s c] 39)).heap.size (w.alloc (.cells #[.bool true, .bool false, .slice A s c] 39)) w2 := ⟨h2.os, h2.tape, h2.output, h2.size, h2.block⟩); (have qp2 := (h2'.block _ (by simp)).trans QP.out); (have m0 := (cell_of_row _ _ 0 _ _ _ qp2).trans (show _ = some (.bool true) from rfl)); (have m1 := (cell_of_row _ _ 1 _ _ _ qp2).trans (show _ = some (.bool false) from rfl)); (have m2 := (cell_of_row _ _ 2 _ _ _ qp2).trans (show _ = some (.slice A s c) from rfl)); (have n0 := q2.rin.box.c0); (rw [HV.out, ← HN.out] at n0); (have n1 := q2.rin.box.c1); (have g0 := q2.rin.box.fz 0); (have g1 := q2.rin.box.fz 1); (have Q2 := Lib.hid q2); (have QP2 := Lib.hid qp2); (have H2 := Lib.hid h2'); clear q2 qp2 hro h2 h2')
            all_goals (
              have n0a := cell_alloc (o := .cells #[.bool true, .bool false, .slice A s c] 39) n0
              go_wp2_with fail
              go_region_law (refine step_appP w2.drew rfl (.tmp 81) (.tmp 83) rfl B v n xs (by rw [HV.out, ← HN.out, HN0.out]; rfl) HN.out.symm (ownsP_mod Q2.out.rin.row (Mod.drew (fun _ => False) _) (fun _ _ h => h)) ⟨⟨true, false, x.data⟩, A, c, b⟩ (by rw [HSS.out]) _ rfl rfl (by omega) (by have := HB.out; have := H2.out.size; simp at this; simp; omega) ?_; intro v3 w3 hrow3 hmod3 hat3; (have hl3 : (xs ++ [(⟨⟨true, false, x.data⟩, A, c, b⟩ : PV)]).length = n + 1 := by rw [List.length_append, ← HN.out]; rfl); (unfold RowP at hrow3); (rw [hl3] at hrow3); (obtain ⟨g3, cap3, rfl, -, -, -, -, -, -, -⟩ := own_setz hrow3 (by omega)); (have hvh : ∀ i, v.ownBlock = some i → i ≠ h ∧ i < w.heap.size := HVH.out); (have q3 : BoxR w3 h v k.leaving := Q2.out.rin.box.mod (S := fun i => v.ownBlock = some i) ⟨hmod3.os, hmod3.tape, hmod3.output, hmod3.size, hmod3.block⟩ (fun e => (hvh h e).1 rfl)); (have p3 := (hmod3.block w.heap.size (by have := H2.out.size; simp at this; simp; omega) (fun e => by have := (hvh _ e).2; omega)).trans QP2.out); (have r0 := q3.c0); (have r1 := q3.c1); (have s0 := q3.fz 0); (have s1 := q3.fz 1); (have t1 := (cell_of_row _ _ 1 _ _ _ p3).trans (show _ = some (.bool false) from rfl)); (have Q3 := Lib.hid q3); (have ROW3 := Lib.hid hrow3); (have MOD3 := Lib.hid hmod3); (have HAT3 := Lib.hid hat3); clear q3 p3 hrow3 hmod3 hat3 hvh)
              all_goals (
                have hn0z := HN0.out
                subst hn0z
                simp only [Nat.zero_add] at ROW3 HAT3
                have hsB := Sl.ext HS.out H2.out
                have hm2w : Mod (fun i => w.heap.size ≤ i) w w2 := (Mod.of_below hb).trans (Mod.of_below H2.out) (S := fun i => w.heap.size ≤ i) (fun i _ e => e) (fun i hi e => by simp at e; omega)
                have hm3w : Mod (fun i => i = h ∨ v.ownBlock = some i) w ((w3.setCell ⟨h, 0, none⟩ (.slice (some ⟨g3, 0, none⟩) 1 cap3)).setCell ⟨h, 1, none⟩ (.bool false)) := (hm2w.trans (⟨MOD3.out.os, MOD3.out.tape, MOD3.out.output, MOD3.out.size, MOD3.out.block⟩ : Mod (fun i => v.ownBlock = some i) w2 w3) (S := fun i => v.ownBlock = some i) (fun i hi e => by omega) (fun i _ e => e)).trans ((Mod.setCell w3 ⟨h, 0, none⟩ _).trans (Mod.setCell _ ⟨h, 1, none⟩ _) (S := fun i => i = h) (fun i _ e => e) (fun i _ e => e)) (fun i _ e => .inr e) (fun i _ e => .inl e)
                have hl3 := (refuse_ok hr2).2.2 HLS.out.symm
                have hfin := RFull.more (n := 0) Q2.out Q3.out ROW3.out HN.out MOD3.out HAT3.out hsB hl3 HAW.out.1 HAW.out.2.1
                simp only [Nat.zero_add] at hfin
                have HRFU := Lib.hid hfin
                clear hfin hl3 hsB
                go_wp2_with fail
                go_ret3
                refine ⟨_, _, _, rfl, HRFU.out, Row.nil_ _ _, hm3w, fun z hz => ?_⟩
                rw [List.mem_append] at hz
                rcases hz with hz | hz
                · exact .inl hz
                · simp only [List.mem_singleton] at hz
                  subst hz
                  exact .inr rfl))
      · by_cases h2 : s < 64
        · have h2' : (s : Int) < 64 := by omega
          obtain ⟨hd, hhd⟩ : ∃ hd, hd = k.held.length := ⟨_, rfl⟩
          have hdk : hd ≤ 1024 := by rw [hhd]; exact HAW.out.2.2.2
          have e65 := IntWalk.i64_in ((hd : Int) + (s : Int)) (by omega)
          have HHD := Lib.hid hhd
          clear hhd
          by_cases h3 : 1024 < hd + s
          · have h3' : 1024 < (hd : Int) + (s : Int) := by omega
            have hr2 : refuseN k x = 4 := by rw [HR.out, if_neg (by have := HN0.out; simp; omega), if_neg h1, if_neg (by rintro ⟨h, _⟩; cases h), ← HHD.out, if_pos h3]
            have e1 := putB_bad (k := k) (x := x) (by rw [← HSK.out, ← HFI.out]; simp) (by rw [hr2]; decide)
            rw [e1, hr2]
            go_enter Try.func21, Try.ntmps21
            go_wp2_with fail
            have hHeld := RHeld_calls B h v xs k.leaving ((w.alloc (.cells #[.bool true, .bool true, .slice A s c] 39)).drew) ⟨Q1.out.rin.box, Q1.out.rin.row, Q1.out.rin.ins⟩ (by rw [Q1.out.held]; have := HAW.out.2.2.2; omega) (by rw [← HN.out]; omega)
            go_region_with (go_at_call 22; refine hHeld.mono ?_; rintro e w2 ⟨vo, rfl, hro, h2⟩; (obtain ⟨Ao, co, bo, rfl, -, -, -, -, -, -⟩ := hro.sl); (rw [Q1.out.held, ← HHD.out]); (have q2 := Q1.out.ext (w' := w2) ⟨h2.os, h2.tape, h2.output, h2.size, h2.block⟩); (have h2' : Below (w.alloc (.cells #[.bool true, .bool true, .slice A s c] 39)).heap.size (w.alloc (.cells #[.bool true, .bool true, .slice A s c] 39)) w2 := ⟨h2.os, h2.tape, h2.output, h2.size, h2.block⟩); (have qp2 := (h2'.block _ (by simp)).trans QP.out); (have m0 := (cell_of_row _ _ 0 _ _ _ qp2).trans (show _ = some (.bool true) from rfl)); (have m1 := (cell_of_row _ _ 1 _ _ _ qp2).trans (show _ = some (.bool true) from rfl)); (have m2 := (cell_of_row _ _ 2 _ _ _ qp2).trans (show _ = some (.slice A s c) from rfl)); (have n0 := q2.rin.box.c0); (rw [HV.out, ← HN.out] at n0); (have n1 := q2.rin.box.c1); (have g0 := q2.rin.box.fz 0); (have g1 := q2.rin.box.fz 1); (have Q2 := Lib.hid q2); (have QP2 := Lib.hid qp2); (have H2 := Lib.hid h2'); clear q2 qp2 hro h2 h2')
            all_goals (
              go_wp2_with fail
              go_ret3
              exact ⟨_, [], _, rfl, ⟨⟨(Q2.out.rin.box.set0 _).set1 _, World.ownsRow_nil _ _ _ _, by simp⟩, by simp, rfl, by simp, fun _ => rfl⟩, Row.nil_ _ _, (((Mod.of_below hb).trans (Mod.of_below H2.out) (S := fun i => w.heap.size ≤ i) (fun i _ h => h) (fun i hi h => by simp at h; omega)).trans ((Mod.setCell _ ⟨h, 0, none⟩ _).trans (Mod.setCell _ ⟨h, 1, none⟩ _) (fun i _ h => h) (fun i _ h => h)) (fun i hi h => by omega) (fun i _ h => .inl h)), by simp⟩)
          · have h3' : ¬ 1024 < (hd : Int) + (s : Int) := by omega
            have hr2 : refuseN k x = 0 := by rw [HR.out, if_neg (by have := HN0.out; simp; omega), if_neg h1, if_neg (by rintro ⟨h, _⟩; cases h), ← HHD.out, if_neg h3]
            have e1 := putB_last (k := k) (x := x) (by rw [← HSK.out, ← HFI.out]; simp) hr2 HLA.out.symm
            rw [e1]
            go_enter Try.func21, Try.ntmps21
            go_wp2_with fail
            have hHeld := RHeld_calls B h v xs k.leaving ((w.alloc (.cells #[.bool true, .bool true, .slice A s c] 39)).drew) ⟨Q1.out.rin.box, Q1.out.rin.row, Q1.out.rin.ins⟩ (by rw [Q1.out.held]; have := HAW.out.2.2.2; omega) (by rw [← HN.out]; omega)
            go_region_with (go_at_call 22; refine hHeld.mono ?_; rintro e w2 ⟨vo, rfl, hro, h2⟩; (obtain ⟨Ao, co, bo, rfl, -, -, -, -, -, -⟩ := hro.sl); (rw [Q1.out.held, ← HHD.out]); (have q2 := Q1.out.ext (w' := w2) ⟨h2.os, h2.tape, h2.output, h2.size, h2.block⟩); (have h2' : Below (w.alloc (.cells #[.bool true, .bool true, .slice A s c] 39)).heap.size (w.alloc (.cells #[.bool true, .bool true, .slice A s c] 39)) w2 := ⟨h2.os, h2.tape, h2.output, h2.size, h2.block⟩); (have qp2 := (h2'.block _ (by simp)).trans QP.out); (have m0 := (cell_of_row _ _ 0 _ _ _ qp2).trans (show _ = some (.bool true) from rfl)); (have m1 := (cell_of_row _ _ 1 _ _ _ qp2).trans (show _ = some (.bool true) from rfl)); (have m2 := (cell_of_row _ _ 2 _ _ _ qp2).trans (show _ = some (.slice A s c) from rfl)); (have n0 := q2.rin.box.c0); (rw [HV.out, ← HN.out] at n0); (have n1 := q2.rin.box.c1); (have g0 := q2.rin.box.fz 0); (have g1 := q2.rin.box.fz 1); (have Q2 := Lib.hid q2); (have QP2 := Lib.hid qp2); (have H2 := Lib.hid h2'); clear q2 qp2 hro h2 h2')
            all_goals (
              have n0a := cell_alloc (o := .cells #[.bool true, .bool true, .slice A s c] 39) n0
              go_wp2_with fail
              go_region_law (refine step_appP w2.drew rfl (.tmp 81) (.tmp 83) rfl B v n xs (by rw [HV.out, ← HN.out, HN0.out]; rfl) HN.out.symm (ownsP_mod Q2.out.rin.row (Mod.drew (fun _ => False) _) (fun _ _ h => h)) ⟨⟨true, true, x.data⟩, A, c, b⟩ (by rw [HSS.out]) _ rfl rfl (by omega) (by have := HB.out; have := H2.out.size; simp at this; simp; omega) ?_; intro v3 w3 hrow3 hmod3 hat3; (have hl3 : (xs ++ [(⟨⟨true, true, x.data⟩, A, c, b⟩ : PV)]).length = n + 1 := by rw [List.length_append, ← HN.out]; rfl); (unfold RowP at hrow3); (rw [hl3] at hrow3); (obtain ⟨g3, cap3, rfl, -, -, -, -, -, -, -⟩ := own_setz hrow3 (by omega)); (have hvh : ∀ i, v.ownBlock = some i → i ≠ h ∧ i < w.heap.size := HVH.out); (have q3 : BoxR w3 h v k.leaving := Q2.out.rin.box.mod (S := fun i => v.ownBlock = some i) ⟨hmod3.os, hmod3.tape, hmod3.output, hmod3.size, hmod3.block⟩ (fun e => (hvh h e).1 rfl)); (have p3 := (hmod3.block w.heap.size (by have := H2.out.size; simp at this; simp; omega) (fun e => by have := (hvh _ e).2; omega)).trans QP2.out); (have r0 := q3.c0); (have r1 := q3.c1); (have s0 := q3.fz 0); (have s1 := q3.fz 1); (have t1 := (cell_of_row _ _ 1 _ _ _ p3).trans (show _ = some (.bool true) from rfl)); (have Q3 := Lib.hid q3); (have ROW3 := Lib.hid hrow3); (have MOD3 := Lib.hid hmod3); (have HAT3 := Lib.hid hat3); clear q3 p3 hrow3 hmod3 hat3 hvh)
              all_goals (
                have hn0z := HN0.out
                subst hn0z
                simp only [Nat.zero_add] at ROW3 HAT3
                have hsB := Sl.ext HS.out H2.out
                have hm2w : Mod (fun i => w.heap.size ≤ i) w w2 := (Mod.of_below hb).trans (Mod.of_below H2.out) (S := fun i => w.heap.size ≤ i) (fun i _ e => e) (fun i hi e => by simp at e; omega)
                have hm3w : Mod (fun i => i = h ∨ v.ownBlock = some i) w ((w3.setCell ⟨h, 0, none⟩ (.slice (some ⟨g3, 0, none⟩) 1 cap3)).setCell ⟨h, 1, none⟩ (.bool false)) := (hm2w.trans (⟨MOD3.out.os, MOD3.out.tape, MOD3.out.output, MOD3.out.size, MOD3.out.block⟩ : Mod (fun i => v.ownBlock = some i) w2 w3) (S := fun i => v.ownBlock = some i) (fun i hi e => by omega) (fun i _ e => e)).trans ((Mod.setCell w3 ⟨h, 0, none⟩ _).trans (Mod.setCell _ ⟨h, 1, none⟩ _) (S := fun i => i = h) (fun i _ e => e) (fun i _ e => e)) (fun i _ e => .inr e) (fun i _ e => .inl e)
                have hrin := RIn.more (n := 0) Q2.out Q3.out ROW3.out HN.out MOD3.out hsB (by have := (refuse_ok hr2).1; simp only [maxLen]; omega) HAW.out.1 HAW.out.2.1
                simp only [Nat.zero_add] at hrin
                have hdd : dataOf (xs ++ [(⟨⟨true, true, x.data⟩, A, c, b⟩ : PV)]) = k.held ++ x.data := by rw [dataOf_snoc, Q2.out.held]
                have hHeld2 := RHeld_calls B h _ _ false _ hrin (by rw [hdd, List.length_append]; have := (refuse_ok hr2).2.1; omega) (by rw [List.length_append, ← HN.out]; simp <;> omega)
                rw [hdd] at hHeld2
                have HRIN := Lib.hid hrin
                clear hrin hsB hdd
                go_wp2_with fail
                refine hHeld2.mono ?_
                rintro e w5 ⟨vo5, rfl, hro5, h5⟩
                have q5 := HRIN.out.box.ext h5
                have y0 := q5.c0
                have y1 := q5.fz 0
                have Q5 := Lib.hid q5
                have hw5 := hm3w.size
                have hro6 := (hro5.mod (Mod.setCell w5 ⟨h, 0, none⟩ (.slice none 0 0)) (fun i hi e => by have h1 := (Row.lt hro5 i hi).1; have h2 := HHL.out; have h3 : i = h := e; omega)).low hw5
                clear q5 hHeld2
                go_wp2_with fail
                go_ret3
                exact ⟨_, [], _, rfl, ⟨⟨Q5.out.set0 _, World.ownsRow_nil _ _ _ _, by simp⟩, by simp, rfl, by simp, fun _ => rfl⟩, hro6, (hm3w.trans (Mod.of_below h5) (S := fun i => i = h ∨ v.ownBlock = some i) (fun i _ e => e) (fun i hi e => by omega)).trans (Mod.setCell w5 ⟨h, 0, none⟩ _) (fun i _ e => e) (fun i _ e => .inl e), by simp⟩))
        · have h2' : ¬ (s : Int) < 64 := by omega
          obtain ⟨hd, hhd⟩ : ∃ hd, hd = k.held.length := ⟨_, rfl⟩
          have hdk : hd ≤ 1024 := by rw [hhd]; exact HAW.out.2.2.2
          have e65 := IntWalk.i64_in ((hd : Int) + (s : Int)) (by omega)
          have HHD := Lib.hid hhd
          clear hhd
          by_cases h3 : 1024 < hd + s
          · have h3' : 1024 < (hd : Int) + (s : Int) := by omega
            have hr2 : refuseN k x = 4 := by rw [HR.out, if_neg (by have := HN0.out; simp; omega), if_neg h1, if_neg (by rintro ⟨h, _⟩; cases h), ← HHD.out, if_pos h3]
            have e1 := putB_bad (k := k) (x := x) (by rw [← HSK.out, ← HFI.out]; simp) (by rw [hr2]; decide)
            rw [e1, hr2]
            go_enter Try.func21, Try.ntmps21
            go_wp2_with fail
            have hHeld := RHeld_calls B h v xs k.leaving ((w.alloc (.cells #[.bool true, .bool true, .slice A s c] 39)).drew) ⟨Q1.out.rin.box, Q1.out.rin.row, Q1.out.rin.ins⟩ (by rw [Q1.out.held]; have := HAW.out.2.2.2; omega) (by rw [← HN.out]; omega)
            go_region_with (go_at_call 22; refine hHeld.mono ?_; rintro e w2 ⟨vo, rfl, hro, h2⟩; (obtain ⟨Ao, co, bo, rfl, -, -, -, -, -, -⟩ := hro.sl); (rw [Q1.out.held, ← HHD.out]); (have q2 := Q1.out.ext (w' := w2) ⟨h2.os, h2.tape, h2.output, h2.size, h2.block⟩); (have h2' : Below (w.alloc (.cells #[.bool true, .bool true, .slice A s c] 39)).heap.size (w.alloc (.cells #[.bool true, .bool true, .slice A s c] 39)) w2 := ⟨h2.os, h2.tape, h2.output, h2.size, h2.block⟩); (have qp2 := (h2'.block _ (by simp)).trans QP.out); (have m0 := (cell_of_row _ _ 0 _ _ _ qp2).trans (show _ = some (.bool true) from rfl)); (have m1 := (cell_of_row _ _ 1 _ _ _ qp2).trans (show _ = some (.bool true) from rfl)); (have m2 := (cell_of_row _ _ 2 _ _ _ qp2).trans (show _ = some (.slice A s c) from rfl)); (have n0 := q2.rin.box.c0); (rw [HV.out, ← HN.out] at n0); (have n1 := q2.rin.box.c1); (have g0 := q2.rin.box.fz 0); (have g1 := q2.rin.box.fz 1); (have Q2 := Lib.hid q2); (have QP2 := Lib.hid qp2); (have H2 := Lib.hid h2'); clear q2 qp2 hro h2 h2')
            all_goals (
              go_wp2_with fail
              go_ret3
              exact ⟨_, [], _, rfl, ⟨⟨(Q2.out.rin.box.set0 _).set1 _, World.ownsRow_nil _ _ _ _, by simp⟩, by simp, rfl, by simp, fun _ => rfl⟩, Row.nil_ _ _, (((Mod.of_below hb).trans (Mod.of_below H2.out) (S := fun i => w.heap.size ≤ i) (fun i _ h => h) (fun i hi h => by simp at h; omega)).trans ((Mod.setCell _ ⟨h, 0, none⟩ _).trans (Mod.setCell _ ⟨h, 1, none⟩ _) (fun i _ h => h) (fun i _ h => h)) (fun i hi h => by omega) (fun i _ h => .inl h)), by simp⟩)
          · have h3' : ¬ 1024 < (hd : Int) + (s : Int) := by omega
            have hr2 : refuseN k x = 0 := by rw [HR.out, if_neg (by have := HN0.out; simp; omega), if_neg h1, if_neg (by rintro ⟨h, _⟩; cases h), ← HHD.out, if_neg h3]
            have e1 := putB_last (k := k) (x := x) (by rw [← HSK.out, ← HFI.out]; simp) hr2 HLA.out.symm
            rw [e1]
            go_enter Try.func21, Try.ntmps21
            go_wp2_with fail
            have hHeld := RHeld_calls B h v xs k.leaving ((w.alloc (.cells #[.bool true, .bool true, .slice A s c] 39)).drew) ⟨Q1.out.rin.box, Q1.out.rin.row, Q1.out.rin.ins⟩ (by rw [Q1.out.held]; have := HAW.out.2.2.2; omega) (by rw [← HN.out]; omega)
            go_region_with (go_at_call 22; refine hHeld.mono ?_; rintro e w2 ⟨vo, rfl, hro, h2⟩; (obtain ⟨Ao, co, bo, rfl, -, -, -, -, -, -⟩ := hro.sl); (rw [Q1.out.held, ← HHD.out]); (have q2 := Q1.out.ext (w' := w2) ⟨h2.os, h2.tape, h2.output, h2.size, h2.block⟩); (have h2' : Below (w.alloc (.cells #[.bool true, .bool true, .slice A s c] 39)).heap.size (w.alloc (.cells #[.bool true, .bool true, .slice A s c] 39)) w2 := ⟨h2.os, h2.tape, h2.output, h2.size, h2.block⟩); (have qp2 := (h2'.block _ (by simp)).trans QP.out); (have m0 := (cell_of_row _ _ 0 _ _ _ qp2).trans (show _ = some (.bool true) from rfl)); (have m1 := (cell_of_row _ _ 1 _ _ _ qp2).trans (show _ = some (.bool true) from rfl)); (have m2 := (cell_of_row _ _ 2 _ _ _ qp2).trans (show _ = some (.slice A s c) from rfl)); (have n0 := q2.rin.box.c0); (rw [HV.out, ← HN.out] at n0); (have n1 := q2.rin.box.c1); (have g0 := q2.rin.box.fz 0); (have g1 := q2.rin.box.fz 1); (have Q2 := Lib.hid q2); (have QP2 := Lib.hid qp2); (have H2 := Lib.hid h2'); clear q2 qp2 hro h2 h2')
            all_goals (
              have n0a := cell_alloc (o := .cells #[.bool true, .bool true, .slice A s c] 39) n0
              go_wp2_with fail
              go_region_law (refine step_appP w2.drew rfl (.tmp 81) (.tmp 83) rfl B v n xs (by rw [HV.out, ← HN.out, HN0.out]; rfl) HN.out.symm (ownsP_mod Q2.out.rin.row (Mod.drew (fun _ => False) _) (fun _ _ h => h)) ⟨⟨true, true, x.data⟩, A, c, b⟩ (by rw [HSS.out]) _ rfl rfl (by omega) (by have := HB.out; have := H2.out.size; simp at this; simp; omega) ?_; intro v3 w3 hrow3 hmod3 hat3; (have hl3 : (xs ++ [(⟨⟨true, true, x.data⟩, A, c, b⟩ : PV)]).length = n + 1 := by rw [List.length_append, ← HN.out]; rfl); (unfold RowP at hrow3); (rw [hl3] at hrow3); (obtain ⟨g3, cap3, rfl, -, -, -, -, -, -, -⟩ := own_setz hrow3 (by omega)); (have hvh : ∀ i, v.ownBlock = some i → i ≠ h ∧ i < w.heap.size := HVH.out); (have q3 : BoxR w3 h v k.leaving := Q2.out.rin.box.mod (S := fun i => v.ownBlock = some i) ⟨hmod3.os, hmod3.tape, hmod3.output, hmod3.size, hmod3.block⟩ (fun e => (hvh h e).1 rfl)); (have p3 := (hmod3.block w.heap.size (by have := H2.out.size; simp at this; simp; omega) (fun e => by have := (hvh _ e).2; omega)).trans QP2.out); (have r0 := q3.c0); (have r1 := q3.c1); (have s0 := q3.fz 0); (have s1 := q3.fz 1); (have t1 := (cell_of_row _ _ 1 _ _ _ p3).trans (show _ = some (.bool true) from rfl)); (have Q3 := Lib.hid q3); (have ROW3 := Lib.hid hrow3); (have MOD3 := Lib.hid hmod3); (have HAT3 := Lib.hid hat3); clear q3 p3 hrow3 hmod3 hat3 hvh)
              all_goals (
                have hn0z := HN0.out
                subst hn0z
                simp only [Nat.zero_add] at ROW3 HAT3
                have hsB := Sl.ext HS.out H2.out
                have hm2w : Mod (fun i => w.heap.size ≤ i) w w2 := (Mod.of_below hb).trans (Mod.of_below H2.out) (S := fun i => w.heap.size ≤ i) (fun i _ e => e) (fun i hi e => by simp at e; omega)
                have hm3w : Mod (fun i => i = h ∨ v.ownBlock = some i) w ((w3.setCell ⟨h, 0, none⟩ (.slice (some ⟨g3, 0, none⟩) 1 cap3)).setCell ⟨h, 1, none⟩ (.bool false)) := (hm2w.trans (⟨MOD3.out.os, MOD3.out.tape, MOD3.out.output, MOD3.out.size, MOD3.out.block⟩ : Mod (fun i => v.ownBlock = some i) w2 w3) (S := fun i => v.ownBlock = some i) (fun i hi e => by omega) (fun i _ e => e)).trans ((Mod.setCell w3 ⟨h, 0, none⟩ _).trans (Mod.setCell _ ⟨h, 1, none⟩ _) (S := fun i => i = h) (fun i _ e => e) (fun i _ e => e)) (fun i _ e => .inr e) (fun i _ e => .inl e)
                have hrin := RIn.more (n := 0) Q2.out Q3.out ROW3.out HN.out MOD3.out hsB (by have := (refuse_ok hr2).1; simp only [maxLen]; omega) HAW.out.1 HAW.out.2.1
                simp only [Nat.zero_add] at hrin
                have hdd : dataOf (xs ++ [(⟨⟨true, true, x.data⟩, A, c, b⟩ : PV)]) = k.held ++ x.data := by rw [dataOf_snoc, Q2.out.held]
                have hHeld2 := RHeld_calls B h _ _ false _ hrin (by rw [hdd, List.length_append]; have := (refuse_ok hr2).2.1; omega) (by rw [List.length_append, ← HN.out]; simp <;> omega)
                rw [hdd] at hHeld2
                have HRIN := Lib.hid hrin
                clear hrin hsB hdd
                go_wp2_with fail
                refine hHeld2.mono ?_
                rintro e w5 ⟨vo5, rfl, hro5, h5⟩
                have q5 := HRIN.out.box.ext h5
                have y0 := q5.c0
                have y1 := q5.fz 0
                have Q5 := Lib.hid q5
                have hw5 := hm3w.size
                have hro6 := (hro5.mod (Mod.setCell w5 ⟨h, 0, none⟩ (.slice none 0 0)) (fun i hi e => by have h1 := (Row.lt hro5 i hi).1; have h2 := HHL.out; have h3 : i = h := e; omega)).low hw5
                clear q5 hHeld2
                go_wp2_with fail
                go_ret3
                exact ⟨_, [], _, rfl, ⟨⟨Q5.out.set0 _, World.ownsRow_nil _ _ _ _, by simp⟩, by simp, rfl, by simp, fun _ => rfl⟩, hro6, (hm3w.trans (Mod.of_below h5) (S := fun i => i = h ∨ v.ownBlock = some i) (fun i _ e => e) (fun i hi e => by omega)).trans (Mod.setCell w5 ⟨h, 0, none⟩ _) (fun i _ e => e) (fun i _ e => .inl e), by simp⟩))
  · have hnp : 0 < (n : Int) := by omega
    have hr2 : refuseN k x = 2 := by rw [HR.out]; rw [if_pos (by simp; omega)]
    have e1 := putB_bad (k := k) (x := x) (by rw [← HSK.out, ← HFI.out]; simp) (by rw [hr2]; decide)
    rw [e1, hr2]
    go_enter Try.func21, Try.ntmps21
    go_wp2_with fail
    go_ret3
    exact ⟨_, [], _, rfl, ⟨⟨(Q1.out.rin.box.set0 _).set1 _, World.ownsRow_nil _ _ _ _, by simp⟩, by simp, rfl, by simp, fun _ => rfl⟩, Row.nil_ _ _, ((Mod.of_below hb).trans ((Mod.setCell _ ⟨h, 0, none⟩ _).trans (Mod.setCell _ ⟨h, 1, none⟩ _) (fun i _ h => h) (fun i _ h => h)) (fun i hi h => by omega) (fun i _ h => .inl h)), by simp⟩
end Go.Proofs.Ytgkflgnlodhelaa
