/- Clip's Put again: besides, where what the basket holds may lie. Conditions: as for Put. -/
import Derived.Test.YtgkflgnlodhelaaClipK
namespace Go.Proofs.Ytgkflgnlodhelaa
open Go.RowKit

theorem step_app2 {ops : Array Oper} {o : Oper} {a : Act} {K : Act → World → Prop} {Q : Exit → Act → World → Prop} {E : Prop} (w : World) (hgd : o.guard = none) (s x : Operand)
    (ho : o.op = .call { callee := .builtin .append, args := #[s, x], argTypes := #[25, 25] })
    (B : Nat) (v : Value) (l : List UInt8) (hs : a.eval s = v) (hown : Row w B v l)
    (b : Nat) (A : Option Addr) (m c : Nat) (news : List UInt8) (hx : a.eval x = .slice A m c) (hr : Bs w b A news) (hm : news.length = m)
    (hlen : l.length + m ≤ 140737488355328) (hbase : B ≤ w.heap.size)
    (h : ∀ v' w', Row w' B v' (l ++ news) → Mod (fun i => v.ownBlock = some i) w w' → (v'.ownBlock = v.ownBlock ∨ v'.ownBlock = some w.heap.size) → K (a.put o.dst v') w') : if Region.wanted o (yielded ops a.tmps) = true then Oper.wp Try.prog o a w K Q else E := by
  have hw : Region.wanted o (yielded ops a.tmps) = true := by simp [Region.wanted, hgd]
  rw [if_pos hw]
  obtain ⟨i0, hi0, hz0, hz1, hz2⟩ := info_parts byte_info
  refine wp_append_sl (P := Try.prog) w s x _ ho B 5 i0 _ 1 1 Try.underlying25 hi0 hz0 hz1 hz2 rfl (by omega) v l.length (bv l) hs hown b A m c (bv news) hx hr (by simp [hm]) (Sl.none_len hr (by simp [hm])) (bv_one _)
    (by simp only [maxLen]; omega) (by omega) hbase ?_
  intro v' w' h1 h2 h3
  exact h v' w' (by unfold Row; rw [List.length_append, hm, bv_append]; exact h1) (Mod.of_grown h2) h3

set_option maxHeartbeats 2000000 in
set_option maxRecDepth 20000 in
theorem Put2_calls (B g : Nat) (v : Value) (k : Bk) (x : Pc) (A : Option Addr) (c b : Nat) (w : World) (h : KIn w B g v k) (hk : k.held.length ≤ 1024) (hs : Bs w b A x.data) (hx : x.data.length ≤ maxLen) (hB : B ≤ w.heap.size) :
    Calls Try.prog 14 #[.pointer (some ⟨g, 0, none⟩), .agg #[.bool x.first, .bool x.last, .slice A x.data.length c]] w fun e w' => ∃ v2 vo, e = .returned (.tuple #[vo, .bool (putB k x).2.2.1, .int .i64 (putB k x).2.2.2]) ∧ KIn w' B g v2 (putB k x).1 ∧ Row w' B vo (putB k x).2.1 ∧ Mod (fun i => i = g ∨ v.ownBlock = some i) w w' ∧ (v2.ownBlock = v.ownBlock ∨ v2.ownBlock = none ∨ ∃ j, v2.ownBlock = some j ∧ w.heap.size ≤ j) := by
  obtain ⟨n, hn⟩ : ∃ n, n = x.data.length := ⟨_, rfl⟩
  obtain ⟨fi, hfi⟩ : ∃ fi, fi = x.first := ⟨_, rfl⟩
  obtain ⟨la, hla⟩ : ∃ la, la = x.last := ⟨_, rfl⟩
  obtain ⟨lv, hlv⟩ : ∃ lv, lv = k.leaving := ⟨_, rfl⟩
  obtain ⟨W0, hW0⟩ : ∃ W0, W0 = w.alloc (.cells #[.bool fi, .bool la, .slice A n c] 36) := ⟨_, rfl⟩
  have hF := refuses_calls B g v k x A c W0
  have hglt := h.box.lt
  have hb : Below w.heap.size w W0 := by rw [hW0]; exact below_alloc1 w _
  have q : W0.heap[w.heap.size]? = some (.cells #[.bool fi, .bool la, .slice A n c] 36 (0, 0)) := by rw [hW0]; exact heap_alloc_new w _
  have hK := h.ext hb
  replace hF := hF hK hk hx
  have hsx := Sl.ext hs hb
  rw [← hn, ← hfi, ← hla] at hF ⊢
  rw [← hn] at hx
  have hvlt := h.row.lt
  have d0 := (cell_of_row _ _ 0 _ _ _ q).trans (show _ = some (.bool fi) from rfl)
  have d1 := (cell_of_row _ _ 1 _ _ _ q).trans (show _ = some (.bool la) from rfl)
  have d2 := (cell_of_row _ _ 2 _ _ _ q).trans (show _ = some (.slice A n c) from rfl)
  have k0 := hK.box.c0
  have k1 := hK.box.c1
  rw [← hlv] at k1
  have hgne : ¬ g = w.heap.size := by omega
  have hgne2 : ¬ w.heap.size = g := by omega
  have HK := Lib.hid hK
  have HQ := Lib.hid q
  have HS := Lib.hid hsx
  have HV := Lib.hid hvlt
  have HN := Lib.hid hn
  have HFI := Lib.hid hfi
  have HLA := Lib.hid hla
  have HLV := Lib.hid hlv
  have HB := Lib.hid hB
  have HRF := Lib.hid (refuse_le k x)
  clear hK q hsx hvlt hn hfi hla hlv hB h hs hx
  subst hW0
  go_enter Try.func14, Try.ntmps14
  by_cases hc : lv = true ∧ fi = false
  · obtain ⟨rfl, rfl⟩ := hc
    have e1 := putB_left (k := k) (x := x) ⟨by rw [← HLV.out], by rw [← HFI.out]⟩
    rw [e1]
    go_wp2_with fail
    go_ret3
    exact ⟨v, _, rfl, HK.out, Row.nil_ _ _, (Mod.of_below hb).mono (fun i hi h => by omega), .inl rfl⟩
  · cases lv
    · clear hc
      by_cases hR : refuseN k x = 0
      · cases la
        · have hz : ((refuseN k x : Int) != 0) = false := by rw [hR]; rfl
          obtain ⟨hl1, hl2, hl3⟩ := refuse_ok hR
          have e1 := putB_more (k := k) (x := x) (by rw [← HLV.out, ← HFI.out]; simp) hR HLA.out.symm
          have hl4 := hl3 HLA.out.symm
          rw [e1]
          have hnl : n ≤ 64 := by rw [HN.out]; exact hl1
          have HL2 := Lib.hid hl2
          have HL3 := Lib.hid hl3
          clear hl1 hl2 hl3
          go_wp2_with fail
          refine hF.mono ?_
          rintro e w1 ⟨rfl, h1⟩
          have q1 := HK.out.box.ext h1
          rw [← HLV.out] at q1
          have row1 := HK.out.row.ext h1
          have hap := q1.apart row1
          have h1s := h1.size
          rw [World.size_alloc] at h1s
          have qp := HQ.out
          replace qp := (h1.block _ (by simp)).trans qp
          have hpg : w.heap.size ≠ g := hgne2
          have q2 := q1.set1 false
          have row2 := Row.mod row1 (Mod.setCell w1 ⟨g, 1, none⟩ (.bool false)) (fun j hj h => hap (hj.trans (congrArg some h)))
          have qp2 := (heap_setCell_other w1 ⟨g, 1, none⟩ w.heap.size (.bool false) hpg).trans qp
          have hs1 := Sl.ext HS.out h1
          have hs2 : Bs (w1.setCell ⟨g, 1, none⟩ (.bool false)) b A x.data := by
            refine Bs.modne hs1 (Mod.setCell w1 ⟨g, 1, none⟩ (.bool false)) (fun hl e => ?_)
            have e : b = g := e
            subst e
            obtain ⟨off, -, hc⟩ := hs1 (by rw [ne_eq, bv_nil_iff]; exact hl)
            obtain ⟨y, l2, hy⟩ := List.exists_cons_of_ne_nil hl
            have h9 := hc 0 (.int .u8 (y.toNat : Int)) (by rw [hy]; rfl)
            rw [cell_of_row w1 b _ _ _ _ q1] at h9
            rcases off with _ | _ | off
            · have h9 : some v = _ := h9
              injection h9 with h9
              obtain ⟨A9, c9, b9, hv9, -⟩ := row1.sl
              rw [hv9] at h9
              cases h9
            · cases h9
            · cases h9
          have c1 := q1.c1
          have f1 := q1.fz 1
          have g0 := q2.c0
          have g1 := q2.c1
          have gf0 := q2.fz 0
          have d1 := (cell_of_row _ _ 1 _ _ _ qp2).trans (show _ = some (.bool false) from rfl)
          have d2 := (cell_of_row _ _ 2 _ _ _ qp2).trans (show _ = some (.slice A n c) from rfl)
          have hW : w.heap.size < (w1.setCell ⟨g, 1, none⟩ (.bool false)).heap.size := by simp; omega
          have hap2 := q2.apart row2
          have hBw : B ≤ ((w1.setCell ⟨g, 1, none⟩ (.bool false)).drew).heap.size := by have := HB.out; simp; omega
          have Q1 := Lib.hid q1
          have Q2 := Lib.hid q2
          have QP := Lib.hid qp2
          have R1 := Lib.hid row1
          have R2 := Lib.hid row2
          have HS2 := Lib.hid hs2
          have HAP := Lib.hid hap2
          have HV1 := Lib.hid hap
          clear k0 k1 d0 q1 row1 q2 row2 qp qp2 hs1 hs2 hap hap2
          go_wp2_with fail
          go_region_law (refine step_app2 _ rfl (.tmp 36) (.tmp 38) rfl B v k.held rfl (ownsP_mod R2.out (Mod.drew (fun _ => False) _) (fun _ _ h => h)) b A n c x.data rfl HS2.out HN.out.symm (by omega) hBw ?_; intro v' w3 hrow3 hmod3 hat3; (obtain ⟨A3, c3, b3, rfl, -, -, -, -, -, -⟩ := hrow3.sl); (have q3 : BoxK w3 g v false := Q2.out.mod (S := fun i => v.ownBlock = some i) (w' := w3) ⟨hmod3.os, hmod3.tape, hmod3.output, hmod3.size, hmod3.block⟩ (fun h => HAP.out h)); (have p3 := (hmod3.block w.heap.size hW (fun h => by have := (HV.out _ h).2; omega)).trans QP.out); (have t0 := q3.c0); (have u0 := q3.fz 0); (have t1 := (cell_of_row _ _ 1 _ _ _ p3).trans (show _ = some (.bool false) from rfl)); (have Q3 := Lib.hid q3); (have R3 := Lib.hid hrow3); clear q3 p3 hrow3)
          all_goals (
            go_wp2_with fail
            go_ret3
            have hmA : Mod (fun i => i = g ∨ v.ownBlock = some i) w w3 := ((Mod.of_below (hb.trans (h1.mono (by simp)))).trans ((Mod.setCell w1 ⟨g, 1, none⟩ (.bool false)).trans (⟨hmod3.os, hmod3.tape, hmod3.output, hmod3.size, hmod3.block⟩ : Mod (fun i => v.ownBlock = some i) (w1.setCell ⟨g, 1, none⟩ (.bool false)) w3) (S := fun i => i = g ∨ v.ownBlock = some i) (fun i _ h => .inl h) (fun i _ h => .inr h)) (fun i hi h => by omega) (fun i _ h => h))
            have hap3 := Q3.out.apart R3.out
            have r4 := R3.out.mod (Mod.setCell w3 ⟨g, 0, none⟩ (.slice A3 (k.held.length + 64) c3)) (fun j hj h => hap3 (hj.trans (congrArg some h)))
            have el : (k.held ++ x.data).length = k.held.length + 64 := by rw [List.length_append, hl4]
            rw [el] at r4 hap3
            have q4 := Q3.out.set0 (.slice A3 (k.held.length + 64) c3)
            have hAT : (Value.slice A3 (k.held.length + 64) c3).ownBlock = v.ownBlock ∨ (Value.slice A3 (k.held.length + 64) c3).ownBlock = none ∨ ∃ j, (Value.slice A3 (k.held.length + 64) c3).ownBlock = some j ∧ w.heap.size ≤ j := by
              rw [← el]
              rcases hat3 with h | h
              · exact .inl h
              · exact .inr (.inr ⟨_, h, by have := hb.size; simp; omega⟩)
            exact ⟨_, _, rfl, ⟨q4, r4, fun h => by have := congrArg List.length h; rw [el] at this; simp at this⟩, Row.nil_ _ _, hmA.trans (Mod.setCell w3 ⟨g, 0, none⟩ _) (fun i _ h => h) (fun i _ h => .inl h), hAT⟩)
        · have hz : ((refuseN k x : Int) != 0) = false := by rw [hR]; rfl
          obtain ⟨hl1, hl2, hl3⟩ := refuse_ok hR
          have e1 := putB_last (k := k) (x := x) (by rw [← HLV.out, ← HFI.out]; simp) hR HLA.out.symm
          rw [e1]
          have hnl : n ≤ 64 := by rw [HN.out]; exact hl1
          have HL2 := Lib.hid hl2
          have HL3 := Lib.hid hl3
          clear hl1 hl2 hl3
          go_wp2_with fail
          refine hF.mono ?_
          rintro e w1 ⟨rfl, h1⟩
          have q1 := HK.out.box.ext h1
          rw [← HLV.out] at q1
          have row1 := HK.out.row.ext h1
          have hap := q1.apart row1
          have h1s := h1.size
          rw [World.size_alloc] at h1s
          have qp := HQ.out
          replace qp := (h1.block _ (by simp)).trans qp
          have hpg : w.heap.size ≠ g := hgne2
          have q2 := q1.set1 false
          have row2 := Row.mod row1 (Mod.setCell w1 ⟨g, 1, none⟩ (.bool false)) (fun j hj h => hap (hj.trans (congrArg some h)))
          have qp2 := (heap_setCell_other w1 ⟨g, 1, none⟩ w.heap.size (.bool false) hpg).trans qp
          have hs1 := Sl.ext HS.out h1
          have hs2 : Bs (w1.setCell ⟨g, 1, none⟩ (.bool false)) b A x.data := by
            refine Bs.modne hs1 (Mod.setCell w1 ⟨g, 1, none⟩ (.bool false)) (fun hl e => ?_)
            have e : b = g := e
            subst e
            obtain ⟨off, -, hc⟩ := hs1 (by rw [ne_eq, bv_nil_iff]; exact hl)
            obtain ⟨y, l2, hy⟩ := List.exists_cons_of_ne_nil hl
            have h9 := hc 0 (.int .u8 (y.toNat : Int)) (by rw [hy]; rfl)
            rw [cell_of_row w1 b _ _ _ _ q1] at h9
            rcases off with _ | _ | off
            · have h9 : some v = _ := h9
              injection h9 with h9
              obtain ⟨A9, c9, b9, hv9, -⟩ := row1.sl
              rw [hv9] at h9
              cases h9
            · cases h9
            · cases h9
          have c1 := q1.c1
          have f1 := q1.fz 1
          have g0 := q2.c0
          have g1 := q2.c1
          have gf0 := q2.fz 0
          have d1 := (cell_of_row _ _ 1 _ _ _ qp2).trans (show _ = some (.bool true) from rfl)
          have d2 := (cell_of_row _ _ 2 _ _ _ qp2).trans (show _ = some (.slice A n c) from rfl)
          have hW : w.heap.size < (w1.setCell ⟨g, 1, none⟩ (.bool false)).heap.size := by simp; omega
          have hap2 := q2.apart row2
          have hBw : B ≤ ((w1.setCell ⟨g, 1, none⟩ (.bool false)).drew).heap.size := by have := HB.out; simp; omega
          have Q1 := Lib.hid q1
          have Q2 := Lib.hid q2
          have QP := Lib.hid qp2
          have R1 := Lib.hid row1
          have R2 := Lib.hid row2
          have HS2 := Lib.hid hs2
          have HAP := Lib.hid hap2
          have HV1 := Lib.hid hap
          clear k0 k1 d0 q1 row1 q2 row2 qp qp2 hs1 hs2 hap hap2
          go_wp2_with fail
          go_region_law (refine step_app2 _ rfl (.tmp 36) (.tmp 38) rfl B v k.held rfl (ownsP_mod R2.out (Mod.drew (fun _ => False) _) (fun _ _ h => h)) b A n c x.data rfl HS2.out HN.out.symm (by omega) hBw ?_; intro v' w3 hrow3 hmod3 hat3; (obtain ⟨A3, c3, b3, rfl, -, -, -, -, -, -⟩ := hrow3.sl); (have q3 : BoxK w3 g v false := Q2.out.mod (S := fun i => v.ownBlock = some i) (w' := w3) ⟨hmod3.os, hmod3.tape, hmod3.output, hmod3.size, hmod3.block⟩ (fun h => HAP.out h)); (have p3 := (hmod3.block w.heap.size hW (fun h => by have := (HV.out _ h).2; omega)).trans QP.out); (have t0 := q3.c0); (have u0 := q3.fz 0); (have t1 := (cell_of_row _ _ 1 _ _ _ p3).trans (show _ = some (.bool true) from rfl)); (have Q3 := Lib.hid q3); (have R3 := Lib.hid hrow3); clear q3 p3 hrow3)
          all_goals (
            have hmA : Mod (fun i => i = g ∨ v.ownBlock = some i) w w3 := ((Mod.of_below (hb.trans (h1.mono (by simp)))).trans ((Mod.setCell w1 ⟨g, 1, none⟩ (.bool false)).trans (⟨hmod3.os, hmod3.tape, hmod3.output, hmod3.size, hmod3.block⟩ : Mod (fun i => v.ownBlock = some i) (w1.setCell ⟨g, 1, none⟩ (.bool false)) w3) (S := fun i => i = g ∨ v.ownBlock = some i) (fun i _ h => .inl h) (fun i _ h => .inr h)) (fun i hi h => by omega) (fun i _ h => h))
            have hap3 := Q3.out.apart R3.out
            have r4 := R3.out.mod (Mod.setCell w3 ⟨g, 0, none⟩ (.slice A3 (k.held.length + x.data.length) c3)) (fun j hj h => hap3 (hj.trans (congrArg some h)))
            have el : (k.held ++ x.data).length = k.held.length + x.data.length := List.length_append
            rw [el] at r4 hap3
            have q4 := Q3.out.set0 (.slice A3 (k.held.length + x.data.length) c3)
            have hAT : (Value.slice A3 (k.held.length + x.data.length) c3).ownBlock = v.ownBlock ∨ (Value.slice A3 (k.held.length + x.data.length) c3).ownBlock = none ∨ ∃ j, (Value.slice A3 (k.held.length + x.data.length) c3).ownBlock = some j ∧ w.heap.size ≤ j := by
              rw [← el]
              rcases hat3 with h | h
              · exact .inl h
              · exact .inr (.inr ⟨_, h, by have := hb.size; simp; omega⟩)
            go_wp2_with fail
            refine (Clear_calls B g _ false _ q4).mono ?_
            rintro e w5 ⟨rfl, hK5, hm5⟩
            go_wp2_with fail
            go_ret3
            exact ⟨_, _, rfl, hK5, r4.mod hm5 (fun j hj h => hap3 (hj.trans (congrArg some h))), (hmA.trans (Mod.setCell w3 ⟨g, 0, none⟩ _) (fun i _ h => h) (fun i _ h => .inl h)).trans hm5 (fun i _ h => h) (fun i _ h => .inl h), .inr (.inl rfl)⟩)
      · have hz : ((refuseN k x : Int) != 0) = true := by simp; omega
        have hr4 := HRF.out
        have e1 := putB_bad (k := k) (x := x) (by rw [← HLV.out, ← HFI.out]; simp) hR
        rw [e1]
        go_wp2_with fail
        refine hF.mono ?_
        rintro e w1 ⟨rfl, h1⟩
        have q1 := HK.out.box.ext h1
        rw [← HLV.out] at q1
        have row1 := HK.out.row.ext h1
        have hap := q1.apart row1
        have h1s := h1.size
        rw [World.size_alloc] at h1s
        have c0 := q1.c0
        have c1 := q1.c1
        have f0 := q1.fz 0
        have f1 := q1.fz 1
        have Q1 := Lib.hid q1
        clear k0 k1 d0 d1 d2 q1 row1
        go_wp2_with fail
        go_ret3
        exact ⟨_, _, rfl, ⟨(Q1.out.set0 _).set1 _, Row.nil_ _ _, fun _ => rfl⟩, Row.nil_ _ _, ((Mod.of_below (hb.trans (h1.mono (by simp)))).trans ((Mod.setCell w1 ⟨g, 0, none⟩ _).trans (Mod.setCell _ ⟨g, 1, none⟩ _) (fun i _ h => h) (fun i _ h => h)) (fun i hi h => by omega) (fun i _ h => .inl h)), .inr (.inl rfl)⟩
    · cases fi
      · exact absurd ⟨rfl, rfl⟩ hc
      · clear hc
        by_cases hR : refuseN k x = 0
        · cases la
          · have hz : ((refuseN k x : Int) != 0) = false := by rw [hR]; rfl
            obtain ⟨hl1, hl2, hl3⟩ := refuse_ok hR
            have e1 := putB_more (k := k) (x := x) (by rw [← HLV.out, ← HFI.out]; simp) hR HLA.out.symm
            have hl4 := hl3 HLA.out.symm
            rw [e1]
            have hnl : n ≤ 64 := by rw [HN.out]; exact hl1
            have HL2 := Lib.hid hl2
            have HL3 := Lib.hid hl3
            clear hl1 hl2 hl3
            go_wp2_with fail
            refine hF.mono ?_
            rintro e w1 ⟨rfl, h1⟩
            have q1 := HK.out.box.ext h1
            rw [← HLV.out] at q1
            have row1 := HK.out.row.ext h1
            have hap := q1.apart row1
            have h1s := h1.size
            rw [World.size_alloc] at h1s
            have qp := HQ.out
            replace qp := (h1.block _ (by simp)).trans qp
            have hpg : w.heap.size ≠ g := hgne2
            have q2 := q1.set1 false
            have row2 := Row.mod row1 (Mod.setCell w1 ⟨g, 1, none⟩ (.bool false)) (fun j hj h => hap (hj.trans (congrArg some h)))
            have qp2 := (heap_setCell_other w1 ⟨g, 1, none⟩ w.heap.size (.bool false) hpg).trans qp
            have hs1 := Sl.ext HS.out h1
            have hs2 : Bs (w1.setCell ⟨g, 1, none⟩ (.bool false)) b A x.data := by
              refine Bs.modne hs1 (Mod.setCell w1 ⟨g, 1, none⟩ (.bool false)) (fun hl e => ?_)
              have e : b = g := e
              subst e
              obtain ⟨off, -, hc⟩ := hs1 (by rw [ne_eq, bv_nil_iff]; exact hl)
              obtain ⟨y, l2, hy⟩ := List.exists_cons_of_ne_nil hl
              have h9 := hc 0 (.int .u8 (y.toNat : Int)) (by rw [hy]; rfl)
              rw [cell_of_row w1 b _ _ _ _ q1] at h9
              rcases off with _ | _ | off
              · have h9 : some v = _ := h9
                injection h9 with h9
                obtain ⟨A9, c9, b9, hv9, -⟩ := row1.sl
                rw [hv9] at h9
                cases h9
              · cases h9
              · cases h9
            have c1 := q1.c1
            have f1 := q1.fz 1
            have g0 := q2.c0
            have g1 := q2.c1
            have gf0 := q2.fz 0
            have d1 := (cell_of_row _ _ 1 _ _ _ qp2).trans (show _ = some (.bool false) from rfl)
            have d2 := (cell_of_row _ _ 2 _ _ _ qp2).trans (show _ = some (.slice A n c) from rfl)
            have hW : w.heap.size < (w1.setCell ⟨g, 1, none⟩ (.bool false)).heap.size := by simp; omega
            have hap2 := q2.apart row2
            have hBw : B ≤ ((w1.setCell ⟨g, 1, none⟩ (.bool false)).drew).heap.size := by have := HB.out; simp; omega
            have Q1 := Lib.hid q1
            have Q2 := Lib.hid q2
            have QP := Lib.hid qp2
            have R1 := Lib.hid row1
            have R2 := Lib.hid row2
            have HS2 := Lib.hid hs2
            have HAP := Lib.hid hap2
            have HV1 := Lib.hid hap
            clear k0 k1 d0 q1 row1 q2 row2 qp qp2 hs1 hs2 hap hap2
            go_wp2_with fail
            go_region_law (refine step_app2 _ rfl (.tmp 36) (.tmp 38) rfl B v k.held rfl (ownsP_mod R2.out (Mod.drew (fun _ => False) _) (fun _ _ h => h)) b A n c x.data rfl HS2.out HN.out.symm (by omega) hBw ?_; intro v' w3 hrow3 hmod3 hat3; (obtain ⟨A3, c3, b3, rfl, -, -, -, -, -, -⟩ := hrow3.sl); (have q3 : BoxK w3 g v false := Q2.out.mod (S := fun i => v.ownBlock = some i) (w' := w3) ⟨hmod3.os, hmod3.tape, hmod3.output, hmod3.size, hmod3.block⟩ (fun h => HAP.out h)); (have p3 := (hmod3.block w.heap.size hW (fun h => by have := (HV.out _ h).2; omega)).trans QP.out); (have t0 := q3.c0); (have u0 := q3.fz 0); (have t1 := (cell_of_row _ _ 1 _ _ _ p3).trans (show _ = some (.bool false) from rfl)); (have Q3 := Lib.hid q3); (have R3 := Lib.hid hrow3); clear q3 p3 hrow3)
            all_goals (
              go_wp2_with fail
              go_ret3
              have hmA : Mod (fun i => i = g ∨ v.ownBlock = some i) w w3 := ((Mod.of_below (hb.trans (h1.mono (by simp)))).trans ((Mod.setCell w1 ⟨g, 1, none⟩ (.bool false)).trans (⟨hmod3.os, hmod3.tape, hmod3.output, hmod3.size, hmod3.block⟩ : Mod (fun i => v.ownBlock = some i) (w1.setCell ⟨g, 1, none⟩ (.bool false)) w3) (S := fun i => i = g ∨ v.ownBlock = some i) (fun i _ h => .inl h) (fun i _ h => .inr h)) (fun i hi h => by omega) (fun i _ h => h))
              have hap3 := Q3.out.apart R3.out
              have r4 := R3.out.mod (Mod.setCell w3 ⟨g, 0, none⟩ (.slice A3 (k.held.length + 64) c3)) (fun j hj h => hap3 (hj.trans (congrArg some h)))
              have el : (k.held ++ x.data).length = k.held.length + 64 := by rw [List.length_append, hl4]
              rw [el] at r4 hap3
              have q4 := Q3.out.set0 (.slice A3 (k.held.length + 64) c3)
              have hAT : (Value.slice A3 (k.held.length + 64) c3).ownBlock = v.ownBlock ∨ (Value.slice A3 (k.held.length + 64) c3).ownBlock = none ∨ ∃ j, (Value.slice A3 (k.held.length + 64) c3).ownBlock = some j ∧ w.heap.size ≤ j := by
                rw [← el]
                rcases hat3 with h | h
                · exact .inl h
                · exact .inr (.inr ⟨_, h, by have := hb.size; simp; omega⟩)
              exact ⟨_, _, rfl, ⟨q4, r4, fun h => by have := congrArg List.length h; rw [el] at this; simp at this⟩, Row.nil_ _ _, hmA.trans (Mod.setCell w3 ⟨g, 0, none⟩ _) (fun i _ h => h) (fun i _ h => .inl h), hAT⟩)
          · have hz : ((refuseN k x : Int) != 0) = false := by rw [hR]; rfl
            obtain ⟨hl1, hl2, hl3⟩ := refuse_ok hR
            have e1 := putB_last (k := k) (x := x) (by rw [← HLV.out, ← HFI.out]; simp) hR HLA.out.symm
            rw [e1]
            have hnl : n ≤ 64 := by rw [HN.out]; exact hl1
            have HL2 := Lib.hid hl2
            have HL3 := Lib.hid hl3
            clear hl1 hl2 hl3
            go_wp2_with fail
            refine hF.mono ?_
            rintro e w1 ⟨rfl, h1⟩
            have q1 := HK.out.box.ext h1
            rw [← HLV.out] at q1
            have row1 := HK.out.row.ext h1
            have hap := q1.apart row1
            have h1s := h1.size
            rw [World.size_alloc] at h1s
            have qp := HQ.out
            replace qp := (h1.block _ (by simp)).trans qp
            have hpg : w.heap.size ≠ g := hgne2
            have q2 := q1.set1 false
            have row2 := Row.mod row1 (Mod.setCell w1 ⟨g, 1, none⟩ (.bool false)) (fun j hj h => hap (hj.trans (congrArg some h)))
            have qp2 := (heap_setCell_other w1 ⟨g, 1, none⟩ w.heap.size (.bool false) hpg).trans qp
            have hs1 := Sl.ext HS.out h1
            have hs2 : Bs (w1.setCell ⟨g, 1, none⟩ (.bool false)) b A x.data := by
              refine Bs.modne hs1 (Mod.setCell w1 ⟨g, 1, none⟩ (.bool false)) (fun hl e => ?_)
              have e : b = g := e
              subst e
              obtain ⟨off, -, hc⟩ := hs1 (by rw [ne_eq, bv_nil_iff]; exact hl)
              obtain ⟨y, l2, hy⟩ := List.exists_cons_of_ne_nil hl
              have h9 := hc 0 (.int .u8 (y.toNat : Int)) (by rw [hy]; rfl)
              rw [cell_of_row w1 b _ _ _ _ q1] at h9
              rcases off with _ | _ | off
              · have h9 : some v = _ := h9
                injection h9 with h9
                obtain ⟨A9, c9, b9, hv9, -⟩ := row1.sl
                rw [hv9] at h9
                cases h9
              · cases h9
              · cases h9
            have c1 := q1.c1
            have f1 := q1.fz 1
            have g0 := q2.c0
            have g1 := q2.c1
            have gf0 := q2.fz 0
            have d1 := (cell_of_row _ _ 1 _ _ _ qp2).trans (show _ = some (.bool true) from rfl)
            have d2 := (cell_of_row _ _ 2 _ _ _ qp2).trans (show _ = some (.slice A n c) from rfl)
            have hW : w.heap.size < (w1.setCell ⟨g, 1, none⟩ (.bool false)).heap.size := by simp; omega
            have hap2 := q2.apart row2
            have hBw : B ≤ ((w1.setCell ⟨g, 1, none⟩ (.bool false)).drew).heap.size := by have := HB.out; simp; omega
            have Q1 := Lib.hid q1
            have Q2 := Lib.hid q2
            have QP := Lib.hid qp2
            have R1 := Lib.hid row1
            have R2 := Lib.hid row2
            have HS2 := Lib.hid hs2
            have HAP := Lib.hid hap2
            have HV1 := Lib.hid hap
            clear k0 k1 d0 q1 row1 q2 row2 qp qp2 hs1 hs2 hap hap2
            go_wp2_with fail
            go_region_law (refine step_app2 _ rfl (.tmp 36) (.tmp 38) rfl B v k.held rfl (ownsP_mod R2.out (Mod.drew (fun _ => False) _) (fun _ _ h => h)) b A n c x.data rfl HS2.out HN.out.symm (by omega) hBw ?_; intro v' w3 hrow3 hmod3 hat3; (obtain ⟨A3, c3, b3, rfl, -, -, -, -, -, -⟩ := hrow3.sl); (have q3 : BoxK w3 g v false := Q2.out.mod (S := fun i => v.ownBlock = some i) (w' := w3) ⟨hmod3.os, hmod3.tape, hmod3.output, hmod3.size, hmod3.block⟩ (fun h => HAP.out h)); (have p3 := (hmod3.block w.heap.size hW (fun h => by have := (HV.out _ h).2; omega)).trans QP.out); (have t0 := q3.c0); (have u0 := q3.fz 0); (have t1 := (cell_of_row _ _ 1 _ _ _ p3).trans (show _ = some (.bool true) from rfl)); (have Q3 := Lib.hid q3); (have R3 := Lib.hid hrow3); clear q3 p3 hrow3)
            all_goals (
              have hmA : Mod (fun i => i = g ∨ v.ownBlock = some i) w w3 := ((Mod.of_below (hb.trans (h1.mono (by simp)))).trans ((Mod.setCell w1 ⟨g, 1, none⟩ (.bool false)).trans (⟨hmod3.os, hmod3.tape, hmod3.output, hmod3.size, hmod3.block⟩ : Mod (fun i => v.ownBlock = some i) (w1.setCell ⟨g, 1, none⟩ (.bool false)) w3) (S := fun i => i = g ∨ v.ownBlock = some i) (fun i _ h => .inl h) (fun i _ h => .inr h)) (fun i hi h => by omega) (fun i _ h => h))
              have hap3 := Q3.out.apart R3.out
              have r4 := R3.out.mod (Mod.setCell w3 ⟨g, 0, none⟩ (.slice A3 (k.held.length + x.data.length) c3)) (fun j hj h => hap3 (hj.trans (congrArg some h)))
              have el : (k.held ++ x.data).length = k.held.length + x.data.length := List.length_append
              rw [el] at r4 hap3
              have q4 := Q3.out.set0 (.slice A3 (k.held.length + x.data.length) c3)
              have hAT : (Value.slice A3 (k.held.length + x.data.length) c3).ownBlock = v.ownBlock ∨ (Value.slice A3 (k.held.length + x.data.length) c3).ownBlock = none ∨ ∃ j, (Value.slice A3 (k.held.length + x.data.length) c3).ownBlock = some j ∧ w.heap.size ≤ j := by
                rw [← el]
                rcases hat3 with h | h
                · exact .inl h
                · exact .inr (.inr ⟨_, h, by have := hb.size; simp; omega⟩)
              go_wp2_with fail
              refine (Clear_calls B g _ false _ q4).mono ?_
              rintro e w5 ⟨rfl, hK5, hm5⟩
              go_wp2_with fail
              go_ret3
              exact ⟨_, _, rfl, hK5, r4.mod hm5 (fun j hj h => hap3 (hj.trans (congrArg some h))), (hmA.trans (Mod.setCell w3 ⟨g, 0, none⟩ _) (fun i _ h => h) (fun i _ h => .inl h)).trans hm5 (fun i _ h => h) (fun i _ h => .inl h), .inr (.inl rfl)⟩)
        · have hz : ((refuseN k x : Int) != 0) = true := by simp; omega
          have hr4 := HRF.out
          have e1 := putB_bad (k := k) (x := x) (by rw [← HLV.out, ← HFI.out]; simp) hR
          rw [e1]
          go_wp2_with fail
          refine hF.mono ?_
          rintro e w1 ⟨rfl, h1⟩
          have q1 := HK.out.box.ext h1
          rw [← HLV.out] at q1
          have row1 := HK.out.row.ext h1
          have hap := q1.apart row1
          have h1s := h1.size
          rw [World.size_alloc] at h1s
          have c0 := q1.c0
          have c1 := q1.c1
          have f0 := q1.fz 0
          have f1 := q1.fz 1
          have Q1 := Lib.hid q1
          clear k0 k1 d0 d1 d2 q1 row1
          go_wp2_with fail
          go_ret3
          exact ⟨_, _, rfl, ⟨(Q1.out.set0 _).set1 _, Row.nil_ _ _, fun _ => rfl⟩, Row.nil_ _ _, ((Mod.of_below (hb.trans (h1.mono (by simp)))).trans ((Mod.setCell w1 ⟨g, 0, none⟩ _).trans (Mod.setCell _ ⟨g, 1, none⟩ _) (fun i _ h => h) (fun i _ h => h)) (fun i hi h => by omega) (fun i _ h => .inl h)), .inr (.inl rfl)⟩
end Go.Proofs.Ytgkflgnlodhelaa
