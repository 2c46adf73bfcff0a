/- Send of a message for which there is room. Conditions: those said. -/
import Derived.Test.YtgpedkdebifooaaDoorLkM
import Derived.Test.YtgpedkdebifooaaDoorClipS
namespace Go.Proofs.YtgpedkdebifooaaDoor
open Go.RowKit
set_option linter.unusedVariables false

theorem row_apart {w : World} {B n sz : Nat} {e t : TypeId} {v : Value} {xs : List Value} (hr : w.ownsRow B e sz v n xs) {g : Nat} {cs : Array Value} {fr : Nat × Nat} (hg : w.heap[g]? = some (.cells cs t fr)) (ht : t ≠ e) : v.ownBlock ≠ some g := by
  intro hv
  rcases hr.2 with ⟨rfl, _⟩ | ⟨g', cap, cur, rfl, _, hh, _⟩
  · simp [Value.ownBlock] at hv
  · have : g' = g := by simpa [Value.ownBlock] using hv
    subst this
    rw [hh] at hg
    injection hg with hg
    injection hg with _ h2 _
    exact ht h2.symm
theorem LkB.pap {w : World} {g bm : Nat} {L : Lk} {vw vf vh : Value} (q : LkB w g bm L vw vf vh) {B : Nat} {v : Value} {xs : List PV} (hr : RowP 96 w B v xs) : v.ownBlock ≠ some g := row_apart hr q (by decide)
theorem LkB.fap {w : World} {g bm : Nat} {L : Lk} {vw vf vh : Value} (q : LkB w g bm L vw vf vh) {B : Nat} {v : Value} {xs : List Fl} (hr : RowF w B v xs) : v.ownBlock ≠ some g := row_apart hr q (by decide)
theorem wpList_appPs (w : World) {ops : Array Oper} {rest : List Oper} {o : Oper} {a : Act} {Q : Exit → Act → World → Prop} (hgd : o.guard = none) (s x : Operand) (ho : o.op = .call { callee := .builtin .append, args := #[s, x], argTypes := #[82, 82] })
    (B : Nat) (v : Value) (xs : List PV) (hs : a.eval s = v) (hown : RowP 96 w B v xs) (b : Nat) (A : Option Addr) (m c : Nat) (ys : List PV) (hx : a.eval x = .slice A m c) (hr : Sl w b A (pvs ys)) (hm : ys.length = m) (hlen : xs.length + m ≤ 1000000) (hbase : B ≤ w.heap.size)
    (h : ∀ v' w', RowP 96 w' B v' (xs ++ ys) → Mod (fun i => v.ownBlock = some i) w w' → (v'.ownBlock = v.ownBlock ∨ v'.ownBlock = some w.heap.size) → wpList Tryd.prog ops Q rest (a.put o.dst v') w') : wpList Tryd.prog ops Q (o :: rest) a w := by
  obtain ⟨i0, hi0, hz0, hz1, hz2⟩ := info_parts piece_info
  refine wpList_append_sl (P := Tryd.prog) w hgd s x _ ho B 96 i0 _ 3 32 Tryd.underlying82 hi0 hz0 hz1 hz2 rfl (by omega) v xs.length (pvs xs) hs hown b A m c (pvs ys) hx hr (by rw [pvs_length, hm]) (fun hA => by have := Sl.none_len hr (m := m * 3) (by rw [pvs_length, hm]) hA; omega) (pvs_one ys)
    (by simp only [maxLen]; omega) (by omega) hbase ?_
  intro v' w' h1 h2 h3
  exact h v' w' (by unfold RowP; rw [List.length_append, hm, pvs_append]; exact h1) (Mod.of_grown h2) h3
set_option maxHeartbeats 4000000 in
set_option maxRecDepth 20000 in
theorem LSend_calls (B g bm : Nat) (L : Lk) (A1 : Option Addr) (n1 k1 : Nat) (ws : List PV) (vf vh : Value) (A : Option Addr) (l : List UInt8) (n c b : Nat) (w : World) (q : LkB w g bm L (.slice A1 n1 k1) vf vh) (hw : RowP 96 w B (.slice A1 n1 k1) ws) (hn1 : ws.length = n1) (hs : Bs w b A l) (hn : l.length = n) (h1024 : n ≤ 1024) (hc : n ≤ c) (hcm : c ≤ maxLen) (hroom : n1 + cnt n ≤ 128) (hB : B ≤ w.heap.size) :
    Calls Tryd.prog 15 #[.pointer (some ⟨g, 0, none⟩), .slice A n c] w fun e w' => ∃ A2 c2 xs, e = .returned (.int .i64 0) ∧ LkB w' g bm L (.slice A2 (n1 + xs.length) c2) vf vh ∧ RowP 96 w' B (.slice A2 (n1 + xs.length) c2) (ws ++ xs) ∧ xs.map PV.p = splitP l ∧ (∀ x ∈ xs, PV.InT w' x ∧ w.heap.size ≤ x.b) ∧ (∀ i, (Value.slice A2 (n1 + xs.length) c2).ownBlock = some i → (Value.slice A1 n1 k1).ownBlock = some i ∨ w.heap.size ≤ i) ∧ Mod (fun i => i = g ∨ (Value.slice A1 n1 k1).ownBlock = some i) w w' := by
  have hS := fun W h => Split_calls A l n c b W h hn h1024 hc hcm
  have HN := Lib.hid hn
  have HN1 := Lib.hid hn1
  have hgl := q.lt
  clear hn hn1
  go_enter Tryd.func15, Tryd.ntmps15
  go_wp2_with fail
  refine (hS _ hs).mono ?_
  rintro e w1 ⟨v, xs, rfl, hxs, hrow, hin, hb⟩
  have hxl : xs.length = cnt n := by
    have := congrArg List.length hxs
    rw [List.length_map, splitP_length, HN.out] at this
    exact this
  obtain ⟨A5, c5, b5, hve, -, -, -, -, hs5, -⟩ := ownsP_sl hrow
  obtain ⟨m, hm⟩ : ∃ m, m = xs.length := ⟨_, rfl⟩
  rw [← hm] at hve hxl
  subst hve
  have HM := Lib.hid hm.symm
  have hm128 : n1 + m ≤ 128 := by omega
  have hwlt := fun k hk => World.ownsRow.lt hw k hk
  replace q := q.ext hb
  replace hw := ownsP_ext hw hb
  have c1 := q.c1
  have fz1 := q.fz 1
  have hap := q.pap hw
  have HL := Lib.hid (show ws.length + m ≤ 1000000 by rw [HN1.out]; omega)
  have e1 : decide (((n1 : Int) + (m : Int)) > 128) = false := by simp; omega
  have hB1 : B ≤ w1.heap.size := Nat.le_trans hB hb.size
  have HQ := Lib.hid q
  have HB := Lib.hid hb
  have HXS := Lib.hid hxs
  have HIN := Lib.hid hin
  have HLT := Lib.hid hwlt
  clear hm hxs hin hrow hxl hb q hwlt
  go_wp2_with ((with_reducible refine at_caS 32 _ ?_); refine wpList_appPs w1 rfl (.tmp 30) (.tmp 31) rfl B _ ws rfl hw b5 A5 m c5 xs rfl hs5 HM.out HL.out hB1 ?_; intro v2 w2 hrow hmod hat; obtain ⟨A2, c2, b2, hve, -⟩ := ownsP_sl hrow; (rw [List.length_append, HN1.out, HM.out] at hve); subst hve; have q2 := HQ.out.mod hmod hap; have HAT := Lib.hid hat; have c12 := q2.c1; have fz12 := q2.fz 1; have HQ2 := Lib.hid q2; clear q2)
  go_ret
  have q3 := HQ2.out.set1 (.slice A2 (n1 + m) c2)
  have hm1 := Mod.setCell w2 ⟨g, 1, none⟩ (.slice A2 (n1 + m) c2)
  have hap2 := HQ2.out.pap hrow
  refine ⟨A2, c2, xs, rfl, by rw [HM.out]; exact q3, by rw [HM.out]; exact ownsP_mod hrow hm1 (fun k hk h => hap2 (by rw [hk]; exact congrArg some h)), HXS.out, fun x hx => ⟨?_, (HIN.out x hx).2⟩, fun i hi => ?_, ?_⟩
  · have hi := (HIN.out x hx)
    exact (hi.1.mod hmod (fun _ h => by have := (HLT.out _ h).2; omega)).mod hm1 (fun _ h => by have h : x.b = g := h; omega)
  · rw [HM.out] at hi
    rcases HAT.out with h1 | h1
    · exact .inl (h1.symm.trans hi)
    · rw [h1] at hi
      injection hi with hi
      have := HB.out.size
      exact .inr (by omega)
  · exact ((Mod.of_below HB.out).trans hmod (S := fun i => i = g ∨ (Value.slice A1 n1 k1).ownBlock = some i) (fun i hi h => absurd hi (by omega)) (fun i hi h => .inr h)).trans hm1 (fun i hi h => h) (fun i hi h => .inl h)
end Go.Proofs.YtgpedkdebifooaaDoor
