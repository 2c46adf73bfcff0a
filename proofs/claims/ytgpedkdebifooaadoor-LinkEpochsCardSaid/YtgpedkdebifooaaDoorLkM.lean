/- New, Epoch, Waiting, Flying, Acks of a link; what a flight's due says. Conditions: those said. -/
import Derived.Test.YtgpedkdebifooaaDoorLkN
import Derived.Carry
import Derived.Outline
namespace Go.Proofs.YtgpedkdebifooaaDoor
open Go.RowKit
set_option linter.unusedVariables false

set_option maxHeartbeats 2000000 in
set_option maxRecDepth 20000 in
theorem LNew_calls (ep : Nat) (w : World) :
    Calls Tryd.prog 13 #[.int .u16 (ep : Int)] w fun e w' => ∃ g bm, e = .returned (.pointer (some ⟨g, 0, none⟩)) ∧ LkB w' g bm ⟨ep, 0, 0, 0, false, false⟩ (.slice none 0 0) (.slice none 0 0) (.slice none 0 0) ∧ w'.heap[bm]? = some (.map #[] 0) ∧ w.heap.size ≤ g ∧ w.heap.size ≤ bm ∧ Below w.heap.size w w' := by
  have hmm := @run_makeMap Tryd.prog
  have h2 := below_alloc1 w (.map #[] 0)
  have h3 := below_alloc1 (w.alloc (.map #[] 0)) (.cells #[.int .u16 (ep : Int), .slice none 0 0, .slice none 0 0, .int .u16 0, .int .u16 0, .int .u32 0, .map (some w.heap.size), .slice none 0 0, .bool false, .bool false] 87)
  have q := heap_alloc_new (w.alloc (.map #[] 0)) (.cells #[.int .u16 (ep : Int), .slice none 0 0, .slice none 0 0, .int .u16 0, .int .u16 0, .int .u32 0, .map (some w.heap.size), .slice none 0 0, .bool false, .bool false] 87)
  have qm := (Below.heap_alloc (w.alloc (.map #[] 0)) (.cells #[.int .u16 (ep : Int), .slice none 0 0, .slice none 0 0, .int .u16 0, .int .u16 0, .int .u32 0, .map (some w.heap.size), .slice none 0 0, .bool false, .bool false] 87) w.heap.size (by simp)).trans (heap_alloc_new w (.map #[] 0))
  have HB := Lib.hid (h2.trans (h3.mono h2.size))
  have HQ := Lib.hid q
  have HM := Lib.hid qm
  clear h2 h3 q qm
  go_enter Tryd.func13, Tryd.ntmps13
  go_wp2_with fail
  go_ret
  have h1 := HQ.out
  rw [show (w.alloc (.map #[] 0)).heap.size = w.heap.size + 1 by simp] at h1
  exact ⟨w.heap.size + 1, w.heap.size, rfl, h1, HM.out, by omega, Nat.le_refl _, HB.out⟩
set_option maxRecDepth 20000 in
theorem LEpoch_calls (g bm : Nat) (L : Lk) (vw vf vh : Value) (w : World) (q : LkB w g bm L vw vf vh) :
    Calls Tryd.prog 29 #[.pointer (some ⟨g, 0, none⟩)] w fun e w' => e = .returned (.int .u16 (L.ep : Int)) ∧ w = w' := by
  have c0 := q.c0
  clear q
  go_enter Tryd.func29, Tryd.ntmps29
  go_wp2_with fail
  go_ret
  exact ⟨rfl, rfl⟩
set_option maxRecDepth 20000 in
theorem LWaiting_calls (g bm : Nat) (L : Lk) (A : Option Addr) (n c : Nat) (vf vh : Value) (w : World) (q : LkB w g bm L (.slice A n c) vf vh) :
    Calls Tryd.prog 24 #[.pointer (some ⟨g, 0, none⟩)] w fun e w' => e = .returned (.int .i64 (n : Int)) ∧ w = w' := by
  have c1 := q.c1
  clear q
  go_enter Tryd.func24, Tryd.ntmps24
  go_wp2_with fail
  go_ret
  exact ⟨rfl, rfl⟩
set_option maxRecDepth 20000 in
theorem LFlying_calls (g bm : Nat) (L : Lk) (vw : Value) (A : Option Addr) (n c : Nat) (vh : Value) (w : World) (q : LkB w g bm L vw (.slice A n c) vh) :
    Calls Tryd.prog 25 #[.pointer (some ⟨g, 0, none⟩)] w fun e w' => e = .returned (.int .i64 (n : Int)) ∧ w = w' := by
  have c2 := q.c2
  clear q
  go_enter Tryd.func25, Tryd.ntmps25
  go_wp2_with fail
  go_ret
  exact ⟨rfl, rfl⟩
set_option maxRecDepth 20000 in
/-- Ticks are near: their difference fits. -/
theorem due_calls (x : Fl) (now : Int) (w : World) (h0 : 0 ≤ x.at_) (h1 : x.at_ ≤ 1000000) (h2 : 0 ≤ now) (h3 : now ≤ 1000000) :
    Calls Tryd.prog 35 #[.agg x.cells.toArray, .int .i64 now] w fun e w' => e = .returned (.bool (!x.sent || decide (3 ≤ now - x.at_))) ∧ Below w.heap.size w w' := by
  obtain ⟨⟨⟨fi, la, d⟩, A, c, b⟩, s, se, at0⟩ := x
  simp only at h0 h1 ⊢
  have hb := below_alloc1 w (.cells #[.bool fi, .bool la, .slice A d.length c, .int .u16 (s : Int), .bool se, .int .i64 at0] 98)
  obtain ⟨z, hz⟩ : ∃ z, z = decide (3 ≤ now - at0) := ⟨_, rfl⟩
  rw [← hz]
  have e1 : decide (now - at0 ≥ 3) = z := by rw [hz]
  have hw : wrap64 (now - at0) = now - at0 := by simp only [wrap64]; omega
  have hw2 : IntKind.i64.wrap (now - at0) = now - at0 := IntWalk.i64_in _ (by omega)
  clear hz
  cases se with
  | false =>
    go_enter Tryd.func35, Tryd.ntmps35
    go_wp2_with fail
    go_ret
    exact ⟨rfl, hb⟩
  | true =>
    go_enter Tryd.func35, Tryd.ntmps35
    go_wp2_with fail
    go_ret
    exact ⟨by simp, hb⟩
end Go.Proofs.YtgpedkdebifooaaDoor
