/- room of a link: where nothing flies; where something does. Conditions: those said. -/
import Derived.Test.YtgpedkdebifooaaDoorLkM
import Derived.Test.YtgpedkdebifooaaDoorSeq
import Derived.BigQuiet
import Derived.Deep.DeepCutAuto
namespace Go.Proofs.YtgpedkdebifooaaDoor
open Go.RowKit
set_option linter.unusedVariables false

set_option maxHeartbeats 2000000 in
set_option maxRecDepth 20000 in
theorem room_none (g bm : Nat) (L : Lk) (vw : Value) (A : Option Addr) (c : Nat) (vh : Value) (w : World) (q : LkB w g bm L vw (.slice A 0 c) vh) :
    Calls Tryd.prog 66 #[.pointer (some ⟨g, 0, none⟩)] w fun e w' => e = .returned (.bool true) ∧ Below w.heap.size w w' := by
  have c2 := q.c2
  have HB := Lib.hid (Below.refl w.heap.size w)
  clear q
  go_enter Tryd.func66, Tryd.ntmps66
  go_wp2_with fail
  go_quiet (fail)
  go_wp2
  go_ret
  exact ⟨rfl, below_drewN HB.out _⟩
set_option maxHeartbeats 4000000 in
set_option maxRecDepth 20000 in
theorem room_some (g bm : Nat) (L : Lk) (vw : Value) (b off n c s : Nat) (vh : Value) (w : World) (q : LkB w g bm L vw (.slice (some ⟨b, off, none⟩) n c) vh) (hn : 0 < n) (hnc : n ≤ c) (hc : w.cell? ⟨b, off + 3, none⟩ = some (.int .u16 (s : Int))) (hs : s < 65536) (hx : L.nx < 65536) :
    Calls Tryd.prog 66 #[.pointer (some ⟨g, 0, none⟩)] w fun e w' => e = .returned (.bool (decide (toI s L.nx < 32))) ∧ Below w.heap.size w w' := by
  have c2 := q.c2
  have c3 := q.c3
  have hT := To_calls s L.nx
  obtain ⟨r, hr⟩ : ∃ r, r = toI s L.nx := ⟨_, rfl⟩
  rw [← hr] at hT
  rw [← hr]
  clear hr q
  have e0 : ((n : Int) == 0) = false := by simp; omega
  have e1 : decide ((n : Int) = 0) = false := by simp; omega
  have e2 : (0 : Int) < (n : Int) := by omega
  have HB := Lib.hid (Below.refl w.heap.size w)
  go_enter Tryd.func66, Tryd.ntmps66
  go_wp2_with fail
  go_quiet ((go_at_call 70; exact Calls.quiet_of_same (hT _ hs hx)))
  go_wp2
  go_ret
  exact ⟨rfl, below_drewN HB.out _⟩
end Go.Proofs.YtgpedkdebifooaaDoor
