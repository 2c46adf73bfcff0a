/- DeskNil: the walk. Conditions: the numbers fit; the table lies. -/
import Derived.Test.YtglmciklegifaaaDoorDkW
namespace Go.Proofs.YtglmciklegifaaaDoor
open Go.RowKit

set_option maxHeartbeats 4000000 in
set_option maxRecDepth 20000 in
theorem DeskNil_walk (p : Int) (t m : Nat) (w : World) (hT : CTab w) (_hp : inI p) (_ht : t ≤ 4294967295) (_hm : m ≤ 4294967295) :
    Calls Tryd.prog 5 #[.int .i64 p, .int .u32 (t : Int), .int .u32 (m : Int)] w fun e w' => e = .returned (.bool true) ∧ Below w.heap.size w w' := by
  have hA := awake_calls w hT
  go_enter Tryd.func5, Tryd.ntmps5
  go_wp2_with fail
  refine hA.mono ?_
  rintro e w1 ⟨rfl, hb⟩
  clear hA hT
  go_wp2_with fail
  refine (Put_nil p t m _).mono ?_
  rintro e w2 ⟨rfl, rfl⟩
  go_wp2_with fail
  refine (Take_nil _).mono ?_
  rintro e w3 ⟨rfl, rfl⟩
  go_wp2_with fail
  refine (Held_nil p _).mono ?_
  rintro e w4 ⟨rfl, rfl⟩
  go_wp2_with fail
  refine (Drop_nil p _).mono ?_
  rintro e w5 ⟨rfl, rfl⟩
  go_wp2_with fail
  refine (Tick_nil _).mono ?_
  rintro e w6 ⟨rfl, rfl⟩
  go_wp2_with fail
  refine (Copy_nil _).mono ?_
  rintro e w7 ⟨rfl, rfl⟩
  go_wp2_with fail
  go_ret
  exact ⟨rfl, hb⟩
end Go.Proofs.YtglmciklegifaaaDoor
