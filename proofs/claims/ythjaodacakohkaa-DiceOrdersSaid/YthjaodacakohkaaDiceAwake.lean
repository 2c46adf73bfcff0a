/- The law's awake: the document's example; and Split. No condition. -/
import Derived.Test.YthjaodacakohkaaBelow
import Derived.Test.YthjaodacakohkaaBox
import Derived.BigRegion
import Derived.Outline
namespace Go.Proofs.Ythjaodacakohkaa
open Go.RowKit

theorem example_next : nextN 0 = 3793791033 := by decide +kernel
theorem example_go : goN 0 = 11400714819323198485 := by decide +kernel
set_option maxHeartbeats 1000000 in
set_option maxRecDepth 20000 in
theorem awake_calls (w : World) : Calls Try.prog 9 #[] w fun e w' => e = .returned (.bool true) ∧ Below w.heap.size w w' := by
  have hc := Next_calls 0
  have hq : (((nextN 0 : Nat) : Int) == 3793791033) = true := by rw [example_next]; rfl
  have hz : (((goN 0 : Nat) : Int) != 0) = true := by rw [example_go]; rfl
  obtain ⟨x, hx⟩ : ∃ x, x = nextN 0 := ⟨_, rfl⟩
  obtain ⟨g, hg⟩ : ∃ g, g = goN 0 := ⟨_, rfl⟩
  rw [← hx, ← hg] at hc
  rw [← hx] at hq
  rw [← hg] at hz
  clear hx hg
  go_enter Try.func9, Try.ntmps9
  go_wp2_with fail
  refine (hc _).mono ?_
  rintro e w1 ⟨rfl, hb⟩
  go_wp2_with fail
  go_ret
  refine ⟨rfl, hb.alloc hb.size _⟩
end Go.Proofs.Ythjaodacakohkaa
