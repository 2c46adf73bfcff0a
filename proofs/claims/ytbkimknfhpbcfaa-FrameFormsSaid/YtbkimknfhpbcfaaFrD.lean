/- slices.Equal of nothing, delta.Same of two without cells, a message of an input: its Bytes, Read, Like. Conditions: the numbers fit. -/
import Derived.Test.YtbkimknfhpbcfaaFrC
namespace Go.Proofs.Ytbkimknfhpbcfaa
open Go.RowKit

set_option maxHeartbeats 1000000 in
theorem EqualB_nil (w : World) : Calls Try.prog 78 #[.slice none 0 0, .slice none 0 0] w fun e w' => e = .returned (.bool true) ∧ w' = w := by
  go_enter Try.func78, Try.ntmps78
  go_wp2_with fail
  go_loopw [13] (fun i wr => i = .int .i64 0 ∧ wr = w) (fun _ _ => 0)
  case atStart => exact ⟨rfl, rfl⟩
  case round =>
    obtain ⟨rfl, rfl⟩ := hrel
    go_wp2_with fail
    go_ret
    exact ⟨rfl, rfl⟩
set_option maxHeartbeats 1000000 in
theorem EqualC_nil (w : World) : Calls Try.prog 79 #[.slice none 0 0, .slice none 0 0] w fun e w' => e = .returned (.bool true) ∧ w' = w := by
  go_enter Try.func79, Try.ntmps79
  go_wp2_with fail
  go_loopw [13] (fun i wr => i = .int .i64 0 ∧ wr = w) (fun _ _ => 0)
  case atStart => exact ⟨rfl, rfl⟩
  case round =>
    obtain ⟨rfl, rfl⟩ := hrel
    go_wp2_with fail
    go_ret
    exact ⟨rfl, rfl⟩
set_option maxHeartbeats 1000000 in
set_option maxRecDepth 20000 in
theorem DSame_nil (t h : Nat) (w : World) : Calls Try.prog 59 #[.agg #[.int .u32 (t : Int), .int .u32 (h : Int), .slice none 0 0, .slice none 0 0], .agg #[.int .u32 (t : Int), .int .u32 (h : Int), .slice none 0 0, .slice none 0 0]] w fun e w' => e = .returned (.bool true) ∧ Below w.heap.size w w' := by
  have hb := below_alloc2 w (.cells #[.int .u32 (t : Int), .int .u32 (h : Int), .slice none 0 0, .slice none 0 0] 54) (.cells #[.int .u32 (t : Int), .int .u32 (h : Int), .slice none 0 0, .slice none 0 0] 54)
  go_enter Try.func59, Try.ntmps59
  go_wp2_with fail
  refine (EqualB_nil _).mono ?_
  rintro e w1 ⟨rfl, rfl⟩
  go_wp2_with fail
  refine (EqualC_nil _).mono ?_
  rintro e w1 ⟨rfl, rfl⟩
  go_wp2_with fail
  go_ret
  exact ⟨rfl, hb⟩
/-- A message of an input in seven cells. -/
abbrev mI (k t m dt dh : Nat) : Array Value := #[.int .u8 (k : Int), .int .u32 (t : Int), .int .u32 (m : Int), .int .u32 (dt : Int), .int .u32 (dh : Int), .slice none 0 0, .slice none 0 0]
set_option maxHeartbeats 1000000 in
set_option maxRecDepth 20000 in
theorem Like_nil (k t m dt dh : Nat) (w : World) : Calls Try.prog 31 #[.agg (mI k t m dt dh), .agg (mI k t m dt dh)] w fun e w' => e = .returned (.bool true) ∧ Below w.heap.size w w' := by
  have hb := below_alloc2 w (.cells (mI k t m dt dh) 56) (.cells (mI k t m dt dh) 56)
  go_enter Try.func31, Try.ntmps31
  go_wp2_with fail
  refine (DSame_nil dt dh _).mono ?_
  rintro e w1 ⟨rfl, h1⟩
  go_wp2_with fail
  go_ret
  exact ⟨rfl, hb.trans (h1.mono hb.size)⟩
end Go.Proofs.Ytbkimknfhpbcfaa
