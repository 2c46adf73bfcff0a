/- A nil eye: each call tells 0, or nothing, and turns nothing. -/
import Derived.Test.YtokjkbbijfiloaaEyeNum
namespace Go.Proofs.Ytokjkbbijfiloaa
open Go.RowKit

theorem EyeNil_Byte (w : World) : Calls Try.prog 29 #[.pointer none] w fun e w' => e = .returned (.int .u8 0) ∧ w = w' := by
  go_enter Try.func29, Try.ntmps29
  go_wp2_with fail
  refine (take_nil _ _).mono ?_
  rintro e w1 ⟨rfl, rfl⟩
  go_wp2_with fail
  refine (number_calls none [] 0 0 0 _ (Sl.nil_ _ _ _) rfl (by omega)).mono ?_
  rintro e w2 ⟨rfl, rfl⟩
  go_wp2
  go_ret
  exact ⟨rfl, rfl⟩
theorem EyeNil_Half (w : World) : Calls Try.prog 30 #[.pointer none] w fun e w' => e = .returned (.int .u16 0) ∧ w = w' := by
  go_enter Try.func30, Try.ntmps30
  go_wp2_with fail
  refine (take_nil _ _).mono ?_
  rintro e w1 ⟨rfl, rfl⟩
  go_wp2_with fail
  refine (number_calls none [] 0 0 0 _ (Sl.nil_ _ _ _) rfl (by omega)).mono ?_
  rintro e w2 ⟨rfl, rfl⟩
  go_wp2
  go_ret
  exact ⟨rfl, rfl⟩
theorem EyeNil_Word (w : World) : Calls Try.prog 31 #[.pointer none] w fun e w' => e = .returned (.int .u32 0) ∧ w = w' := by
  go_enter Try.func31, Try.ntmps31
  go_wp2_with fail
  refine (take_nil _ _).mono ?_
  rintro e w1 ⟨rfl, rfl⟩
  go_wp2_with fail
  refine (number_calls none [] 0 0 0 _ (Sl.nil_ _ _ _) rfl (by omega)).mono ?_
  rintro e w2 ⟨rfl, rfl⟩
  go_wp2
  go_ret
  exact ⟨rfl, rfl⟩
set_option maxHeartbeats 400000 in
set_option maxRecDepth 20000 in
theorem EyeNil_Num (n : Nat) (w : World) (_hn : n ≤ 18446744073709551615) : Calls Try.prog 27 #[.pointer none, .int .u64 n] w fun e w' => e = .returned (.int .u64 0) ∧ w = w' := by
  go_enter Try.func27, Try.ntmps27
  go_wp2_with fail
  refine wp_loop_rounds 1 ?_
  rw [rounds_succ]
  go_wp2_with fail
  refine (EyeNil_Byte _).mono ?_
  rintro e w1 ⟨rfl, rfl⟩
  have hz := num_or 0 0 0 (by omega) (by omega) (by omega)
  simp only [Nat.mul_zero, Nat.zero_mod, Nat.zero_add, Int.natCast_zero, Int.pow_zero, Int.mul_one] at hz
  have hn0 : ¬ n < 0 := by omega
  go_wp2_with fail
  go_ret
  exact ⟨rfl, rfl⟩
theorem EyeNil_Blob (n : Nat) (w : World) (_hn : n ≤ 9223372036854775807) : Calls Try.prog 32 #[.pointer none, .int .i64 n] w fun e w' => e = .returned (.slice none 0 0) ∧ w = w' := by
  go_enter Try.func32, Try.ntmps32
  go_wp2_with fail
  refine (EyeNil_Num n _ (by omega)).mono ?_
  rintro e w1 ⟨rfl, rfl⟩
  go_wp2_with fail
  refine (take_nil _ _).mono ?_
  rintro e w1 ⟨rfl, rfl⟩
  go_wp2
  go_ret
  exact ⟨rfl, rfl⟩
end Go.Proofs.Ytokjkbbijfiloaa
