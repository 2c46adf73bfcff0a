/- Step: a sum behind one more byte is the plain step. Condition: the sum fits 32 bits. -/
import Derived.Test.YtgpedkdebifooaaDoorCrc
namespace Go.Proofs.YtgpedkdebifooaaDoor
open Go.RowKit

theorem bitStep_go (m : Nat) (h : m < 2 ^ 32) : bits .xor .u32 ((m : Int) / 2) (bits .and .u32 (m : Int) 1 * 2197175160 % 4294967296) = ((bitStep m : Nat) : Int) := by
  have h1 : bits .and .u32 (m : Int) 1 = ((m % 2 : Nat) : Int) := by
    rw [show (1 : Int) = ((1 : Nat) : Int) from rfl, u32_and_nat m 1 (by omega) (by omega), Nat.and_one_is_mod]
  have h2 : ((m % 2 : Nat) : Int) * 2197175160 % 4294967296 = ((if m % 2 = 1 then 2197175160 else 0 : Nat) : Int) := by
    split <;> omega
  rw [h1, h2, show ((m : Int) / 2) = ((m / 2 : Nat) : Int) by omega, u32_xor_nat _ _ (by omega) (by split <;> omega)]
  rfl
set_option maxHeartbeats 1000000 in
set_option maxRecDepth 20000 in
theorem Step_calls (s : Nat) (b : Nat) (w : World) (hs : s < 2 ^ 32) (hb : b < 256) :
    Calls Tryd.prog 76 #[.int .u32 s, .int .u8 b] w fun e w' => e = .returned (.int .u32 (step8 s b : Nat)) ∧ w = w' := by
  have e0 : bits .xor .u32 (s : Int) (b : Int) = ((s ^^^ b : Nat) : Int) := u32_xor_nat s b (by omega) (by omega)
  have l0 : s ^^^ b < 2 ^ 32 := Nat.xor_lt_two_pow hs (by omega)
  obtain ⟨x, hx⟩ : ∃ x, x = s ^^^ b := ⟨_, rfl⟩
  have HS := Lib.hid (show step8 s b = crcBits 8 x by rw [hx]; rfl)
  rw [← hx] at e0 l0
  clear hx hs
  go_enter Tryd.func76, Tryd.ntmps76
  go_wp2_with fail
  go_loop [0, 10] (fun v i => ∃ k m : Nat, k ≤ 8 ∧ i = .int .i64 k ∧ v = .int .u32 m ∧ Hid (m < 2 ^ 32) ∧ Hid (m = crcBits k x)) (fun _ i => 8 - (intOf i).toNat)
  case atStart => exact ⟨0, x, by omega, rfl, rfl, Lib.hid l0, Lib.hid rfl⟩
  case round =>
    obtain ⟨k, m, hk, rfl, rfl, hm, hv⟩ := hrel
    by_cases hlt : k < 8
    · have hb := bitStep_go m hm.out
      go_wp2_with fail
      go_round
      case rel => exact ⟨k + 1, bitStep m, by omega, by go_num, rfl, Lib.hid (bitStep_lt hm.out), Lib.hid (by rw [crcBits_succ, hv.out])⟩
      case measure => simp [intOf]; omega
    · have hk8 : k = 8 := by omega
      subst hk8
      go_wp2_with fail
      go_ret
      exact ⟨by rw [HS.out, hv.out]; rfl, rfl⟩
end Go.Proofs.YtgpedkdebifooaaDoor
