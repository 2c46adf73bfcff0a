/- mix: a state is mixed as the plain numbers say; and the reference's Next. Condition: the state fits 64 bits. -/
import Derived.Test.YthjaodacakohkaaRows
import Derived.Test.YthjaodacakohkaaDiceN
namespace Go.Proofs.Ythjaodacakohkaa
open Go.RowKit

theorem mixA_int (z : Nat) (h : z < 18446744073709551616) : IntKind.u64.wrap (bits .xor .u64 (z : Int) ((z : Int) / 1073741824) * 13787848793156543929) = ((mixA z : Nat) : Int) := by
  rw [show ((z : Int) / 1073741824) = ((z / 1073741824 : Nat) : Int) by omega, u64_xor_nat _ _ (by omega) (by omega), IntKind.wrap_u64]
  unfold mixA mulA two64
  omega
theorem mixB_int (z : Nat) (h : z < 18446744073709551616) : IntKind.u64.wrap (bits .xor .u64 (z : Int) ((z : Int) / 134217728) * 10723151780598845931) = ((mixB z : Nat) : Int) := by
  rw [show ((z : Int) / 134217728) = ((z / 134217728 : Nat) : Int) by omega, u64_xor_nat _ _ (by omega) (by omega), IntKind.wrap_u64]
  unfold mixB mulB two64
  omega
theorem mixC_int (z : Nat) (h : z < 18446744073709551616) : bits .xor .u64 (z : Int) ((z : Int) / 2147483648) = ((mixC z : Nat) : Int) := by
  rw [show ((z : Int) / 2147483648) = ((z / 2147483648 : Nat) : Int) by omega, u64_xor_nat _ _ (by omega) (by omega)]
  rfl
set_option maxHeartbeats 1000000 in
set_option maxRecDepth 20000 in
theorem Mix_calls (z : Nat) (w : World) (hz : z < 18446744073709551616) :
    Calls Try.prog 21 #[.int .u64 z] w fun e w' => e = .returned (.int .u64 (mixN z : Nat)) ∧ w = w' := by
  have hA := mixA_int z hz
  have lA := mixA_lt z
  have hE := Lib.hid (show mixN z = mixC (mixB (mixA z)) from rfl)
  obtain ⟨a, ha⟩ : ∃ a, a = mixA z := ⟨_, rfl⟩
  rw [← ha] at hA hE lA
  have hB := mixB_int a lA
  have lB := mixB_lt a
  obtain ⟨b, hb⟩ : ∃ b, b = mixB a := ⟨_, rfl⟩
  rw [← hb] at hB hE lB
  have hC := mixC_int b lB
  clear ha hb
  go_enter Try.func21, Try.ntmps21
  go_wp2_with fail
  go_ret
  exact ⟨by rw [hE.out]; rfl, rfl⟩
end Go.Proofs.Ythjaodacakohkaa
