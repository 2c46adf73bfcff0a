/- math/bits.OnesCount32 over its constant string. -/
import Derived.Test.YtbbabmiacmmkpaaDoorMTz
import Derived.Test.YtbbabmiacmmkpaaDoorRound
import Derived.BigRegion
import Derived.Lib.Tables
import Derived.Lib.BitFns
namespace Go.Proofs.YtbbabmiacmmkpaaDoor
open Go.RowKit

theorem u32_and255 (y : Nat) (h : y < 4294967296) : bits .and .u32 (y : Int) 255 = ((y % 256 : Nat) : Int) := by
  rw [show (255 : Int) = ((255 : Nat) : Int) from rfl, u32_and_nat _ _ h (by omega), show y &&& 255 = y % 256 from Nat.and_two_pow_sub_one_eq_mod y 8]
theorem pop8_cnt256 : ∀ n : Fin 256, Lib.pop8 (n.val : Int) = (cnt n.val 8 : Int) := by decide +kernel
theorem pop8_cnt (n : Nat) (h : n < 256) : Lib.pop8 (n : Int) = (cnt n 8 : Int) := pop8_cnt256 ⟨n, h⟩
theorem pop_all (x : Nat) (hx : x < 4294967296) : (Lib.pop8 ((x : Int) / 16777216) + Lib.pop8 ((x : Int) / 65536 % 256) + Lib.pop8 ((x : Int) / 256 % 256) + Lib.pop8 ((x : Int) % 256)) % 256 = ((cnt x 32 : Nat) : Int) := by
  have h1 := pop8_cnt (x / 16777216) (by omega)
  have h2 := pop8_cnt (x / 65536 % 256) (by omega)
  have h3 := pop8_cnt (x / 256 % 256) (by omega)
  have h4 := pop8_cnt (x % 256) (by omega)
  have l := cnt_le x 32
  have h := cnt_bytes x hx
  rw [show (x : Int) / 16777216 = ((x / 16777216 : Nat) : Int) by omega, show (x : Int) / 65536 % 256 = ((x / 65536 % 256 : Nat) : Int) by omega,
    show (x : Int) / 256 % 256 = ((x / 256 % 256 : Nat) : Int) by omega, show (x : Int) % 256 = ((x % 256 : Nat) : Int) by omega, h1, h2, h3, h4]
  omega
@[go_sem high] theorem fold_pop4 : (⟨((([0, 1, 1, 2, 1, 2, 2, 3, 1, 2, 2, 3, 2, 3, 3, 4, 1, 2, 2, 3, 2, 3, 3, 4, 2, 3, 3, 4, 3, 4, 4, 5, 1, 2, 2, 3, 2, 3, 3, 4, 2, 3, 3, 4, 3, 4, 4, 5, 2, 3, 3, 4, 3, 4, 4, 5, 3, 4, 4, 5, 4, 5, 5, 6]: List UInt8).append ([1, 2, 2, 3, 2, 3, 3, 4, 2, 3, 3, 4, 3, 4, 4, 5, 2, 3, 3, 4, 3, 4, 4, 5, 3, 4, 4, 5, 4, 5, 5, 6, 2, 3, 3, 4, 3, 4, 4, 5, 3, 4, 4, 5, 4, 5, 5, 6, 3, 4, 4, 5, 4, 5, 5, 6, 4, 5, 5, 6, 5, 6, 6, 7]: List UInt8)).append (([1, 2, 2, 3, 2, 3, 3, 4, 2, 3, 3, 4, 3, 4, 4, 5, 2, 3, 3, 4, 3, 4, 4, 5, 3, 4, 4, 5, 4, 5, 5, 6, 2, 3, 3, 4, 3, 4, 4, 5, 3, 4, 4, 5, 4, 5, 5, 6, 3, 4, 4, 5, 4, 5, 5, 6, 4, 5, 5, 6, 5, 6, 6, 7]: List UInt8).append ([2, 3, 3, 4, 3, 4, 4, 5, 3, 4, 4, 5, 4, 5, 5, 6, 3, 4, 4, 5, 4, 5, 5, 6, 4, 5, 5, 6, 5, 6, 6, 7, 3, 4, 4, 5, 4, 5, 5, 6, 4, 5, 5, 6, 5, 6, 6, 7, 4, 5, 5, 6, 5, 6, 6, 7, 5, 6, 6, 7, 6, 7, 7, 8]: List UInt8))).toArray⟩ : ByteArray) = Lib.pop8tab := by kernel_rfl
set_option maxHeartbeats 4000000 in
set_option maxRecDepth 20000 in
theorem Ones_calls (x : Nat) (hx : x < 4294967296) (w : World) :
    Calls Tryd.prog 26 #[.int .u32 x] w fun e w' => e = .returned (.int .i64 (cnt x 32 : Nat)) ∧ Below w.heap.size w w' := by
  have a0 : 0 ≤ (x : Int) / 16777216 := by omega
  have a1 : (x : Int) / 16777216 ≤ 255 := by omega
  have e2 : bits .and .u32 ((x : Int) / 65536) 255 = (x : Int) / 65536 % 256 := by
    have h := u32_and255 (x / 65536) (by omega)
    simpa using h
  have e3 : bits .and .u32 ((x : Int) / 256) 255 = (x : Int) / 256 % 256 := by
    have h := u32_and255 (x / 256) (by omega)
    simpa using h
  have e4 : bits .and .u32 (x : Int) 255 = (x : Int) % 256 := by simpa using u32_and255 x hx
  go_enter Tryd.func26, Tryd.ntmps26
  go_wp2_with fail
  go_region
  go_wp2_with fail
  go_ret
  exact ⟨by rw [pop_all x hx]; rfl, below_drew (Below.refl w.heap.size w)⟩
end Go.Proofs.YtbbabmiacmmkpaaDoor
