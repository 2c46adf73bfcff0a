/- The reference's To. Conditions: the numbers fit 16 bits. -/
import Derived.Test.YtdkfmgadipfipaaDoorOnes
namespace Go.Proofs.YtdkfmgadipfipaaDoor
open Go.RowKit

set_option maxHeartbeats 1000000 in
set_option maxRecDepth 20000 in
theorem RefTo_calls (a b : Nat) (w : World) (ha : a < 65536) (hb : b < 65536) :
    Calls Tryd.prog 9 #[.int .u16 a, .int .u16 b] w fun e w' => e = .returned (.int .i64 (toI a b)) ∧ w' = w := by
  have h1 : ((b : Int) - (a : Int) + 65536).tmod 65536 = (((b + 65536 - a) % 65536 : Nat) : Int) := by
    rw [Int.tmod_eq_emod_of_nonneg (by omega)]; omega
  obtain ⟨D, hD⟩ : ∃ D, D = (b + 65536 - a) % 65536 := ⟨_, rfl⟩
  have hT : toI a b = if D < 32768 then (D : Int) else (D : Int) - 65536 := by rw [hD]; rfl
  have hl : D < 65536 := by omega
  rw [← hD] at h1
  clear hD
  rw [hT]
  clear hT
  by_cases h : D < 32768
  · rw [if_pos h]
    have h2 : (32767 : Int) < (D : Int) ↔ False := by simp; omega
    go_enter Tryd.func9, Tryd.ntmps9
    go_wp2_with fail
    go_ret
    exact ⟨rfl, rfl⟩
  · rw [if_neg h]
    have h2 : (32767 : Int) < (D : Int) ↔ True := by simp; omega
    go_enter Tryd.func9, Tryd.ntmps9
    go_wp2_with fail
    go_ret
    exact ⟨rfl, rfl⟩
end Go.Proofs.YtdkfmgadipfipaaDoor
