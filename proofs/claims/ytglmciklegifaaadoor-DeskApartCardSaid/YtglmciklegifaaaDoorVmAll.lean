/- What the laws take besides: the first observers, and the moves of a law's players. Conditions: none but the list's shape. -/
import Derived.Test.YtglmciklegifaaaDoorMaskB
namespace Go.Proofs.YtglmciklegifaaaDoor
open Go.RowKit

/-- The first n observers. -/
def allN (n : Int) : Nat := 2 ^ (min (max n 0) 32).toNat - 1
theorem allN_lt (n : Int) : allN n < 4294967296 := by
  unfold allN
  have : (2 : Nat) ^ (min (max n 0) 32).toNat ≤ 2 ^ 32 := Nat.pow_le_pow_right (by omega) (by omega)
  omega
theorem allN_bit (n : Int) (i : Nat) (hi : i < 32) : (allN n).testBit i = decide ((i : Int) < n) := by
  unfold allN
  rw [Nat.testBit_two_pow_sub_one, decide_eq_decide]
  omega
set_option maxHeartbeats 1000000 in
set_option maxRecDepth 20000 in
theorem All_calls (n : Int) (w : World) :
    Calls Tryd.prog 53 #[.int .i64 n] w fun e w' => e = .returned (.int .u32 (allN n : Nat)) ∧ w' = w := by
  have hB := Lib.hid (show allN n = 2 ^ (min (max n 0) 32).toNat - 1 from rfl)
  obtain ⟨t, ht⟩ : ∃ t, t = allN n := ⟨_, rfl⟩
  rw [← ht] at hB ⊢
  clear ht
  obtain ⟨x, hx⟩ : ∃ x, max n 0 = x := ⟨_, rfl⟩
  have hx2 : (if n < 0 then 0 else n) = x := by rw [← hx]; split <;> omega
  rw [hx] at hB
  obtain ⟨k, hk⟩ : ∃ k : Nat, min x 32 = (k : Int) := ⟨(min x 32).toNat, by omega⟩
  have hk32 : k ≤ 32 := by omega
  have hk2 : (if 32 < x then 32 else x) = (k : Int) := by rw [← hk]; split <;> omega
  have hk3 : (if x ≤ 32 then x else 32) = (k : Int) := by rw [← hk]; split <;> omega
  have hB := Lib.hid (show t = 2 ^ k - 1 by rw [hB.out, hk]; simp)
  have hkl : (k : Int) ≤ 32 := by omega
  obtain ⟨P, hP⟩ : ∃ P : Nat, P = 2 ^ k := ⟨_, rfl⟩
  have hPi : (2 : Int) ^ k = (P : Int) := by rw [hP]; simp
  have hP1 : 1 ≤ P := by rw [hP]; exact Nat.one_le_two_pow
  have hP2 : P ≤ 4294967296 := by
    rw [hP, show (4294967296 : Nat) = 2 ^ 32 from rfl]
    exact Nat.pow_le_pow_right (by omega) hk32
  rw [← hP] at hB
  have H1 := Lib.hid hP1
  have H2 := Lib.hid hP2
  clear hP hP1 hP2 hk32
  go_enter Tryd.func53, Tryd.ntmps53
  go_wp2_with fail
  go_ret
  refine ⟨?_, rfl⟩
  have h1 := H1.out
  have h2 := H2.out
  show Ending.returned (.int .u32 (((P : Int) % 4294967296 - 1) % 4294967296)) = _
  rw [hB.out]
  congr 2
  omega
end Go.Proofs.YtglmciklegifaaaDoor
