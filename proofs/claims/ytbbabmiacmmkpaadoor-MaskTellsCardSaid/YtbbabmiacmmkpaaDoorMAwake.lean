/- All, and awake: the document's example. Condition: the library's table lies as it lays it. -/
import Derived.Test.YtbbabmiacmmkpaaDoorText
namespace Go.Proofs.YtbbabmiacmmkpaaDoor
open Go.RowKit

/-- The first n observers. -/
def allN (n : Int) : Nat := 2 ^ (min (max n 0) 32).toNat - 1
theorem allN_lt (n : Int) : allN n < 4294967296 := by
  unfold allN
  have : (2 : Nat) ^ (min (max n 0) 32).toNat ≤ 2 ^ 32 := Nat.pow_le_pow_right (by omega) (by omega)
  omega
theorem allN_bit (n : Int) (i : Nat) (hi : i < 32) : (allN n).testBit i = decide ((i : Int) < n) := by
  unfold allN
  rw [Nat.testBit_two_pow_sub_one, decide_eq_decide]
  omega
set_option maxHeartbeats 1000000 in
set_option maxRecDepth 20000 in
theorem All_calls (n : Int) (w : World) :
    Calls Tryd.prog 12 #[.int .i64 n] w fun e w' => e = .returned (.int .u32 (allN n : Nat)) ∧ w' = w := by
  have hB := Lib.hid (show allN n = 2 ^ (min (max n 0) 32).toNat - 1 from rfl)
  obtain ⟨t, ht⟩ : ∃ t, t = allN n := ⟨_, rfl⟩
  rw [← ht] at hB ⊢
  clear ht
  obtain ⟨x, hx⟩ : ∃ x, max n 0 = x := ⟨_, rfl⟩
  rw [hx] at hB
  obtain ⟨k, hk⟩ : ∃ k : Nat, min x 32 = (k : Int) := ⟨(min x 32).toNat, by omega⟩
  have hk32 : k ≤ 32 := by omega
  have hB := Lib.hid (show t = 2 ^ k - 1 by rw [hB.out, hk]; simp)
  have hkl : (k : Int) ≤ 32 := by omega
  obtain ⟨P, hP⟩ : ∃ P : Nat, P = 2 ^ k := ⟨_, rfl⟩
  have hPi : (2 : Int) ^ k = (P : Int) := by rw [hP]; simp
  have hP1 : 1 ≤ P := by rw [hP]; exact Nat.one_le_two_pow
  have hP2 : P ≤ 4294967296 := by
    rw [hP, show (4294967296 : Nat) = 2 ^ 32 from rfl]
    exact Nat.pow_le_pow_right (by omega) hk32
  rw [← hP] at hB
  have H1 := Lib.hid hP1
  have H2 := Lib.hid hP2
  clear hP hP1 hP2 hk32
  go_enter Tryd.func12, Tryd.ntmps12
  go_wp2_with fail
  go_ret
  refine ⟨?_, rfl⟩
  have h1 := H1.out
  have h2 := H2.out
  show Ending.returned (.int .u32 (((P : Int) % 4294967296 - 1) % 4294967296)) = _
  rw [hB.out]
  congr 2
  omega
set_option maxHeartbeats 2000000 in
set_option maxRecDepth 20000 in
theorem awake_calls (w : World) (hTab : Tab w) :
    Calls Tryd.prog 7 #[] w fun e w' => e = .returned (.bool true) ∧ Below w.heap.size w w' := by
  have hO := Of_calls (some ⟨w.heap.size, 0, none⟩) [3, 1] 2 2 w.heap.size (w.alloc (.cells #[.int .i64 3, .int .i64 1] 3)) (Sl.cells_new w _ _) rfl (by omega)
  rw [show withN 0 [3, 1] = 10 by decide +kernel] at hO
  have hT := Text_calls 10 (by omega) (w.alloc (.cells #[.int .i64 3, .int .i64 1] 3)) (Tab.ext hTab (below_alloc1 _ _))
  rw [show textN 10 = [49, 44, 51] by decide +kernel] at hT
  have hA := All_calls 2
  rw [show allN 2 = 3 by decide +kernel] at hA
  have hH := fun W => MHas_calls 3 1 W (by omega)
  rw [show decide (3 &&& aloneN 1 ≠ 0) = true by decide +kernel] at hH
  go_enter Tryd.func7, Tryd.ntmps7
  go_wp2_with fail
  refine hO.mono ?_
  rintro e w1 ⟨rfl, rfl⟩
  go_wp2_with fail
  refine hT.mono ?_
  rintro e w2 ⟨rfl, hb⟩
  go_wp2_with fail
  refine (hA _).mono ?_
  rintro e w3 ⟨rfl, rfl⟩
  go_wp2_with fail
  refine (hH _).mono ?_
  rintro e w4 ⟨rfl, rfl⟩
  go_wp2_with fail
  go_ret
  exact ⟨rfl, (below_alloc1 w _).trans (hb.mono (by simp))⟩
end Go.Proofs.YtbbabmiacmmkpaaDoor
