/- alone, Has, Less, Within, With, Of: the plain numbers. Conditions: the numbers fit 32 bits, the lists are short. -/
import Derived.Test.YtpppjlcfhijdgaaRows
import Derived.Test.YtpppjlcfhijdgaaBase
import Derived.Test.YtpppjlcfhijdgaaMaskN
import Derived.Test.YtpppjlcfhijdgaaI64
import Derived.BigGuardPart
namespace Go.Proofs.Ytpppjlcfhijdgaa
open Go.RowKit

set_option maxHeartbeats 1000000 in
set_option maxRecDepth 20000 in
theorem alone_calls (o : Int) (w : World) :
    Calls Try.prog 56 #[.int .i64 o] w fun e w' => e = .returned (.int .u32 (aloneN o : Nat)) ∧ w' = w := by
  have hB := Lib.hid (show aloneN o = if 0 ≤ o ∧ o < 32 then 2 ^ o.toNat else 0 from rfl)
  obtain ⟨t, ht⟩ : ∃ t, t = aloneN o := ⟨_, rfl⟩
  rw [← ht] at hB ⊢
  clear ht
  by_cases h0 : o < 0
  · go_enter Try.func56, Try.ntmps56
    go_wp2_with fail
    go_ret
    exact ⟨by rw [hB.out, if_neg (by omega)]; rfl, rfl⟩
  · by_cases h1 : o < 32
    · obtain ⟨k, rfl⟩ : ∃ k : Nat, o = (k : Int) := ⟨o.toNat, by omega⟩
      obtain ⟨P, hP⟩ : ∃ P : Nat, P = 2 ^ k := ⟨_, rfl⟩
      have hPl : P < 4294967296 := by
        have : (2 : Nat) ^ k < 2 ^ 32 := Nat.pow_lt_pow_right (by omega) (by omega)
        omega
      have hPi : (2 : Int) ^ k = (P : Int) := by rw [hP]; simp
      have HP := Lib.hid hP
      have hw : IntKind.u32.wrap (P : Int) = (P : Int) := IntWalk.u32_in _ (by omega)
      have hk2 : (k : Int) < 32 := h1
      clear hP h0 h1
      go_enter Try.func56, Try.ntmps56
      go_wp2_with fail
      go_ret
      exact ⟨by rw [hB.out, if_pos (by omega), show (k : Int).toNat = k by omega, ← HP.out]; rfl, rfl⟩
    · go_enter Try.func56, Try.ntmps56
      go_wp2_with fail
      go_ret
      exact ⟨by rw [hB.out, if_neg (by omega)]; rfl, rfl⟩
set_option maxHeartbeats 1000000 in
set_option maxRecDepth 20000 in
theorem MHas_calls (m : Nat) (o : Int) (w : World) (hm : m < 4294967296) :
    Calls Try.prog 33 #[.int .u32 m, .int .i64 o] w fun e w' => e = .returned (.bool (decide (m &&& aloneN o ≠ 0))) ∧ w' = w := by
  have hA := alone_calls o
  have hl := aloneN_lt o
  have hand := u32_and_nat m (aloneN o) hm hl
  obtain ⟨t, ht⟩ : ∃ t, t = aloneN o := ⟨_, rfl⟩
  rw [← ht] at hA hand hl ⊢
  obtain ⟨z, hz⟩ : ∃ z, z = m &&& t := ⟨_, rfl⟩
  rw [← hz] at hand ⊢
  clear ht hz
  go_enter Try.func33, Try.ntmps33
  go_wp2_with fail
  refine (hA _).mono ?_
  rintro e w' ⟨rfl, rfl⟩
  go_wp2_with fail
  go_ret
  refine ⟨?_, rfl⟩
  show Ending.returned (.bool ((z : Int) != 0)) = _
  congr 2
  rw [Bool.eq_iff_iff]
  simp
theorem hasM_bit {m k : Nat} (hk : k < 32) : decide (m &&& aloneN (k : Int) ≠ 0) = m.testBit k := by
  rw [aloneN_nat hk]
  have : m &&& 2 ^ k = if m.testBit k = true then 2 ^ k else 0 := by
    apply Nat.eq_of_testBit_eq
    intro j
    rw [Nat.testBit_and, Nat.testBit_two_pow]
    by_cases h : m.testBit k = true
    · rw [if_pos h, Nat.testBit_two_pow]
      by_cases hij : k = j
      · subst hij; simp [h]
      · simp [hij]
    · rw [if_neg h, Nat.zero_testBit]
      by_cases hij : k = j
      · subst hij; simp [h]
      · simp [hij]
  rw [this]
  cases h : m.testBit k <;> simp
end Go.Proofs.Ytpppjlcfhijdgaa
