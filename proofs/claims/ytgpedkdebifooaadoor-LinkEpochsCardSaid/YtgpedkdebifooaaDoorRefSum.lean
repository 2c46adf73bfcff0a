/- The reference's Sum, bit by bit, is the plain sum. Condition: the text is the slice's. -/
import Derived.Test.YtgpedkdebifooaaDoorStep
namespace Go.Proofs.YtgpedkdebifooaaDoor
open Go.RowKit

theorem bitStep_ref (r c : Nat) : bitStep (r ^^^ c) = (r / 2 ^^^ (if (r % 2 + c) % 2 = 1 then 2197175160 else 0)) ^^^ c / 2 := by
  unfold bitStep
  rw [Nat.xor_div_two, xor_odd, show (r + c) % 2 = (r % 2 + c) % 2 by omega, Nat.xor_assoc, Nat.xor_comm (c / 2), Nat.xor_assoc]
theorem ref_next {y r x j : Nat} (h : crcBits j y = r ^^^ x / 2 ^ j) : crcBits (j + 1) y = (r / 2 ^^^ (if (r % 2 + x / 2 ^ j) % 2 = 1 then 2197175160 else 0)) ^^^ x / 2 ^ (j + 1) := by
  rw [crcBits_succ, h, bitStep_ref, Nat.div_div_eq_div_mul, Nat.pow_succ]
theorem crc_take {s : Nat} {l : List UInt8} {k : Nat} (h : k < l.length) : crc s (l.take (k + 1)) = crcBits 8 (crc s (l.take k) ^^^ l[k].toNat) := by
  rw [List.take_succ_eq_append_getElem h, crc_append]; rfl
set_option maxHeartbeats 1000000 in
set_option maxRecDepth 20000 in
theorem RefSum_calls (A : Option Addr) (l : List UInt8) (n c b : Nat) (w : World) (hs : Bs w b A l) (hl : l.length = n) (hm : n ≤ maxLen) :
    Calls Tryd.prog 78 #[.slice A n c] w fun e w' => e = .returned (.int .u32 (sumN l : Nat)) ∧ w = w' := by
  unfold maxLen at hm
  have HN := Lib.hid hl
  clear hl
  go_enter Tryd.func78, Tryd.ntmps78
  go_wp2_with fail
  go_loop [3, 10] (fun v i => ∃ k m : Nat, k ≤ n ∧ i = .int .i64 k ∧ v = .int .u64 m ∧ Hid (m < 2 ^ 32) ∧ Hid (m = crc 4294967295 (l.take k))) (fun _ i => n - (intOf i).toNat)
  case atStart => exact ⟨0, 4294967295, by omega, rfl, rfl, Lib.hid (by omega), Lib.hid rfl⟩
  case round =>
    obtain ⟨k, m, hk, rfl, rfl, hm32, hv⟩ := hrel
    by_cases hlt : k < n
    · obtain ⟨oa, rfl, hca⟩ := hs.at_ (k := k) (by rw [HN.out]; exact hlt)
      have ca := hca k (by rw [HN.out]; exact hlt)
      have kl : k < l.length := by rw [HN.out]; exact hlt
      have HT := Lib.hid (crc_take (s := 4294967295) kl)
      obtain ⟨x, hx⟩ : ∃ x : Nat, x = l[k].toNat := ⟨_, rfl⟩
      have x8 : x < 256 := by have := l[k].toNat_lt; omega
      rw [← hx] at ca HT

      clear hca hx
      go_wp2_with fail
      go_loop [3, 6] (fun v i => ∃ j r : Nat, j ≤ 8 ∧ i = .int .i64 j ∧ v = .int .u64 r ∧ Hid (r < 2 ^ 32) ∧ Hid (crcBits j (m ^^^ x) = r ^^^ x / 2 ^ j)) (fun _ i => 8 - (intOf i).toNat)
      case atStart => exact ⟨0, m, by omega, rfl, rfl, hm32, Lib.hid (by simp [crcBits])⟩
      case round =>
        obtain ⟨j, r, hj, rfl, rfl, hr32, hr⟩ := hrel
        by_cases hlt2 : j < 8
        · have hnx := Lib.hid (ref_next hr.out)
          obtain ⟨q, hq⟩ : ∃ q, q = x / 2 ^ j := ⟨_, rfl⟩
          have hqi : (x : Int) / 2 ^ j = (q : Int) := by rw [hq]; simp
          have q8 : q < 256 := by rw [hq]; exact Nat.lt_of_le_of_lt (Nat.div_le_self _ _) x8
          rw [← hq] at hnx
          have hrr := hr32.out
          have hr2 : r / 2 < 2 ^ 32 := by omega
          have hxo : bits .xor .u64 ((r : Int) / 2) 2197175160 = ((r / 2 ^^^ 2197175160 : Nat) : Int) := by
            rw [show ((r : Int) / 2) = ((r / 2 : Nat) : Int) by omega, show (2197175160 : Int) = ((2197175160 : Nat) : Int) from rfl, u64_xor_nat _ _ (by omega) (by omega)]
          clear hq
          by_cases ho : (r % 2 + q) % 2 = 1
          · have hb1 : (((r : Int) % 2 + (q : Int)) % 2 == 1) = true := by simp only [beq_iff_eq]; omega
            have hnx' := Lib.hid (hnx.out.trans (by rw [if_pos ho]))
            go_wp2_with fail
            go_round
            case rel => exact ⟨j + 1, r / 2 ^^^ 2197175160, by omega, by go_num, rfl, Lib.hid (Nat.xor_lt_two_pow hr2 (by omega)), hnx'⟩
            case measure => simp [intOf]; omega
          · have hb1 : (((r : Int) % 2 + (q : Int)) % 2 == 1) = false := by simp only [beq_eq_false_iff_ne, ne_eq]; omega
            have hnx' := Lib.hid (hnx.out.trans (by rw [if_neg ho, Nat.xor_zero]))
            go_wp2_with fail
            go_round
            case rel => exact ⟨j + 1, r / 2, by omega, by go_num, by go_num, Lib.hid hr2, hnx'⟩
            case measure => simp [intOf]; omega
        · have hj8 : j = 8 := by omega
          subst hj8
          have hr8 : r = crc 4294967295 (l.take (k + 1)) := by
            rw [HT.out, ← hv.out, hr.out, show x / 2 ^ 8 = 0 by omega, Nat.xor_zero]
          go_wp2_with fail
          go_round
          case rel => exact ⟨k + 1, r, by omega, by go_num, rfl, hr32, Lib.hid hr8⟩
          case measure => simp [intOf]; omega
    · have hkn : k = n := by omega
      subst hkn
      have hall : l.take l.length = l := List.take_length
      have hmv : m = crc 4294967295 l := by rw [hv.out, ← HN.out, hall]
      have hmm := hm32.out
      have hsum : (4294967295 : Int) - ((crc 4294967295 l : Nat) : Int) = ((sumN l : Nat) : Int) := by unfold sumN; omega
      go_wp2_with fail
      go_ret
      exact ⟨by rw [← hsum]; rfl, rfl⟩
end Go.Proofs.YtgpedkdebifooaaDoor
