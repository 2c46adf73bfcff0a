/- The reference's In, Word, List. Conditions: the lists are short; the numbers fit. -/
import Derived.Test.YtbbabmiacmmkpaaDoorMAwake
namespace Go.Proofs.YtbbabmiacmmkpaaDoor
open Go.RowKit

set_option maxHeartbeats 2000000 in
set_option maxRecDepth 20000 in
theorem RefIn_calls (A : Option Addr) (l : List Int) (n c b : Nat) (x : Int) (w : World) (hs : Sl w b A (iz l)) (hn : l.length = n) (hnm : n ≤ 1000000000000) :
    Calls Tryd.prog 14 #[.slice A n c, .int .i64 x] w fun e w' => e = .returned (.bool (decide (x ∈ l))) ∧ w' = w := by
  have HN := Lib.hid hn
  have HD := Lib.hid (show ∀ j, j ≤ n → x ∉ l.take j → decide (x ∈ l) = decide (x ∈ l.drop j) by
    intro j _ hj
    conv => lhs; rw [← List.take_append_drop j l]
    rw [decide_eq_decide, List.mem_append]
    exact ⟨fun h => h.resolve_left hj, .inr⟩)
  obtain ⟨r, hr⟩ : ∃ r, r = decide (x ∈ l) := ⟨_, rfl⟩
  rw [← hr] at HD ⊢
  clear hn hr
  go_enter Tryd.func14, Tryd.ntmps14
  go_wp2_with fail
  go_loopw [9] (fun i wr => ∃ j : Nat, j ≤ n ∧ i = .int .i64 j ∧ Hid (x ∉ l.take j) ∧ wr = w) (fun i _ => n - (intOf i).toNat)
  case atStart => exact ⟨0, Nat.zero_le _, rfl, Lib.hid (by simp), rfl⟩
  case round =>
    obtain ⟨j, hj, rfl, hx, rfl⟩ := hrel
    by_cases hlt : j < n
    · obtain ⟨o, ho⟩ : ∃ o, l[j]? = some o := ⟨_, List.getElem?_eq_getElem (by rw [HN.out]; exact hlt)⟩
      obtain ⟨off, rfl, hcl⟩ := hs (by intro h0; have := congrArg List.length h0; simp at this; rw [this] at ho; simp at ho)
      have hcj := hcl j _ (iz_get? ho)
      have hr := HD.out j hj hx.out
      have hdr : l.drop j = o :: l.drop (j + 1) := by
        obtain ⟨h1, h2⟩ := List.getElem?_eq_some_iff.1 ho
        rw [← h2]; exact List.drop_eq_getElem_cons h1
      have htk : l.take (j + 1) = l.take j ++ [o] := by rw [List.take_add_one, ho]; rfl
      have ej : (j : Int) < (n : Int) := by omega
      by_cases hxo : x = o
      · have hrt : r = true := by rw [hr, hdr, hxo]; simp
        have hb : (x == o) = true := by simpa using hxo
        have HR := Lib.hid hrt
        clear hcl ho hs hr hdr htk hxo hrt
        go_wp2_with fail
        go_ret
        exact ⟨by rw [HR.out]; rfl, rfl⟩
      · have hb : (x == o) = false := by simpa using hxo
        have HT := Lib.hid (show x ∉ l.take (j + 1) by rw [htk]; simp; exact ⟨hx.out, hxo⟩)
        clear hcl ho hs hr hdr htk hxo
        go_wp2_with fail
        go_roundw
        case rel => exact ⟨j + 1, by omega, by go_num, HT, trivial⟩
        case measure => simp [intOf]; omega
    · obtain rfl : n = j := by omega
      have hr := HD.out n (Nat.le_refl _) hx.out
      rw [List.drop_of_length_le (by rw [HN.out]; omega)] at hr
      have HR := Lib.hid (show r = false by rw [hr]; simp)
      clear hr
      go_wp2_with fail
      go_ret
      exact ⟨by rw [HR.out]; rfl, rfl⟩
theorem half_lt {y k : Nat} (hy : y < 4294967296) : y / 2 ^ (k + 1) < 2147483648 := by
  rw [Nat.div_lt_iff_lt_mul (Nat.two_pow_pos _)]
  have h1 : 2 ^ 1 ≤ 2 ^ (k + 1) := Nat.pow_le_pow_right (by omega) (by omega)
  have h2 : 2147483648 * 2 ^ 1 ≤ 2147483648 * 2 ^ (k + 1) := Nat.mul_le_mul_left _ h1
  omega
set_option maxHeartbeats 2000000 in
set_option maxRecDepth 20000 in
theorem RefWord_calls (A : Option Addr) (l : List Int) (n c b : Nat) (w : World) (hs : Sl w b A (iz l)) (hn : l.length = n) (hnm : n ≤ 1000000000000) :
    Calls Tryd.prog 11 #[.slice A n c] w fun e w' => e = .returned (.int .u32 (withN 0 l : Nat)) ∧ w' = w := by
  have hI := fun x => RefIn_calls A l n c b x w hs hn hnm
  have hy := withN_lt (m := 0) (by omega) l
  have hbit : ∀ i, i < 32 → (withN 0 l).testBit i = decide ((i : Int) ∈ l) := fun i hi => by rw [withN_bit 0 l i hi]; simp
  obtain ⟨y, hyy⟩ : ∃ y, y = withN 0 l := ⟨_, rfl⟩
  rw [← hyy] at hy hbit ⊢
  have HB := Lib.hid hbit
  clear hyy hs hn hbit
  go_enter Tryd.func11, Tryd.ntmps11
  go_wp2_with fail
  go_loopw [3, 4] (fun nn k wr => ∃ j : Nat, j ≤ 32 ∧ k = .int .i64 ((j : Int) - 1) ∧ nn = .int .u32 ((y / 2 ^ j : Nat) : Int) ∧ wr = w) (fun _ k _ => (intOf k + 1).toNat)
  case atStart => exact ⟨32, Nat.le_refl _, by go_num, by rw [show y / 2 ^ 32 = 0 by omega]; rfl, rfl⟩
  case round =>
    obtain ⟨j, hj, rfl, rfl, rfl⟩ := hrel
    by_cases h0 : j = 0
    · subst h0
      go_wp2_with fail
      go_ret
      refine ⟨?_, rfl⟩
      show Ending.returned (.int .u32 ((y / 2 ^ 0 : Nat) : Int)) = _
      rw [Nat.pow_zero, Nat.div_one]
    · obtain ⟨m, rfl⟩ : ∃ m, j = m + 1 := ⟨j - 1, by omega⟩
      have hl := half_lt (k := m) hy
      have hh := half_bit y m
      have hIm := hI (m : Int)
      rw [← HB.out m (by omega)] at hIm
      obtain ⟨P, hP⟩ : ∃ P, P = y / 2 ^ (m + 1) := ⟨_, rfl⟩
      obtain ⟨N, hN⟩ : ∃ N, N = y / 2 ^ m := ⟨_, rfl⟩
      rw [← hP] at hl hh ⊢
      rw [← hN] at hh
      have HN := Lib.hid hN
      have e1 : (m : Int) < 32 := by omega
      have hw : IntKind.u32.wrap ((P : Int) * 2) = (P : Int) * 2 := IntWalk.u32_in _ (by omega)
      clear hN hP hI
      cases hb : y.testBit m with
      | true =>
        rw [hb] at hIm
        rw [hb, if_pos rfl] at hh
        clear hb
        have hw2 : IntKind.u32.wrap ((P : Int) * 2 + 1) = (P : Int) * 2 + 1 := IntWalk.u32_in _ (by omega)
        go_wp2_with fail
        refine hIm.mono ?_
        rintro e w' ⟨rfl, rfl⟩
        go_wp2_with fail
        go_roundw
        case rel => exact ⟨m, by omega, by go_num, by rw [← HN.out, hh]; go_num, trivial⟩
        case measure => simp [intOf]
      | false =>
        rw [hb] at hIm
        rw [hb, if_neg (by simp)] at hh
        clear hb
        go_wp2_with fail
        refine hIm.mono ?_
        rintro e w' ⟨rfl, rfl⟩
        go_wp2_with fail
        go_roundw
        case rel => exact ⟨m, by omega, by go_num, by rw [← HN.out, hh]; go_num, trivial⟩
        case measure => simp [intOf]
end Go.Proofs.YtbbabmiacmmkpaaDoor
