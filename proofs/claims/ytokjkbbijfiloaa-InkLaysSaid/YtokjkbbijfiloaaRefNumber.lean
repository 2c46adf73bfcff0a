/- The reference's number: a number off the front, and how many bytes it took; nothing turns. Condition: the length fits. -/
import Derived.Test.YtokjkbbijfiloaaEyeNum
namespace Go.Proofs.Ytokjkbbijfiloaa
open Go.RowKit

/-- What it tells. -/
def numberF (l : List UInt8) : Nat × Nat := match rd 0 l with
  | some y => y
  | none => (0, 0)
theorem numberF_none {l : List UInt8} (h : rd 0 l = none) : numberF l = (0, 0) := by unfold numberF; rw [h]
theorem numberF_some {l : List UInt8} {y : Nat × Nat} (h : rd 0 l = some y) : numberF l = y := by unfold numberF; rw [h]

def Told (l : List UInt8) (w : World) (e : Ending) (w' : World) : Prop := e = .returned (.tuple #[.int .u64 ((numberF l).1 : Int), .int .i64 ((numberF l).2 : Int)]) ∧ w = w'
theorem Told.no {l : List UInt8} {w : World} (h : rd 0 l = none) : Told l w (.returned (.tuple #[.int .u64 0, .int .i64 0])) w := by
  unfold Told; rw [numberF_none h]; exact ⟨rfl, rfl⟩
theorem Told.yes {l : List UInt8} {w : World} {v k : Nat} (h : rd 0 l = some (v, k)) : Told l w (.returned (.tuple #[.int .u64 (v : Int), .int .i64 (k : Int)])) w := by
  unfold Told; rw [numberF_some h]; exact ⟨rfl, rfl⟩

set_option maxHeartbeats 2000000 in
set_option maxRecDepth 20000 in
theorem number_ref (A : Option Addr) (l : List UInt8) (n c b : Nat) (w : World) (hs : Bs w b A l) (hn : l.length = n) (h1 : n ≤ maxLen) :
    Calls Try.prog 36 #[.slice A n c] w (Told l w) := by
  unfold maxLen at h1
  have HN := Lib.hid hn
  clear hn
  go_enter Try.func36, Try.ntmps36
  go_wp2_with fail
  go_loop [4, 5, 6] (fun x z i => ∃ (k p : Nat) (y : Int), k ≤ 10 ∧ k ≤ n ∧ i = .int .i64 k ∧ x = .int .u64 p ∧ z = .int .u64 y ∧ Hid (k ≤ 9 → At l k p ∧ y = ((128 ^ k : Nat) : Int)) ∧ Hid (k = 10 → rd 0 l = none)) (fun _ _ i => 10 - (intOf i).toNat)
  case atStart => exact ⟨0, 0, 1, by omega, by omega, rfl, rfl, rfl, Lib.hid (fun _ => ⟨At.zero l, rfl⟩), Lib.hid (fun h => by omega)⟩
  case round =>
    obtain ⟨k, p, y, hk, hkn, rfl, rfl, rfl, hat, hten⟩ := hrel
    by_cases hlt : k < n
    · by_cases h10 : k < 10
      · obtain ⟨ha, hy⟩ := hat.out (by omega)
        have HA := Lib.hid ha
        obtain ⟨x, hx⟩ : ∃ x, x = 128 ^ k := ⟨_, rfl⟩
        rw [← hx] at hy
        subst hy
        have HXK := Lib.hid hx
        have hpx : p < x := by rw [hx]; exact ha.1
        have hkl : k < l.length := by rw [HN.out]; exact hlt
        obtain ⟨oa, rfl, hca⟩ := Bs.at_ hs hkl
        have ca := hca k hkl
        obtain ⟨q, hq⟩ : ∃ q, q = l[k] := ⟨_, rfl⟩
        rw [← hq] at ca
        have HQ := Lib.hid hq
        have hq8 := q.toNat_lt
        have hx9 : x ≤ 9223372036854775808 := by
          rw [hx]
          exact Nat.le_trans (Nat.pow_le_pow_right (by omega) (show k ≤ 9 by omega)) (by decide)
        have hx8 : k ≤ 8 → x * 128 ≤ 9223372036854775808 := fun h => by rw [hx]; exact pow128_le k (by omega)
        clear hca hq hx ha hat
        obtain ⟨m, hm⟩ : ∃ m, m = x * (q.toNat % 128) := ⟨_, rfl⟩
        have hmul : IntKind.u64.wrap ((x : Int) * ((q.toNat : Int) % 128)) = (m : Int) ∨ (k = 9 ∧ 1 < q.toNat % 128) := by
          have e : ((x : Int) * ((q.toNat : Int) % 128)) = ((x * (q.toNat % 128) : Nat) : Int) := by simp
          by_cases h9 : k = 9
          · by_cases hb : 1 < q.toNat % 128
            · exact .inr ⟨h9, hb⟩
            · left
              rw [e, hm]
              apply IntWalk.u64_in
              have h2 : x * (q.toNat % 128) ≤ x * 1 := Nat.mul_le_mul_left _ (by omega)
              omega
          · left
            rw [e, hm]
            apply IntWalk.u64_in
            have h2 : x * (q.toNat % 128) ≤ x * 127 := Nat.mul_le_mul_left _ (by omega)
            have h3 := hx8 (by omega)
            omega
        have HM := Lib.hid hm
        clear hm
        rcases hmul with hmul | ⟨h9, hbig⟩
        · have hpm : p + m ≤ 18446744073709551615 ∧ (k ≤ 8 → (p + m) < x * 128) := by
            constructor
            · have e2 : ((m : Nat) : Int) ≤ 18446744073709551615 := by have h0 := hmul; rw [IntKind.wrap_u64] at h0; omega
              by_cases h9 : k = 9
              · by_cases hb : 1 < q.toNat % 128
                · exfalso
                  have h2 : x * 2 ≤ x * (q.toNat % 128) := Nat.mul_le_mul_left _ (by omega)
                  have hx9' : x = 9223372036854775808 := by rw [HXK.out, h9]
                  rw [← HM.out] at h2
                  omega
                · have h2 : x * (q.toNat % 128) ≤ x * 1 := Nat.mul_le_mul_left _ (by omega)
                  rw [← HM.out] at h2
                  omega
              · have h2 : x * (q.toNat % 128) ≤ x * 127 := Nat.mul_le_mul_left _ (by omega)
                have h3 := hx8 (by omega)
                rw [← HM.out] at h2
                omega
            · intro h8
              have h2 : x * (q.toNat % 128) ≤ x * 127 := Nat.mul_le_mul_left _ (by omega)
              rw [← HM.out] at h2
              omega
          have hpm1 := hpm.1
          have HPM := Lib.hid hpm.2
          have hb9 : ((k : Int) == 9) = false ∨ ((k : Int) == 9) = true ∧ ¬ (1 : Int) < (q.toNat : Int) % 128 := by
            by_cases h9 : k = 9
            · right
              refine ⟨by simp [h9], ?_⟩
              intro hb
              have h2 : x * 2 ≤ x * (q.toNat % 128) := Nat.mul_le_mul_left _ (by omega)
              have hx9' : x = 9223372036854775808 := by rw [HXK.out, h9]
              have e2 : ((m : Nat) : Int) ≤ 18446744073709551615 := by have h0 := hmul; rw [IntKind.wrap_u64] at h0; omega
              rw [← HM.out] at h2
              omega
            · left; simp; omega
          have HX8 := Lib.hid hx8
          have HPX := Lib.hid hpx
          have HX9 := Lib.hid hx9
          clear hpm hx8 hpx hx9
          by_cases hlo : q.toNat < 128
          · by_cases hz : 0 < k ∧ q.toNat = 0
            · have hr := HA.out.zero_last hkl hz.1 (by rw [← HQ.out]; exact hz.2)
              have HR := Lib.hid hr
              have hk0 : (0 : Int) < (k : Int) := by omega
              have hq0 : ((q.toNat : Int) % 128 == 0) = true := by simp; omega
              clear hr hz hten
              rcases hb9 with hb9 | ⟨hb9, hb1⟩
              all_goals
                go_wp2_with fail
                go_ret2
                exact Told.no HR.out
            · have hr := HA.out.last hkl (by rw [← HQ.out]; exact hlo) (by rw [← HQ.out]; exact hz) (by
                rw [← HQ.out]
                rintro ⟨h9, h2⟩
                rcases hb9 with hb9 | ⟨_, hb1⟩
                · rw [h9] at hb9; simp at hb9
                · omega)
              rw [← HQ.out, ← HXK.out, show x * q.toNat = m by rw [HM.out, Nat.mod_eq_of_lt hlo]] at hr
              have HR := Lib.hid hr
              have hzz : ¬ (0 : Int) < (k : Int) ∨ ((q.toNat : Int) % 128 == 0) = false := by
                rcases Nat.eq_zero_or_pos k with h | h
                · exact .inl (by omega)
                · refine .inr ?_
                  simp only [beq_eq_false_iff_ne, ne_eq]
                  omega
              clear hr hz hten
              rcases hb9 with hb9 | ⟨hb9, hb1⟩
              all_goals
                rcases hzz with hzz | hzz
                all_goals
                  go_wp2_with fail
                  all_goals
                    go_ret2
                    exact Told.yes HR.out
          · rcases hb9 with hb9 | ⟨hb9, hb1⟩
            · have h8 : k ≤ 8 := by simp at hb9; omega
              have hx8' := HX8.out h8
              have hat' := HA.out.next hkl (by rw [← HQ.out]; omega) (by omega)
              rw [← HQ.out, ← HXK.out, ← HM.out] at hat'
              have HAT := Lib.hid hat'
              have HXS := Lib.hid (show x * 128 = 128 ^ (k + 1) by rw [HXK.out, Nat.pow_succ])
              clear hat' hten
              go_wp2_with fail
              go_round
              case rel => exact ⟨k + 1, p + m, _, by omega, by omega, by go_num, by go_num, rfl, Lib.hid (fun _ => ⟨HAT.out, by rw [← HXS.out]; simp⟩), Lib.hid (fun h => by omega)⟩
              case measure => simp [intOf]; omega
            · have hk9 : k = 9 := by simp at hb9; omega
              have hr := At.big9 hk9 HA.out hkl (by rw [← HQ.out]; omega)
              have HR := Lib.hid hr
              have HK9 := Lib.hid hk9
              clear hr hten hk9
              go_wp2_with fail
              go_round
              case rel => exact ⟨k + 1, p + m, _, by omega, by omega, by go_num, by go_num, rfl, Lib.hid (fun h => by have := HK9.out; omega), Lib.hid (fun _ => HR.out)⟩
              case measure => simp [intOf]; omega
        · have hr := At.big9 h9 HA.out hkl (by rw [← HQ.out]; omega)
          have HR := Lib.hid hr
          have hb9 : ((k : Int) == 9) = true := by simp [h9]
          have hb1 : (1 : Int) < (q.toNat : Int) % 128 := by omega
          clear hr hten h9 hbig hx8
          go_wp2_with fail
          go_ret2
          exact Told.no HR.out
      · have hr := hten.out (by omega)
        have HR := Lib.hid hr
        clear hr hat hten
        go_wp2_with fail
        go_ret2
        exact Told.no HR.out
    · have hr : rd 0 l = none := by
        by_cases h10 : k = 10
        · exact hten.out h10
        · exact (hat.out (by omega)).1.end_ (by rw [HN.out]; omega)
      have HR := Lib.hid hr
      clear hr hat hten
      go_wp2_with fail
      go_ret2
      exact Told.no HR.out
end Go.Proofs.Ytokjkbbijfiloaa
