/- alone, Has, Less, Within, Count, With, Of, All, Meet, Join: the plain numbers. Conditions: the numbers fit 32 bits, the lists are short. -/
import Derived.Test.YtdmjkgafnnjkkaaDoorMTz
import Derived.Test.YtdmjkgafnnjkkaaDoorMaskN
import Derived.Test.YtdmjkgafnnjkkaaDoorI64
import Derived.BigGuardPart
namespace Go.Proofs.YtdmjkgafnnjkkaaDoor
open Go.RowKit

set_option maxHeartbeats 1000000 in
set_option maxRecDepth 20000 in
theorem alone_calls (o : Int) (w : World) :
    Calls Tryd.prog 83 #[.int .i64 o] w fun e w' => e = .returned (.int .u32 (aloneN o : Nat)) ∧ w' = w := by
  have hB := Lib.hid (show aloneN o = if 0 ≤ o ∧ o < 32 then 2 ^ o.toNat else 0 from rfl)
  obtain ⟨t, ht⟩ : ∃ t, t = aloneN o := ⟨_, rfl⟩
  rw [← ht] at hB ⊢
  clear ht
  by_cases h0 : o < 0
  · go_enter Tryd.func83, Tryd.ntmps83
    go_wp2_with fail
    go_ret
    exact ⟨by rw [hB.out, if_neg (by omega)]; rfl, rfl⟩
  · by_cases h1 : o < 32
    · obtain ⟨k, rfl⟩ : ∃ k : Nat, o = (k : Int) := ⟨o.toNat, by omega⟩
      obtain ⟨P, hP⟩ : ∃ P : Nat, P = 2 ^ k := ⟨_, rfl⟩
      have hPl : P < 4294967296 := by
        have : (2 : Nat) ^ k < 2 ^ 32 := Nat.pow_lt_pow_right (by omega) (by omega)
        omega
      have hPi : (2 : Int) ^ k = (P : Int) := by rw [hP]; simp
      have HP := Lib.hid hP
      have hw : IntKind.u32.wrap (P : Int) = (P : Int) := IntWalk.u32_in _ (by omega)
      have hk2 : (k : Int) < 32 := h1
      clear hP h0 h1
      go_enter Tryd.func83, Tryd.ntmps83
      go_wp2_with fail
      go_ret
      exact ⟨by rw [hB.out, if_pos (by omega), show (k : Int).toNat = k by omega, ← HP.out]; rfl, rfl⟩
    · go_enter Tryd.func83, Tryd.ntmps83
      go_wp2_with fail
      go_ret
      exact ⟨by rw [hB.out, if_neg (by omega)]; rfl, rfl⟩
set_option maxHeartbeats 1000000 in
set_option maxRecDepth 20000 in
theorem MLess_calls (m n : Nat) (w : World) (hm : m < 4294967296) (hn : n < 4294967296) :
    Calls Tryd.prog 82 #[.int .u32 m, .int .u32 n] w fun e w' => e = .returned (.int .u32 (lessN m n : Nat)) ∧ w' = w := by
  have h := u32_andNot_nat m n hm hn
  go_enter Tryd.func82, Tryd.ntmps82
  go_wp2_with fail
  go_ret
  exact ⟨rfl, rfl⟩
/-- Observers as values. -/
def iz (l : List Int) : List Value := l.map fun x => Value.int .i64 x
@[simp] theorem iz_length (l : List Int) : (iz l).length = l.length := by simp [iz]
theorem iz_get? {l : List Int} {k : Nat} {x : Int} (h : l[k]? = some x) : (iz l)[k]? = some (.int .i64 x) := by simp [iz, h]
set_option maxHeartbeats 2000000 in
set_option maxRecDepth 20000 in
theorem With_calls (m : Nat) (A : Option Addr) (l : List Int) (n c b : Nat) (w : World) (hm : m < 4294967296) (hs : Sl w b A (iz l)) (hn : l.length = n) (hnm : n ≤ 1000000000000) :
    Calls Tryd.prog 75 #[.int .u32 m, .slice A n c] w fun e w' => e = .returned (.int .u32 (withN m l : Nat)) ∧ w' = w := by
  have HN := Lib.hid hn
  clear hn
  go_enter Tryd.func75, Tryd.ntmps75
  go_wp2_with fail
  go_loopw [0, 9] (fun mm i wr => ∃ j : Nat, j ≤ n ∧ i = .int .i64 j ∧ mm = .int .u32 (withN m (l.take j) : Nat) ∧ wr = w) (fun _ i _ => n - (intOf i).toNat)
  case atStart => exact ⟨0, Nat.zero_le _, rfl, rfl, rfl⟩
  case round =>
    obtain ⟨j, hj, rfl, rfl, rfl⟩ := hrel
    by_cases hlt : j < n
    · obtain ⟨o, ho⟩ : ∃ o, l[j]? = some o := ⟨_, List.getElem?_eq_getElem (by rw [HN.out]; exact hlt)⟩
      obtain ⟨off, rfl, hcl⟩ := hs (by intro h0; have := congrArg List.length h0; simp at this; rw [this] at ho; simp at ho)
      have hcj := hcl j _ (iz_get? ho)
      have hA := alone_calls o
      have hl := aloneN_lt o
      have hwl := withN_lt hm (l.take j)
      have hor := u32_or_nat (withN m (l.take j)) (aloneN o) hwl hl
      have hsn : withN m (l.take (j + 1)) = withN m (l.take j) ||| aloneN o := by rw [List.take_add_one, ho, ← withN_snoc]; rfl
      obtain ⟨t, ht⟩ : ∃ t, t = aloneN o := ⟨_, rfl⟩
      obtain ⟨u, hu⟩ : ∃ u, u = withN m (l.take j) := ⟨_, rfl⟩
      rw [← ht] at hA hor hl hsn
      rw [← hu] at hor hsn hwl ⊢
      obtain ⟨v, hv⟩ : ∃ v, v = u ||| t := ⟨_, rfl⟩
      rw [← hv] at hor hsn
      have HS := Lib.hid hsn
      have ej : (j : Int) < (n : Int) := by omega
      clear ht hu hv hsn hcl ho hs
      go_wp2_with fail
      refine (hA _).mono ?_
      rintro e w' ⟨rfl, rfl⟩
      go_wp2_with fail
      go_roundw
      case rel => exact ⟨j + 1, by omega, by go_num, by rw [HS.out], trivial⟩
      case measure => simp [intOf]; omega
    · obtain rfl : n = j := by omega
      rw [List.take_of_length_le (by rw [HN.out]; omega)]
      obtain ⟨u, hu⟩ : ∃ u, u = withN m l := ⟨_, rfl⟩
      rw [← hu]
      have HU := Lib.hid hu
      clear hu
      go_wp2_with fail
      go_ret
      exact ⟨by rw [← HU.out]; rfl, rfl⟩
end Go.Proofs.YtdmjkgafnnjkkaaDoor
