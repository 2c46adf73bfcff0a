/- Join, for the board's seat (as Meet has it). Conditions: the numbers fit 32 bits, the list is short. -/
import Derived.Test.YtemhglcdcpobpaaMaskB
namespace Go.Proofs.Ytemhglcdcpobpaa
open Go.RowKit

/-- Masks as values. -/
def ms (l : List Nat) : List Value := l.map fun (x : Nat) => Value.int .u32 (x : Int)
@[simp] theorem ms_length (l : List Nat) : (ms l).length = l.length := by simp [ms]
theorem ms_get? {l : List Nat} {k x : Nat} (h : l[k]? = some x) : (ms l)[k]? = some (.int .u32 (x : Int)) := by simp [ms, h]
def joinN (m : Nat) (l : List Nat) : Nat := l.foldl (· ||| ·) m
theorem joinN_snoc (m : Nat) (l : List Nat) (x : Nat) : joinN m (l ++ [x]) = joinN m l ||| x := by simp [joinN]
theorem joinN_lt {m : Nat} (h : m < 4294967296) (l : List Nat) (hl : ∀ x ∈ l, x < 4294967296) : joinN m l < 4294967296 := by
  induction l generalizing m with
  | nil => exact h
  | cons x l ih => exact ih (m := m ||| x) (Nat.or_lt_two_pow (n := 32) h (hl x (by simp))) (fun y hy => hl y (by simp [hy]))
set_option maxHeartbeats 2000000 in
set_option maxRecDepth 20000 in
theorem MJoin_calls (m : Nat) (A : Option Addr) (l : List Nat) (n c b : Nat) (w : World) (hm : m < 4294967296) (hl : ∀ x ∈ l, x < 4294967296) (hs : Sl w b A (ms l)) (hn : l.length = n) (hnm : n ≤ 1000000000000) :
    Calls Try.prog 40 #[.int .u32 m, .slice A n c] w fun e w' => e = .returned (.int .u32 (joinN m l : Nat)) ∧ w' = w := by
  have HN := Lib.hid hn
  have HL := Lib.hid hl
  clear hn hl
  go_enter Try.func40, Try.ntmps40
  go_wp2_with fail
  go_loopw [0, 9] (fun mm i wr => ∃ j : Nat, j ≤ n ∧ i = .int .i64 j ∧ mm = .int .u32 (joinN m (l.take j) : Nat) ∧ wr = w) (fun _ i _ => n - (intOf i).toNat)
  case atStart => exact ⟨0, Nat.zero_le _, rfl, rfl, rfl⟩
  case round =>
    obtain ⟨j, hj, rfl, rfl, rfl⟩ := hrel
    by_cases hlt : j < n
    · obtain ⟨o, ho⟩ : ∃ o, l[j]? = some o := ⟨_, List.getElem?_eq_getElem (by rw [HN.out]; exact hlt)⟩
      obtain ⟨off, rfl, hcl⟩ := hs (by intro h0; have := congrArg List.length h0; simp at this; rw [this] at ho; simp at ho)
      have hcj := hcl j _ (ms_get? ho)
      have hlo := HL.out o (List.mem_of_getElem? ho)
      have hwl := joinN_lt hm (l.take j) (fun x hx => HL.out x (List.mem_of_mem_take hx))
      have hor := u32_or_nat (joinN m (l.take j)) o hwl hlo
      have hsn : joinN m (l.take (j + 1)) = joinN m (l.take j) ||| o := by rw [List.take_add_one, ho, ← joinN_snoc]; rfl
      obtain ⟨u, hu⟩ : ∃ u, u = joinN m (l.take j) := ⟨_, rfl⟩
      rw [← hu] at hor hsn hwl ⊢
      have HS := Lib.hid hsn
      have ej : (j : Int) < (n : Int) := by omega
      clear hu hsn hcl ho hs
      go_wp2_with fail
      go_roundw
      case rel => exact ⟨j + 1, by omega, by go_num, by rw [HS.out], trivial⟩
      case measure => simp [intOf]; omega
    · obtain rfl : n = j := by omega
      rw [List.take_of_length_le (by rw [HN.out]; omega)]
      obtain ⟨u, hu⟩ : ∃ u, u = joinN m l := ⟨_, rfl⟩
      rw [← hu]
      have HU := Lib.hid hu
      clear hu
      go_wp2_with fail
      go_ret
      exact ⟨by rw [← HU.out]; rfl, rfl⟩
end Go.Proofs.Ytemhglcdcpobpaa
