/- What the laws take besides: the first observers, and the moves of a law's players. Conditions: none but the list's shape. -/
import Derived.Test.YtpgnihfjccpneaaDoorVmOwn
namespace Go.Proofs.YtpgnihfjccpneaaDoor
open Go.RowKit

/-- The first n observers. -/
def allN (n : Int) : Nat := 2 ^ (min (max n 0) 32).toNat - 1
theorem allN_lt (n : Int) : allN n < 4294967296 := by
  unfold allN
  have : (2 : Nat) ^ (min (max n 0) 32).toNat ≤ 2 ^ 32 := Nat.pow_le_pow_right (by omega) (by omega)
  omega
theorem allN_bit (n : Int) (i : Nat) (hi : i < 32) : (allN n).testBit i = decide ((i : Int) < n) := by
  unfold allN
  rw [Nat.testBit_two_pow_sub_one, decide_eq_decide]
  omega
set_option maxHeartbeats 1000000 in
set_option maxRecDepth 20000 in
theorem All_calls (n : Int) (w : World) :
    Calls Tryd.prog 16 #[.int .i64 n] w fun e w' => e = .returned (.int .u32 (allN n : Nat)) ∧ w' = w := by
  have hB := Lib.hid (show allN n = 2 ^ (min (max n 0) 32).toNat - 1 from rfl)
  obtain ⟨t, ht⟩ : ∃ t, t = allN n := ⟨_, rfl⟩
  rw [← ht] at hB ⊢
  clear ht
  obtain ⟨x, hx⟩ : ∃ x, max n 0 = x := ⟨_, rfl⟩
  rw [hx] at hB
  obtain ⟨k, hk⟩ : ∃ k : Nat, min x 32 = (k : Int) := ⟨(min x 32).toNat, by omega⟩
  have hk32 : k ≤ 32 := by omega
  have hB := Lib.hid (show t = 2 ^ k - 1 by rw [hB.out, hk]; simp)
  have hkl : (k : Int) ≤ 32 := by omega
  obtain ⟨P, hP⟩ : ∃ P : Nat, P = 2 ^ k := ⟨_, rfl⟩
  have hPi : (2 : Int) ^ k = (P : Int) := by rw [hP]; simp
  have hP1 : 1 ≤ P := by rw [hP]; exact Nat.one_le_two_pow
  have hP2 : P ≤ 4294967296 := by
    rw [hP, show (4294967296 : Nat) = 2 ^ 32 from rfl]
    exact Nat.pow_le_pow_right (by omega) hk32
  rw [← hP] at hB
  have H1 := Lib.hid hP1
  have H2 := Lib.hid hP2
  clear hP hP1 hP2 hk32
  go_enter Tryd.func16, Tryd.ntmps16
  go_wp2_with fail
  go_ret
  refine ⟨?_, rfl⟩
  have h1 := H1.out
  have h2 := H2.out
  show Ending.returned (.int .u32 (((P : Int) % 4294967296 - 1) % 4294967296)) = _
  rw [hB.out]
  congr 2
  omega
/-- The moves of a law's players: one at least, six at most. -/
def playN (M : List Int) : List Int := if M.length = 0 then [0] else M.take 6
theorem playN_len (M : List Int) : 1 ≤ (playN M).length ∧ (playN M).length ≤ 6 := by
  unfold playN
  split
  · exact ⟨Nat.le_refl _, by decide⟩
  · rw [List.length_take]; omega
theorem playN_fit (M : List Int) (h : ∀ x ∈ M, -2147483648 ≤ x ∧ x ≤ 2147483647) : ∀ x ∈ playN M, -2147483648 ≤ x ∧ x ≤ 2147483647 := by
  unfold playN
  split
  · intro x hx
    simp only [List.mem_cons, List.not_mem_nil, or_false] at hx
    subst hx
    omega
  · exact fun x hx => h x (List.mem_of_mem_take hx)
set_option maxHeartbeats 4000000 in
set_option maxRecDepth 20000 in
theorem Players_calls (A : Option Addr) (M : List Int) (n c b : Nat) (w : World) (hs : Is w b A M) (hn : M.length = n) (hnc : n ≤ c) :
    Calls Tryd.prog 14 #[.slice A n c] w fun e w' => ∃ v, e = .returned v ∧ Row32 w' w.heap.size v (playN M) ∧ Below w.heap.size w w' := by
  by_cases h0 : n = 0
  · have hp : playN M = [0] := if_pos (hn.trans h0)
    rw [hp]
    subst h0
    clear hn hs hp
    go_enter Tryd.func14, Tryd.ntmps14
    go_wp2_with fail
    go_ret
    exact ⟨_, rfl, ⟨rfl, .inr ⟨w.heap.size, 1, #[.int .i32 0], rfl, Nat.le_refl _, heap_alloc_new w _, Nat.le_refl _, by simp [maxLen], rfl, rfl⟩⟩, below_alloc1 w _⟩
  · have hp : playN M = M.take 6 := if_neg (by omega)
    rw [hp]
    obtain ⟨K, hK⟩ : ∃ K, K = min n 6 := ⟨_, rfl⟩
    have hmin : (if (6 : Int) < (n : Int) then (6 : Int) else (n : Int)) = (K : Int) := by split <;> omega
    have hmin2 : min (n : Int) 6 = (K : Int) := by omega
    have hKc : (K : Int) ≤ (c : Int) := by omega
    have hlt : M.take 6 = M.take K := by
      rw [hK, ← hn, ← List.take_take]
      exact (List.take_of_length_le (by rw [List.length_take]; omega)).symm
    have hpl : (M.take K).length = K := by rw [List.length_take, hn]; omega
    have hsK : Is (w.alloc (.cells #[] 21)) b A (M.take K) := by
      have h1 := Sl.take (hs.alloc (.cells #[] 21)) K
      rwa [iv_take] at h1
    have ho0 : Row32 (w.alloc (.cells #[] 21)) w.heap.size (.slice (some ⟨w.heap.size, 0, none⟩) 0 0) [] := World.ownsRow_made w #[] 0 (Nat.le_refl _) (by simp [maxLen]) rfl
    rw [hlt]
    have hK6 : K ≤ 6 := by omega
    have hni : ¬ (n : Int) = 0 := by omega
    clear hK hn hs hlt h0 hp
    go_enter Tryd.func14, Tryd.ntmps14
    go_wp2_with ((with_reducible refine at_ca 13 _ ?_); refine wpList_app32 _ rfl (.tmp 7) (.tmp 12) rfl w.heap.size (.slice (some ⟨w.heap.size, 0, none⟩) 0 0) [] rfl ho0 b A K c (M.take K) rfl hsK hpl (by simp; omega) (by simp) ?_; intro v2 w2 hrow2 hmod2 hown2)
    go_ret
    exact ⟨_, rfl, by rw [List.nil_append] at hrow2; exact hrow2, (below_alloc1 w _).trans (hmod2.below_own (by simp) (fun i h => by simp [Value.ownBlock] at h; omega))⟩
end Go.Proofs.YtpgnihfjccpneaaDoor
