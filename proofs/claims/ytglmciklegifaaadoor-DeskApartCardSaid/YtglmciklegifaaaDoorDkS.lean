/- slices.Sort of at most twelve numbers of 32 bits in a row of the call's own: the same numbers, rising. Conditions: those said. -/
import Derived.Test.YtglmciklegifaaaDoorDkE
import Derived.Test.YtglmciklegifaaaDoorI64
namespace Go.Proofs.YtglmciklegifaaaDoor
open Go.RowKit

theorem wv_set (l : List Nat) (k x : Nat) : (wv l).set k (.int .u32 (x : Int)) = wv (l.set k x) := by simp [wv, List.map_set]
theorem wv_get? {l : List Nat} {k x : Nat} (h : l[k]? = some x) : (wv l)[k]? = some (.int .u32 (x : Int)) := by simp [wv, h]
theorem IsNaN_calls (a : Nat) (w : World) : Calls Tryd.prog 62 #[.int .u32 (a : Int)] w fun e w' => e = .returned (.bool false) ∧ w' = w := by
  have h : ((a : Int) != (a : Int)) = false := by simp
  go_enter Tryd.func62, Tryd.ntmps62
  go_wp2
  go_ret
  exact ⟨rfl, rfl⟩
theorem Less_calls (a b : Nat) (w : World) : Calls Tryd.prog 47 #[.int .u32 (a : Int), .int .u32 (b : Int)] w fun e w' => e = .returned (.bool (decide (a < b))) ∧ w' = w := by
  obtain ⟨D, hD⟩ : ∃ D, D = decide (a < b) := ⟨_, rfl⟩
  have e1 : decide (a < b) = D := hD.symm
  have hN := fun W => IsNaN_calls a W
  rw [← hD]
  clear hD
  go_enter Tryd.func47, Tryd.ntmps47
  go_wp2_with fail
  refine (hN _).mono ?_
  rintro e w1 ⟨rfl, rfl⟩
  go_wp2
  go_ret
  exact ⟨rfl, rfl⟩
theorem Len64_calls (n : Nat) (w : World) (hn : n ≤ 12) : Calls Tryd.prog 51 #[.int .u64 (n : Int)] w fun e w' => ∃ L : Int, e = .returned (.int .i64 L) ∧ w' = w := by
  have h : n = 0 ∨ n = 1 ∨ n = 2 ∨ n = 3 ∨ n = 4 ∨ n = 5 ∨ n = 6 ∨ n = 7 ∨ n = 8 ∨ n = 9 ∨ n = 10 ∨ n = 11 ∨ n = 12 := by omega
  rcases h with rfl | rfl | rfl | rfl | rfl | rfl | rfl | rfl | rfl | rfl | rfl | rfl | rfl <;>
  (go_enter Tryd.func51, Tryd.ntmps51
   go_wp2
   go_ret
   exact ⟨_, rfl, rfl⟩)
theorem Len_calls (n : Nat) (w : World) (hn : n ≤ 12) : Calls Tryd.prog 35 #[.int .u64 (n : Int)] w fun e w' => ∃ L : Int, e = .returned (.int .i64 L) ∧ w' = w := by
  have hL := fun W => Len64_calls n W hn
  go_enter Tryd.func35, Tryd.ntmps35
  go_wp2_with fail
  refine (hL _).mono ?_
  rintro e w1 ⟨L, rfl, rfl⟩
  go_wp2
  go_ret
  exact ⟨L, rfl, rfl⟩
end Go.Proofs.YtglmciklegifaaaDoor
