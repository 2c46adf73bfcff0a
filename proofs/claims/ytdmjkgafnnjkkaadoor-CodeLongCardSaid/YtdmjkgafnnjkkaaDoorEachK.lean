/- Each: the observers of a mask, rising, one by one. Conditions: the number fits 32 bits; the library's table lies as it lays it. -/
import Derived.Test.YtdmjkgafnnjkkaaDoorMaskK
import Derived.RangeFuncNested
import Derived.RangeFuncBound
import Derived.RangeFuncCalls
import Derived.RangeFuncLeaves
import Derived.RangeFuncFrom
import Derived.RangeFuncBox
import Derived.Shelf.Abstract
import Derived.Shelf.RegionOpen
import Derived.WalkKit
import Derived.OwnWalkIn
import Derived.TacticsInMore
import Derived.LoopNIn
import Derived.LoopIn
namespace Go.Proofs.YtdmjkgafnnjkkaaDoor
open Go.RowKit Go.Shelf
attribute [local go_sem] Oper.semAt_some

set_option maxRecDepth 100000 in
set_option maxHeartbeats 2000000 in
theorem each1_in (n l Bn n₀ m : Nat) (hm : m < 4294967296) (J Jx : List Nat → World → Prop) (hn : 1 ≤ n) (hTn : ∀ A B : World, Tab A → Below n₀ A B → Tab B)
    (hY : ∀ pre x W, J pre W → pre.length < (obs m).length → YieldAt Fence.wide (n - 1) Tryd.prog l #[.int .i64 ((x % 32 : Nat) : Int)] W fun e W' =>
      (e = .returned (.bool true) ∧ J (pre ++ [x]) W' ∧ Below n₀ W W') ∨ (e = .returned (.bool false) ∧ Jx (pre ++ [x]) W'))
    (W : World) (hBn : W.cell? ⟨Bn, 0, none⟩ = some (.int .u32 (m : Int))) (hT : Tab W) (h0 : J [] W) :
    CallsIn Fence.wide n Tryd.prog 80 #[.func (.yield l) #[] #[], .pointer (some ⟨Bn, 0, none⟩)] W fun e W' => (∃ v, e = .returned v) ∧
      ((∃ ys, ys = obs m ∧ J ys W') ∨ (∃ pre, pre <+: obs m ∧ Jx pre W')) := by
  refine callsIn_of_wp Tryd.func80 rfl trivial ?_ rfl
  simp only [Tryd.ntmps80, List.size_toArray, List.length_cons, List.length_nil, Nat.reduceAdd, Nat.reduceSub, Array.replicate_succ, Array.replicate_zero, List.push_toArray, List.append_toArray, List.nil_append, List.cons_append]
  gi_wp2
  gi_loopw [3] (fun p wr => ∃ (pre : List Nat) (left : Nat), p = .int .u32 (left : Int) ∧ left < 4294967296 ∧ obs m = pre ++ obs left ∧ Tab wr ∧ J pre wr)
    (fun p _ => (obs (intOf p).toNat).length)
  case atStart =>
    exact ⟨[], m, rfl, hm, rfl, hT, h0⟩
  case round =>
    obtain ⟨pre, left, rfl, hl, hx, hT, hJ⟩ := hrel
    by_cases hz : left = 0
    · subst hz
      gi_wp2
      go_end0
      exact ⟨⟨_, rfl⟩, .inl ⟨pre, by rw [hx, obs_zero, List.append_nil], hJ⟩⟩
    · obtain ⟨hk, hobs⟩ := obs_next hz hl
      have hTz := Tz_calls left hl
      obtain ⟨k, hkk⟩ : ∃ k, k = Lib.ctz 32 left := ⟨_, rfl⟩
      rw [← hkk] at hTz hk hobs
      have hA := alone_calls (k : Int)
      rw [aloneN_nat hk] at hA
      have hp : (2 : Nat) ^ k < 4294967296 := by
        have : (2 : Nat) ^ k < 2 ^ 32 := Nat.pow_lt_pow_right (by omega) hk
        omega
      have hLe := fun W => MLess_calls left (2 ^ k) W hl hp
      have hll := lessN_lt (2 ^ k) hl
      obtain ⟨P, hP⟩ : ∃ P, P = 2 ^ k := ⟨_, rfl⟩
      rw [← hP] at hA hLe hobs hll
      obtain ⟨nx, hnx⟩ : ∃ nx, nx = lessN left P := ⟨_, rfl⟩
      rw [← hnx] at hLe hobs hll
      have hY1 := hY pre k wr hJ (by rw [hx, hobs]; simp)
      rw [Nat.mod_eq_of_lt hk] at hY1
      obtain ⟨fn, tmps, assign, body, hy, hR⟩ := hY1
      have hzi : ¬ ((left : Int) = 0) := by omega
      clear hkk hP hnx hz hp
      gi_wp2_with fail
      refine ⟨trivial, ?_⟩
      refine (callsIn_wide.2 (hTz _ hT)).mono ?_
      rintro e w1 ⟨rfl, rfl⟩
      gi_wp2
      refine hR.mono ?_
      rintro e W3 (⟨rfl, hJ3, hk3⟩ | ⟨rfl, hJx3⟩)
      · have hT3 := hTn _ _ hT hk3
        gi_wp2_with fail
        refine ⟨trivial, ?_⟩
        refine (callsIn_wide.2 (hA _)).mono ?_
        rintro e w4 ⟨rfl, rfl⟩
        gi_wp2_with fail
        refine ⟨trivial, ?_⟩
        refine (callsIn_wide.2 (hLe _)).mono ?_
        rintro e w5 ⟨rfl, rfl⟩
        gi_wp2_with fail
        go_roundw
        case rel => exact ⟨pre ++ [k], nx, rfl, hll, by rw [hx, hobs]; simp, hT3, hJ3⟩
        case measure => simp [intOf, hobs]
      · gi_wp2
        refine bodyPost_ret (results_none rfl _ _ _) rfl ?_
        exact ⟨⟨_, rfl⟩, .inr ⟨pre ++ [k], ⟨obs nx, by rw [hx, hobs]; simp⟩, hJx3⟩⟩
set_option maxHeartbeats 1000000 in
/-- m.Each(): the mask is boxed; the function value captures the box. -/
theorem each_in (n m : Nat) (w : World) :
    CallsIn Fence.wide n Tryd.prog 69 #[.int .u32 m] w fun e w' => e = .returned (.func (.func 80) #[] #[.pointer (some ⟨w.heap.size, 0, none⟩)]) ∧ w' = w.alloc (.cells #[.int .u32 (m : Int)] 31) := by
  refine callsIn_of_wp Tryd.func69 rfl trivial ?_ rfl
  simp only [Tryd.ntmps69, List.size_toArray, List.length_cons, List.length_nil, Nat.reduceAdd, Nat.reduceSub, Array.replicate_succ, Array.replicate_zero, List.push_toArray, List.append_toArray, List.nil_append, List.cons_append]
  gi_wp2
  go_ret
  exact ⟨rfl, rfl⟩
theorem each_stops (n Bn n₀ m : Nat) (hm : m < 4294967296) (hn : 1 ≤ n) (w : World) (hBn : Bn < w.heap.size) (hc : w.cell? ⟨Bn, 0, none⟩ = some (.int .u32 (m : Int))) (hT : ∀ W, Below w.heap.size w W → Tab W) (hTn : ∀ A B : World, Tab A → Below n₀ A B → Tab B) :
    SeqStopsK Fence.wide n Tryd.prog 80 #[.pointer (some ⟨Bn, 0, none⟩)] (fun x : Nat => #[Value.int .i64 ((x % 32 : Nat) : Int)]) (Below n₀) (fun ys => ys = obs m) (fun pre => pre <+: obs m) (obs m).length w := fun l J Jx W hW _ _ hY h0 =>
  each1_in n l Bn n₀ m hm J Jx hn hTn hY W ((hW.cell (p := ⟨Bn, 0, none⟩) hBn).trans hc) (hT W hW) h0
end Go.Proofs.YtdmjkgafnnjkkaaDoor
