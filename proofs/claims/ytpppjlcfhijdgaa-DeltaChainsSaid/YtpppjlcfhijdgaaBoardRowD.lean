/- New of too many; Cells; Shown. Conditions: those said. -/
import Derived.Test.YtpppjlcfhijdgaaBoardEqD
namespace Go.Proofs.Ytpppjlcfhijdgaa
open Go.RowKit

theorem bd_sl {w : World} {g : Nat} {L : List (Int × Nat)} (h : BoxB w g (bdF L) (bdG L) L.length) (hL : L.length ≤ 48) : Sl w g (some ⟨g, 0, none⟩) (cv L) := fun _ =>
  ⟨0, rfl, fun j u hu => by
    rw [Nat.zero_add, cell_of_row w g j _ _ _ h]
    have h1 := bdL_cells hL
    rw [← h1, List.getElem?_take] at hu
    split at hu
    · simpa [bdL] using hu
    · cases hu⟩
set_option maxHeartbeats 4000000 in
set_option maxRecDepth 20000 in
theorem New_out (A : Option Addr) (n c : Nat) (w : World) (h48 : 48 < n) (hm : n ≤ 1000000000000) :
    Calls Try.prog 10 #[.slice A n c] w fun e w' => e = .returned (.tuple #[.agg (bdL []), .int .i64 6]) ∧ Below w.heap.size w w' := by
  have q0 := BoxB.new_ w (fun _ => 0) (fun _ => 0) 0
  have hb := below_alloc1 w (.cells (bdA (fun _ => 0) (fun _ => 0) 0) 32)
  have ei : decide ((48 : Int) < (n : Int)) = true := by simp; omega
  go_enter Try.func10, Try.ntmps10
  go_wp2_with (first | ((with_reducible refine at_al 32 2 ?_); refine wpList_alloc_bd rfl rfl (some 2) rfl w.heap.size (by simp) ?_) | ((with_reducible refine at_bd 32 8 _ ?_); refine wpList_build_bd0 rfl rfl ?_) | ((with_reducible refine at_st 32 2 8 ?_); refine wpList_store_bd rfl (.tmp 2) (.tmp 8) rfl w.heap.size _ _ _ rfl rfl _ _ _ q0 ?_))
  exact bodyPost_ret (wp_result_bd _ _ _ rfl _ _ w.heap.size _ _ _ rfl (q0.row_ _ _ _)) rfl ⟨rfl, below_setRow hb _ _ (by omega)⟩
set_option maxHeartbeats 4000000 in
set_option maxRecDepth 20000 in
theorem Cells_calls (L : List (Int × Nat)) (w : World) (hL : L.length ≤ 48) :
    Calls Try.prog 35 #[.agg (bdL L)] w fun e w' => ∃ v, e = .returned v ∧ RowC 29 w' w.heap.size v L ∧ Below w.heap.size w w' := by
  have q0 := BoxB.new_ w (bdF L) (bdG L) L.length
  have hb := below_alloc1 w (.cells (bdA (bdF L) (bdG L) L.length) 32)
  have hs := bd_sl q0 hL
  have c0 := q0.cn
  have ei : (L.length : Int) ≤ 48 := by omega
  obtain ⟨n, hn⟩ : ∃ n, n = L.length := ⟨_, rfl⟩
  unfold bdL
  rw [← hn] at c0 ei q0 hb ⊢
  rw [← hn] at hs
  have HN := Lib.hid hn
  clear hn
  go_enter Try.func35, Try.ntmps35
  go_wp2_with ((with_reducible refine at_ca 7 _ ?_); refine wpList_appC _ Try.underlying22 cellB_info rfl (.const (.slice none 0 0)) (.tmp 6) rfl w.heap.size (.slice none 0 0) [] rfl (RowC.nil_ _ _ _) w.heap.size _ n 48 L rfl hs HN.out.symm (by simp; omega) (by simp) ?_; intro v' w1 hrow hmod hat; obtain ⟨A', c', b', hv', _⟩ := hrow.sl; subst hv')
  go_ret
  exact ⟨_, rfl, hrow, hb.trans (hmod.below_own (by simp) (fun k hk => by simp [Value.ownBlock] at hk))⟩
end Go.Proofs.Ytpppjlcfhijdgaa
