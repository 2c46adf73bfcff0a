/- New of too many; Cells; Shown. Conditions: those said. -/
import Derived.Test.YtemhglcdcpobpaaBoardEq
import Derived.Test.YtemhglcdcpobpaaRowI
namespace Go.Proofs.Ytemhglcdcpobpaa
open Go.RowKit

theorem bd_sl {w : World} {g : Nat} {L : List (Int × Nat)} (h : BoxB w g (bdF L) (bdG L) L.length) (hL : L.length ≤ 48) : Sl w g (some ⟨g, 0, none⟩) (cv L) := fun _ =>
  ⟨0, rfl, fun j u hu => by
    rw [Nat.zero_add, cell_of_row w g j _ _ _ h]
    have h1 := bdL_cells hL
    rw [← h1, List.getElem?_take] at hu
    split at hu
    · simpa [bdL] using hu
    · cases hu⟩
set_option maxHeartbeats 4000000 in
set_option maxRecDepth 20000 in
theorem New_out (A : Option Addr) (n c : Nat) (w : World) (h48 : 48 < n) (hm : n ≤ 1000000000000) :
    Calls Try.prog 12 #[.slice A n c] w fun e w' => e = .returned (.tuple #[.agg (bdL []), .int .i64 6]) ∧ Below w.heap.size w w' := by
  have q0 := BoxB.new_ w (fun _ => 0) (fun _ => 0) 0
  have hb := below_alloc1 w (.cells (bdA (fun _ => 0) (fun _ => 0) 0) 31)
  have ei : decide ((48 : Int) < (n : Int)) = true := by simp; omega
  go_enter Try.func12, Try.ntmps12
  go_wp2_with (first | ((with_reducible refine at_al 31 2 ?_); refine wpList_alloc_bd rfl rfl (some 2) rfl w.heap.size (by simp) ?_) | ((with_reducible refine at_bd 31 8 _ ?_); refine wpList_build_bd0 rfl rfl ?_) | ((with_reducible refine at_st 31 2 8 ?_); refine wpList_store_bd rfl (.tmp 2) (.tmp 8) rfl w.heap.size _ _ _ rfl rfl _ _ _ q0 ?_))
  exact bodyPost_ret (wp_result_bd _ _ _ rfl _ _ w.heap.size _ _ _ rfl (q0.row_ _ _ _)) rfl ⟨rfl, below_setRow hb _ _ (by omega)⟩
set_option maxHeartbeats 4000000 in
set_option maxRecDepth 20000 in
theorem Cells_calls (L : List (Int × Nat)) (w : World) (hL : L.length ≤ 48) :
    Calls Try.prog 16 #[.agg (bdL L)] w fun e w' => ∃ v, e = .returned v ∧ RowC 28 w' w.heap.size v L ∧ Below w.heap.size w w' := by
  have q0 := BoxB.new_ w (bdF L) (bdG L) L.length
  have hb := below_alloc1 w (.cells (bdA (bdF L) (bdG L) L.length) 31)
  have hs := bd_sl q0 hL
  have c0 := q0.cn
  have ei : (L.length : Int) ≤ 48 := by omega
  obtain ⟨n, hn⟩ : ∃ n, n = L.length := ⟨_, rfl⟩
  unfold bdL
  rw [← hn] at c0 ei q0 hb ⊢
  rw [← hn] at hs
  have HN := Lib.hid hn
  clear hn
  go_enter Try.func16, Try.ntmps16
  go_wp2_with ((with_reducible refine at_ca 7 _ ?_); refine wpList_appC _ Try.underlying22 cellB_info rfl (.const (.slice none 0 0)) (.tmp 6) rfl w.heap.size (.slice none 0 0) [] rfl (RowC.nil_ _ _ _) w.heap.size _ n 48 L rfl hs HN.out.symm (by simp; omega) (by simp) ?_; intro v' w1 hrow hmod hat; obtain ⟨A', c', b', hv', _⟩ := hrow.sl; subst hv')
  go_ret
  exact ⟨_, rfl, hrow, hb.trans (hmod.below_own (by simp) (fun k hk => by simp [Value.ownBlock] at hk))⟩
/-- The places of the cells that o sees, rising, ahead of k. -/
def shownTo (o : Int) (L : List (Int × Nat)) (k : Nat) : List Nat := (List.range k).filter fun i => sees (bdG L i) o
theorem shownTo_succ (o : Int) (L : List (Int × Nat)) (k : Nat) : shownTo o L (k + 1) = shownTo o L k ++ (if sees (bdG L k) o = true then [k] else []) := by
  unfold shownTo
  rw [List.range_succ, List.filter_append]
  congr 1
  by_cases h : sees (bdG L k) o = true <;> simp [h]
theorem shownTo_len (o : Int) (L : List (Int × Nat)) (k : Nat) : (shownTo o L k).length ≤ k := by
  have := List.length_filter_le (fun i => sees (bdG L i) o) (List.range k)
  simpa [shownTo] using this
def shownI (o : Int) (L : List (Int × Nat)) (k : Nat) : List Int := (shownTo o L k).map fun i : Nat => (i : Int)
theorem shownI_len (o : Int) (L : List (Int × Nat)) (k : Nat) : (shownI o L k).length ≤ k := by
  have := shownTo_len o L k
  simpa [shownI] using this
theorem shownI_hit {o : Int} {L : List (Int × Nat)} {k : Nat} (h : sees (bdG L k) o = true) : shownI o L (k + 1) = shownI o L k ++ [(k : Int)] := by simp [shownI, shownTo_succ, h]
theorem shownI_miss {o : Int} {L : List (Int × Nat)} {k : Nat} (h : sees (bdG L k) o = false) : shownI o L (k + 1) = shownI o L k := by simp [shownI, shownTo_succ, h]
set_option maxHeartbeats 4000000 in
set_option maxRecDepth 20000 in
theorem Shown_calls (L : List (Int × Nat)) (o : Int) (w : World) (hL : L.length ≤ 48) (hok : okC L) :
    Calls Try.prog 24 #[.agg (bdL L), .int .i64 o] w fun e w' => ∃ v, e = .returned v ∧ RowI w' w.heap.size v (shownI o L L.length) ∧ Below w.heap.size w w' := by
  have q0 := BoxB.new_ w (bdF L) (bdG L) L.length
  have hb := below_alloc1 w (.cells (bdA (bdF L) (bdG L) L.length) 31)
  have c0 := q0.cn
  have HG := Lib.hid (fun i (hi : i < L.length) => show bdG L i < 4294967296 by rw [bdG_in hi]; exact (okC_get hok hi).2)
  obtain ⟨n, hn⟩ : ∃ n, n = L.length := ⟨_, rfl⟩
  unfold bdL
  rw [← hn] at c0 q0 hb hL HG ⊢
  have HN := Lib.hid hn
  clear hn hok
  go_enter Try.func24, Try.ntmps24
  go_wp2_with fail
  go_loopw [5, 6, 9] (fun out v i wr => ∃ k : Nat, k ≤ n ∧ i = .int .i64 k ∧ BoxB wr w.heap.size (bdF L) (bdG L) n ∧ RowI wr (w.heap.size + 1) out (shownI o L k) ∧ Below w.heap.size w wr) (fun _ _ i _ => n - (intOf i).toNat)
  case atStart => exact ⟨0, Nat.zero_le _, rfl, q0, World.ownsRow_nil _ _ _ _, hb⟩
  case round =>
    obtain ⟨k, hk, rfl, r0, hr, hb1⟩ := hrel
    rename_i v0 _ _
    clear q0 hb c0
    by_cases hlt : k < n
    · have a1 := r0.cl (i := k) (by omega)
      have hH := fun W => MHas_calls (bdG L k) o W (HG.out k hlt)
      have hS := Lib.hid (show sees (bdG L k) o = decide (bdG L k &&& aloneN o ≠ 0) from rfl)
      have hul := shownI_len o L k
      obtain ⟨d, hd⟩ : ∃ d, d = decide (bdG L k &&& aloneN o ≠ 0) := ⟨_, rfl⟩
      rw [← hd] at hH hS
      obtain ⟨G, hG⟩ : ∃ G, G = bdG L k := ⟨_, rfl⟩
      rw [← hG] at hH a1
      have ek : (k : Int) < 48 := by omega
      have ej : (k : Int) < (n : Int) := by omega
      have hz := r0.lt
      clear hd hG
      cases d with
      | true =>
        have HU := Lib.hid (shownI_hit hS.out)
        go_wp2_with fail
        refine (hH _).mono ?_
        rintro e w2 ⟨rfl, rfl⟩
        go_wp2_with (at_builtin; (refine wpList_appI (by rfl) (.tmp 19) (.tmp 21) rfl (w.heap.size + 1) _ (shownI o L k) rfl (World.ownsRow.alloc hr _) _ (some ⟨_, 0, none⟩) 1 1 [(k : Int)] rfl (Sl.one_new _ _ _) rfl (by omega) (by simp; omega) ?_); intro v' w1 hrow hmod hown)
        have hx := below_alloc1 w2 (.cells #[.int .i64 (k : Int)] 3)
        have hb2 : Below (w.heap.size + 1) (w2.alloc (.cells #[.int .i64 (k : Int)] 3)) w1 := hmod.below (by simp; omega) (fun i hi h => by have := (World.ownsRow.lt hr i h).1; omega)
        have r1 : BoxB w1 w.heap.size (bdF L) (bdG L) n := (hb2.block _ (by omega)).trans (r0.ext hx)
        have hb3 := (hb1.trans (hx.mono (by omega))).trans (hb2.mono (by omega))
        go_roundw
        case rel => exact ⟨k + 1, by omega, by go_num, r1, by rw [HU.out]; exact hrow, hb3⟩
        case measure => simp [intOf]; omega
      | false =>
        have HU := Lib.hid (shownI_miss hS.out)
        go_wp2_with fail
        refine (hH _).mono ?_
        rintro e w2 ⟨rfl, rfl⟩
        go_wp2_with fail
        go_roundw
        case rel => exact ⟨k + 1, by omega, by go_num, r0, by rw [HU.out]; exact hr, hb1⟩
        case measure => simp [intOf]; omega
    · obtain rfl : n = k := by omega
      go_wp2_with fail
      go_ret
      exact ⟨_, rfl, owns_low hr (by omega), hb1⟩
end Go.Proofs.Ytemhglcdcpobpaa
