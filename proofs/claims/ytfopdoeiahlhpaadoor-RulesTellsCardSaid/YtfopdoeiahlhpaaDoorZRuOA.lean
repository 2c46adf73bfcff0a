/- The document's All; cells as the document has them. Conditions: those said. -/
import Derived.Test.YtfopdoeiahlhpaaDoorZRuBase08
import Derived.Test.YtfopdoeiahlhpaaDoorZCodeKV
namespace Go.Proofs.YtfopdoeiahlhpaaDoor
open Go.RowKit

theorem cellO_info : (Tryd.prog.info? 110).map (fun i => (i.zero, i.size, i.bytes)) = some (some (.agg #[.int .i32 0, .int .u32 0]), 2, 8) := by kernel_rfl
theorem codeO_info : (Tryd.prog.info? 108).map (fun i => (i.zero, i.size, i.bytes)) = some (some (.agg #[.int .u8 0, .int .u8 0, .int .u8 0, .int .u8 0, .int .i32 0, .int .u32 0]), 6, 12) := by kernel_rfl
set_option maxHeartbeats 2000000 in
set_option maxRecDepth 20000 in
theorem RAll_calls (n : Int) (w : World) (_h0 : -9223372036854775808 ≤ n) (_h1 : n ≤ 9223372036854775807) :
    Calls Tryd.prog 36 #[.int .i64 n] w fun e w' => e = .returned (.int .u32 (allN n : Nat)) ∧ w' = w := by
  have hB := Lib.hid (show allN n = 2 ^ (min (max n 0) 32).toNat - 1 from rfl)
  obtain ⟨t, ht⟩ : ∃ t, t = allN n := ⟨_, rfl⟩
  rw [← ht] at hB ⊢
  clear ht
  go_enter Tryd.func36, Tryd.ntmps36
  go_wp2_with fail
  go_loop [3, 4] (fun m i => ∃ (k P : Nat), (k : Int) ≤ max n 0 ∧ k ≤ 32 ∧ P = 2 ^ k - 1 ∧ i = .int .i64 k ∧ m = .int .u32 (P : Int)) (fun _ i => 32 - (intOf i).toNat)
  case atStart => exact ⟨0, 0, by omega, by omega, rfl, rfl, rfl⟩
  case round =>
    obtain ⟨k, P, hk, hk32, hP, rfl, rfl⟩ := hrel
    have HP := Lib.hid hP
    clear hP
    by_cases hn : (k : Int) < n
    · by_cases h32 : k < 32
      · have e2 : decide ((k : Int) < 32) = true := by simp; omega
        have hPl : P ≤ 2147483647 := by
          have : (2 : Nat) ^ k ≤ 2 ^ 31 := Nat.pow_le_pow_right (by omega) (by omega)
          rw [HP.out]
          omega
        have HN := Lib.hid (show 2 * P + 1 = 2 ^ (k + 1) - 1 by
          have := HP.out
          have : 1 ≤ 2 ^ k := Nat.one_le_two_pow
          rw [Nat.pow_succ]
          omega)
        go_wp2_with fail
        go_round
        case rel => exact ⟨k + 1, 2 * P + 1, by omega, by omega, HN.out, by go_num, by go_num⟩
        case measure => simp [intOf]; omega
      · obtain rfl : k = 32 := by omega
        have HT := Lib.hid (show P = t by rw [HP.out, hB.out]; congr 2; omega)
        have hn2 : (32 : Int) < n := by omega
        clear h32 hk32 hn hk
        go_wp2_with fail
        go_ret
        exact ⟨by rw [HT.out]; rfl, rfl⟩
    · have HT := Lib.hid (show P = t by rw [HP.out, hB.out]; congr 2; omega)
      go_wp2_with fail
      go_ret
      exact ⟨by rw [HT.out]; rfl, rfl⟩
set_option maxHeartbeats 4000000 in
set_option maxRecDepth 20000 in
/-- Cells as the document has them. -/
theorem RCells_calls (A : Option Addr) (L : List (Int × Nat)) (n c b : Nat) (w : World) (hs : Sl w b A (cv L)) (hn : L.length = n) (hm : n ≤ 1000000) :
    Calls Tryd.prog 43 #[.slice A n c] w fun e w' => ∃ v, e = .returned v ∧ RowC 110 w' w.heap.size v L ∧ Below w.heap.size w w' := by
  subst hn
  go_enter Tryd.func43, Tryd.ntmps43
  go_wp2_with fail
  go_loopw [3, 5, 8] (fun out _ i wr => ∃ k : Nat, k ≤ L.length ∧ i = .int .i64 k ∧ RowC 110 wr w.heap.size out (L.take k) ∧ Below w.heap.size w wr) (fun _ _ i _ => L.length - (intOf i).toNat)
  case atStart => exact ⟨0, Nat.zero_le _, rfl, RowC.nil_ _ _ _, Below.refl _ _⟩
  case round =>
    obtain ⟨k, hk, rfl, hr, hb⟩ := hrel
    by_cases hlt : k < L.length
    · obtain ⟨off, rfl, hce⟩ := (Sl.ext hs hb) (by intro h0; have h1 := congrArg List.length h0; rw [cv_length, List.length_nil] at h1; omega)
      have hc0 := hce (k * 2) _ (cv_val hlt)
      have hc1 := hce (k * 2 + 1) _ (cv_lab hlt)
      rw [← Nat.add_assoc] at hc1
      have HL := Lib.hid (show (L.take k).length = k by simp; omega)
      have HT := Lib.hid (show L.take (k + 1) = L.take k ++ [L[k]] from List.take_succ_eq_append_getElem hlt)
      obtain ⟨⟨x, y⟩, hxy⟩ : ∃ q, q = L[k] := ⟨_, rfl⟩
      rw [← hxy] at hc0 hc1 HT
      simp only at hc0 hc1
      clear hxy hce
      have ej : (k : Int) < (L.length : Int) := by omega
      have hzb := hb.size
      have hb3 := hb.alloc hzb (.cells #[.int .i32 x, .int .u32 (y : Int)] 39)
      have hr2 := World.ownsRow.alloc hr (.cells #[.int .i32 x, .int .u32 (y : Int)] 39)
      have hz3 := hb3.size
      have hsn := Sl.cell_new (wr.alloc (.cells #[.int .i32 x, .int .u32 (y : Int)] 39)) (x, y) 110
      rw [show (wr.alloc (.cells #[.int .i32 x, .int .u32 (y : Int)] 39)).heap.size = wr.heap.size + 1 by simp] at hsn
      go_wp2_with ((with_reducible refine at_ca 19 _ ?_); refine wpList_appC _ Tryd.underlying32 cellO_info rfl (.tmp 12) (.tmp 18) rfl w.heap.size _ (L.take k) rfl (World.ownsRow.alloc hr2 _) _ (some ⟨_, 0, none⟩) 1 1 [(x, y)] rfl hsn rfl (by rw [HL.out]; omega) (hb3.alloc hz3 _).size ?_; intro v' w4 hrow hmod hat)
      have hb4 := (hb3.alloc hz3 _).trans (hmod.below_own (hb3.alloc hz3 _).size (fun i h => (World.ownsRow.lt hr2 i h).1))
      go_roundw
      case rel => exact ⟨k + 1, by omega, by go_num, by rw [HT.out]; exact hrow, hb4⟩
      case measure => simp [intOf]; omega
    · obtain rfl : k = L.length := by omega
      rw [List.take_length] at hr
      go_wp2_with fail
      go_ret
      exact ⟨_, rfl, hr, hb⟩
end Go.Proofs.YtfopdoeiahlhpaaDoor
