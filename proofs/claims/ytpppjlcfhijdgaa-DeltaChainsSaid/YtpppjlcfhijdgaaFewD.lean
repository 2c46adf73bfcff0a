/- The first few of a list of cells; cells as the reference has them. Conditions: those said. -/
import Derived.Test.YtpppjlcfhijdgaaRefCells
namespace Go.Proofs.Ytpppjlcfhijdgaa
open Go.RowKit

set_option maxHeartbeats 4000000 in
set_option maxRecDepth 20000 in
theorem FewC_calls (A : Option Addr) (L : List (Int × Nat)) (n c b : Nat) (w : World) (hs : Sl w b A (cv L)) (hn : L.length = n) (hnc : n ≤ c) :
    Calls Try.prog 9 #[.slice A n c] w fun e w' => ∃ v, e = .returned v ∧ RowC 29 w' w.heap.size v (L.take 48) ∧ Below w.heap.size w w' := by
  have HN := Lib.hid hn
  obtain ⟨K, hK⟩ : ∃ K, K = min n 48 := ⟨_, rfl⟩
  have hmin : (if (48 : Int) < (n : Int) then (48 : Int) else (n : Int)) = (K : Int) := by split <;> omega
  have hKc : (K : Int) ≤ (c : Int) := by omega
  have hlt : L.take 48 = L.take K := by
    rw [hK, ← hn, ← List.take_take]
    exact (List.take_of_length_le (by rw [List.length_take]; omega)).symm
  have hpl : (L.take K).length = K := by rw [List.length_take, hn]; omega
  have hsK : Sl (w.alloc (.cells #[] 29)) b A (cv (L.take K)) := by
    have h1 := Sl.take (hs.alloc (.cells #[] 29)) (K * 2)
    rwa [cv_take] at h1
  have ho0 : RowC 29 (w.alloc (.cells #[] 29)) w.heap.size (.slice (some ⟨w.heap.size, 0, none⟩) 0 0) [] := World.ownsRow_made w #[] 0 (Nat.le_refl _) (by simp [maxLen]) rfl
  rw [hlt]
  have hK48 : K ≤ 48 := by omega
  clear hK hn hs hlt
  go_enter Try.func9, Try.ntmps9
  go_wp2_with ((with_reducible refine at_ca 9 _ ?_); refine wpList_appC _ Try.underlying22 cellB_info rfl (.tmp 3) (.tmp 8) rfl w.heap.size (.slice (some ⟨w.heap.size, 0, none⟩) 0 0) [] rfl ho0 b A K c (L.take K) rfl hsK hpl (by simp; omega) (by simp) ?_; intro v2 w2 hrow2 hmod2 hown2)
  go_ret
  exact ⟨_, rfl, by rw [List.nil_append] at hrow2; exact hrow2, (below_alloc1 w _).trans (hmod2.below_own (by simp) (fun i h => by simp [Value.ownBlock] at h; omega))⟩
set_option maxHeartbeats 4000000 in
set_option maxRecDepth 20000 in
theorem Own_calls (A : Option Addr) (L : List (Int × Nat)) (n c b : Nat) (w : World) (hs : Sl w b A (cv L)) (hn : L.length = n) (hm : n ≤ 1000000) :
    Calls Try.prog 16 #[.slice A n c] w fun e w' => ∃ v, e = .returned v ∧ RowC 83 w' w.heap.size v L ∧ Below w.heap.size w w' := by
  subst hn
  go_enter Try.func16, Try.ntmps16
  go_wp2_with fail
  go_loopw [3, 5, 8] (fun out p i wr => ∃ k : Nat, k ≤ L.length ∧ i = .int .i64 k ∧ RowC 83 wr w.heap.size out (L.take k) ∧ Below w.heap.size w wr) (fun _ _ i _ => L.length - (intOf i).toNat)
  case atStart => exact ⟨0, Nat.zero_le _, rfl, RowC.nil_ _ _ _, Below.refl _ _⟩
  case round =>
    obtain ⟨k, hk, rfl, hr, hb⟩ := hrel
    rename_i v0 _ _
    by_cases hlt : k < L.length
    · obtain ⟨off, rfl, h0, h1⟩ := sl_off (Sl.ext hs hb) hlt
      have hlen : (L.take k).length = k := by simp; omega
      have HT := Lib.hid (take_next hlt)
      obtain ⟨p, hp⟩ : ∃ p, p = L[k] := ⟨_, rfl⟩
      rw [← hp] at h0 h1 HT
      obtain ⟨x, y⟩ := p
      simp only at h0 h1
      have HL := Lib.hid hlen
      have ej : (k : Int) < (L.length : Int) := by omega
      have hzb := hb.size
      clear hp hlen
      have hb3 := hb.alloc hzb (.cells #[.int .i32 x, .int .u32 (y : Int)] 29)
      have hr2 := World.ownsRow.alloc hr (.cells #[.int .i32 x, .int .u32 (y : Int)] 29)
      have hz3 := hb3.size
      have hsn := Sl.cell_new (wr.alloc (.cells #[.int .i32 x, .int .u32 (y : Int)] 29)) (x, y) 83
      rw [show (wr.alloc (.cells #[.int .i32 x, .int .u32 (y : Int)] 29)).heap.size = wr.heap.size + 1 by simp] at hsn
      go_wp2_with ((with_reducible refine at_ca 19 _ ?_); refine wpList_appC _ Try.underlying42 cellR_info rfl (.tmp 12) (.tmp 18) rfl w.heap.size _ (L.take k) rfl (World.ownsRow.alloc hr2 _) _ (some ⟨_, 0, none⟩) 1 1 [(x, y)] rfl hsn rfl (by rw [HL.out]; omega) (hb3.alloc hz3 _).size ?_; intro v' w4 hrow hmod hat)
      have hb4 := (hb3.alloc hz3 _).trans (hmod.below_own (B := w.heap.size) (hb3.alloc hz3 _).size (fun i h => (World.ownsRow.lt hr2 i h).1))
      go_roundw
      case rel => exact ⟨k + 1, by omega, by go_num, by rw [HT.out]; exact hrow, hb4⟩
      case measure => simp [intOf]; omega
    · obtain rfl : k = L.length := by omega
      rw [List.take_length] at hr
      go_wp2_with fail
      go_ret
      exact ⟨_, rfl, hr, hb⟩
end Go.Proofs.Ytpppjlcfhijdgaa
