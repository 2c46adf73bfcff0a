/- The reference's Bytes, Hash, Labels of cells; Alike. Conditions: those said. -/
import Derived.Test.YtpppjlcfhijdgaaBoardSumD
import Derived.Test.YtpppjlcfhijdgaaRefSameD
import Derived.Test.YtpppjlcfhijdgaaBoardYiD
namespace Go.Proofs.Ytpppjlcfhijdgaa
open Go.RowKit

theorem below_undrew2 {a w : World} (h : Below a.drew.heap.size a.drew w) : Below a.heap.size a w := ⟨h.os, h.tape, h.output, h.size, h.block⟩
set_option maxHeartbeats 4000000 in
set_option maxRecDepth 20000 in
theorem RefBytes_calls (x : Int) (y : Nat) (w : World) (hy : y < 4294967296) :
    Calls Try.prog 51 #[.agg #[.int .i32 x, .int .u32 (y : Int)]] w fun e w' => ∃ v, e = .returned v ∧ Row w' w.heap.size v (cellB (x, y)) ∧ Below w.heap.size w w' := by
  have hb := below_alloc1 w (.cells #[.int .i32 x, .int .u32 (y : Int)] 83)
  have q0 : BoxV (w.alloc (.cells #[.int .i32 x, .int .u32 (y : Int)] 83)) w.heap.size x y := heap_alloc_new w _
  have hw := uN_wrap x
  have hw2 := uN_mod x
  have hul := uN_lt x
  obtain ⟨u, hu⟩ : ∃ u, u = uN x := ⟨_, rfl⟩
  have hB : [low u 4, low y 4].flatten = cellB (x, y) := by rw [hu]; simp [cellB]
  rw [← hu] at hw hw2 hul
  have HB := Lib.hid hB
  have e1 : IntKind.u64.wrap (u : Int) = (u : Int) := IntWalk.u64_in _ (by omega)
  have e2 : IntKind.u64.wrap (y : Int) = (y : Int) := IntWalk.u64_in _ (by omega)
  clear hu hB
  go_enter Try.func51, Try.ntmps51
  go_wp2_with fail
  refine wp_region_held_drew (S := fun w' => BoxV w' w.heap.size x y) (by kernel_rfl) ?_ (fun hHeld => ?_)
  · exact q0
  refine wpAnyH_take (i := 0) (v := ?mv0) (by simp only [List.getElem?_toArray, List.getElem?_cons_zero]; rfl) (by kernel_rfl) (by kernel_rfl) (by kernel_rfl) (by exact fun _ _ _ h => h) (Or.inl ⟨by rfl, ?my0⟩) hHeld ?_
  case my0 => (intro w0 hSw; (try dsimp only at hSw); have hz0 := cell_of_row w0 w.heap.size 0 _ _ _ hSw; have hz1 := cell_of_row w0 w.heap.size 1 _ _ _ hSw; simp only [List.getElem?_toArray, List.getElem?_cons_zero, List.getElem?_cons_succ] at hz0 hz1; clear hSw; go_simp; try (with_reducible rfl))
  try simp only [Act.put, List.setIfInBounds_toArray, List.set_cons_zero, List.set_cons_succ]
  refine wpAnyH_take (i := 1) (v := ?mv1) (by simp only [List.getElem?_toArray, List.getElem?_cons_succ, List.getElem?_cons_zero]; rfl) (by kernel_rfl) (by kernel_rfl) (by kernel_rfl) (by exact fun _ _ _ h => h) (Or.inl ⟨by rfl, ?my1⟩) hHeld ?_
  case my1 => (intro w0 hSw; (try dsimp only at hSw); have hz0 := cell_of_row w0 w.heap.size 0 _ _ _ hSw; have hz1 := cell_of_row w0 w.heap.size 1 _ _ _ hSw; simp only [List.getElem?_toArray, List.getElem?_cons_zero, List.getElem?_cons_succ] at hz0 hz1; clear hSw; go_simp; try (with_reducible rfl))
  try simp only [Act.put, List.setIfInBounds_toArray, List.set_cons_zero, List.set_cons_succ]
  refine wpAnyH_take (i := 2) (v := ?mv2) (by simp only [List.getElem?_toArray, List.getElem?_cons_succ, List.getElem?_cons_zero]; rfl) (by kernel_rfl) (by kernel_rfl) (by kernel_rfl) (by exact fun _ _ _ h => h) (Or.inl ⟨by rfl, ?my2⟩) hHeld ?_
  case my2 => (intro w0 hSw; (try dsimp only at hSw); have hz0 := cell_of_row w0 w.heap.size 0 _ _ _ hSw; have hz1 := cell_of_row w0 w.heap.size 1 _ _ _ hSw; simp only [List.getElem?_toArray, List.getElem?_cons_zero, List.getElem?_cons_succ] at hz0 hz1; clear hSw; go_simp; try (with_reducible rfl))
  try simp only [Act.put, List.setIfInBounds_toArray, List.set_cons_zero, List.set_cons_succ]
  refine wpAnyH_take (i := 3) (v := ?mv3) (by simp only [List.getElem?_toArray, List.getElem?_cons_succ, List.getElem?_cons_zero]; rfl) (by kernel_rfl) (by kernel_rfl) (by kernel_rfl) (by exact fun _ _ _ h => h) (Or.inl ⟨by rfl, ?my3⟩) hHeld ?_
  case my3 => (intro w0 hSw; (try dsimp only at hSw); have hz0 := cell_of_row w0 w.heap.size 0 _ _ _ hSw; have hz1 := cell_of_row w0 w.heap.size 1 _ _ _ hSw; simp only [List.getElem?_toArray, List.getElem?_cons_zero, List.getElem?_cons_succ] at hz0 hz1; clear hSw; go_simp; try (with_reducible rfl))
  try simp only [Act.put, List.setIfInBounds_toArray, List.set_cons_zero, List.set_cons_succ]
  refine wpAnyH_take (i := 5) (v := ?mv5) (by simp only [List.getElem?_toArray, List.getElem?_cons_succ, List.getElem?_cons_zero]; rfl) (by kernel_rfl) (by kernel_rfl) (by kernel_rfl) (by exact fun _ _ _ h => h) (Or.inl ⟨by rfl, ?my5⟩) hHeld ?_
  case my5 => (intro w0 hSw; (try dsimp only at hSw); have hz0 := cell_of_row w0 w.heap.size 0 _ _ _ hSw; have hz1 := cell_of_row w0 w.heap.size 1 _ _ _ hSw; simp only [List.getElem?_toArray, List.getElem?_cons_zero, List.getElem?_cons_succ] at hz0 hz1; clear hSw; go_simp; try (with_reducible rfl))
  try simp only [Act.put, List.setIfInBounds_toArray, List.set_cons_zero, List.set_cons_succ]
  refine wpAnyH_take (i := 6) (v := ?mv6) (by simp only [List.getElem?_toArray, List.getElem?_cons_succ, List.getElem?_cons_zero]; rfl) (by kernel_rfl) (by kernel_rfl) (by kernel_rfl) (by exact fun _ _ _ h => h) (Or.inl ⟨by rfl, ?my6⟩) hHeld ?_
  case my6 => (intro w0 hSw; (try dsimp only at hSw); have hz0 := cell_of_row w0 w.heap.size 0 _ _ _ hSw; have hz1 := cell_of_row w0 w.heap.size 1 _ _ _ hSw; simp only [List.getElem?_toArray, List.getElem?_cons_zero, List.getElem?_cons_succ] at hz0 hz1; clear hSw; go_simp; try (with_reducible rfl))
  try simp only [Act.put, List.setIfInBounds_toArray, List.set_cons_zero, List.set_cons_succ]
  refine wpAnyH_take (i := 7) (v := ?mv7) (by simp only [List.getElem?_toArray, List.getElem?_cons_succ, List.getElem?_cons_zero]; rfl) (by kernel_rfl) (by kernel_rfl) (by kernel_rfl) (by exact fun _ _ _ h => h) (Or.inl ⟨by rfl, ?my7⟩) hHeld ?_
  case my7 => (intro w0 hSw; (try dsimp only at hSw); have hz0 := cell_of_row w0 w.heap.size 0 _ _ _ hSw; have hz1 := cell_of_row w0 w.heap.size 1 _ _ _ hSw; simp only [List.getElem?_toArray, List.getElem?_cons_zero, List.getElem?_cons_succ] at hz0 hz1; clear hSw; go_simp; try (with_reducible rfl))
  try simp only [Act.put, List.setIfInBounds_toArray, List.set_cons_zero, List.set_cons_succ]
  refine wpAnyH_ready (rs := [4]) (by kernel_rfl) (by simp) ?_
  refine AllReadyH.cons (by simp only [List.getElem?_toArray, List.getElem?_cons_succ, List.getElem?_cons_zero]; rfl) (fun KK hKK => ?_) AllReadyH.nil
  go_simp
  refine (Low_calls u 4 _ (by omega) (by omega) (by omega)).mono ?_
  rintro e w1 ⟨v1, rfl, hrow1, h1⟩
  have h1 := below_undrew2 h1
  have q1 : BoxV w1 w.heap.size x y := (h1.block _ (by simp)).trans q0
  have hb1 := hb.trans (h1.mono hb.size)
  have hz1 := hb1.size
  obtain ⟨A1, c1, b1, rfl, _, _, _, _, hs1, _⟩ := hrow1.sl
  clear hrow1 h1
  go_wp2_with fail
  refine hKK.out _ _ ?_ (fun hHeld => ?_)
  · exact q1
  clear hKK KK
  try simp only [Act.put, List.setIfInBounds_toArray, List.set_cons_zero, List.set_cons_succ]
  refine wpAnyH_ready (rs := [8]) (by kernel_rfl) (by simp) ?_
  refine AllReadyH.cons (by simp only [List.getElem?_toArray, List.getElem?_cons_succ, List.getElem?_cons_zero]; rfl) (fun KK hKK => ?_) AllReadyH.nil
  go_simp
  refine (Low_calls y 4 _ (by omega) (by omega) (by omega)).mono ?_
  rintro e w2 ⟨v2, rfl, hrow2, h2⟩
  have q2 : BoxV w2 w.heap.size x y := (h2.block _ (Array.getElem?_eq_some_iff.1 q1).1).trans q1
  have hb2 := hb1.trans (h2.mono hz1)
  have hz2 := hb2.size
  have hs1 := Sl.ext hs1 h2
  obtain ⟨A2, c2, b2, rfl, _, _, _, _, hs2, _⟩ := hrow2.sl
  clear hrow2 h2
  go_wp2_with fail
  refine hKK.out _ _ ?_ (fun hHeld => ?_)
  · exact q2
  clear hKK KK
  try simp only [Act.put, List.setIfInBounds_toArray, List.set_cons_zero, List.set_cons_succ]
  refine wpAnyH_ready (rs := [9]) (by kernel_rfl) (by simp) ?_
  refine AllReadyH.cons (by simp only [List.getElem?_toArray, List.getElem?_cons_succ, List.getElem?_cons_zero]; rfl) (fun KK hKK => ?_) AllReadyH.nil
  go_simp
  have h3 := below_alloc1 w2 (.cells #[.slice A1 4 c1, .slice A2 4 c2] 36)
  have q3 : BoxV (w2.alloc (.cells #[.slice A1 4 c1, .slice A2 4 c2] 36)) w.heap.size x y := (h3.block _ (Array.getElem?_eq_some_iff.1 q2).1).trans q2
  have hs1 := Sl.ext hs1 h3
  have hs2 := Sl.ext hs2 h3
  have hb3 := hb2.trans (h3.mono hz2)
  have hz3 := hb3.size
  have hsl := Sl.cells_new w2 #[.slice A1 4 c1, .slice A2 4 c2] 36
  go_wp2_with fail
  refine hKK.out _ _ ?_ (fun hHeld => ?_)
  · exact q3
  clear hKK KK
  try simp only [Act.put, List.setIfInBounds_toArray, List.set_cons_zero, List.set_cons_succ]
  refine wpAnyH_ready (rs := [10]) (by kernel_rfl) (by simp) ?_
  refine AllReadyH.cons (by simp only [List.getElem?_toArray, List.getElem?_cons_succ, List.getElem?_cons_zero]; rfl) (fun KK hKK => ?_) AllReadyH.nil
  go_simp
  refine (Join_calls _ [.slice A1 4 c1, .slice A2 4 c2] [low u 4, low y 4] 2 2 w2.heap.size _ hsl (Bss.cons hs1 (by simp) (Bss.cons hs2 (by simp) (Bss.nil_ _))) rfl (by simp [maxLen]) (by simp)).mono ?_
  rintro e w4 ⟨v4, rfl, hrow4, h4⟩
  have q4 : BoxV w4 w.heap.size x y := (h4.block _ (Array.getElem?_eq_some_iff.1 q3).1).trans q3
  have hb4 := hb3.trans (h4.mono hz3)
  have hrow4 := owns_low hrow4 hz3
  obtain ⟨A4, c4, b4, hv4, _⟩ := Row.sl hrow4
  subst hv4
  go_wp2_with fail
  refine hKK.out _ _ ?_ (fun hHeld => ?_)
  · exact q4
  clear hKK KK
  try simp only [Act.put, List.setIfInBounds_toArray, List.set_cons_zero, List.set_cons_succ]
  refine wpAnyH_take (i := 11) (v := ?mv11) (by simp only [List.getElem?_toArray, List.getElem?_cons_succ, List.getElem?_cons_zero]; rfl) (by kernel_rfl) (by kernel_rfl) (by kernel_rfl) (by exact fun _ _ _ h => h) (Or.inl ⟨by rfl, ?my11⟩) hHeld ?_
  case my11 => (intro w0 hSw; (try dsimp only at hSw); have hz0 := cell_of_row w0 w.heap.size 0 _ _ _ hSw; have hz1 := cell_of_row w0 w.heap.size 1 _ _ _ hSw; simp only [List.getElem?_toArray, List.getElem?_cons_zero, List.getElem?_cons_succ] at hz0 hz1; clear hSw; go_simp; try (with_reducible rfl))
  try simp only [Act.put, List.setIfInBounds_toArray, List.set_cons_zero, List.set_cons_succ]
  refine wpAnyH_done (by kernel_rfl) ?_ _
  go_wp2_with fail
  go_ret
  exact ⟨_, rfl, Row.cast hrow4 HB.out, hb4⟩
set_option maxHeartbeats 4000000 in
set_option maxRecDepth 20000 in
theorem RefHash_calls (A : Option Addr) (L : List (Int × Nat)) (n c b : Nat) (w : World) (hs : Sl w b A (cv L)) (hn : L.length = n) (hm : n ≤ 1000000) (hok : okC L) :
    Calls Try.prog 38 #[.slice A n c] w fun e w' => e = .returned (.int .u32 (hashL L : Nat)) ∧ Below w.heap.size w w' := by
  subst hn
  have HOK := Lib.hid hok
  have HLN := Lib.hid (cellsB_len L)
  clear hok
  go_enter Try.func38, Try.ntmps38
  go_wp2_with fail
  go_loopw [3, 5, 8] (fun out p i wr => ∃ k : Nat, k ≤ L.length ∧ i = .int .i64 k ∧ Row wr w.heap.size out (cellsB (L.take k)) ∧ Below w.heap.size w wr) (fun _ _ i _ => L.length - (intOf i).toNat)
  case atStart => exact ⟨0, Nat.zero_le _, rfl, Row.nil_ _ _, Below.refl _ _⟩
  case round =>
    obtain ⟨k, hk, rfl, hr, hb⟩ := hrel
    rename_i v0 _ _
    by_cases hlt : k < L.length
    · obtain ⟨off, rfl, h0, h1⟩ := sl_off (Sl.ext hs hb) hlt
      have hy := (okC_get HOK.out hlt).2
      have hsn : cellsB (L.take (k + 1)) = cellsB (L.take k) ++ cellB L[k] := by rw [take_snoc1 hlt, cellsB_snoc]
      have hpl : (cellsB (L.take k)).length ≤ 10000000 := by rw [cellsB_len, List.length_take]; omega
      obtain ⟨p, hp⟩ : ∃ p, p = L[k] := ⟨_, rfl⟩
      rw [← hp] at h0 h1 hy hsn
      obtain ⟨x, y⟩ := p
      simp only at h0 h1 hy
      have HS := Lib.hid hsn
      have ej : (k : Int) < (L.length : Int) := by omega
      have hzb := hb.size
      have e2 : IntKind.u64.wrap (y : Int) = (y : Int) := IntWalk.u64_in _ (by omega)
      clear hp hsn
      have hb2 := hb.alloc hzb (.cells #[.int .i32 x, .int .u32 (y : Int)] 83)
      have hr2 := Row.ext hr (below_alloc1 wr (.cells #[.int .i32 x, .int .u32 (y : Int)] 83))
      have hz2 := hb2.size
      go_wp2_with fail
      refine (RefBytes_calls x y _ hy).mono ?_
      rintro e w2 ⟨v2, rfl, hrow2, h2⟩
      have hr3 := Row.ext hr2 h2
      have hb3 := hb2.trans (h2.mono hz2)
      have hz3 := hb3.size
      obtain ⟨A2, c2, b2, rfl, _, _, _, _, hs2, _⟩ := hrow2.sl
      clear hrow2 h2
      go_wp2_with ((with_reducible refine at_ca 15 _ ?_); refine wpList_app _ rfl (.tmp 12) (.tmp 14) rfl w.heap.size _ (cellsB (L.take k)) rfl hr3 b2 A2 _ c2 _ rfl hs2 rfl (by simp [cellB]; omega) hz3 ?_; intro v' w4 hrow hmod hat)
      have hb4 := hb3.trans (hmod.below_own hz3 (fun i h => (World.ownsRow.lt hr3 i h).1))
      go_roundw
      case rel => exact ⟨k + 1, by omega, by go_num, by rw [HS.out]; exact hrow, hb4⟩
      case measure => simp [intOf]; omega
    · obtain rfl : k = L.length := by omega
      rw [List.take_length] at hr
      obtain ⟨A2, c2, b2, rfl, _, _, _, _, hs2, _⟩ := hr.sl
      go_wp2_with fail
      refine (RefSum_calls A2 (cellsB L) (cellsB L).length c2 b2 _ hs2 rfl (by rw [HLN.out]; simp only [maxLen]; omega)).mono ?_
      rintro e w3 ⟨rfl, rfl⟩
      go_wp2_with fail
      go_ret
      exact ⟨rfl, hb⟩
end Go.Proofs.Ytpppjlcfhijdgaa
