/- A trail's Pending where there are no moves. Conditions: those said. -/
import Derived.Test.YtnbbglhpjpebhaaDoorZTrBase11
import Derived.RangeFuncNested
import Derived.RangeFuncBound
import Derived.RangeFuncCalls
import Derived.RangeFuncLeaves
import Derived.Shelf.Abstract
import Derived.Shelf.RegionOpen
import Derived.WalkKit
import Derived.OwnWalkIn
import Derived.TacticsInMore
import Derived.LoopNIn
import Derived.LoopIn
import Derived.Sort.MapsRangeIn
import Derived.Maps.OwnIn
import Derived.Maps.AppendAt
namespace Go.Proofs.YtnbbglhpjpebhaaDoor
open Go.RowKit Go.Shelf
open Go.Maps (Keyed IsMap Tidy)
attribute [local go_sem] Oper.semAt_some
set_option linter.unusedVariables false

set_option maxRecDepth 100000 in
set_option maxHeartbeats 2000000 in
theorem keys0_in (n l Bn bm nn : Nat) (J Jx : List Nat → World → Prop) (hn : 1 ≤ n) (W : World) (hJ : AbidesFrom W.heap.size J) (hBn : W.cell? ⟨Bn, 0, none⟩ = some (.map (some bm))) (hU : Uv W bm nn (fun _ => none)) (h0 : J [] W) :
    CallsIn Fence.wide n Tryd.prog 53 #[.func (.yield l) #[] #[], .pointer (some ⟨Bn, 0, none⟩)] W fun e W' => (∃ v, e = .returned v) ∧
      ((∃ ys : List Nat, ys = [] ∧ J ys W') ∨ (∃ pre : List Nat, False ∧ Jx pre W')) := by
  obtain ⟨D, hown, hD⟩ := hU
  have HD := Lib.hid hD
  clear hD
  refine callsIn_of_wp Tryd.func53 rfl trivial ?_ rfl
  simp only [Tryd.ntmps53, List.size_toArray, List.length_cons, List.length_nil, Nat.reduceAdd, Nat.reduceSub, Array.replicate_succ, Array.replicate_zero, List.push_toArray, List.append_toArray, List.nil_append, List.cons_append]
  gi_wp2_with (gi_at_range; refine wpListIn_range_own _ rfl _ 81 rfl 22 22 u_law mapTU _ bm nn D rfl hown ?_; intro w1 hrg hg1 hs1)
  go_frame
  have hJ1 : J [] w1 := hJ [] W w1 none h0 hg1 (fun r e => by cases e)
  obtain ⟨r, hr⟩ : ∃ r, r = W.heap.size := ⟨_, rfl⟩
  rw [← hr] at hrg ⊢
  clear hg1 hs1 hown hBn h0 hr
  gi_loopw [6] (fun _ wr => wr.ranges Tryd.prog 22 (plainElem Tryd.prog 22) bm r nn D (Maps.has D) (Maps.size D) ∧ J [] wr) (fun _ wr => wr.rangeLeft bm r)
  case atStart => exact ⟨hrg, hJ1⟩
  case round =>
    clear hrg hJ1
    obtain ⟨hrg, hJ1⟩ := hrel
    gi_wp2_with (gi_at_next; refine wpListIn_next_ranges_ii _ rfl _ rfl 22 22 .u32 .u32 u_law Tryd.underlying22 Tryd.underlying22 bm r nn D _ _ rfl hrg ?_ ?_)
    · intro hc0 hl0
      gi_wp2
      go_end0
      exact ⟨⟨_, rfl⟩, .inl ⟨[], rfl, hJ1⟩⟩
    · intro x c w2 cnt2 hwx hwc hlx hat hrg3 hlt2 hg2 hs2 hen
      exfalso
      have hx2 := bounds_u32 hwx
      obtain ⟨u, rfl⟩ := Int.eq_ofNat_of_zero_le hx2.1
      have hhas : Maps.has D (ukey u) = true := Maps.has_true_of_atKey hat
      rw [(HD.out u (by omega)).1] at hhas
      cases hhas
theorem keys0_stops (n Bn bm nn : Nat) (hn : 1 ≤ n) (w : World) (hBl : Bn < w.heap.size) (hBn : w.cell? ⟨Bn, 0, none⟩ = some (.map (some bm))) (hU : Uv w bm nn (fun _ => none)) :
    SeqStopsK Fence.wide n Tryd.prog 53 #[.pointer (some ⟨Bn, 0, none⟩)] (fun x : Nat => #[Value.int .u32 ((x % 4294967296 : Nat) : Int)]) (Below 0) (fun ys => ys = []) (fun _ => False) 0 w := fun l J Jx W hW hJ _ _ h0 =>
  keys0_in n l Bn bm nn J Jx hn W hJ ((hW.cell (p := ⟨Bn, 0, none⟩) hBl).trans hBn) (hU.ext hW) h0
theorem Keys_calls (bm : Nat) (w : World) : CallsIn Fence.wide 8 Tryd.prog 42 #[.map (some bm)] w fun e w' => e = .returned (.func (.func 53) #[] #[.pointer (some ⟨w.heap.size, 0, none⟩)]) ∧ w' = w.alloc (.cells #[.map (some bm)] 81) := by
  refine callsIn_of_wp Tryd.func42 rfl trivial ?_ rfl
  simp only [Tryd.ntmps42, List.size_toArray, List.length_cons, List.length_nil, Nat.reduceAdd, Nat.reduceSub, Array.replicate_succ, Array.replicate_zero, List.push_toArray, List.append_toArray, List.nil_append, List.cons_append]
  gi_wp2
  go_ret
  exact ⟨rfl, rfl⟩
set_option maxRecDepth 100000 in
set_option maxHeartbeats 4000000 in
theorem Append0_calls (Bn bm nn : Nat) (w : World) (hBl : Bn < w.heap.size) (hBn : w.cell? ⟨Bn, 0, none⟩ = some (.map (some bm))) (hU : Uv w bm nn (fun _ => none)) :
    Calls Tryd.prog 59 #[.slice none 0 0, .func (.func 53) #[] #[.pointer (some ⟨Bn, 0, none⟩)]] w fun e W' => e = .returned (.slice none 0 0) ∧ Below w.heap.size w W' := by
  refine (callsIn_wide (n := 8)).1 ?_
  have h1 : 1 ≤ 8 := by omega
  refine callsIn_of_wp_marks Tryd.func59 rfl trivial ?_ rfl
  simp only [Tryd.ntmps59, List.size_toArray, List.length_cons, List.length_nil, Nat.reduceAdd, Nat.reduceSub, Array.replicate_succ, Array.replicate_zero, List.push_toArray, List.append_toArray, List.nil_append, List.cons_append]
  gi_wp2_with fail
  have bO := Boxed.new w 28 (.slice none 0 0)
  have hB0 := below_alloc1 w (.cells #[.slice none 0 0] 28)
  refine wpIn_rangeFunc_ownF rfl h1 (gf := 53) (lb := #[.pointer (some ⟨Bn, 0, none⟩)]) rfl trivial (enters_of Tryd.func53 (by kernel_rfl) rfl)
    (keys0_stops 7 Bn bm nn (by omega) _ (by rw [World.size_alloc]; omega) (sl_same hB0 hBn) (hU.ext hB0)) belowK_t (belowK_b (Nat.zero_le _)) (Below.refl _ _) (fun _ => rfl)
    (fun pre W => Boxed W w.heap.size 28 (.slice none 0 0) ∧ Below w.heap.size w W)
    (fun c pre W => False)
    (OwnFrom.and (Own.from (boxed_own w.heap.size 28 (fun _ => .slice none 0 0)) _) (ownFrom_below (Nat.le_refl _) (by simp)))
    (fun c s A B row hs => hs.elim)
    ⟨bO, hB0⟩
    (fun x => { tmps := #[.slice none 0 0, .func (.func 53) #[] #[.pointer (some ⟨Bn, 0, none⟩)], .pointer (some ⟨w.heap.size, 0, none⟩), undef, .slice none 0 0, .int .u32 ((x % 4294967296 : Nat) : Int), .func (.func 53) #[] #[.pointer (some ⟨Bn, 0, none⟩)], .int .u32 ((x % 4294967296 : Nat) : Int), undef, undef, undef, undef, undef], defers := [] }) ?assign ?body ?done ?stop
  case assign =>
    intro l x W K hK
    gi_wp2
    exact hK
  case body =>
    rintro l pre x W _ hlt
    omega
  case done =>
    rintro D ys W hD rfl ⟨hv, hB⟩ hK
    have hc := hv.cell
    gi_wp2
    refine ⟨by simp, .inl ⟨_, _, rfl, run_takeDeferred hK, ?_⟩⟩
    exact ⟨_, results_tmp rfl _ _ _, rfl, hB.trans (belowK_b (w := w) (Nat.le_refl _) W D _ _ (by simp at hD; omega) hK rfl rfl)⟩
  case stop =>
    rintro D c pre W hD hpre
    exact hpre.elim
theorem Len64_zero (w : World) : Calls Tryd.prog 86 #[.int .u64 0] w fun e w' => ∃ L : Int, e = .returned (.int .i64 L) ∧ w' = w := by
  go_enter Tryd.func86, Tryd.ntmps86
  go_wp2
  go_ret
  exact ⟨_, rfl, rfl⟩
theorem Len_zero (w : World) : Calls Tryd.prog 61 #[.int .u64 0] w fun e w' => ∃ L : Int, e = .returned (.int .i64 L) ∧ w' = w := by
  have hL := fun W => Len64_zero W
  go_enter Tryd.func61, Tryd.ntmps61
  go_wp2_with fail
  refine (hL _).mono ?_
  rintro e w1 ⟨L, rfl, rfl⟩
  go_wp2
  go_ret
  exact ⟨L, rfl, rfl⟩
theorem Ins_nil (w : World) : Calls Tryd.prog 76 #[.slice none 0 0, .int .i64 0, .int .i64 0] w fun e w' => e = .returned (.tuple #[]) ∧ w' = w := by
  go_enter Tryd.func76, Tryd.ntmps76
  go_wp2_with fail
  go_loopw [6] (fun i wr => i = .int .i64 1 ∧ wr = w) (fun _ _ => 0)
  case atStart => exact ⟨rfl, rfl⟩
  case round =>
    obtain ⟨rfl, rfl⟩ := hrel
    go_wp2_with fail
    first | go_end0 | refine bodyPost_ret (results_none rfl _ _ _) rfl ?_
    exact ⟨rfl, rfl⟩
theorem Pdq_nil (lim : Int) (w : World) :
    Calls Tryd.prog 60 #[.slice none 0 0, .int .i64 0, .int .i64 0, .int .i64 lim] w fun e w' => e = .returned (.tuple #[]) ∧ w' = w := by
  have hI := Ins_nil w
  go_enter Tryd.func60, Tryd.ntmps60
  go_wp2_with fail
  go_loopw [1, 2] (fun a b wr => a = .int .i64 0 ∧ b = .int .i64 0 ∧ wr = w) (fun _ _ _ => 0)
  case atStart => exact ⟨rfl, rfl, rfl⟩
  case round =>
    obtain ⟨rfl, rfl, rfl⟩ := hrel
    go_wp2_with fail
    refine hI.mono ?_
    rintro e w1 ⟨rfl, rfl⟩
    clear hI
    go_wp2_with fail
    first | go_end0 | refine bodyPost_ret (results_none rfl _ _ _) rfl ?_
    exact ⟨rfl, rfl⟩
theorem Sort_nil (w : World) : Calls Tryd.prog 52 #[.slice none 0 0] w fun e w' => e = .returned (.tuple #[]) ∧ w' = w := by
  have hL := fun W => Len_zero W
  go_enter Tryd.func52, Tryd.ntmps52
  go_wp2_with fail
  refine (hL _).mono ?_
  rintro e w1 ⟨L, rfl, rfl⟩
  have hP := Pdq_nil L w1
  clear hL
  go_wp2_with fail
  refine hP.mono ?_
  rintro e w2 ⟨rfl, rfl⟩
  clear hP
  go_wp2_with fail
  first | go_end0 | refine bodyPost_ret (results_none rfl _ _ _) rfl ?_
  exact ⟨rfl, rfl⟩
theorem Collect0_calls (Bn bm nn : Nat) (w : World) (hBl : Bn < w.heap.size) (hBn : w.cell? ⟨Bn, 0, none⟩ = some (.map (some bm))) (hU : Uv w bm nn (fun _ => none)) :
    Calls Tryd.prog 51 #[.func (.func 53) #[] #[.pointer (some ⟨Bn, 0, none⟩)]] w fun e W' => e = .returned (.slice none 0 0) ∧ Below w.heap.size w W' := by
  have hA := Append0_calls Bn bm nn w hBl hBn hU
  clear hBn hU
  go_enter Tryd.func51, Tryd.ntmps51
  go_wp2_with fail
  refine hA.mono ?_
  rintro e w1 ⟨rfl, hb⟩
  go_wp2_with fail
  go_ret
  exact ⟨rfl, hb⟩
theorem Sorted0_calls (Bn bm nn : Nat) (w : World) (hBl : Bn < w.heap.size) (hBn : w.cell? ⟨Bn, 0, none⟩ = some (.map (some bm))) (hU : Uv w bm nn (fun _ => none)) :
    Calls Tryd.prog 41 #[.func (.func 53) #[] #[.pointer (some ⟨Bn, 0, none⟩)]] w fun e W' => e = .returned (.slice none 0 0) ∧ Below w.heap.size w W' := by
  have hA := Collect0_calls Bn bm nn w hBl hBn hU
  clear hBn hU
  go_enter Tryd.func41, Tryd.ntmps41
  go_wp2_with fail
  refine hA.mono ?_
  rintro e w1 ⟨rfl, hb⟩
  clear hA
  go_wp2_with fail
  refine (Sort_nil _).mono ?_
  rintro e w2 ⟨rfl, rfl⟩
  go_wp2_with fail
  go_ret
  exact ⟨rfl, hb⟩
theorem Pending0_calls (b bm : Nat) (t : Tr) (w : World) (h : TBox w b bm t) (hf : t.f = fun _ => none) : Calls Tryd.prog 24 #[.pointer (some ⟨b, 0, none⟩)] w fun e w' => e = .returned (.slice none 0 0) ∧ Below w.heap.size w w' := by
  have q := h.row.cM
  have hu := h.mp
  rw [hf] at hu
  have hb := below_alloc1 w (.cells #[.map (some bm)] 81)
  have hc : (w.alloc (.cells #[.map (some bm)] 81)).cell? ⟨w.heap.size, 0, none⟩ = some (.map (some bm)) := by
    rw [cell_of_row _ _ 0 _ _ _ (heap_alloc_new w (.cells #[.map (some bm)] 81))]
    rfl
  have hK := callsIn_wide.1 (Keys_calls bm w)
  have hS := Sorted0_calls w.heap.size bm t.n _ (by rw [World.size_alloc]; omega) hc (hu.ext hb)
  clear h hu hf hc
  go_enter Tryd.func24, Tryd.ntmps24
  go_wp2_with fail
  refine hK.mono ?_
  rintro e w1 ⟨rfl, rfl⟩
  clear hK
  go_wp2_with fail
  refine hS.mono ?_
  rintro e w2 ⟨rfl, h1⟩
  go_wp2_with fail
  go_ret
  exact ⟨rfl, hb.trans (h1.mono hb.size)⟩
end Go.Proofs.YtnbbglhpjpebhaaDoor
