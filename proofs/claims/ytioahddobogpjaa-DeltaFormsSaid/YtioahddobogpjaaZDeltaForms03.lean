/- Parts of one proof, in their order. -/
import Derived.Test.YtioahddobogpjaaZDeltaForms02
import Derived.BigRegion
import Derived.Deep.DeepCutAuto
/- Loads and tests of whole boards, as steps of a region that draws its order. Conditions: those said. -/
namespace Go.Proofs.Ytioahddobogpjaa
open Go.RowKit

theorem yieldsIf_ld {ops : Array Oper} {S : World → Prop} {op : Oper} {a : Act} (hw : Region.wanted op (yielded ops a.tmps) = true) (x : Operand) (ho : op.op = .load 32 x)
    (b : Nat) (hx : a.eval x = .pointer (some ⟨b, 0, none⟩)) (L : List (Int × Nat)) (hS : ∀ w, S w → BoxL w b L) : YieldsIf Try.prog ops S op (.agg (bdL L)) a :=
  yieldsIf_load_bd hw x ho b hx _ _ _ hS
theorem yieldsIf_eql {ops : Array Oper} {S : World → Prop} {op : Oper} {a : Act} (hw : Region.wanted op (yielded ops a.tmps) = true) (x y : Operand) (ho : op.op = .binOp .eql 32 x y 32)
    (L M : List (Int × Nat)) (hx : a.eval x = .agg (bdL L)) (hy : a.eval y = .agg (bdL M)) (hL : L.length ≤ 48) (d : Bool) (hd : d = decide (L = M)) : YieldsIf Try.prog ops S op (.bool d) a :=
  .inl ⟨hw, fun w _ => by
    have e : d = true ↔ bdA (bdF L) (bdG L) L.length = bdA (bdF M) (bdG M) M.length := by
      rw [hd, decide_eq_true_iff]
      exact (bdL_inj hL).symm
    unfold execOp
    simp only [ho, hx, hy, bdL, Sem.run_bind, eq_guard, Result.andThen_ok, run_eql_bd w _ _ _ _ _ _ d e, Sem.run_pure]⟩
theorem yieldsIf_neq {ops : Array Oper} {S : World → Prop} {op : Oper} {a : Act} (hw : Region.wanted op (yielded ops a.tmps) = true) (x y : Operand) (ho : op.op = .binOp .neq 32 x y 32)
    (L M : List (Int × Nat)) (hx : a.eval x = .agg (bdL L)) (hy : a.eval y = .agg (bdL M)) (hL : L.length ≤ 48) (d : Bool) (hd : d = decide (L = M)) : YieldsIf Try.prog ops S op (.bool (!d)) a :=
  .inl ⟨hw, fun w _ => by
    have e : d = true ↔ bdA (bdF L) (bdG L) L.length = bdA (bdF M) (bdG M) M.length := by
      rw [hd, decide_eq_true_iff]
      exact (bdL_inj hL).symm
    unfold execOp
    simp only [ho, hx, hy, bdL, Sem.run_bind, eq_guard, Result.andThen_ok, run_neq_bd w _ _ _ _ _ _ d e, Sem.run_pure]⟩
end Go.Proofs.Ytioahddobogpjaa
/- The reference's Bytes, Hash, Labels of cells; Alike. Conditions: those said. -/
namespace Go.Proofs.Ytioahddobogpjaa
open Go.RowKit

theorem below_undrew2 {a w : World} (h : Below a.drew.heap.size a.drew w) : Below a.heap.size a w := ⟨h.os, h.tape, h.output, h.size, h.block⟩
set_option maxHeartbeats 4000000 in
set_option maxRecDepth 20000 in
theorem RefBytes_calls (x : Int) (y : Nat) (w : World) (hy : y < 4294967296) :
    Calls Try.prog 51 #[.agg #[.int .i32 x, .int .u32 (y : Int)]] w fun e w' => ∃ v, e = .returned v ∧ Row w' w.heap.size v (cellB (x, y)) ∧ Below w.heap.size w w' := by
  have hb := below_alloc1 w (.cells #[.int .i32 x, .int .u32 (y : Int)] 83)
  have q0 : BoxV (w.alloc (.cells #[.int .i32 x, .int .u32 (y : Int)] 83)) w.heap.size x y := heap_alloc_new w _
  have hw := uN_wrap x
  have hw2 := uN_mod x
  have hul := uN_lt x
  obtain ⟨u, hu⟩ : ∃ u, u = uN x := ⟨_, rfl⟩
  have hB : [low u 4, low y 4].flatten = cellB (x, y) := by rw [hu]; simp [cellB]
  rw [← hu] at hw hw2 hul
  have HB := Lib.hid hB
  have e1 : IntKind.u64.wrap (u : Int) = (u : Int) := IntWalk.u64_in _ (by omega)
  have e2 : IntKind.u64.wrap (y : Int) = (y : Int) := IntWalk.u64_in _ (by omega)
  clear hu hB
  go_enter Try.func51, Try.ntmps51
  go_wp2_with fail
  refine wp_region_held_drew (S := fun w' => BoxV w' w.heap.size x y) (by kernel_rfl) ?_ (fun hHeld => ?_)
  · exact q0
  refine wpAnyH_take (i := 0) (v := ?mv0) (by simp only [List.getElem?_toArray, List.getElem?_cons_zero]; rfl) (by kernel_rfl) (by kernel_rfl) (by kernel_rfl) (by exact fun _ _ _ h => h) (Or.inl ⟨by rfl, ?my0⟩) hHeld ?_
  case my0 => (intro w0 hSw; (try dsimp only at hSw); have hz0 := cell_of_row w0 w.heap.size 0 _ _ _ hSw; have hz1 := cell_of_row w0 w.heap.size 1 _ _ _ hSw; simp only [List.getElem?_toArray, List.getElem?_cons_zero, List.getElem?_cons_succ] at hz0 hz1; clear hSw; go_simp; try (with_reducible rfl))
  try simp only [Act.put, List.setIfInBounds_toArray, List.set_cons_zero, List.set_cons_succ]
  refine wpAnyH_take (i := 1) (v := ?mv1) (by simp only [List.getElem?_toArray, List.getElem?_cons_succ, List.getElem?_cons_zero]; rfl) (by kernel_rfl) (by kernel_rfl) (by kernel_rfl) (by exact fun _ _ _ h => h) (Or.inl ⟨by rfl, ?my1⟩) hHeld ?_
  case my1 => (intro w0 hSw; (try dsimp only at hSw); have hz0 := cell_of_row w0 w.heap.size 0 _ _ _ hSw; have hz1 := cell_of_row w0 w.heap.size 1 _ _ _ hSw; simp only [List.getElem?_toArray, List.getElem?_cons_zero, List.getElem?_cons_succ] at hz0 hz1; clear hSw; go_simp; try (with_reducible rfl))
  try simp only [Act.put, List.setIfInBounds_toArray, List.set_cons_zero, List.set_cons_succ]
  refine wpAnyH_take (i := 2) (v := ?mv2) (by simp only [List.getElem?_toArray, List.getElem?_cons_succ, List.getElem?_cons_zero]; rfl) (by kernel_rfl) (by kernel_rfl) (by kernel_rfl) (by exact fun _ _ _ h => h) (Or.inl ⟨by rfl, ?my2⟩) hHeld ?_
  case my2 => (intro w0 hSw; (try dsimp only at hSw); have hz0 := cell_of_row w0 w.heap.size 0 _ _ _ hSw; have hz1 := cell_of_row w0 w.heap.size 1 _ _ _ hSw; simp only [List.getElem?_toArray, List.getElem?_cons_zero, List.getElem?_cons_succ] at hz0 hz1; clear hSw; go_simp; try (with_reducible rfl))
  try simp only [Act.put, List.setIfInBounds_toArray, List.set_cons_zero, List.set_cons_succ]
  refine wpAnyH_take (i := 3) (v := ?mv3) (by simp only [List.getElem?_toArray, List.getElem?_cons_succ, List.getElem?_cons_zero]; rfl) (by kernel_rfl) (by kernel_rfl) (by kernel_rfl) (by exact fun _ _ _ h => h) (Or.inl ⟨by rfl, ?my3⟩) hHeld ?_
  case my3 => (intro w0 hSw; (try dsimp only at hSw); have hz0 := cell_of_row w0 w.heap.size 0 _ _ _ hSw; have hz1 := cell_of_row w0 w.heap.size 1 _ _ _ hSw; simp only [List.getElem?_toArray, List.getElem?_cons_zero, List.getElem?_cons_succ] at hz0 hz1; clear hSw; go_simp; try (with_reducible rfl))
  try simp only [Act.put, List.setIfInBounds_toArray, List.set_cons_zero, List.set_cons_succ]
  refine wpAnyH_take (i := 5) (v := ?mv5) (by simp only [List.getElem?_toArray, List.getElem?_cons_succ, List.getElem?_cons_zero]; rfl) (by kernel_rfl) (by kernel_rfl) (by kernel_rfl) (by exact fun _ _ _ h => h) (Or.inl ⟨by rfl, ?my5⟩) hHeld ?_
  case my5 => (intro w0 hSw; (try dsimp only at hSw); have hz0 := cell_of_row w0 w.heap.size 0 _ _ _ hSw; have hz1 := cell_of_row w0 w.heap.size 1 _ _ _ hSw; simp only [List.getElem?_toArray, List.getElem?_cons_zero, List.getElem?_cons_succ] at hz0 hz1; clear hSw; go_simp; try (with_reducible rfl))
  try simp only [Act.put, List.setIfInBounds_toArray, List.set_cons_zero, List.set_cons_succ]
  refine wpAnyH_take (i := 6) (v := ?mv6) (by simp only [List.getElem?_toArray, List.getElem?_cons_succ, List.getElem?_cons_zero]; rfl) (by kernel_rfl) (by kernel_rfl) (by kernel_rfl) (by exact fun _ _ _ h => h) (Or.inl ⟨by rfl, ?my6⟩) hHeld ?_
  case my6 => (intro w0 hSw; (try dsimp only at hSw); have hz0 := cell_of_row w0 w.heap.size 0 _ _ _ hSw; have hz1 := cell_of_row w0 w.heap.size 1 _ _ _ hSw; simp only [List.getElem?_toArray, List.getElem?_cons_zero, List.getElem?_cons_succ] at hz0 hz1; clear hSw; go_simp; try (with_reducible rfl))
  try simp only [Act.put, List.setIfInBounds_toArray, List.set_cons_zero, List.set_cons_succ]
  refine wpAnyH_take (i := 7) (v := ?mv7) (by simp only [List.getElem?_toArray, List.getElem?_cons_succ, List.getElem?_cons_zero]; rfl) (by kernel_rfl) (by kernel_rfl) (by kernel_rfl) (by exact fun _ _ _ h => h) (Or.inl ⟨by rfl, ?my7⟩) hHeld ?_
  case my7 => (intro w0 hSw; (try dsimp only at hSw); have hz0 := cell_of_row w0 w.heap.size 0 _ _ _ hSw; have hz1 := cell_of_row w0 w.heap.size 1 _ _ _ hSw; simp only [List.getElem?_toArray, List.getElem?_cons_zero, List.getElem?_cons_succ] at hz0 hz1; clear hSw; go_simp; try (with_reducible rfl))
  try simp only [Act.put, List.setIfInBounds_toArray, List.set_cons_zero, List.set_cons_succ]
  refine wpAnyH_ready (rs := [4]) (by kernel_rfl) (by simp) ?_
  refine AllReadyH.cons (by simp only [List.getElem?_toArray, List.getElem?_cons_succ, List.getElem?_cons_zero]; rfl) (fun KK hKK => ?_) AllReadyH.nil
  go_simp
  refine (Low_calls u 4 _ (by omega) (by omega) (by omega)).mono ?_
  rintro e w1 ⟨v1, rfl, hrow1, h1⟩
  have h1 := below_undrew2 h1
  have q1 : BoxV w1 w.heap.size x y := (h1.block _ (by simp)).trans q0
  have hb1 := hb.trans (h1.mono hb.size)
  have hz1 := hb1.size
  obtain ⟨A1, c1, b1, rfl, _, _, _, _, hs1, _⟩ := hrow1.sl
  clear hrow1 h1
  go_wp2_with fail
  refine hKK.out _ _ ?_ (fun hHeld => ?_)
  · exact q1
  clear hKK KK
  try simp only [Act.put, List.setIfInBounds_toArray, List.set_cons_zero, List.set_cons_succ]
  refine wpAnyH_ready (rs := [8]) (by kernel_rfl) (by simp) ?_
  refine AllReadyH.cons (by simp only [List.getElem?_toArray, List.getElem?_cons_succ, List.getElem?_cons_zero]; rfl) (fun KK hKK => ?_) AllReadyH.nil
  go_simp
  refine (Low_calls y 4 _ (by omega) (by omega) (by omega)).mono ?_
  rintro e w2 ⟨v2, rfl, hrow2, h2⟩
  have q2 : BoxV w2 w.heap.size x y := (h2.block _ (Array.getElem?_eq_some_iff.1 q1).1).trans q1
  have hb2 := hb1.trans (h2.mono hz1)
  have hz2 := hb2.size
  have hs1 := Sl.ext hs1 h2
  obtain ⟨A2, c2, b2, rfl, _, _, _, _, hs2, _⟩ := hrow2.sl
  clear hrow2 h2
  go_wp2_with fail
  refine hKK.out _ _ ?_ (fun hHeld => ?_)
  · exact q2
  clear hKK KK
  try simp only [Act.put, List.setIfInBounds_toArray, List.set_cons_zero, List.set_cons_succ]
  refine wpAnyH_ready (rs := [9]) (by kernel_rfl) (by simp) ?_
  refine AllReadyH.cons (by simp only [List.getElem?_toArray, List.getElem?_cons_succ, List.getElem?_cons_zero]; rfl) (fun KK hKK => ?_) AllReadyH.nil
  go_simp
  have h3 := below_alloc1 w2 (.cells #[.slice A1 4 c1, .slice A2 4 c2] 36)
  have q3 : BoxV (w2.alloc (.cells #[.slice A1 4 c1, .slice A2 4 c2] 36)) w.heap.size x y := (h3.block _ (Array.getElem?_eq_some_iff.1 q2).1).trans q2
  have hs1 := Sl.ext hs1 h3
  have hs2 := Sl.ext hs2 h3
  have hb3 := hb2.trans (h3.mono hz2)
  have hz3 := hb3.size
  have hsl := Sl.cells_new w2 #[.slice A1 4 c1, .slice A2 4 c2] 36
  go_wp2_with fail
  refine hKK.out _ _ ?_ (fun hHeld => ?_)
  · exact q3
  clear hKK KK
  try simp only [Act.put, List.setIfInBounds_toArray, List.set_cons_zero, List.set_cons_succ]
  refine wpAnyH_ready (rs := [10]) (by kernel_rfl) (by simp) ?_
  refine AllReadyH.cons (by simp only [List.getElem?_toArray, List.getElem?_cons_succ, List.getElem?_cons_zero]; rfl) (fun KK hKK => ?_) AllReadyH.nil
  go_simp
  refine (Join_calls _ [.slice A1 4 c1, .slice A2 4 c2] [low u 4, low y 4] 2 2 w2.heap.size _ hsl (Bss.cons hs1 (by simp) (Bss.cons hs2 (by simp) (Bss.nil_ _))) rfl (by simp [maxLen]) (by simp)).mono ?_
  rintro e w4 ⟨v4, rfl, hrow4, h4⟩
  have q4 : BoxV w4 w.heap.size x y := (h4.block _ (Array.getElem?_eq_some_iff.1 q3).1).trans q3
  have hb4 := hb3.trans (h4.mono hz3)
  have hrow4 := owns_low hrow4 hz3
  obtain ⟨A4, c4, b4, hv4, _⟩ := Row.sl hrow4
  subst hv4
  go_wp2_with fail
  refine hKK.out _ _ ?_ (fun hHeld => ?_)
  · exact q4
  clear hKK KK
  try simp only [Act.put, List.setIfInBounds_toArray, List.set_cons_zero, List.set_cons_succ]
  refine wpAnyH_take (i := 11) (v := ?mv11) (by simp only [List.getElem?_toArray, List.getElem?_cons_succ, List.getElem?_cons_zero]; rfl) (by kernel_rfl) (by kernel_rfl) (by kernel_rfl) (by exact fun _ _ _ h => h) (Or.inl ⟨by rfl, ?my11⟩) hHeld ?_
  case my11 => (intro w0 hSw; (try dsimp only at hSw); have hz0 := cell_of_row w0 w.heap.size 0 _ _ _ hSw; have hz1 := cell_of_row w0 w.heap.size 1 _ _ _ hSw; simp only [List.getElem?_toArray, List.getElem?_cons_zero, List.getElem?_cons_succ] at hz0 hz1; clear hSw; go_simp; try (with_reducible rfl))
  try simp only [Act.put, List.setIfInBounds_toArray, List.set_cons_zero, List.set_cons_succ]
  refine wpAnyH_done (by kernel_rfl) ?_ _
  go_wp2_with fail
  go_ret
  exact ⟨_, rfl, Row.cast hrow4 HB.out, hb4⟩
set_option maxHeartbeats 4000000 in
set_option maxRecDepth 20000 in
theorem RefHash_calls (A : Option Addr) (L : List (Int × Nat)) (n c b : Nat) (w : World) (hs : Sl w b A (cv L)) (hn : L.length = n) (hm : n ≤ 1000000) (hok : okC L) :
    Calls Try.prog 38 #[.slice A n c] w fun e w' => e = .returned (.int .u32 (hashL L : Nat)) ∧ Below w.heap.size w w' := by
  subst hn
  have HOK := Lib.hid hok
  have HLN := Lib.hid (cellsB_len L)
  clear hok
  go_enter Try.func38, Try.ntmps38
  go_wp2_with fail
  go_loopw [3, 5, 8] (fun out p i wr => ∃ k : Nat, k ≤ L.length ∧ i = .int .i64 k ∧ Row wr w.heap.size out (cellsB (L.take k)) ∧ Below w.heap.size w wr) (fun _ _ i _ => L.length - (intOf i).toNat)
  case atStart => exact ⟨0, Nat.zero_le _, rfl, Row.nil_ _ _, Below.refl _ _⟩
  case round =>
    obtain ⟨k, hk, rfl, hr, hb⟩ := hrel
    rename_i v0 _ _
    by_cases hlt : k < L.length
    · obtain ⟨off, rfl, h0, h1⟩ := sl_off (Sl.ext hs hb) hlt
      have hy := (okC_get HOK.out hlt).2
      have hsn : cellsB (L.take (k + 1)) = cellsB (L.take k) ++ cellB L[k] := by rw [take_snoc1 hlt, cellsB_snoc]
      have hpl : (cellsB (L.take k)).length ≤ 10000000 := by rw [cellsB_len, List.length_take]; omega
      obtain ⟨p, hp⟩ : ∃ p, p = L[k] := ⟨_, rfl⟩
      rw [← hp] at h0 h1 hy hsn
      obtain ⟨x, y⟩ := p
      simp only at h0 h1 hy
      have HS := Lib.hid hsn
      have ej : (k : Int) < (L.length : Int) := by omega
      have hzb := hb.size
      have e2 : IntKind.u64.wrap (y : Int) = (y : Int) := IntWalk.u64_in _ (by omega)
      clear hp hsn
      have hb2 := hb.alloc hzb (.cells #[.int .i32 x, .int .u32 (y : Int)] 83)
      have hr2 := Row.ext hr (below_alloc1 wr (.cells #[.int .i32 x, .int .u32 (y : Int)] 83))
      have hz2 := hb2.size
      go_wp2_with fail
      refine (RefBytes_calls x y _ hy).mono ?_
      rintro e w2 ⟨v2, rfl, hrow2, h2⟩
      have hr3 := Row.ext hr2 h2
      have hb3 := hb2.trans (h2.mono hz2)
      have hz3 := hb3.size
      obtain ⟨A2, c2, b2, rfl, _, _, _, _, hs2, _⟩ := hrow2.sl
      clear hrow2 h2
      go_wp2_with ((with_reducible refine at_ca 15 _ ?_); refine wpList_app _ rfl (.tmp 12) (.tmp 14) rfl w.heap.size _ (cellsB (L.take k)) rfl hr3 b2 A2 _ c2 _ rfl hs2 rfl (by simp [cellB]; omega) hz3 ?_; intro v' w4 hrow hmod hat)
      have hb4 := hb3.trans (hmod.below_own hz3 (fun i h => (World.ownsRow.lt hr3 i h).1))
      go_roundw
      case rel => exact ⟨k + 1, by omega, by go_num, by rw [HS.out]; exact hrow, hb4⟩
      case measure => simp [intOf]; omega
    · obtain rfl : k = L.length := by omega
      rw [List.take_length] at hr
      obtain ⟨A2, c2, b2, rfl, _, _, _, _, hs2, _⟩ := hr.sl
      go_wp2_with fail
      refine (RefSum_calls A2 (cellsB L) (cellsB L).length c2 b2 _ hs2 rfl (by rw [HLN.out]; simp only [maxLen]; omega)).mono ?_
      rintro e w3 ⟨rfl, rfl⟩
      go_wp2_with fail
      go_ret
      exact ⟨rfl, hb⟩
end Go.Proofs.Ytioahddobogpjaa
/- The pen's Byte. Condition: the sum of the lengths fits. -/
namespace Go.Proofs.Ytioahddobogpjaa
open Go.RowKit

set_option maxHeartbeats 400000 in
theorem PenByte_calls (g : Nat) (r : Option Nat) (l : List UInt8) (n : Nat) (w : World) (hp : PenAt w g r l) (hn : n < 256) (hlen : l.length + 1 ≤ 140737488355328) :
    Calls Try.prog 42 #[.pointer (some ⟨g, 0, none⟩), .int .u8 n] w (Wrote g r (l ++ low n 1) w) := by
  have hb := Lib.hid (bv_low_one n hn)
  go_enter Try.func42, Try.ntmps42
  go_wp2_with fail
  have hx : Below w.heap.size w (w.alloc (.cells #[.int .u8 (n : Int)] 5)) := (Below.refl _ _).alloc (Nat.le_refl _) _
  refine (add_calls g r l _ (low n 1) 1 1 w.heap.size _ (hp.ext hx) (by unfold Bs; rw [hb.out]; exact Sl.cells_new w _ _) (by simp) hlen).mono ?_
  rintro e w1 ⟨rfl, r', hp', hst⟩
  go_wp2
  go_ret
  exact ⟨rfl, r', hp', PenStep.below hx hst⟩
end Go.Proofs.Ytioahddobogpjaa
/- A delta as it lies: a tick, a sum, its places, its cells; and the plain words of Of: the places that were touched, below k. Conditions: those said. -/
namespace Go.Proofs.Ytioahddobogpjaa
open Go.RowKit

/-- Block b holds a delta. -/
def BoxD (w : World) (b : Nat) (t h : Nat) (vp vc : Value) : Prop := w.heap[b]? = some (.cells #[.int .u32 (t : Int), .int .u32 (h : Int), vp, vc] 38 (0, 0))
namespace BoxD
variable {w w' : World} {b t h : Nat} {vp vc : Value}
theorem new_ (w : World) (t h : Nat) (vp vc : Value) : BoxD (w.alloc (.cells #[.int .u32 (t : Int), .int .u32 (h : Int), vp, vc] 38)) w.heap.size t h vp vc := heap_alloc_new w _
theorem lt (q : BoxD w b t h vp vc) : b < w.heap.size := (Array.getElem?_eq_some_iff.1 q).1
theorem c0 (q : BoxD w b t h vp vc) : w.cell? ⟨b, 0, none⟩ = some (.int .u32 (t : Int)) := by rw [cell_of_row w b 0 _ _ _ q]; rfl
theorem c1 (q : BoxD w b t h vp vc) : w.cell? ⟨b, 1, none⟩ = some (.int .u32 (h : Int)) := by rw [cell_of_row w b 1 _ _ _ q]; rfl
theorem c2 (q : BoxD w b t h vp vc) : w.cell? ⟨b, 2, none⟩ = some vp := by rw [cell_of_row w b 2 _ _ _ q]; rfl
theorem c3 (q : BoxD w b t h vp vc) : w.cell? ⟨b, 3, none⟩ = some vc := by rw [cell_of_row w b 3 _ _ _ q]; rfl
theorem fr (q : BoxD w b t h vp vc) (j : Nat) : w.frozen? ⟨b, j, none⟩ = false := frozen_of_row w b j _ _ q
theorem ext (q : BoxD w b t h vp vc) (hb : Below w.heap.size w w') : BoxD w' b t h vp vc := (hb.block b q.lt).trans q
theorem alloc (q : BoxD w b t h vp vc) (o : Obj) : BoxD (w.alloc o) b t h vp vc := (Below.heap_alloc w o b q.lt).trans q
theorem mod {S : Nat → Prop} (q : BoxD w b t h vp vc) (hm : Mod S w w') (hs : ¬ S b) : BoxD w' b t h vp vc := (hm.block b q.lt hs).trans q
theorem set1 (q : BoxD w b t h vp vc) (u : Nat) : BoxD (w.setCell ⟨b, 1, none⟩ (.int .u32 (u : Int))) b t u vp vc := heap_setCell_same w b 1 _ _ _ q
theorem set2 (q : BoxD w b t h vp vc) (u : Value) : BoxD (w.setCell ⟨b, 2, none⟩ u) b t h u vc := heap_setCell_same w b 2 _ _ _ q
theorem set3 (q : BoxD w b t h vp vc) (u : Value) : BoxD (w.setCell ⟨b, 3, none⟩ u) b t h vp u := heap_setCell_same w b 3 _ _ _ q
theorem other (q : BoxD w b t h vp vc) {p : Addr} (hp : b ≠ p.block) (u : Value) : BoxD (w.setCell p u) b t h vp vc := (heap_setCell_other w p b u hp).trans q
end BoxD
/-- A row's block is no block of another type. -/
theorem own_ne {w : World} {B n sz : Nat} {e t : TypeId} {v : Value} {xs : List Value} (hr : w.ownsRow B e sz v n xs) {g : Nat} {cs : Array Value} {fr : Nat × Nat} (hg : w.heap[g]? = some (.cells cs t fr)) (ht : t ≠ e) : v.ownBlock ≠ some g := by
  intro hv
  rcases hr.2 with ⟨rfl, _⟩ | ⟨g', cap, cur, rfl, _, hh, _⟩
  · simp [Value.ownBlock] at hv
  · have : g' = g := by simpa [Value.ownBlock] using hv
    subst this
    rw [hh] at hg
    injection hg with hg
    injection hg with _ h2 _
    exact ht h2.symm
/-- The places below k that were touched. -/
def placesTo (t k : Nat) : List Nat := (List.range k).filter fun i => t.testBit i
def placesB (t k : Nat) : List UInt8 := (placesTo t k).map UInt8.ofNat
/-- The cells there. -/
def cellsTo (V : List (Int × Nat)) (t k : Nat) : List (Int × Nat) := (placesTo t k).map fun i => V.getD i (0, 0)
theorem placesTo_hit {t k : Nat} (h : t.testBit k = true) : placesTo t (k + 1) = placesTo t k ++ [k] := by simp [placesTo, List.range_succ, List.filter_append, h]
theorem placesTo_miss {t k : Nat} (h : t.testBit k = false) : placesTo t (k + 1) = placesTo t k := by simp [placesTo, List.range_succ, List.filter_append, h]
theorem placesB_hit {t k : Nat} (h : t.testBit k = true) : placesB t (k + 1) = placesB t k ++ [UInt8.ofNat k] := by simp [placesB, placesTo_hit h]
theorem placesB_miss {t k : Nat} (h : t.testBit k = false) : placesB t (k + 1) = placesB t k := by simp [placesB, placesTo_miss h]
theorem cellsTo_hit {V : List (Int × Nat)} {t k : Nat} (hk : k < V.length) (h : t.testBit k = true) : cellsTo V t (k + 1) = cellsTo V t k ++ [V[k]] := by simp [cellsTo, placesTo_hit h, List.getD, hk]
theorem cellsTo_miss {V : List (Int × Nat)} {t k : Nat} (h : t.testBit k = false) : cellsTo V t (k + 1) = cellsTo V t k := by simp [cellsTo, placesTo_miss h]
theorem placesTo_len (t k : Nat) : (placesTo t k).length ≤ k := by
  have := List.length_filter_le (fun i => t.testBit i) (List.range k)
  simpa [placesTo] using this
@[simp] theorem placesB_len (t k : Nat) : (placesB t k).length = (placesTo t k).length := by simp [placesB]
@[simp] theorem cellsTo_len (V : List (Int × Nat)) (t k : Nat) : (cellsTo V t k).length = (placesTo t k).length := by simp [cellsTo]
theorem placesTo_mem {t k i : Nat} : i ∈ placesTo t k ↔ i < k ∧ t.testBit i = true := by simp [placesTo]
/-- The bit of a place, as Of asks for it. -/
theorem bit_asked (t k : Nat) (h : t ≤ 18446744073709551615) : (bits .and .u64 ((t : Int) / 2 ^ k) 1 == 1) = t.testBit k := by
  have hd : t / 2 ^ k ≤ 18446744073709551615 := Nat.le_trans (Nat.div_le_self _ _) h
  have e : ((t : Int) / 2 ^ k) = ((t / 2 ^ k : Nat) : Int) := by simp
  have h1 := bits_and_u64_nat (t / 2 ^ k) 1 (by omega) (by omega)
  rw [e]
  rw [show (1 : Int) = ((1 : Nat) : Int) from rfl, h1, Nat.and_one_is_mod, Nat.testBit_eq_decide_div_mod_eq, Bool.eq_iff_iff]
  simp only [beq_iff_eq, decide_eq_true_eq]
  omega
end Go.Proofs.Ytioahddobogpjaa
/- Of: what one is told of a board's touched places. Conditions: a board has 48 cells at most; the cells and the numbers fit. -/
namespace Go.Proofs.Ytioahddobogpjaa
open Go.RowKit

theorem rows_ne {w : World} {B B' n m : Nat} {v v' : Value} {xs ys : List Value} (h : w.ownsRow B 5 1 v n xs) (h' : w.ownsRow B' 29 2 v' m ys) {i : Nat} (hv : v.ownBlock = some i) (hv' : v'.ownBlock = some i) : False := by
  rcases h'.2 with ⟨rfl, _⟩ | ⟨g', cap, cur, rfl, _, hh, _⟩
  · simp [Value.ownBlock] at hv'
  · have e : g' = i := by simpa [Value.ownBlock] using hv'
    subst e
    exact own_ne h hh (by decide) hv
set_option maxHeartbeats 16000000 in
set_option maxRecDepth 40000 in
theorem Of_calls (L : List (Int × Nat)) (t : Nat) (o : Int) (tick : Nat) (w : World) (hL : L.length ≤ 48) (hok : okC L) (ht : t ≤ 18446744073709551615) (_ : tick < 4294967296) :
    Calls Try.prog 11 #[.agg (bdL L), .int .u64 t, .int .i64 o, .int .u32 tick] w fun e w' => ∃ vp vc, e = .returned (.agg #[.int .u32 tick, .int .u32 (hashL (viewL o L) : Nat), vp, vc]) ∧ Row w' w.heap.size vp (placesB t L.length) ∧ RowC 29 w' w.heap.size vc (cellsTo (viewL o L) t L.length) ∧ Below w.heap.size w w' := by
  have hV := fun W => View_calls L o W hL hok
  have hH := fun W => Hash_calls (viewL o L) W (by simp; omega) (okC_view hok o)
  have hC := fun W => Cells_calls (viewL o L) W (by simp; omega)
  obtain ⟨V, hVe⟩ : ∃ V, V = viewL o L := ⟨_, rfl⟩
  have hVl : V.length = L.length := by rw [hVe]; simp
  have hVL : V.length ≤ 48 := by omega
  rw [← hVe] at hV hH hC
  rw [← hVe, ← hVl]
  obtain ⟨H, hHe⟩ : ∃ H, H = hashL V := ⟨_, rfl⟩
  rw [← hHe] at hH ⊢
  have q4 := (BoxL.new_ w L).alloc (.cells #[.int .u32 0, .int .u32 0, .slice none 0 0, .slice none 0 0] 38)
  have r8 : BoxD ((w.alloc (.cells (bdL L) 32)).alloc (.cells #[.int .u32 0, .int .u32 0, .slice none 0 0, .slice none 0 0] 38)) (w.heap.size + 1) 0 0 (.slice none 0 0) (.slice none 0 0) := by
    have := BoxD.new_ (w.alloc (.cells (bdL L) 32)) 0 0 (.slice none 0 0) (.slice none 0 0)
    rwa [show (w.alloc (.cells (bdL L) 32)).heap.size = w.heap.size + 1 by simp] at this
  have hb := below_alloc2 w (.cells (bdL L) 32) (.cells #[.int .u32 0, .int .u32 0, .slice none 0 0, .slice none 0 0] 38)
  clear hVe hVl hHe
  go_enter Try.func11, Try.ntmps11
  go_wp2_with ((with_reducible refine at_ld 32 4 ?_); refine wpList_ld rfl (.tmp 4) rfl w.heap.size rfl L q4 ?_)
  refine (hV _).mono ?_
  rintro e w1 ⟨rfl, hb1⟩
  have q4 := q4.ext hb1
  have r8 := r8.ext hb1
  have hb := hb.trans (hb1.mono hb.size)
  clear hb1
  clear hV
  clear q4
  have r8 := r8.alloc (.cells (bdL V) 32)
  have hb := hb.alloc hb.size (.cells (bdL V) 32)
  have q9 := BoxL.new_ w1 V
  go_wp2_with (first | ((with_reducible refine at_al 32 9 ?_); refine wpList_al rfl rfl (some 9) rfl w1.heap.size rfl ?_) | ((with_reducible refine at_st 32 9 15 ?_); refine wpList_put rfl (.tmp 9) (.tmp 15) rfl rfl V rfl rfl ?_) | ((with_reducible refine at_ld 32 9 ?_); refine wpList_ld rfl (.tmp 9) rfl w1.heap.size rfl V q9 ?_))
  refine (hH _).mono ?_
  rintro e w2 ⟨rfl, hb2⟩
  have r8 := r8.ext hb2
  have q9 := q9.ext hb2
  have hb := hb.trans (hb2.mono hb.size)
  clear hb2
  clear hH
  have z := BoxD.new_ w2 tick H (.slice none 0 0) (.slice none 0 0)
  have hz8 := r8.lt
  have r8 := r8.alloc (.cells #[.int .u32 (tick : Int), .int .u32 (H : Int), .slice none 0 0, .slice none 0 0] 38)
  have q9 := q9.alloc (.cells #[.int .u32 (tick : Int), .int .u32 (H : Int), .slice none 0 0, .slice none 0 0] 38)
  have hb := hb.alloc hb.size (.cells #[.int .u32 (tick : Int), .int .u32 (H : Int), .slice none 0 0, .slice none 0 0] 38)
  go_wp2_with ((with_reducible refine at_ld 32 9 ?_); refine wpList_ld rfl (.tmp 9) rfl w1.heap.size rfl V q9 ?_)
  refine (hC _).mono ?_
  rintro e w3 ⟨v, rfl, hrow, hb3⟩
  have r8 := r8.ext hb3
  have q9 := q9.ext hb3
  have z := z.ext hb3
  have hb := hb.trans (hb3.mono hb.size)
  clear hb3
  clear hC
  obtain ⟨A5, c5, b5, rfl, hx1, hx2, hx3, hx4, hs5, hx5⟩ := hrow.sl
  have hb5 : w2.heap.size < b5 := by have := hx4; simp at this; omega
  clear hrow hx1 hx2 hx3 hx4 hx5
  have hzl := hb.size
  have hzlt := z.lt
  have h8lt := r8.lt
  have hblt : 0 < V.length → b5 < w3.heap.size := fun h => Sl.lt hs5 (by intro h0; have := congrArg List.length h0; rw [cv_length, List.length_nil] at this; omega)
  go_wp2_with fail
  go_loopw [11, 23] (fun q i wr => ∃ (k : Nat) (vp vc : Value), k ≤ V.length ∧ i = .int .i64 k ∧ Row wr w3.heap.size vp (placesB t k) ∧ RowC 29 wr w3.heap.size vc (cellsTo V t k) ∧ w3.heap.size ≤ wr.heap.size ∧ BoxD wr w2.heap.size tick H vp vc ∧ BoxD wr (w.heap.size + 1) 0 0 (.slice none 0 0) (.slice none 0 0) ∧ Sl wr b5 A5 (cv V) ∧ Below w.heap.size w wr) (fun _ i _ => V.length - (intOf i).toNat)
  case atStart => exact ⟨0, _, _, Nat.zero_le _, rfl, Row.nil_ _ _, RowC.nil_ _ _ _, Nat.le_refl _, z, r8, hs5, hb⟩
  case round =>
    clear z r8 hs5 hb
    obtain ⟨k, vp, vc, hk, rfl, hp, hc, hB, z, r8, hs5, hb⟩ := hrel
    by_cases hlt : k < V.length
    · obtain ⟨off, rfl, f0, f1⟩ := sl_off hs5 hlt
      have hbit := bit_asked t k ht
      obtain ⟨d, hd⟩ : ∃ d, d = t.testBit k := ⟨_, rfl⟩
      rw [← hd] at hbit
      have ph := placesB_hit (t := t) (k := k)
      have pm := placesB_miss (t := t) (k := k)
      have ch := cellsTo_hit (t := t) hlt
      have cm := cellsTo_miss (V := V) (t := t) (k := k)
      have hpl := placesTo_len t k
      rw [← hd] at ph pm ch cm
      obtain ⟨pr, hpr⟩ : ∃ pr, pr = V[k] := ⟨_, rfl⟩
      rw [← hpr] at f0 f1 ch
      obtain ⟨X, Y⟩ := pr
      simp only at f0 f1
      have PH := Lib.hid ph
      have PM := Lib.hid pm
      have CH := Lib.hid ch
      have CM := Lib.hid cm
      have ej : (k : Int) < (V.length : Int) := by omega
      have ek : (k : Int) < 64 := by omega
      clear hd hpr ph pm ch cm
      cases d with
      | false =>
        have hx := hb.alloc hb.size (.cells #[.int .i32 X, .int .u32 (Y : Int)] 29)
        have h9 := below_alloc1 wr (.cells #[.int .i32 X, .int .u32 (Y : Int)] 29)
        go_wp2_with fail
        go_roundw
        case rel => exact ⟨k + 1, _, _, by omega, by go_num, by rw [PM.out (by trivial)]; exact Row.ext hp h9, by rw [CM.out (by trivial)]; exact RowC.ext hc h9, by simp; omega, z.ext h9, r8.ext h9, Sl.ext hs5 h9, hx⟩
        case measure => simp [intOf]; omega
      | true =>
        have hx := hb.alloc hb.size (.cells #[.int .i32 X, .int .u32 (Y : Int)] 29)
        have h9 := below_alloc1 wr (.cells #[.int .i32 X, .int .u32 (Y : Int)] 29)
        have hp1 := Row.ext hp h9
        have hc1 := RowC.ext hc h9
        have z1 := z.ext h9
        have r81 := r8.ext h9
        have hs51 := Sl.ext hs5 h9
        have kx := BoxC.new_ wr X Y
        have zc2 := z1.c2
        have zc3 := z1.c3
        have zf2 := z1.fr 2
        have zf3 := z1.fr 3
        have hu : (Value.int .u8 (k : Int)) = .int .u8 ((UInt8.ofNat k).toNat : Int) := by rw [u8_ofNat]; congr 1; omega
        have hkw : IntKind.u8.wrap (k : Int) = (k : Int) := IntWalk.u8_in _ (by omega)
        have hkm : (k : Int) % 256 = (k : Int) := by omega
        have hB1 : w3.heap.size ≤ (wr.alloc (.cells #[.int .i32 X, .int .u32 (Y : Int)] 29)).heap.size := by simp; omega
        have hblt' := hblt (by omega)
        have h10 := below_alloc1 (wr.alloc (.cells #[.int .i32 X, .int .u32 (Y : Int)] 29)) (.cells #[.int .u8 (k : Int)] 5)
        have hp2 := Row.ext hp1 h10
        have hc2 := RowC.ext hc1 h10
        have z2 := z1.ext h10
        have kx2 := kx.ext h10
        have hsb : Sl ((wr.alloc (.cells #[.int .i32 X, .int .u32 (Y : Int)] 29)).alloc (.cells #[.int .u8 (k : Int)] 5)) (wr.heap.size + 1) (some ⟨wr.heap.size + 1, 0, none⟩) (bv [UInt8.ofNat k]) := by
          rw [show bv [UInt8.ofNat k] = [.int .u8 (k : Int)] by rw [hu]; rfl]
          have h11 := Sl.one_new (wr.alloc (.cells #[.int .i32 X, .int .u32 (Y : Int)] 29)) (.int .u8 (k : Int)) 5
          rwa [show (wr.alloc (.cells #[.int .i32 X, .int .u32 (Y : Int)] 29)).heap.size = wr.heap.size + 1 by simp] at h11
        clear hu
        have hplt := World.ownsRow.lt hp
        have hclt := World.ownsRow.lt hc
        go_wp2_with (first | ((with_reducible refine at_ca 38 _ ?_); refine wpList_app _ rfl (.tmp 34) (.tmp 37) rfl w3.heap.size vp (placesB t k) rfl hp2 _ (some ⟨_, 0, none⟩) 1 1 [UInt8.ofNat k] rfl hsb rfl (by simp; omega) (by simp; omega) ?_; intro v7 w7 hrow7 hmod7 hat7; (obtain ⟨A7, c7, b7, hv7, _⟩ := Row.sl hrow7); (obtain ⟨N7, hN7⟩ : ∃ N7, N7 = (placesB t k ++ [UInt8.ofNat k]).length := ⟨_, rfl⟩); (rw [← hN7] at hv7); (have HN7 := Lib.hid hN7); (clear hN7); (subst hv7); (have z7 := z2.mod hmod7 (fun h => by have := (hplt _ h).1; omega)); (have zc2 := z7.c2); (have zf2 := z7.fr 2); (have z7s := z7.set2 (.slice A7 N7 c7)); (have zc3 := z7s.c3); (have zf3 := z7s.fr 3); (have k7 : BoxC w7 wr.heap.size X Y := (hmod7.block _ (by simp; omega) (fun h => by have := (hplt _ h).2; omega)).trans kx2); (have k7s := k7.other (p := ⟨w2.heap.size, 2, none⟩) (by simp; omega) (.slice A7 N7 c7)); (obtain ⟨m0, m1⟩ := And.intro k7s.c0 k7s.c1); (have hc7 := RowC.mod hc2 hmod7 (fun i hi h => rows_ne hp2 hc2 h hi)); (have hc7s := RowC.mod hc7 (Mod.setCell w7 ⟨w2.heap.size, 2, none⟩ (.slice A7 N7 c7)) (fun i hi h => by have h1 := (hclt i hi).1; have h2 : i = w2.heap.size := h; omega)); (have hsn := Sl.cell_new (w7.setCell ⟨w2.heap.size, 2, none⟩ (.slice A7 N7 c7)) (X, Y) 29); (rw [show (w7.setCell ⟨w2.heap.size, 2, none⟩ (.slice A7 N7 c7)).heap.size = w7.heap.size by simp [World.setCell]] at hsn); (have hz7 := hmod7.size)) | ((with_reducible refine at_ca 44 _ ?_); refine wpList_appC _ Try.underlying22 cellB_info rfl (.tmp 41) (.tmp 43) rfl w3.heap.size vc (cellsTo V t k) rfl (World.ownsRow.alloc hc7s _) _ (some ⟨_, 0, none⟩) 1 1 [(X, Y)] rfl hsn rfl (by simp; omega) (by simp [World.setCell] at hz7 ⊢; omega) ?_; intro v8 w8 hrow8 hmod8 hat8; (obtain ⟨A8, c8, b8, hv8, _⟩ := RowC.sl hrow8); (obtain ⟨N8, hN8⟩ : ∃ N8, N8 = (cellsTo V t k ++ [(X, Y)]).length := ⟨_, rfl⟩); (rw [← hN8] at hv8); (have HN8 := Lib.hid hN8); (clear hN8); (subst hv8); (have z8 := (z7s.alloc _).mod hmod8 (fun h => by have := (hclt _ h).1; omega)); (have zc3 := z8.c3); (have zf3 := z8.fr 3)))
        have ra := Row.mod hrow7 (Mod.setCell w7 ⟨w2.heap.size, 2, none⟩ (.slice A7 N7 c7)) (fun i hi h => by have h1 := (World.ownsRow.lt hrow7 i hi).1; have h2 : i = w2.heap.size := h; omega)
        have rb := Row.ext ra (below_alloc1 (w7.setCell ⟨w2.heap.size, 2, none⟩ (.slice A7 N7 c7)) (.cells #[.int .i32 X, .int .u32 (Y : Int)] 29))
        have rc := Row.mod rb hmod8 (fun i hi h => rows_ne rb (World.ownsRow.alloc hc7s (.cells #[.int .i32 X, .int .u32 (Y : Int)] 29)) hi h)
        have rd := Row.mod rc (Mod.setCell w8 ⟨w2.heap.size, 3, none⟩ (.slice A8 N8 c8)) (fun i hi h => by have h1 := (World.ownsRow.lt rc i hi).1; have h2 : i = w2.heap.size := h; omega)
        have re := RowC.mod hrow8 (Mod.setCell w8 ⟨w2.heap.size, 3, none⟩ (.slice A8 N8 c8)) (fun i hi h => by have h1 := (World.ownsRow.lt hrow8 i hi).1; have h2 : i = w2.heap.size := h; omega)
        have g7 := (r81.ext h10).mod hmod7 (fun h => by have := (hplt _ h).1; omega)
        have g8 := (((g7.other (p := ⟨w2.heap.size, 2, none⟩) (Nat.ne_of_lt hz8) (.slice A7 N7 c7)).alloc (.cells #[.int .i32 X, .int .u32 (Y : Int)] 29)).mod hmod8 (fun h => by have := (hclt _ h).1; omega)).other (p := ⟨w2.heap.size, 3, none⟩) (Nat.ne_of_lt hz8) (.slice A8 N8 c8)
        have l7 := Sl.mod (Sl.ext hs51 h10) hmod7 (fun h => by have := (hplt _ h).1; omega)
        have l8 := Sl.setCell (Sl.mod (Sl.alloc (Sl.setCell l7 (p := ⟨w2.heap.size, 2, none⟩) (by simp; omega) (.slice A7 N7 c7)) (.cells #[.int .i32 X, .int .u32 (Y : Int)] 29)) hmod8 (fun h => by have := (hclt _ h).1; omega)) (p := ⟨w2.heap.size, 3, none⟩) (by simp; omega) (.slice A8 N8 c8)
        have b7' := (hx.trans (h10.mono hx.size)).trans (hmod7.below (B := w.heap.size) (by simp; omega) (fun i hi h => by have := (hplt _ h).1; omega))
        have b7s := b7'.setCell (p := ⟨w2.heap.size, 2, none⟩) (by simp; omega) (.slice A7 N7 c7)
        have b7t := b7s.alloc b7s.size (.cells #[.int .i32 X, .int .u32 (Y : Int)] 29)
        have b8' := b7t.trans (hmod8.below (B := w.heap.size) b7t.size (fun i hi h => by have := (hclt _ h).1; omega))
        have b9' := b8'.setCell (p := ⟨w2.heap.size, 3, none⟩) (by simp; omega) (.slice A8 N8 c8)
        have hsz8 := hmod8.size
        go_roundw
        case rel => exact ⟨k + 1, (.slice A7 N7 c7), (.slice A8 N8 c8), by omega, by go_num, by rw [PH.out (by trivial)]; exact rd, by rw [CH.out (by trivial)]; exact re, by simp [World.setCell] at hsz8 hz7 ⊢; omega, z8.set3 _, g8, l8, b9'⟩
        case measure => simp [intOf]; omega
    · obtain rfl : k = V.length := by omega
      obtain ⟨A7, c7, b7, hv7, _⟩ := Row.sl hp
      obtain ⟨A8, c8, b8, hv8, _⟩ := RowC.sl hc
      obtain ⟨N7, hN7⟩ : ∃ N7, N7 = (placesB t V.length).length := ⟨_, rfl⟩
      rw [← hN7] at hv7
      clear hN7
      obtain ⟨N8, hN8⟩ : ∃ N8, N8 = (cellsTo V t V.length).length := ⟨_, rfl⟩
      rw [← hN8] at hv8
      clear hN8
      subst hv7 hv8
      have zc0 := z.c0
      have rc0 := r8.c0
      have rf0 := r8.fr 0
      have zc1 := z.c1
      have rc1 := r8.c1
      have rf1 := r8.fr 1
      have zc2 := z.c2
      have rc2 := r8.c2
      have rf2 := r8.fr 2
      have zc3 := z.c3
      have rc3 := r8.c3
      have rf3 := r8.fr 3
      have hzlt' := hzlt
      go_wp2_with fail
      have q0 := heap_setCell_same wr (w.heap.size + 1) 0 _ _ (.int .u32 (tick : Int)) r8
      have rp0 := Row.mod hp (Mod.setCell wr ⟨w.heap.size + 1, 0, none⟩ (.int .u32 (tick : Int))) (fun i hi h => by have h1 := (World.ownsRow.lt hp i hi).1; have h2 : i = w.heap.size + 1 := h; omega)
      have rc0' := RowC.mod hc (Mod.setCell wr ⟨w.heap.size + 1, 0, none⟩ (.int .u32 (tick : Int))) (fun i hi h => by have h1 := (World.ownsRow.lt hc i hi).1; have h2 : i = w.heap.size + 1 := h; omega)
      have bb0 := hb.setCell (p := ⟨w.heap.size + 1, 0, none⟩) (by simp) (.int .u32 (tick : Int))
      have q1 := heap_setCell_same (wr.setCell ⟨w.heap.size + 1, 0, none⟩ (.int .u32 (tick : Int))) (w.heap.size + 1) 1 _ _ (.int .u32 (H : Int)) q0
      have rp1 := Row.mod rp0 (Mod.setCell (wr.setCell ⟨w.heap.size + 1, 0, none⟩ (.int .u32 (tick : Int))) ⟨w.heap.size + 1, 1, none⟩ (.int .u32 (H : Int))) (fun i hi h => by have h1 := (World.ownsRow.lt hp i hi).1; have h2 : i = w.heap.size + 1 := h; omega)
      have rc1' := RowC.mod rc0' (Mod.setCell (wr.setCell ⟨w.heap.size + 1, 0, none⟩ (.int .u32 (tick : Int))) ⟨w.heap.size + 1, 1, none⟩ (.int .u32 (H : Int))) (fun i hi h => by have h1 := (World.ownsRow.lt hc i hi).1; have h2 : i = w.heap.size + 1 := h; omega)
      have bb1 := bb0.setCell (p := ⟨w.heap.size + 1, 1, none⟩) (by simp) (.int .u32 (H : Int))
      have q2 := heap_setCell_same ((wr.setCell ⟨w.heap.size + 1, 0, none⟩ (.int .u32 (tick : Int))).setCell ⟨w.heap.size + 1, 1, none⟩ (.int .u32 (H : Int))) (w.heap.size + 1) 2 _ _ (.slice A7 N7 c7) q1
      have rp2 := Row.mod rp1 (Mod.setCell ((wr.setCell ⟨w.heap.size + 1, 0, none⟩ (.int .u32 (tick : Int))).setCell ⟨w.heap.size + 1, 1, none⟩ (.int .u32 (H : Int))) ⟨w.heap.size + 1, 2, none⟩ (.slice A7 N7 c7)) (fun i hi h => by have h1 := (World.ownsRow.lt hp i hi).1; have h2 : i = w.heap.size + 1 := h; omega)
      have rc2' := RowC.mod rc1' (Mod.setCell ((wr.setCell ⟨w.heap.size + 1, 0, none⟩ (.int .u32 (tick : Int))).setCell ⟨w.heap.size + 1, 1, none⟩ (.int .u32 (H : Int))) ⟨w.heap.size + 1, 2, none⟩ (.slice A7 N7 c7)) (fun i hi h => by have h1 := (World.ownsRow.lt hc i hi).1; have h2 : i = w.heap.size + 1 := h; omega)
      have bb2 := bb1.setCell (p := ⟨w.heap.size + 1, 2, none⟩) (by simp) (.slice A7 N7 c7)
      have q3 := heap_setCell_same (((wr.setCell ⟨w.heap.size + 1, 0, none⟩ (.int .u32 (tick : Int))).setCell ⟨w.heap.size + 1, 1, none⟩ (.int .u32 (H : Int))).setCell ⟨w.heap.size + 1, 2, none⟩ (.slice A7 N7 c7)) (w.heap.size + 1) 3 _ _ (.slice A8 N8 c8) q2
      have rp3 := Row.mod rp2 (Mod.setCell (((wr.setCell ⟨w.heap.size + 1, 0, none⟩ (.int .u32 (tick : Int))).setCell ⟨w.heap.size + 1, 1, none⟩ (.int .u32 (H : Int))).setCell ⟨w.heap.size + 1, 2, none⟩ (.slice A7 N7 c7)) ⟨w.heap.size + 1, 3, none⟩ (.slice A8 N8 c8)) (fun i hi h => by have h1 := (World.ownsRow.lt hp i hi).1; have h2 : i = w.heap.size + 1 := h; omega)
      have rc3' := RowC.mod rc2' (Mod.setCell (((wr.setCell ⟨w.heap.size + 1, 0, none⟩ (.int .u32 (tick : Int))).setCell ⟨w.heap.size + 1, 1, none⟩ (.int .u32 (H : Int))).setCell ⟨w.heap.size + 1, 2, none⟩ (.slice A7 N7 c7)) ⟨w.heap.size + 1, 3, none⟩ (.slice A8 N8 c8)) (fun i hi h => by have h1 := (World.ownsRow.lt hc i hi).1; have h2 : i = w.heap.size + 1 := h; omega)
      have bb3 := bb2.setCell (p := ⟨w.heap.size + 1, 3, none⟩) (by simp) (.slice A8 N8 c8)
      exact bodyPost_ret (results_cell_row (P := Try.prog) rfl _ _ (w.heap.size + 1) _ #[.int .u32 (tick : Int), .int .u32 (H : Int), .slice A7 N7 c7, .slice A8 N8 c8] (0, 0) _ rfl q3 Try.underlying38 rfl (by kernel_rfl)) rfl ⟨_, _, rfl, owns_low rp3 (by omega), owns_low rc3' (by omega), bb3⟩
end Go.Proofs.Ytioahddobogpjaa
/- Deltas in plain words: cells put at places, one by one; of what was touched the new view is made; places that rise. Conditions: those said. -/
namespace Go.Proofs.Ytioahddobogpjaa
open Go.RowKit

/-- V with the first k cells of cs at the places of ps. -/
def putTo (V : List (Int × Nat)) (ps : List UInt8) (cs : List (Int × Nat)) (k : Nat) : List (Int × Nat) := ((ps.zip cs).take k).foldl (fun V pc => V.set pc.1.toNat pc.2) V
theorem putTo_zero (V : List (Int × Nat)) (ps : List UInt8) (cs : List (Int × Nat)) : putTo V ps cs 0 = V := by simp [putTo]
theorem putTo_succ {V : List (Int × Nat)} {ps : List UInt8} {cs : List (Int × Nat)} {k : Nat} (h1 : k < ps.length) (h2 : k < cs.length) : putTo V ps cs (k + 1) = (putTo V ps cs k).set ps[k].toNat cs[k] := by
  unfold putTo
  rw [List.take_succ_eq_append_getElem (by simp; omega), List.foldl_append]
  simp
@[simp] theorem putTo_length (V : List (Int × Nat)) (ps : List UInt8) (cs : List (Int × Nat)) (k : Nat) : (putTo V ps cs k).length = V.length := by
  unfold putTo
  generalize (ps.zip cs).take k = l
  induction l generalizing V with
  | nil => rfl
  | cons c l ih => rw [List.foldl_cons, ih]; simp
theorem putTo_ok {V : List (Int × Nat)} {cs : List (Int × Nat)} (h : okC V) (hc : okC cs) (ps : List UInt8) (k : Nat) : okC (putTo V ps cs k) := by
  unfold putTo
  have h1 : ∀ x ∈ (ps.zip cs).take k, (-2147483648 ≤ x.2.1 ∧ x.2.1 ≤ 2147483647) ∧ x.2.2 < 4294967296 := fun x hx => hc _ (List.of_mem_zip (List.mem_of_mem_take hx)).2
  generalize (ps.zip cs).take k = l at h1
  induction l generalizing V with
  | nil => exact h
  | cons c l ih =>
    rw [List.foldl_cons]
    exact ih (okC_set h _ (h1 c (by simp))) fun x hx => h1 x (by simp [hx])
theorem fold_set (P : List Nat) (f : Nat → Int × Nat) (V : List (Int × Nat)) (j : Nat) : (P.foldl (fun V i => V.set i (f i)) V)[j]? = if j ∈ P ∧ j < V.length then some (f j) else V[j]? := by
  induction P generalizing V with
  | nil => simp
  | cons i P ih =>
    rw [List.foldl_cons, ih, List.length_set, List.getElem?_set]
    by_cases hi : i = j
    · subst hi
      by_cases hl : i < V.length
      · simp [hl]
      · simp [hl]
    · have : ¬ j = i := fun h => hi h.symm
      simp [hi, this]
theorem fold_byte (P : List Nat) (hP : ∀ i ∈ P, i < 48) (f : Nat → Int × Nat) (V : List (Int × Nat)) : P.foldl (fun V i => V.set (UInt8.ofNat i).toNat (f i)) V = P.foldl (fun V i => V.set i (f i)) V := by
  induction P generalizing V with
  | nil => rfl
  | cons i P ih =>
    have h1 := hP i (by simp)
    rw [List.foldl_cons, List.foldl_cons, ih (fun x hx => hP x (by simp [hx])), show (UInt8.ofNat i).toNat = i by simp [UInt8.toNat_ofNat']; omega]
theorem placesTo_lt {t n i : Nat} (h : i ∈ placesTo t n) : i < n := (placesTo_mem.1 h).1
/-- Of the view ahead of a step, and what was touched of that behind it, the latter is made. -/
theorem put_touched {V W : List (Int × Nat)} {t n k : Nat} (hV : V.length = n) (hW : W.length = n) (hn : n ≤ 48) (hk : (placesTo t n).length ≤ k) (h : ∀ i (h1 : i < V.length) (h2 : i < W.length), t.testBit i = false → V[i] = W[i]) : putTo V (placesB t n) (cellsTo W t n) k = W := by
  unfold putTo placesB cellsTo
  rw [List.zip_map', List.take_of_length_le (by simpa using hk), List.foldl_map, fold_byte _ (fun i hi => by have := placesTo_lt hi; omega)]
  apply List.ext_getElem?
  intro j
  rw [fold_set]
  by_cases hj : j < n
  · by_cases ht : t.testBit j = true
    · rw [if_pos ⟨placesTo_mem.2 ⟨hj, ht⟩, by omega⟩]
      simp [List.getD, hW, hj]
    · rw [if_neg (fun hh => ht (placesTo_mem.1 hh.1).2), List.getElem?_eq_getElem (by omega), List.getElem?_eq_getElem (by omega), h j (by omega) (by omega) (by simpa using ht)]
  · rw [if_neg (by omega), List.getElem?_eq_none (by omega), List.getElem?_eq_none (by omega)]
theorem placesTo_all {n : Nat} (h : n ≤ 48) : placesTo 281474976710655 n = List.range n := by
  unfold placesTo
  rw [List.filter_eq_self]
  intro i hi
  have h1 := List.mem_range.1 hi
  rw [show (281474976710655 : Nat) = 2 ^ 48 - 1 by decide, Nat.testBit_two_pow_sub_one]
  simp; omega
theorem cellsTo_all {W : List (Int × Nat)} (h : W.length ≤ 48) : cellsTo W 281474976710655 W.length = W := by
  unfold cellsTo
  rw [placesTo_all h]
  apply List.ext_getElem (by simp)
  intro i h1 h2
  simp [List.getD, h2]
/-- Is the place at i one of a board's, and behind the one ahead of it? -/
def riseAt (ps : List UInt8) (i : Nat) : Bool := decide ((ps.getD i 0).toNat < 48 ∧ (0 < i → (ps.getD (i - 1) 0).toNat < (ps.getD i 0).toNat))
def risesB (ps : List UInt8) : Bool := (List.range ps.length).all (riseAt ps)
theorem risesB_at {ps : List UInt8} (h : risesB ps = true) {i : Nat} (hi : i < ps.length) : ps[i].toNat < 48 ∧ (0 < i → (ps.getD (i - 1) 0).toNat < ps[i].toNat) := by
  have := List.all_eq_true.1 h i (List.mem_range.2 hi)
  simp only [riseAt, decide_eq_true_eq] at this
  rw [show ps.getD i 0 = ps[i] by simp [List.getD, hi]] at this
  exact this
theorem placesTo_getElem_lt {t n i j : Nat} (hij : i < j) (hj : j < (placesTo t n).length) : (placesTo t n)[i]'(by omega) < (placesTo t n)[j] := by
  have h : (placesTo t n).Pairwise (· < ·) := List.Pairwise.sublist List.filter_sublist (List.pairwise_lt_range)
  exact (List.pairwise_iff_getElem.1 h) i j (by omega) hj hij
theorem placesB_rises {t n : Nat} (hn : n ≤ 48) : risesB (placesB t n) = true := by
  refine List.all_eq_true.2 fun i hi => ?_
  have hi := List.mem_range.1 hi
  have hl : i < (placesTo t n).length := by simpa using hi
  have e : ∀ k (hk : k < (placesTo t n).length), ((placesB t n).getD k 0).toNat = (placesTo t n)[k] := fun k hk => by
    have h1 := placesTo_lt (List.getElem_mem hk)
    simp only [placesB, List.getD, List.getElem?_map, List.getElem?_eq_getElem hk, Option.map_some, Option.getD_some]
    simp [UInt8.toNat_ofNat']; omega
  have h1 := placesTo_lt (List.getElem_mem hl)
  simp only [riseAt, decide_eq_true_eq]
  rw [e i hl]
  refine ⟨by omega, fun h0 => ?_⟩
  rw [e (i - 1) (by omega)]
  exact placesTo_getElem_lt (by omega) hl
end Go.Proofs.Ytioahddobogpjaa
/- rises, full: are the places a board's, rising, with a cell each; are they the first ones? Conditions: those said. -/
namespace Go.Proofs.Ytioahddobogpjaa
open Go.RowKit

theorem bs_at {w : World} {b off : Nat} {l : List UInt8} (h : Bs w b (some ⟨b, off, none⟩) l) {k : Nat} (hk : k < l.length) : w.cell? ⟨b, off + k, none⟩ = some (.int .u8 (l[k].toNat : Int)) := by
  obtain ⟨off', e, h1⟩ := Bs.at_ h hk
  injection e with e
  injection e with _ e _
  subst e
  exact h1 k hk
theorem sl_at {w : World} {b off : Nat} {L : List (Int × Nat)} (h : Sl w b (some ⟨b, off, none⟩) (cv L)) {i : Nat} (hi : i < L.length) :
    w.cell? ⟨b, off + i * 2, none⟩ = some (.int .i32 L[i].1) ∧ w.cell? ⟨b, off + i * 2 + 1, none⟩ = some (.int .u32 ((L[i].2 : Nat) : Int)) := by
  obtain ⟨off', e, h1⟩ := sl_off h hi
  injection e with e
  injection e with _ e _
  subst e
  exact h1
theorem sl_row {w : World} {b g : Nat} {A : Option Addr} {xs : List Value} (h : Sl w b A xs) (hne : b ≠ g) (cs : Array Value) : Sl (w.setRow g cs) b A xs := h.keep fun _ => setRow_other w g b cs hne
theorem sl_lt {w : World} {b : Nat} {A : Option Addr} {L : List (Int × Nat)} (h : Sl w b A (cv L)) {i : Nat} (hi : i < L.length) : b < w.heap.size :=
  Sl.lt h (by intro h0; have := congrArg List.length h0; simp at this; omega)
theorem bd_orow {w : World} {b t h : Nat} {vp vc : Value} (q : BoxD w b t h vp vc) {g : Nat} (hne : b ≠ g) (cs : Array Value) : BoxD (w.setRow g cs) b t h vp vc := (setRow_other w g b cs hne).trans q
/-- A delta as a value. -/
abbrev dA (t h : Nat) (Ap : Option Addr) (np cp : Nat) (Ac : Option Addr) (nc cc : Nat) : Array Value := #[.int .u32 (t : Int), .int .u32 (h : Int), .slice Ap np cp, .slice Ac nc cc]
set_option maxHeartbeats 4000000 in
set_option maxRecDepth 20000 in
theorem Rises_yes (t h : Nat) (Ap : Option Addr) (ps : List UInt8) (np cp bp : Nat) (Ac : Option Addr) (nc cc : Nat) (d : Bool) (w : World) (hs : Bs w bp Ap ps) (hn : ps.length = np) (hr : risesB ps = true) (hl : np ≤ 1000000) (hd : ((np : Int) == (nc : Int)) = d) :
    Calls Try.prog 40 #[.agg (dA t h Ap np cp Ac nc cc)] w fun e w' => e = .returned (.bool d) ∧ Below w.heap.size w w' := by
  have hb := below_alloc1 w (.cells (dA t h Ap np cp Ac nc cc) 38)
  have q := BoxD.new_ w t h (.slice Ap np cp) (.slice Ac nc cc)
  obtain ⟨q2, q3⟩ := And.intro q.c2 q.c3
  have hs1 := Sl.alloc hs (.cells (dA t h Ap np cp Ac nc cc) 38)
  clear hs q
  have HR := Lib.hid hr
  clear hr
  subst hn
  go_enter Try.func40, Try.ntmps40
  go_wp2_with fail
  go_loop [8] (fun i => ∃ k : Nat, k ≤ ps.length ∧ i = .int .i64 k) (fun i => ps.length - (intOf i).toNat)
  case atStart => exact ⟨0, Nat.zero_le _, rfl⟩
  case round =>
    obtain ⟨k, hk, rfl⟩ := hrel
    by_cases hlt : k < ps.length
    · obtain ⟨off, rfl, hc⟩ := Bs.at_ hs1 hlt
      have f0 := hc k hlt
      obtain ⟨r1, r2⟩ := risesB_at HR.out hlt
      have ej : (k : Int) < (ps.length : Int) := by omega
      by_cases hk0 : k = 0
      · subst hk0
        simp only [Nat.add_zero] at f0
        obtain ⟨P, hP⟩ : ∃ P, P = ps[0].toNat := ⟨_, rfl⟩
        rw [← hP] at f0 r1
        clear hP r2 hc
        go_wp2_with fail
        go_round
        case rel => exact ⟨1, by omega, rfl⟩
        case measure => simp [intOf]; omega
      · have f1 := hc (k - 1) (by omega)
        have r3 := r2 (by omega)
        rw [show ps.getD (k - 1) 0 = ps[k - 1]'(by omega) by simp [List.getD, show k - 1 < ps.length by omega]] at r3
        obtain ⟨P, hP⟩ : ∃ P, P = ps[k].toNat := ⟨_, rfl⟩
        obtain ⟨R, hR⟩ : ∃ R, R = (ps[k - 1]'(by omega)).toNat := ⟨_, rfl⟩
        rw [← hP] at f0 r1 r3
        rw [← hR] at f1 r3
        have ek : 0 < k := by omega
        have el : (R : Int) < (P : Int) := by omega
        clear hP hR r2 hc
        go_wp2_with fail
        go_round
        case rel => exact ⟨k + 1, by omega, by go_num⟩
        case measure => simp [intOf]; omega
    · obtain rfl : k = ps.length := by omega
      go_wp2_with fail
      go_ret
      exact ⟨rfl, hb⟩
set_option maxHeartbeats 4000000 in
set_option maxRecDepth 20000 in
theorem full_yes (t h : Nat) (Ap : Option Addr) (ps : List UInt8) (np cp bp : Nat) (Ac : Option Addr) (cc : Nat) (w : World) (hs : Bs w bp Ap ps) (hn : ps.length = np) (hr : risesB ps = true) (hl : np ≤ 48) (hlast : ∀ i (hi : i < ps.length), ps[i].toNat = i) :
    Calls Try.prog 39 #[.agg (dA t h Ap np cp Ac np cc)] w fun e w' => e = .returned (.bool true) ∧ Below w.heap.size w w' := by
  have hb := below_alloc1 w (.cells (dA t h Ap np cp Ac np cc) 38)
  have q := BoxD.new_ w t h (.slice Ap np cp) (.slice Ac np cc)
  obtain ⟨q0, q1, q2, q3⟩ := And.intro q.c0 (And.intro q.c1 (And.intro q.c2 q.c3))
  have hs1 := Sl.alloc hs (.cells (dA t h Ap np cp Ac np cc) 38)
  have hR := fun W hs => Rises_yes t h Ap ps np cp bp Ac np cc true W hs hn hr (by omega) (by simp)
  clear hs hr
  have HL := Lib.hid hlast
  clear hlast
  by_cases h0 : np = 0
  · subst h0
    clear hn
    go_enter Try.func39, Try.ntmps39
    go_wp2_with fail
    refine (hR _ hs1).mono ?_
    rintro e w1 ⟨rfl, hb1⟩
    have q := q.ext hb1
    obtain ⟨q0, q1, q2, q3⟩ := And.intro q.c0 (And.intro q.c1 (And.intro q.c2 q.c3))
    have hb := hb.trans (hb1.mono hb.size)
    clear hb1
    go_wp2_with fail
    go_ret
    exact ⟨rfl, hb⟩
  · subst hn
    have e1 : (0 : Int) < (ps.length : Int) := by omega
    have e2 : decide ((ps.length : Int) - 1 < 0) = false := by simp; omega
    have e3 : (1 : Int) ≤ (ps.length : Int) := by omega
    obtain ⟨off, rfl, hc⟩ := Bs.at_ hs1 (show ps.length - 1 < ps.length by omega)
    clear hc
    go_enter Try.func39, Try.ntmps39
    go_wp2_with fail
    refine (hR _ hs1).mono ?_
    rintro e w1 ⟨rfl, hb1⟩
    have q := q.ext hb1
    obtain ⟨q0, q1, q2, q3⟩ := And.intro q.c0 (And.intro q.c1 (And.intro q.c2 q.c3))
    have hs1 := Sl.ext hs1 hb1
    have f0 := bs_at hs1 (show ps.length - 1 < ps.length by omega)
    rw [HL.out] at f0
    have hb := hb.trans (hb1.mono hb.size)
    clear hb1 hR
    go_wp2_with fail
    go_ret
    exact ⟨by simp; omega, hb⟩
end Go.Proofs.Ytioahddobogpjaa
/- Apply: the view with these cells there. Conditions: the places are the view's; as many cells as places; the cells fit. -/
namespace Go.Proofs.Ytioahddobogpjaa
open Go.RowKit

set_option maxHeartbeats 16000000 in
set_option maxRecDepth 40000 in
theorem Apply_calls (t h : Nat) (Ap : Option Addr) (ps : List UInt8) (np cp bp : Nat) (Ac : Option Addr) (cs : List (Int × Nat)) (nc cc bc : Nat) (V : List (Int × Nat)) (d : Bool) (w : World)
    (hps : Bs w bp Ap ps) (hpn : ps.length = np) (hcs : Sl w bc Ac (cv cs)) (hcn : cs.length = nc) (hnn : np = nc) (hl : np ≤ 1000000) (hV : V.length ≤ 48) (hok : okC V) (hoc : okC cs)
    (hin : ∀ i (hi : i < ps.length), ps[i].toNat < V.length) (hd : ((hashL (putTo V ps cs np) : Int) == (h : Int)) = d) :
    Calls Try.prog 17 #[.agg (dA t h Ap np cp Ac nc cc), .agg (bdL V)] w fun e w' => e = .returned (.tuple #[.agg (bdL (if d = true then putTo V ps cs np else V)), .int .i64 (if d = true then 0 else 13)]) ∧ Below w.heap.size w w' := by
  subst hnn hcn
  have b1 := below_alloc1 w (.cells (dA t h Ap cs.length cp Ac cs.length cc) 38)
  have b2 := b1.alloc b1.size (.cells (bdL V) 32)
  have b3 := b2.alloc b2.size (.cells (bdL []) 32)
  have hb := b3.alloc b3.size (.cells (bdL V) 32)
  have qd := (((BoxD.new_ w t h (.slice Ap cs.length cp) (.slice Ac cs.length cc)).alloc (.cells (bdL V) 32)).alloc (.cells (bdL []) 32)).alloc (.cells (bdL V) 32)
  have q3 := (BoxL.new_ (w.alloc (.cells (dA t h Ap cs.length cp Ac cs.length cc) 38)) V).alloc (.cells (bdL []) 32)
  rw [show (w.alloc (.cells (dA t h Ap cs.length cp Ac cs.length cc) 38)).heap.size = w.heap.size + 1 by simp] at q3
  have q3' := q3.alloc (.cells (bdL V) 32)
  have q4 := (BoxL.new_ ((w.alloc (.cells (dA t h Ap cs.length cp Ac cs.length cc) 38)).alloc (.cells (bdL V) 32)) []).alloc (.cells (bdL V) 32)
  rw [show ((w.alloc (.cells (dA t h Ap cs.length cp Ac cs.length cc) 38)).alloc (.cells (bdL V) 32)).heap.size = w.heap.size + 2 by simp] at q4
  have q6 := BoxL.new_ (((w.alloc (.cells (dA t h Ap cs.length cp Ac cs.length cc) 38)).alloc (.cells (bdL V) 32)).alloc (.cells (bdL []) 32)) V
  rw [show (((w.alloc (.cells (dA t h Ap cs.length cp Ac cs.length cc) 38)).alloc (.cells (bdL V) 32)).alloc (.cells (bdL []) 32)).heap.size = w.heap.size + 3 by simp] at q6
  have hlp0 : 0 < ps.length → bp < w.heap.size := fun h0 => Bs.lt hps (by rintro rfl; simp at h0)
  have hlc0 : 0 < cs.length → bc < w.heap.size := fun h0 => sl_lt hcs h0
  have hps := Sl.ext hps hb
  have hcs := Sl.ext hcs hb
  have hz4 : ((((w.alloc (.cells (dA t h Ap cs.length cp Ac cs.length cc) 38)).alloc (.cells (bdL V) 32)).alloc (.cells (bdL []) 32)).alloc (.cells (bdL V) 32)).heap.size = w.heap.size + 4 := by simp
  have HZ4 := Lib.hid hz4
  obtain ⟨e2, e3⟩ := And.intro qd.c2 qd.c3
  have HD := Lib.hid hd
  have HPN := Lib.hid hpn
  have HIN := Lib.hid hin
  clear b1 b2 b3 hz4 hd hin hpn
  go_enter Try.func17, Try.ntmps17
  go_wp2_with (first | ((with_reducible refine at_al 32 4 ?_); refine wpList_al rfl rfl (some 4) rfl (w.heap.size + 2) (by simp) ?_) | ((with_reducible refine at_ld 32 3 ?_); refine wpList_ld rfl (.tmp 3) rfl (w.heap.size + 1) rfl V q3 ?_) | ((with_reducible refine at_al 32 6 ?_); refine wpList_al rfl rfl (some 6) rfl (w.heap.size + 3) (by simp) ?_) | ((with_reducible refine at_st 32 6 9 ?_); refine wpList_put rfl (.tmp 6) (.tmp 9) rfl (show (((w.alloc (.cells (dA t h Ap cs.length cp Ac cs.length cc) 38)).alloc (.cells (bdL V) 32)).alloc (.cells (bdL []) 32)).heap.size = w.heap.size + 3 by simp) V rfl rfl ?_))
  clear e2 e3 q3
  obtain ⟨wz, hwz⟩ : ∃ wz, wz = ((((w.alloc (.cells (dA t h Ap cs.length cp Ac cs.length cc) 38)).alloc (.cells (bdL V) 32)).alloc (.cells (bdL []) 32)).alloc (.cells (bdL V) 32)) := ⟨_, rfl⟩
  rw [← hwz] at hb qd q3' q4 q6 hps hcs HZ4 ⊢
  have q6 : BoxL wz (w.heap.size + 3) (putTo V ps cs 0) := by rw [putTo_zero]; exact q6
  clear hwz
  go_loopw [17] (fun i wr => ∃ k : Nat, k ≤ cs.length ∧ i = .int .i64 k ∧ BoxL wr (w.heap.size + 3) (putTo V ps cs k) ∧ BoxL wr (w.heap.size + 1) V ∧ BoxL wr (w.heap.size + 2) [] ∧ BoxD wr w.heap.size t h (.slice Ap cs.length cp) (.slice Ac cs.length cc) ∧ Bs wr bp Ap ps ∧ Sl wr bc Ac (cv cs) ∧ Below w.heap.size w wr) (fun i _ => cs.length - (intOf i).toNat)
  case atStart => exact ⟨0, Nat.zero_le _, rfl, q6, q3', q4, qd, hps, hcs, hb⟩
  case round =>
    clear q6 q3' q4 qd hps hcs hb
    obtain ⟨k, hk, rfl, q6, q3, q4, qd, hps, hcs, hb⟩ := hrel
    have hXl := putTo_length V ps cs k
    have hXo := putTo_ok hok hoc ps k
    by_cases hlt : k < cs.length
    · have hkp : k < ps.length := by rw [HPN.out]; exact hlt
      have HS := Lib.hid (putTo_succ (V := V) hkp hlt)
      have hpi := HIN.out k hkp
      have hci := okC_get hoc hlt
      obtain ⟨op, rfl, f0⟩ := Bs.at_ hps hkp
      clear f0
      obtain ⟨oc, rfl, f0⟩ := sl_off hcs hlt
      clear f0
      obtain ⟨X, hX⟩ : ∃ X, X = putTo V ps cs k := ⟨_, rfl⟩
      obtain ⟨Pn, hPn⟩ : ∃ Pn, Pn = ps[k].toNat := ⟨_, rfl⟩
      obtain ⟨cx, hcx⟩ : ∃ cx, cx = cs[k].1 := ⟨_, rfl⟩
      obtain ⟨cy, hcy⟩ : ∃ cy, cy = cs[k].2 := ⟨_, rfl⟩
      rw [← hX] at q6 hXl hXo HS
      rw [← hPn] at hpi HS
      rw [show cs[k] = (cx, cy) by rw [hcx, hcy]] at HS
      have hP8 : Pn ≤ 255 := by rw [hPn]; have := ps[k].toNat_lt; omega
      have HP := Lib.hid hPn
      have HCX := Lib.hid hcx
      have HCY := Lib.hid hcy
      have hPut := fun W => Put_in X Pn cx cy W (by omega) (by omega)
      clear hX hPn hcx hcy hci
      have ej : (k : Int) < (cs.length : Int) := by omega
      have epw : IntKind.i64.wrap (Pn : Int) = (Pn : Int) := IntWalk.i64_in _ (by omega)
      have hbz := hb.size
      have hl6 := q6.lt
      have hl3 := q3.lt
      have hl4 := q4.lt
      have hld := qd.lt
      have hxp : bp ≠ w.heap.size + 3 := by have := hlp0 (by omega); omega
      have hxc : bc ≠ w.heap.size + 3 := by have := hlc0 (by omega); omega
      go_wp2_with fail
      refine wp_region_held_drew (S := fun w' => BoxD w' w.heap.size t h (.slice (some ⟨bp, op, none⟩) cs.length cp) (.slice (some ⟨bc, oc, none⟩) cs.length cc) ∧ Bs w' bp (some ⟨bp, op, none⟩) ps ∧ Sl w' bc (some ⟨bc, oc, none⟩) (cv cs)) (by kernel_rfl) ?_ (fun hHeld => ?_)
      · exact ⟨qd, hps, hcs⟩
      refine wpAnyH_take (i := 1) (v := ?zv1) (by simp only [List.getElem?_toArray, List.getElem?_cons_succ, List.getElem?_cons_zero]; rfl) (by kernel_rfl) (by kernel_rfl) (by kernel_rfl) (by exact fun _ _ _ h => h) (Or.inl ⟨by rfl, ?zy1⟩) hHeld ?_
      case zy1 => (intro w hSw; (try dsimp only at hSw); have hy2 := hSw.1.c2; have hy3 := hSw.1.c3; have hyp := bs_at hSw.2.1 hkp; have hy0 := (sl_at hSw.2.2 hlt).1; have hy1 := (sl_at hSw.2.2 hlt).2; rw [← HP.out] at hyp; rw [← HCX.out] at hy0; rw [← HCY.out] at hy1; clear hSw; go_simp; try (with_reducible rfl))
      try simp only [Act.put, List.setIfInBounds_toArray, List.set_cons_zero, List.set_cons_succ]
      refine wpAnyH_take (i := 2) (v := ?zv2) (by simp only [List.getElem?_toArray, List.getElem?_cons_succ, List.getElem?_cons_zero]; rfl) (by kernel_rfl) (by kernel_rfl) (by kernel_rfl) (by exact fun _ _ _ h => h) (Or.inl ⟨by rfl, ?zy2⟩) hHeld ?_
      case zy2 => (intro w hSw; (try dsimp only at hSw); have hy2 := hSw.1.c2; have hy3 := hSw.1.c3; have hyp := bs_at hSw.2.1 hkp; have hy0 := (sl_at hSw.2.2 hlt).1; have hy1 := (sl_at hSw.2.2 hlt).2; rw [← HP.out] at hyp; rw [← HCX.out] at hy0; rw [← HCY.out] at hy1; clear hSw; go_simp; try (with_reducible rfl))
      try simp only [Act.put, List.setIfInBounds_toArray, List.set_cons_zero, List.set_cons_succ]
      refine wpAnyH_take (i := 3) (v := ?zv3) (by simp only [List.getElem?_toArray, List.getElem?_cons_succ, List.getElem?_cons_zero]; rfl) (by kernel_rfl) (by kernel_rfl) (by kernel_rfl) (by exact fun _ _ _ h => h) (Or.inl ⟨by rfl, ?zy3⟩) hHeld ?_
      case zy3 => (intro w hSw; (try dsimp only at hSw); have hy2 := hSw.1.c2; have hy3 := hSw.1.c3; have hyp := bs_at hSw.2.1 hkp; have hy0 := (sl_at hSw.2.2 hlt).1; have hy1 := (sl_at hSw.2.2 hlt).2; rw [← HP.out] at hyp; rw [← HCX.out] at hy0; rw [← HCY.out] at hy1; clear hSw; go_simp; try (with_reducible rfl))
      try simp only [Act.put, List.setIfInBounds_toArray, List.set_cons_zero, List.set_cons_succ]
      refine wpAnyH_take (i := 4) (v := ?zv4) (by simp only [List.getElem?_toArray, List.getElem?_cons_succ, List.getElem?_cons_zero]; rfl) (by kernel_rfl) (by kernel_rfl) (by kernel_rfl) (by exact fun _ _ _ h => h) (Or.inl ⟨by rfl, ?zy4⟩) hHeld ?_
      case zy4 => (intro w hSw; (try dsimp only at hSw); have hy2 := hSw.1.c2; have hy3 := hSw.1.c3; have hyp := bs_at hSw.2.1 hkp; have hy0 := (sl_at hSw.2.2 hlt).1; have hy1 := (sl_at hSw.2.2 hlt).2; rw [← HP.out] at hyp; rw [← HCX.out] at hy0; rw [← HCY.out] at hy1; clear hSw; go_simp; try (with_reducible rfl))
      try simp only [Act.put, List.setIfInBounds_toArray, List.set_cons_zero, List.set_cons_succ]
      refine wpAnyH_take (i := 5) (v := ?zv5) (by simp only [List.getElem?_toArray, List.getElem?_cons_succ, List.getElem?_cons_zero]; rfl) (by kernel_rfl) (by kernel_rfl) (by kernel_rfl) (by exact fun _ _ _ h => h) (Or.inl ⟨by rfl, ?zy5⟩) hHeld ?_
      case zy5 => (intro w hSw; (try dsimp only at hSw); have hy2 := hSw.1.c2; have hy3 := hSw.1.c3; have hyp := bs_at hSw.2.1 hkp; have hy0 := (sl_at hSw.2.2 hlt).1; have hy1 := (sl_at hSw.2.2 hlt).2; rw [← HP.out] at hyp; rw [← HCX.out] at hy0; rw [← HCY.out] at hy1; clear hSw; go_simp; try (with_reducible rfl))
      try simp only [Act.put, List.setIfInBounds_toArray, List.set_cons_zero, List.set_cons_succ]
      refine wpAnyH_take (i := 6) (v := ?zv6) (by simp only [List.getElem?_toArray, List.getElem?_cons_succ, List.getElem?_cons_zero]; rfl) (by kernel_rfl) (by kernel_rfl) (by kernel_rfl) (by exact fun _ _ _ h => h) (Or.inl ⟨by rfl, ?zy6⟩) hHeld ?_
      case zy6 => (intro w hSw; (try dsimp only at hSw); have hy2 := hSw.1.c2; have hy3 := hSw.1.c3; have hyp := bs_at hSw.2.1 hkp; have hy0 := (sl_at hSw.2.2 hlt).1; have hy1 := (sl_at hSw.2.2 hlt).2; rw [← HP.out] at hyp; rw [← HCX.out] at hy0; rw [← HCY.out] at hy1; clear hSw; go_simp; try (with_reducible rfl))
      try simp only [Act.put, List.setIfInBounds_toArray, List.set_cons_zero, List.set_cons_succ]
      refine wpAnyH_take (i := 7) (v := ?zv7) (by simp only [List.getElem?_toArray, List.getElem?_cons_succ, List.getElem?_cons_zero]; rfl) (by kernel_rfl) (by kernel_rfl) (by kernel_rfl) (by exact fun _ _ _ h => h) (Or.inl ⟨by rfl, ?zy7⟩) hHeld ?_
      case zy7 => (intro w hSw; (try dsimp only at hSw); have hy2 := hSw.1.c2; have hy3 := hSw.1.c3; have hyp := bs_at hSw.2.1 hkp; have hy0 := (sl_at hSw.2.2 hlt).1; have hy1 := (sl_at hSw.2.2 hlt).2; rw [← HP.out] at hyp; rw [← HCX.out] at hy0; rw [← HCY.out] at hy1; clear hSw; go_simp; try (with_reducible rfl))
      try simp only [Act.put, List.setIfInBounds_toArray, List.set_cons_zero, List.set_cons_succ]
      refine wpAnyH_take (i := 8) (v := ?zv8) (by simp only [List.getElem?_toArray, List.getElem?_cons_succ, List.getElem?_cons_zero]; rfl) (by kernel_rfl) (by kernel_rfl) (by kernel_rfl) (by exact fun _ _ _ h => h) (Or.inl ⟨by rfl, ?zy8⟩) hHeld ?_
      case zy8 => (intro w hSw; (try dsimp only at hSw); have hy2 := hSw.1.c2; have hy3 := hSw.1.c3; have hyp := bs_at hSw.2.1 hkp; have hy0 := (sl_at hSw.2.2 hlt).1; have hy1 := (sl_at hSw.2.2 hlt).2; rw [← HP.out] at hyp; rw [← HCX.out] at hy0; rw [← HCY.out] at hy1; clear hSw; go_simp; try (with_reducible rfl))
      try simp only [Act.put, List.setIfInBounds_toArray, List.set_cons_zero, List.set_cons_succ]
      refine wpAnyH_take (i := 9) (v := ?zv9) (by simp only [List.getElem?_toArray, List.getElem?_cons_succ, List.getElem?_cons_zero]; rfl) (by kernel_rfl) (by kernel_rfl) (by kernel_rfl) (by exact fun _ _ _ h => h) (Or.inl ⟨by rfl, ?zy9⟩) hHeld ?_
      case zy9 => (intro w hSw; (try dsimp only at hSw); have hy2 := hSw.1.c2; have hy3 := hSw.1.c3; have hyp := bs_at hSw.2.1 hkp; have hy0 := (sl_at hSw.2.2 hlt).1; have hy1 := (sl_at hSw.2.2 hlt).2; rw [← HP.out] at hyp; rw [← HCX.out] at hy0; rw [← HCY.out] at hy1; clear hSw; go_simp; try (with_reducible rfl))
      try simp only [Act.put, List.setIfInBounds_toArray, List.set_cons_zero, List.set_cons_succ]
      refine wpAnyH_take (i := 10) (v := ?zv10) (by simp only [List.getElem?_toArray, List.getElem?_cons_succ, List.getElem?_cons_zero]; rfl) (by kernel_rfl) (by kernel_rfl) (by kernel_rfl) (by exact fun _ _ _ h => h) (Or.inl ⟨by rfl, ?zy10⟩) hHeld ?_
      case zy10 => (intro w hSw; (try dsimp only at hSw); have hy2 := hSw.1.c2; have hy3 := hSw.1.c3; have hyp := bs_at hSw.2.1 hkp; have hy0 := (sl_at hSw.2.2 hlt).1; have hy1 := (sl_at hSw.2.2 hlt).2; rw [← HP.out] at hyp; rw [← HCX.out] at hy0; rw [← HCY.out] at hy1; clear hSw; go_simp; try (with_reducible rfl))
      try simp only [Act.put, List.setIfInBounds_toArray, List.set_cons_zero, List.set_cons_succ]
      refine wpAnyH_take (i := 11) (v := ?zv11) (by simp only [List.getElem?_toArray, List.getElem?_cons_succ, List.getElem?_cons_zero]; rfl) (by kernel_rfl) (by kernel_rfl) (by kernel_rfl) (by exact fun _ _ _ h => h) (Or.inl ⟨by rfl, ?zy11⟩) hHeld ?_
      case zy11 => (intro w hSw; (try dsimp only at hSw); have hy2 := hSw.1.c2; have hy3 := hSw.1.c3; have hyp := bs_at hSw.2.1 hkp; have hy0 := (sl_at hSw.2.2 hlt).1; have hy1 := (sl_at hSw.2.2 hlt).2; rw [← HP.out] at hyp; rw [← HCX.out] at hy0; rw [← HCY.out] at hy1; clear hSw; go_simp; try (with_reducible rfl))
      try simp only [Act.put, List.setIfInBounds_toArray, List.set_cons_zero, List.set_cons_succ]
      refine wpAnyH_ready (rs := [0]) (by kernel_rfl) (by simp) ?_
      refine AllReadyH.cons (by simp only [List.getElem?_toArray, List.getElem?_cons_zero]; rfl) (fun KK hKK => ?_) AllReadyH.nil
      rw [if_pos (by rfl)]
      refine wp_load_row 32 (.tmp 6) rfl (w.heap.size + 3) rfl _ _ _ _ q6 Try.underlying32 rfl (bd_size _ _ _) ?_
      refine hKK.out _ _ ?_ (fun hHeld => ?_)
      · exact ⟨qd, hps, hcs⟩
      clear hKK KK
      try simp only [Act.put]
      refine wpAnyH_ready (rs := [12]) (by kernel_rfl) (by simp) ?_
      refine AllReadyH.cons (by simp only [List.getElem?_toArray, List.getElem?_cons_succ, List.getElem?_cons_zero]; rfl) (fun KK hKK => ?_) AllReadyH.nil
      go_simp
      (with_reducible refine (hPut _).mono ?_)
      rintro e w6 ⟨rfl, h9⟩
      have h9 := below_undrew2 h9
      have q6 := q6.ext h9
      have q3 := q3.ext h9
      have q4 := q4.ext h9
      have qd := qd.ext h9
      have hps := Sl.ext hps h9
      have hcs := Sl.ext hcs h9
      have hb := hb.trans (h9.mono hb.size)
      have hz6 := h9.size
      clear h9
      go_wp2_with fail
      refine hKK.out _ _ ?_ (fun hHeld => ?_)
      · exact ⟨qd, hps, hcs⟩
      clear hKK KK
      try simp only [Act.put, List.setIfInBounds_toArray, List.set_cons_zero, List.set_cons_succ]
      refine wpAnyH_take (i := 13) (v := ?zv13) (by simp only [List.getElem?_toArray, List.getElem?_cons_succ, List.getElem?_cons_zero]; rfl) (by kernel_rfl) (by kernel_rfl) (by kernel_rfl) (by exact fun _ _ _ h => h) (Or.inl ⟨by rfl, ?zy13⟩) hHeld ?_
      case zy13 => (intro w hSw; (try dsimp only at hSw); have hy2 := hSw.1.c2; have hy3 := hSw.1.c3; have hyp := bs_at hSw.2.1 hkp; have hy0 := (sl_at hSw.2.2 hlt).1; have hy1 := (sl_at hSw.2.2 hlt).2; rw [← HP.out] at hyp; rw [← HCX.out] at hy0; rw [← HCY.out] at hy1; clear hSw; go_simp; try (with_reducible rfl))
      try simp only [Act.put, List.setIfInBounds_toArray, List.set_cons_zero, List.set_cons_succ]
      refine wpAnyH_take (i := 14) (v := ?zv14) (by simp only [List.getElem?_toArray, List.getElem?_cons_succ, List.getElem?_cons_zero]; rfl) (by kernel_rfl) (by kernel_rfl) (by kernel_rfl) (by exact fun _ _ _ h => h) (Or.inl ⟨by rfl, ?zy14⟩) hHeld ?_
      case zy14 => (intro w hSw; (try dsimp only at hSw); have hy2 := hSw.1.c2; have hy3 := hSw.1.c3; have hyp := bs_at hSw.2.1 hkp; have hy0 := (sl_at hSw.2.2 hlt).1; have hy1 := (sl_at hSw.2.2 hlt).2; rw [← HP.out] at hyp; rw [← HCX.out] at hy0; rw [← HCY.out] at hy1; clear hSw; go_simp; try (with_reducible rfl))
      try simp only [Act.put, List.setIfInBounds_toArray, List.set_cons_zero, List.set_cons_succ]
      refine wpAnyH_take (i := 15) (v := ?zv15) (by simp only [List.getElem?_toArray, List.getElem?_cons_succ, List.getElem?_cons_zero]; rfl) (by kernel_rfl) (by kernel_rfl) (by kernel_rfl) (by exact fun _ _ _ h => h) (Or.inl ⟨by rfl, ?zy15⟩) hHeld ?_
      case zy15 => (intro w hSw; (try dsimp only at hSw); have hy2 := hSw.1.c2; have hy3 := hSw.1.c3; have hyp := bs_at hSw.2.1 hkp; have hy0 := (sl_at hSw.2.2 hlt).1; have hy1 := (sl_at hSw.2.2 hlt).2; rw [← HP.out] at hyp; rw [← HCX.out] at hy0; rw [← HCY.out] at hy1; clear hSw; go_simp; try (with_reducible rfl))
      try simp only [Act.put, List.setIfInBounds_toArray, List.set_cons_zero, List.set_cons_succ]
      refine wpAnyH_ready (rs := [16]) (by kernel_rfl) (by simp) ?_
      refine AllReadyH.cons (by simp only [List.getElem?_toArray, List.getElem?_cons_succ, List.getElem?_cons_zero]; rfl) (fun KK hKK => ?_) AllReadyH.nil
      rw [if_pos (by rfl)]
      refine wp_store_row 32 (.tmp 6) (.tmp 34) rfl (w.heap.size + 3) (bdL (X.set Pn (cx, cy))) rfl rfl _ _ q6 (bd_size _ _ _) (by rw [bdL_size, bdL_size]) (bdA_all _ _ _) ?_
      have q6 := q6.row_ (X.set Pn (cx, cy))
      have q3 := q3.orow (show w.heap.size + 1 ≠ w.heap.size + 3 by omega) (bdL (X.set Pn (cx, cy)))
      have q4 := q4.orow (show w.heap.size + 2 ≠ w.heap.size + 3 by omega) (bdL (X.set Pn (cx, cy)))
      have qd := bd_orow qd (show w.heap.size ≠ w.heap.size + 3 by omega) (bdL (X.set Pn (cx, cy)))
      have hps := sl_row hps hxp (bdL (X.set Pn (cx, cy)))
      have hcs := sl_row hcs hxc (bdL (X.set Pn (cx, cy)))
      have hb := below_setRow hb (w.heap.size + 3) (bdL (X.set Pn (cx, cy))) (by omega)
      refine hKK.out _ _ ?_ (fun hHeld => ?_)
      · exact ⟨qd, hps, hcs⟩
      clear hKK KK
      try simp only [Act.put]
      refine wpAnyH_take (i := 17) (v := ?zv17) (by simp only [List.getElem?_toArray, List.getElem?_cons_succ, List.getElem?_cons_zero]; rfl) (by kernel_rfl) (by kernel_rfl) (by kernel_rfl) (by exact fun _ _ _ h => h) (Or.inl ⟨by rfl, ?zy17⟩) hHeld ?_
      case zy17 => (intro w hSw; (try dsimp only at hSw); have hy2 := hSw.1.c2; have hy3 := hSw.1.c3; have hyp := bs_at hSw.2.1 hkp; have hy0 := (sl_at hSw.2.2 hlt).1; have hy1 := (sl_at hSw.2.2 hlt).2; rw [← HP.out] at hyp; rw [← HCX.out] at hy0; rw [← HCY.out] at hy1; clear hSw; go_simp; try (with_reducible rfl))
      try simp only [Act.put, List.setIfInBounds_toArray, List.set_cons_zero, List.set_cons_succ]
      refine wpAnyH_done (by kernel_rfl) ?_ _
      have q6 : BoxL (w6.setRow (w.heap.size + 3) (bdL (X.set Pn (cx, cy)))) (w.heap.size + 3) (putTo V ps cs (k + 1)) := by rw [HS.out]; exact q6
      go_wp2_with fail
      go_roundw
      case rel => exact ⟨k + 1, by omega, by go_num, q6, q3, q4, qd, hps, hcs, hb⟩
      case measure => simp [intOf]; omega
    · obtain rfl : k = cs.length := by omega
      have hHs := fun W => Hash_calls (putTo V ps cs cs.length) W (by omega) hXo
      have hd := HD.out
      obtain ⟨X, hX⟩ : ∃ X, X = putTo V ps cs cs.length := ⟨_, rfl⟩
      have HX := Lib.hid hX
      rw [← hX] at hHs hd q6
      obtain ⟨H, hH⟩ : ∃ H, H = hashL X := ⟨_, rfl⟩
      rw [← hH] at hHs hd
      clear hX hH hps hcs HD HIN hXl hXo
      go_wp2_with fail
      refine wp_region_held_drew (S := fun w' => BoxL w' (w.heap.size + 3) X ∧ BoxD w' w.heap.size t h (.slice Ap cs.length cp) (.slice Ac cs.length cc)) (by kernel_rfl) ?_ (fun hHeld => ?_)
      · exact ⟨q6, qd⟩
      refine wpAnyH_take (i := 0) (by simp only [List.getElem?_toArray, List.getElem?_cons_zero]; rfl) (by kernel_rfl) (by kernel_rfl) (by kernel_rfl) (by exact fun _ _ _ h => h) (by exact yieldsIf_ld (by kernel_rfl) (.tmp 6) rfl (w.heap.size + 3) rfl X (fun w h => h.1)) hHeld ?_
      try simp only [Act.put, List.setIfInBounds_toArray, List.set_cons_zero, List.set_cons_succ]
      refine wpAnyH_take (i := 2) (v := ?yv2) (by simp only [List.getElem?_toArray, List.getElem?_cons_succ, List.getElem?_cons_zero]; rfl) (by kernel_rfl) (by kernel_rfl) (by kernel_rfl) (by exact fun _ _ _ h => h) (Or.inl ⟨by rfl, ?yy2⟩) hHeld ?_
      case yy2 => (intro w hSw; (try dsimp only at hSw); have hy2 := hSw.2.c1; clear hSw; go_simp; try (with_reducible rfl))
      try simp only [Act.put, List.setIfInBounds_toArray, List.set_cons_zero, List.set_cons_succ]
      refine wpAnyH_take (i := 3) (v := ?yv3) (by simp only [List.getElem?_toArray, List.getElem?_cons_succ, List.getElem?_cons_zero]; rfl) (by kernel_rfl) (by kernel_rfl) (by kernel_rfl) (by exact fun _ _ _ h => h) (Or.inl ⟨by rfl, ?yy3⟩) hHeld ?_
      case yy3 => (intro w hSw; (try dsimp only at hSw); have hy2 := hSw.2.c1; clear hSw; go_simp; try (with_reducible rfl))
      try simp only [Act.put, List.setIfInBounds_toArray, List.set_cons_zero, List.set_cons_succ]
      refine wpAnyH_ready (rs := [1]) (by kernel_rfl) (by simp) ?_
      refine AllReadyH.cons (by simp only [List.getElem?_toArray, List.getElem?_cons_succ, List.getElem?_cons_zero]; rfl) (fun KK hKK => ?_) AllReadyH.nil
      go_simp
      (with_reducible refine (hHs _).mono ?_)
      rintro e w6 ⟨rfl, h9⟩
      have h9 := below_undrew2 h9
      have q6 := q6.ext h9
      have q3 := q3.ext h9
      have q4 := q4.ext h9
      have qd := qd.ext h9
      have hb := hb.trans (h9.mono hb.size)
      clear h9
      go_wp2_with fail
      refine hKK.out _ _ ?_ (fun hHeld => ?_)
      · exact ⟨q6, qd⟩
      clear hKK KK
      try simp only [Act.put, List.setIfInBounds_toArray, List.set_cons_zero, List.set_cons_succ]
      refine wpAnyH_take (i := 4) (v := ?yv4) (by simp only [List.getElem?_toArray, List.getElem?_cons_succ, List.getElem?_cons_zero]; rfl) (by kernel_rfl) (by kernel_rfl) (by kernel_rfl) (by exact fun _ _ _ h => h) (Or.inl ⟨by rfl, ?yy4⟩) hHeld ?_
      case yy4 => (intro w hSw; (try dsimp only at hSw); have hy2 := hSw.2.c1; clear hSw; go_simp; try (with_reducible rfl))
      try simp only [Act.put, List.setIfInBounds_toArray, List.set_cons_zero, List.set_cons_succ]
      refine wpAnyH_done (by kernel_rfl) ?_ _
      cases d with
      | true =>
        go_wp2_with (first | ((with_reducible refine at_ld 32 6 ?_); refine wpList_ld rfl (.tmp 6) rfl (w.heap.size + 3) rfl X q6 ?_) | ((with_reducible refine at_st 32 4 47 ?_); refine wpList_st rfl (.tmp 4) (.tmp 47) rfl (w.heap.size + 2) [] X rfl rfl q4 ?_))
        exact bodyPost_ret (wp_result_bd _ _ _ rfl _ _ (w.heap.size + 2) (bdF X) (bdG X) X.length rfl (q4.row_ X)) rfl ⟨by rw [← HX.out]; rfl, below_setRow hb _ _ (by omega)⟩
      | false =>
        go_wp2_with (first | ((with_reducible refine at_ld 32 3 ?_); refine wpList_ld rfl (.tmp 3) rfl (w.heap.size + 1) rfl V q3 ?_) | ((with_reducible refine at_st 32 4 46 ?_); refine wpList_st rfl (.tmp 4) (.tmp 46) rfl (w.heap.size + 2) [] V rfl rfl q4 ?_))
        exact bodyPost_ret (wp_result_bd _ _ _ rfl _ _ (w.heap.size + 2) (bdF V) (bdG V) V.length rfl (q4.row_ V)) rfl ⟨rfl, below_setRow hb _ _ (by omega)⟩
end Go.Proofs.Ytioahddobogpjaa
/- Full: all places; Board: the board of a delta's cells. Conditions: those said. -/
namespace Go.Proofs.Ytioahddobogpjaa
open Go.RowKit

set_option maxHeartbeats 4000000 in
set_option maxRecDepth 20000 in
theorem Full_calls (L : List (Int × Nat)) (o : Int) (tick : Nat) (w : World) (hL : L.length ≤ 48) (hok : okC L) (ht : tick < 4294967296) :
    Calls Try.prog 12 #[.agg (bdL L), .int .i64 o, .int .u32 tick] w fun e w' => ∃ vp vc, e = .returned (.agg #[.int .u32 tick, .int .u32 (hashL (viewL o L) : Nat), vp, vc]) ∧ Row w' w.heap.size vp (placesB 281474976710655 L.length) ∧ RowC 29 w' w.heap.size vc (viewL o L) ∧ Below w.heap.size w w' := by
  have hO := fun W => Of_calls L 281474976710655 o tick W hL hok (by omega) ht
  have hcl : cellsTo (viewL o L) 281474976710655 L.length = viewL o L := by
    have := cellsTo_all (W := viewL o L) (by simp; omega)
    rwa [viewL_length] at this
  rw [hcl] at hO
  obtain ⟨H, hH⟩ : ∃ H, H = hashL (viewL o L) := ⟨_, rfl⟩
  rw [← hH] at hO ⊢
  clear hH hcl
  have q3 := (BoxL.new_ w L).alloc (.cells #[.int .u32 0, .int .u32 0, .slice none 0 0, .slice none 0 0] 38)
  have r6 : BoxD ((w.alloc (.cells (bdL L) 32)).alloc (.cells #[.int .u32 0, .int .u32 0, .slice none 0 0, .slice none 0 0] 38)) (w.heap.size + 1) 0 0 (.slice none 0 0) (.slice none 0 0) := by
    have := BoxD.new_ (w.alloc (.cells (bdL L) 32)) 0 0 (.slice none 0 0) (.slice none 0 0)
    rwa [show (w.alloc (.cells (bdL L) 32)).heap.size = w.heap.size + 1 by simp] at this
  have hb := below_alloc2 w (.cells (bdL L) 32) (.cells #[.int .u32 0, .int .u32 0, .slice none 0 0, .slice none 0 0] 38)
  go_enter Try.func12, Try.ntmps12
  go_wp2_with ((with_reducible refine at_ld 32 3 ?_); refine wpList_ld rfl (.tmp 3) rfl w.heap.size rfl L q3 ?_)
  refine (hO _).mono ?_
  rintro e w1 ⟨vp, vc, rfl, hp, hc, h1⟩
  have r6 := r6.ext h1
  obtain ⟨Ap, cp, bp, hvp, _⟩ := Row.sl hp
  obtain ⟨Ac, cc, bc, hvc, _⟩ := RowC.sl hc
  obtain ⟨n, hn⟩ : ∃ n, n = (placesB 281474976710655 L.length).length := ⟨_, rfl⟩
  obtain ⟨m, hm⟩ : ∃ m, m = (viewL o L).length := ⟨_, rfl⟩
  rw [← hn] at hvp
  rw [← hm] at hvc
  clear hn hm
  subst hvp hvc
  have hb := hb.trans (h1.mono hb.size)
  have hp := owns_low hp (show w.heap.size ≤ _ by simp; omega)
  have hc := owns_low hc (show w.heap.size ≤ _ by simp; omega)
  have hz1 := h1.size
  simp at hz1
  obtain ⟨p0, p1, p2, p3⟩ := And.intro r6.c0 (And.intro r6.c1 (And.intro r6.c2 r6.c3))
  have pf0 := r6.fr 0
  have pf1 := r6.fr 1
  have pf2 := r6.fr 2
  have pf3 := r6.fr 3
  clear h1 hO q3
  go_wp2_with fail
  have hnp := own_ne hp r6 (by decide)
  have hnc := own_ne hc r6 (by decide)
  have q0 := heap_setCell_same w1 (w.heap.size + 1) 0 _ _ (.int .u32 (tick : Int)) r6
  have rp0 := owns_mod hp (Mod.setCell w1 ⟨w.heap.size + 1, 0, none⟩ (.int .u32 (tick : Int))) (fun i hi h => by have h2 : i = w.heap.size + 1 := h; subst h2; first | exact hnp hi | exact hnc hi)
  have rc0 := owns_mod hc (Mod.setCell w1 ⟨w.heap.size + 1, 0, none⟩ (.int .u32 (tick : Int))) (fun i hi h => by have h2 : i = w.heap.size + 1 := h; subst h2; first | exact hnp hi | exact hnc hi)
  have bb0 := hb.setCell (p := ⟨w.heap.size + 1, 0, none⟩) (by simp) (.int .u32 (tick : Int))
  have q1 := heap_setCell_same (w1.setCell ⟨w.heap.size + 1, 0, none⟩ (.int .u32 (tick : Int))) (w.heap.size + 1) 1 _ _ (.int .u32 (H : Int)) q0
  have rp1 := owns_mod rp0 (Mod.setCell (w1.setCell ⟨w.heap.size + 1, 0, none⟩ (.int .u32 (tick : Int))) ⟨w.heap.size + 1, 1, none⟩ (.int .u32 (H : Int))) (fun i hi h => by have h2 : i = w.heap.size + 1 := h; subst h2; first | exact hnp hi | exact hnc hi)
  have rc1 := owns_mod rc0 (Mod.setCell (w1.setCell ⟨w.heap.size + 1, 0, none⟩ (.int .u32 (tick : Int))) ⟨w.heap.size + 1, 1, none⟩ (.int .u32 (H : Int))) (fun i hi h => by have h2 : i = w.heap.size + 1 := h; subst h2; first | exact hnp hi | exact hnc hi)
  have bb1 := bb0.setCell (p := ⟨w.heap.size + 1, 1, none⟩) (by simp) (.int .u32 (H : Int))
  have q2 := heap_setCell_same ((w1.setCell ⟨w.heap.size + 1, 0, none⟩ (.int .u32 (tick : Int))).setCell ⟨w.heap.size + 1, 1, none⟩ (.int .u32 (H : Int))) (w.heap.size + 1) 2 _ _ (.slice Ap n cp) q1
  have rp2 := owns_mod rp1 (Mod.setCell ((w1.setCell ⟨w.heap.size + 1, 0, none⟩ (.int .u32 (tick : Int))).setCell ⟨w.heap.size + 1, 1, none⟩ (.int .u32 (H : Int))) ⟨w.heap.size + 1, 2, none⟩ (.slice Ap n cp)) (fun i hi h => by have h2 : i = w.heap.size + 1 := h; subst h2; first | exact hnp hi | exact hnc hi)
  have rc2 := owns_mod rc1 (Mod.setCell ((w1.setCell ⟨w.heap.size + 1, 0, none⟩ (.int .u32 (tick : Int))).setCell ⟨w.heap.size + 1, 1, none⟩ (.int .u32 (H : Int))) ⟨w.heap.size + 1, 2, none⟩ (.slice Ap n cp)) (fun i hi h => by have h2 : i = w.heap.size + 1 := h; subst h2; first | exact hnp hi | exact hnc hi)
  have bb2 := bb1.setCell (p := ⟨w.heap.size + 1, 2, none⟩) (by simp) (.slice Ap n cp)
  have q3 := heap_setCell_same (((w1.setCell ⟨w.heap.size + 1, 0, none⟩ (.int .u32 (tick : Int))).setCell ⟨w.heap.size + 1, 1, none⟩ (.int .u32 (H : Int))).setCell ⟨w.heap.size + 1, 2, none⟩ (.slice Ap n cp)) (w.heap.size + 1) 3 _ _ (.slice Ac m cc) q2
  have rp3 := owns_mod rp2 (Mod.setCell (((w1.setCell ⟨w.heap.size + 1, 0, none⟩ (.int .u32 (tick : Int))).setCell ⟨w.heap.size + 1, 1, none⟩ (.int .u32 (H : Int))).setCell ⟨w.heap.size + 1, 2, none⟩ (.slice Ap n cp)) ⟨w.heap.size + 1, 3, none⟩ (.slice Ac m cc)) (fun i hi h => by have h2 : i = w.heap.size + 1 := h; subst h2; first | exact hnp hi | exact hnc hi)
  have rc3 := owns_mod rc2 (Mod.setCell (((w1.setCell ⟨w.heap.size + 1, 0, none⟩ (.int .u32 (tick : Int))).setCell ⟨w.heap.size + 1, 1, none⟩ (.int .u32 (H : Int))).setCell ⟨w.heap.size + 1, 2, none⟩ (.slice Ap n cp)) ⟨w.heap.size + 1, 3, none⟩ (.slice Ac m cc)) (fun i hi h => by have h2 : i = w.heap.size + 1 := h; subst h2; first | exact hnp hi | exact hnc hi)
  have bb3 := bb2.setCell (p := ⟨w.heap.size + 1, 3, none⟩) (by simp) (.slice Ac m cc)
  exact bodyPost_ret (results_cell_row (P := Try.prog) rfl _ _ (w.heap.size + 1) _ #[.int .u32 (tick : Int), .int .u32 (H : Int), .slice Ap n cp, .slice Ac m cc] (0, 0) _ rfl q3 Try.underlying38 rfl (by kernel_rfl)) rfl ⟨_, _, rfl, rp3, rc3, bb3⟩
set_option maxHeartbeats 16000000 in
set_option maxRecDepth 40000 in
theorem Board_calls (t h : Nat) (Ap : Option Addr) (ps : List UInt8) (np cp bp : Nat) (Ac : Option Addr) (cs : List (Int × Nat)) (cc bc : Nat) (d : Bool) (w : World)
    (hps : Bs w bp Ap ps) (hpn : ps.length = np) (hcs : Sl w bc Ac (cv cs)) (hcn : cs.length = np) (hl : np ≤ 48) (hr : risesB ps = true) (hlast : ∀ i (hi : i < ps.length), ps[i].toNat = i) (hoc : okC cs)
    (hd : ((hashL cs : Int) == (h : Int)) = d) :
    Calls Try.prog 19 #[.agg (dA t h Ap np cp Ac np cc)] w fun e w' => e = .returned (.tuple #[.agg (bdL (if d = true then cs else [])), .int .i64 (if d = true then 0 else 13)]) ∧ Below w.heap.size w w' := by
  have q1 := BoxD.new_ w t h (.slice Ap np cp) (.slice Ac np cc)
  have b1 := below_alloc1 w (.cells (dA t h Ap np cp Ac np cc) 38)
  have q1 := q1.alloc (.cells (bdL []) 32)
  have q2 := BoxL.new_ (w.alloc (.cells (dA t h Ap np cp Ac np cc) 38)) []
  rw [show (w.alloc (.cells (dA t h Ap np cp Ac np cc) 38)).heap.size = w.heap.size + 1 by simp] at q2
  have hb := b1.alloc b1.size (.cells (bdL []) 32)
  have hps := Sl.ext hps hb
  have hcs := Sl.ext hcs hb
  have hF := fun W hs => full_yes t h Ap ps np cp bp Ac cc W hs hpn hr hl hlast
  have hN := fun W hs => New_in Ac cs np cc bc W hs hcn hl
  have hHs := fun W => Hash_calls cs W (by omega) hoc
  obtain ⟨H, hH⟩ : ∃ H, H = hashL cs := ⟨_, rfl⟩
  rw [← hH] at hHs hd
  clear hH hr hlast
  obtain ⟨e0, e1, e2, e3⟩ := And.intro q1.c0 (And.intro q1.c1 (And.intro q1.c2 q1.c3))
  go_enter Try.func19, Try.ntmps19
  go_wp2_with ((with_reducible refine at_al 32 2 ?_); refine wpList_al rfl rfl (some 2) rfl (w.heap.size + 1) (by simp) ?_)
  (with_reducible refine (hF _ hps).mono ?_)
  rintro e w1 ⟨rfl, h9⟩
  have q1 := q1.ext h9
  have q2 := q2.ext h9
  have hcs := Sl.ext hcs h9
  have hb := hb.trans (h9.mono hb.size)
  clear h9
  obtain ⟨e0, e1, e2, e3⟩ := And.intro q1.c0 (And.intro q1.c1 (And.intro q1.c2 q1.c3))
  clear hF hps
  go_wp2_with fail
  (with_reducible refine (hN _ hcs).mono ?_)
  rintro e w2 ⟨rfl, h9⟩
  have q1 := q1.ext h9
  have q2 := q2.ext h9
  have hcs := Sl.ext hcs h9
  have hb := hb.trans (h9.mono hb.size)
  clear h9
  clear hN hcs e0 e1 e2 e3
  have q4 := BoxL.new_ w2 cs
  have q1 := q1.alloc (.cells (bdL cs) 32)
  have q2 := q2.alloc (.cells (bdL cs) 32)
  have hb := hb.alloc hb.size (.cells (bdL cs) 32)
  have hw4 : w2.heap.size < (w2.alloc (.cells (bdL cs) 32)).heap.size := by simp
  have hz2 := hb.size
  simp at hz2
  go_wp2_with (first | ((with_reducible refine at_al 32 4 ?_); refine wpList_al rfl rfl (some 4) rfl w2.heap.size rfl ?_) | ((with_reducible refine at_st 32 4 14 ?_); refine wpList_put rfl (.tmp 4) (.tmp 14) rfl rfl cs rfl rfl ?_))
  refine wp_region_held_drew (S := fun w' => BoxL w' w2.heap.size cs ∧ BoxD w' w.heap.size t h (.slice Ap np cp) (.slice Ac np cc)) (by kernel_rfl) ?_ (fun hHeld => ?_)
  · exact ⟨q4, q1⟩
  refine wpAnyH_take (i := 0) (v := ?zv0) (by simp only [List.getElem?_toArray, List.getElem?_cons_zero]; rfl) (by kernel_rfl) (by kernel_rfl) (by kernel_rfl) (by exact fun _ _ _ h => h) (Or.inl ⟨by kernel_rfl, ?zy0⟩) hHeld ?_
  case zy0 => (intro w hSw; (try dsimp only at hSw); have hy1 := hSw.2.c1; clear hSw; go_simp; try (with_reducible rfl))
  try simp only [Act.put, List.setIfInBounds_toArray, List.set_cons_zero, List.set_cons_succ]
  refine wpAnyH_take (i := 1) (v := ?zv1) (by simp only [List.getElem?_toArray, List.getElem?_cons_succ, List.getElem?_cons_zero]; rfl) (by kernel_rfl) (by kernel_rfl) (by kernel_rfl) (by exact fun _ _ _ h => h) (Or.inl ⟨by kernel_rfl, ?zy1⟩) hHeld ?_
  case zy1 => (intro w hSw; (try dsimp only at hSw); have hy1 := hSw.2.c1; clear hSw; go_simp; try (with_reducible rfl))
  try simp only [Act.put, List.setIfInBounds_toArray, List.set_cons_zero, List.set_cons_succ]
  refine wpAnyH_take (i := 2) (v := ?zv2) (by simp only [List.getElem?_toArray, List.getElem?_cons_succ, List.getElem?_cons_zero]; rfl) (by kernel_rfl) (by kernel_rfl) (by kernel_rfl) (by exact fun _ _ _ h => h) (Or.inl ⟨by kernel_rfl, ?zy2⟩) hHeld ?_
  case zy2 => (intro w hSw; (try dsimp only at hSw); have hy1 := hSw.2.c1; clear hSw; go_simp; try (with_reducible rfl))
  try simp only [Act.put, List.setIfInBounds_toArray, List.set_cons_zero, List.set_cons_succ]
  refine wpAnyH_take (i := 3) (by simp only [List.getElem?_toArray, List.getElem?_cons_succ, List.getElem?_cons_zero]; rfl) (by kernel_rfl) (by kernel_rfl) (by kernel_rfl) (by exact fun _ _ _ h => h) (by exact yieldsIf_ld (by kernel_rfl) (.tmp 4) rfl w2.heap.size rfl cs (fun w h => h.1)) hHeld ?_
  try simp only [Act.put, List.setIfInBounds_toArray, List.set_cons_zero, List.set_cons_succ]
  refine wpAnyH_take (i := 5) (v := ?zv5) (by simp only [List.getElem?_toArray, List.getElem?_cons_succ, List.getElem?_cons_zero]; rfl) (by kernel_rfl) (by kernel_rfl) (by kernel_rfl) (by exact fun _ _ _ h => h) (Or.inl ⟨by kernel_rfl, ?zy5⟩) hHeld ?_
  case zy5 => (intro w hSw; (try dsimp only at hSw); have hy1 := hSw.2.c1; clear hSw; go_simp; try (with_reducible rfl))
  try simp only [Act.put, List.setIfInBounds_toArray, List.set_cons_zero, List.set_cons_succ]
  refine wpAnyH_take (i := 6) (v := ?zv6) (by simp only [List.getElem?_toArray, List.getElem?_cons_succ, List.getElem?_cons_zero]; rfl) (by kernel_rfl) (by kernel_rfl) (by kernel_rfl) (by exact fun _ _ _ h => h) (Or.inl ⟨by kernel_rfl, ?zy6⟩) hHeld ?_
  case zy6 => (intro w hSw; (try dsimp only at hSw); have hy1 := hSw.2.c1; clear hSw; go_simp; try (with_reducible rfl))
  try simp only [Act.put, List.setIfInBounds_toArray, List.set_cons_zero, List.set_cons_succ]
  refine wpAnyH_ready (rs := [4]) (by kernel_rfl) (by simp) ?_
  refine AllReadyH.cons (by simp only [List.getElem?_toArray, List.getElem?_cons_succ, List.getElem?_cons_zero]; rfl) (fun KK hKK => ?_) AllReadyH.nil
  rw [if_pos (by kernel_rfl)]
  go_simp
  (with_reducible refine (hHs _).mono ?_)
  rintro e w3 ⟨rfl, h9⟩
  have h9 := below_undrew2 h9
  have q4 := q4.ext h9
  have q1 := q1.ext h9
  have q2 := q2.ext h9
  have hb := hb.trans (h9.mono hb.size)
  have hz3 := h9.size
  clear h9
  go_wp2_with fail
  refine hKK.out _ _ ?_ (fun hHeld => ?_)
  · exact ⟨q4, q1⟩
  clear hKK KK
  try simp only [Act.put, List.setIfInBounds_toArray, List.set_cons_zero, List.set_cons_succ]
  refine wpAnyH_take (i := 7) (v := ?zv7) (by simp only [List.getElem?_toArray, List.getElem?_cons_succ, List.getElem?_cons_zero]; rfl) (by kernel_rfl) (by kernel_rfl) (by kernel_rfl) (by exact fun _ _ _ h => h) (Or.inl ⟨by kernel_rfl, ?zy7⟩) hHeld ?_
  case zy7 => (intro w hSw; (try dsimp only at hSw); have hy1 := hSw.2.c1; clear hSw; go_simp; try (with_reducible rfl))
  try simp only [Act.put, List.setIfInBounds_toArray, List.set_cons_zero, List.set_cons_succ]
  refine wpAnyH_take (i := 8) (v := ?zv8) (by simp only [List.getElem?_toArray, List.getElem?_cons_succ, List.getElem?_cons_zero]; rfl) (by kernel_rfl) (by kernel_rfl) (by kernel_rfl) (by exact fun _ _ _ h => h) (Or.inl ⟨by kernel_rfl, ?zy8⟩) hHeld ?_
  case zy8 => (intro w hSw; (try dsimp only at hSw); have hy1 := hSw.2.c1; clear hSw; go_simp; try (with_reducible rfl))
  try simp only [Act.put, List.setIfInBounds_toArray, List.set_cons_zero, List.set_cons_succ]
  refine wpAnyH_done (by kernel_rfl) ?_ _
  cases d with
  | true =>
    go_wp2_with (first | ((with_reducible refine at_ld 32 4 ?_); refine wpList_ld rfl (.tmp 4) rfl w2.heap.size rfl cs q4 ?_) | ((with_reducible refine at_st 32 2 26 ?_); refine wpList_st rfl (.tmp 2) (.tmp 26) rfl (w.heap.size + 1) [] cs rfl rfl q2 ?_))
    exact bodyPost_ret (wp_result_bd _ _ _ rfl _ _ (w.heap.size + 1) (bdF cs) (bdG cs) cs.length rfl (q2.row_ cs)) rfl ⟨rfl, below_setRow hb _ _ (by omega)⟩
  | false =>
    go_wp2_with (first | ((with_reducible refine at_bd 32 25 _ ?_); refine wpList_build_bd0 rfl rfl ?_) | ((with_reducible refine at_st 32 2 25 ?_); refine wpList_st rfl (.tmp 2) (.tmp 25) rfl (w.heap.size + 1) [] [] rfl rfl q2 ?_))
    exact bodyPost_ret (wp_result_bd _ _ _ rfl _ _ (w.heap.size + 1) (bdF []) (bdG []) 0 rfl (q2.row_ [])) rfl ⟨rfl, below_setRow hb _ _ (by omega)⟩
end Go.Proofs.Ytioahddobogpjaa
/- What stays when a whole row is written; the places and cells of what was touched. Conditions: those said. -/
namespace Go.Proofs.Ytioahddobogpjaa
open Go.RowKit

theorem sl_row_ne {w : World} {b g : Nat} {A : Option Addr} {xs : List Value} (h : Sl w b A xs) (hne : xs ≠ [] → b ≠ g) (cs : Array Value) : Sl (w.setRow g cs) b A xs := fun hx => (h.keep fun _ => setRow_other w g b cs (hne hx)) hx
theorem mod_setRow (w : World) (g : Nat) (cs : Array Value) : Mod (fun i => i = g) w (w.setRow g cs) := ⟨rfl, rfl, rfl, by simp, fun i _ hn => setRow_other w g i cs hn⟩
theorem own_row_ne {w : World} {B n sz g : Nat} {e : TypeId} {v : Value} {xs : List Value} (h : w.ownsRow B e sz v n xs) (hne : ∀ k, v.ownBlock = some k → k ≠ g) (cs : Array Value) : (w.setRow g cs).ownsRow B e sz v n xs := owns_mod h (mod_setRow w g cs) hne
theorem bd_row {w : World} {b t h : Nat} {vp vc : Value} (q : BoxD w b t h vp vc) (t' h' : Nat) (vp' vc' : Value) : BoxD (w.setRow b #[.int .u32 (t' : Int), .int .u32 (h' : Int), vp', vc']) b t' h' vp' vc' := setRow_heap w b _ _ _ _ q
theorem wp_al {o : Oper} {a : Act} {w : World} {K : Act → World → Prop} {Q : Exit → Act → World → Prop} (ho : o.op = .alloc 32) (h : K (a.put o.dst (.pointer (some ⟨w.heap.size, 0, none⟩))) (w.alloc (.cells (bdL []) 32))) : o.wp Try.prog a w K Q := by
  unfold Oper.wp execOp
  simp only [ho, Instr.alloc, newVar, newRow, run_newObj_alloc, Sem.run_bind, Sem.run_pure, Result.andThen_ok, bd_zero, Value.cells]
  exact h
theorem cellsTo_ok {V : List (Int × Nat)} (h : okC V) (t n : Nat) : okC (cellsTo V t n) := fun c hc => by
  obtain ⟨i, _, rfl⟩ := List.mem_map.1 hc
  rcases Nat.lt_or_ge i V.length with hi | hi
  · rw [show V.getD i (0, 0) = V[i] by simp [List.getD, hi]]
    exact okC_get h hi
  · rw [show V.getD i (0, 0) = (0, 0) by simp [List.getD, List.getElem?_eq_none hi]]
    exact ⟨⟨by omega, by omega⟩, by omega⟩
theorem placesB_get {t n i : Nat} (hn : n ≤ 48) (hi : i < (placesB t n).length) : ((placesB t n)[i]).toNat = (placesTo t n)[i]'(by simpa using hi) := by
  have h1 := placesTo_lt (List.getElem_mem (by simpa using hi : i < (placesTo t n).length))
  simp only [placesB, List.getElem_map]
  simp [UInt8.toNat_ofNat']; omega
theorem placesB_lt {t n i : Nat} (hn : n ≤ 48) (hi : i < (placesB t n).length) : ((placesB t n)[i]).toNat < n := by
  rw [placesB_get hn hi]
  exact placesTo_lt (List.getElem_mem _)
theorem placesB_all {n i : Nat} (hn : n ≤ 48) (hi : i < (placesB 281474976710655 n).length) : ((placesB 281474976710655 n)[i]).toNat = i := by
  rw [placesB_get hn hi]
  simp [placesTo_all hn]
end Go.Proofs.Ytioahddobogpjaa
