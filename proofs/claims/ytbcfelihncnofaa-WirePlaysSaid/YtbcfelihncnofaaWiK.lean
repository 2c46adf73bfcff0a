/- Steps on rows of frames, each by one closed fact. Conditions: those said. -/
import Derived.Test.YtbcfelihncnofaaWiC
import Derived.Test.YtbcfelihncnofaaHeldE
import Derived.Deep.DeepCutAuto
import Derived.BigRegion
namespace Go.Proofs.Ytbcfelihncnofaa
open Go.RowKit
set_option linter.unusedVariables false

section
variable {ops : Array Oper} {S : World → Prop} {op : Oper} {a : Act}
theorem yk (v : Value) (hw : Region.wanted op (yielded ops a.tmps) = true) (h : ∀ w, (execOp a.eval op).run Try.prog w = .ok (.value v) w) : YieldsIf Try.prog ops S op v a := .inl ⟨hw, fun w _ => h w⟩
theorem yk_no (hw : Region.wanted op (yielded ops a.tmps) = false) : YieldsIf Try.prog ops S op undef a := .inr ⟨hw, rfl⟩
theorem wp_callF {o : Oper} {w : World} {K : Act → World → Prop} {Q : Exit → Act → World → Prop} (f : FuncId) (args : Array Value) (hrun : (execOp a.eval o).run Try.prog w = .ok (.enter f args) w)
    (hc : Calls Try.prog f args w fun e w' => ∃ v, e = .returned v ∧ K (a.put o.dst v) w') : o.wp Try.prog a w K Q := by
  unfold Oper.wp
  rw [hrun, Oper.upon_enter]
  refine hc.mono fun e w'' hh => ?_
  obtain ⟨v, rfl, hk⟩ := hh
  exact hk
end
theorem sl_same {a a' : World} {p : Addr} {v : Value} (h : Below a.heap.size a a') (hc : a.cell? p = some v) : a'.cell? p = some v :=
  (h.cell (World.block_lt_of_cell? a p hc)).trans hc
theorem info_W : (Try.prog.info? 68).map (fun i => (i.zero, i.size, i.bytes)) = some (some (.agg #[.slice none 0 0, .int .i64 0]), 2, 32) := by kernel_rfl
section
variable {ops : Array Oper} {S : World → Prop} {op : Oper} {a : Act}
theorem yk_ldW (hw : Region.wanted op (yielded ops a.tmps) = true) (x : Operand) (ho : op.op = .load 24 x) (p : Addr) (v : Value) (hx : a.eval x = .pointer (some p)) (hS : ∀ w, S w → w.cell? p = some v) : YieldsIf Try.prog ops S op v a :=
  .inl ⟨hw, fun w h => by
    have hc := hS w h
    unfold execOp
    simp only [ho, hx]
    go_simp⟩
variable {w : World} {K : Act → World → Prop} {Q : Exit → Act → World → Prop}
theorem wp_bsW (x : Operand) (ho : op.op = .buildSlice 24 1 #[(0, x)]) (y : Pl) (hx : a.eval x = .agg y.cells.toArray)
    (h : K (a.put op.dst (.slice (some ⟨w.heap.size, 0, none⟩) 1 1)) (w.alloc (.cells y.cells.toArray 68))) : op.wp Try.prog a w K Q := by
  have hr : (Instr.buildSlice 24 1 #[(0, .agg y.cells.toArray)]).run Try.prog w = .ok (.slice (some ⟨w.heap.size, 0, none⟩) 1 1) (w.alloc (.cells y.cells.toArray 68)) := by kernel_rfl
  unfold Oper.wp execOp
  simp only [ho, List.map_toArray, List.map_cons, List.map_nil, hx, Sem.run_bind, hr, Result.andThen_ok, Sem.run_pure]
  exact h
theorem wp_appW (s x : Operand) (ho : op.op = .call { callee := .builtin .append, args := #[s, x], argTypes := #[24, 24] })
    (B : Nat) (v : Value) (xs : List Pl) (hs : a.eval s = v) (hown : RowW 68 w B v xs)
    (b : Nat) (A : Option Addr) (m c : Nat) (ys : List Pl) (hx : a.eval x = .slice A m c) (hr : Sl w b A (plv ys)) (hm : ys.length = m)
    (hlen : xs.length + m ≤ 1000000) (hbase : B ≤ w.heap.size)
    (h : ∀ v' w', RowW 68 w' B v' (xs ++ ys) → Mod (fun i => v.ownBlock = some i) w w' → (v'.ownBlock = v.ownBlock ∨ v'.ownBlock = some w.heap.size) → K (a.put op.dst v') w') : op.wp Try.prog a w K Q := by
  obtain ⟨i0, hi0, hz0, hz1, hz2⟩ := info_parts info_W
  refine wp_append_sl (P := Try.prog) w s x _ ho B 68 i0 _ 2 32 Try.underlying24 hi0 hz0 hz1 hz2 rfl (by omega) v xs.length (plv xs) hs hown b A m c (plv ys) hx hr (by rw [plv_length, hm]) (fun hA => by have := Sl.none_len hr (m := m * 2) (by rw [plv_length, hm]) hA; omega) (plv_one _)
    (by simp only [maxLen]; omega) (by omega) hbase ?_
  intro v' w' h1 h2 h3
  exact h v' w' (by unfold RowW; rw [List.length_append, hm, plv_append]; exact h1) (Mod.of_grown h2) h3
theorem wp_stW (x y : Operand) (ho : op.op = .store 24 x y) (p : Addr) (A : Option Addr) (n c : Nat) (hx : a.eval x = .pointer (some p)) (hy : a.eval y = .slice A n c) (old : Value) (hc : w.cell? p = some old) (hf : w.frozen? p = false)
    (h : K (a.put op.dst undef) (w.setCell p (.slice A n c))) : op.wp Try.prog a w K Q := by
  unfold Oper.wp execOp
  simp only [ho, hx, hy]
  go_simp
  exact h
end
theorem info_F : (Try.prog.info? 65).map (fun i => (i.zero, i.size, i.bytes)) = some (some (.agg #[.slice none 0 0, .int .i64 0]), 2, 32) := by kernel_rfl
section
variable {ops : Array Oper} {S : World → Prop} {op : Oper} {a : Act}
theorem yk_ldF (hw : Region.wanted op (yielded ops a.tmps) = true) (x : Operand) (ho : op.op = .load 28 x) (p : Addr) (v : Value) (hx : a.eval x = .pointer (some p)) (hS : ∀ w, S w → w.cell? p = some v) : YieldsIf Try.prog ops S op v a :=
  .inl ⟨hw, fun w h => by
    have hc := hS w h
    unfold execOp
    simp only [ho, hx]
    go_simp⟩
variable {w : World} {K : Act → World → Prop} {Q : Exit → Act → World → Prop}
theorem wp_bsF (x : Operand) (ho : op.op = .buildSlice 28 1 #[(0, x)]) (y : Pl) (hx : a.eval x = .agg y.cells.toArray)
    (h : K (a.put op.dst (.slice (some ⟨w.heap.size, 0, none⟩) 1 1)) (w.alloc (.cells y.cells.toArray 65))) : op.wp Try.prog a w K Q := by
  have hr : (Instr.buildSlice 28 1 #[(0, .agg y.cells.toArray)]).run Try.prog w = .ok (.slice (some ⟨w.heap.size, 0, none⟩) 1 1) (w.alloc (.cells y.cells.toArray 65)) := by kernel_rfl
  unfold Oper.wp execOp
  simp only [ho, List.map_toArray, List.map_cons, List.map_nil, hx, Sem.run_bind, hr, Result.andThen_ok, Sem.run_pure]
  exact h
theorem wp_appF (s x : Operand) (ho : op.op = .call { callee := .builtin .append, args := #[s, x], argTypes := #[28, 28] })
    (B : Nat) (v : Value) (xs : List Pl) (hs : a.eval s = v) (hown : RowW 65 w B v xs)
    (b : Nat) (A : Option Addr) (m c : Nat) (ys : List Pl) (hx : a.eval x = .slice A m c) (hr : Sl w b A (plv ys)) (hm : ys.length = m)
    (hlen : xs.length + m ≤ 1000000) (hbase : B ≤ w.heap.size)
    (h : ∀ v' w', RowW 65 w' B v' (xs ++ ys) → Mod (fun i => v.ownBlock = some i) w w' → (v'.ownBlock = v.ownBlock ∨ v'.ownBlock = some w.heap.size) → K (a.put op.dst v') w') : op.wp Try.prog a w K Q := by
  obtain ⟨i0, hi0, hz0, hz1, hz2⟩ := info_parts info_F
  refine wp_append_sl (P := Try.prog) w s x _ ho B 65 i0 _ 2 32 Try.underlying28 hi0 hz0 hz1 hz2 rfl (by omega) v xs.length (plv xs) hs hown b A m c (plv ys) hx hr (by rw [plv_length, hm]) (fun hA => by have := Sl.none_len hr (m := m * 2) (by rw [plv_length, hm]) hA; omega) (plv_one _)
    (by simp only [maxLen]; omega) (by omega) hbase ?_
  intro v' w' h1 h2 h3
  exact h v' w' (by unfold RowW; rw [List.length_append, hm, plv_append]; exact h1) (Mod.of_grown h2) h3
theorem wp_stF (x y : Operand) (ho : op.op = .store 28 x y) (p : Addr) (A : Option Addr) (n c : Nat) (hx : a.eval x = .pointer (some p)) (hy : a.eval y = .slice A n c) (old : Value) (hc : w.cell? p = some old) (hf : w.frozen? p = false)
    (h : K (a.put op.dst undef) (w.setCell p (.slice A n c))) : op.wp Try.prog a w K Q := by
  unfold Oper.wp execOp
  simp only [ho, hx, hy]
  go_simp
  exact h
end
end Go.Proofs.Ytbcfelihncnofaa
