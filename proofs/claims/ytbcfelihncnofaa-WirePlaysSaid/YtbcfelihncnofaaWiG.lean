/- Steps on faults, on lists of lists of bytes, and what few keeps. Conditions: those said. -/
import Derived.Test.YtbcfelihncnofaaWiW
import Derived.Test.YtbcfelihncnofaaRefCut
namespace Go.Proofs.Ytbcfelihncnofaa
open Go.RowKit
set_option linter.unusedVariables false

theorem info_A : (Try.prog.info? 50).map (fun i => (i.zero, i.size, i.bytes)) = some (some (.agg #[.int .u8 0, .int .u16 0, .int .u32 0]), 3, 8) := by kernel_rfl
section
variable {ops : Array Oper} {S : World → Prop} {op : Oper} {a : Act}
theorem yk_ldA (hw : Region.wanted op (yielded ops a.tmps) = true) (x : Operand) (ho : op.op = .load 32 x) (p : Addr) (v : Value) (hx : a.eval x = .pointer (some p)) (hS : ∀ w, S w → w.cell? p = some v) : YieldsIf Try.prog ops S op v a :=
  .inl ⟨hw, fun w h => by
    have hc := hS w h
    unfold execOp
    simp only [ho, hx]
    go_simp⟩
variable {w : World} {K : Act → World → Prop} {Q : Exit → Act → World → Prop}
theorem wp_bsA (x : Operand) (ho : op.op = .buildSlice 32 1 #[(0, x)]) (y : Ft) (hx : a.eval x = .agg y.cells.toArray)
    (h : K (a.put op.dst (.slice (some ⟨w.heap.size, 0, none⟩) 1 1)) (w.alloc (.cells y.cells.toArray 50))) : op.wp Try.prog a w K Q := by
  have hr : (Instr.buildSlice 32 1 #[(0, .agg y.cells.toArray)]).run Try.prog w = .ok (.slice (some ⟨w.heap.size, 0, none⟩) 1 1) (w.alloc (.cells y.cells.toArray 50)) := by kernel_rfl
  unfold Oper.wp execOp
  simp only [ho, List.map_toArray, List.map_cons, List.map_nil, hx, Sem.run_bind, hr, Result.andThen_ok, Sem.run_pure]
  exact h
theorem wp_appA (s x : Operand) (ho : op.op = .call { callee := .builtin .append, args := #[s, x], argTypes := #[32, 32] })
    (B : Nat) (v : Value) (xs : List Ft) (hs : a.eval s = v) (hown : w.ownsRow B 50 3 v xs.length (ftv xs))
    (b : Nat) (A : Option Addr) (m c : Nat) (ys : List Ft) (hx : a.eval x = .slice A m c) (hr : Sl w b A (ftv ys)) (hm : ys.length = m)
    (hlen : xs.length + m ≤ 1000000) (hbase : B ≤ w.heap.size)
    (h : ∀ v' w', w'.ownsRow B 50 3 v' (xs ++ ys).length (ftv (xs ++ ys)) → Mod (fun i => v.ownBlock = some i) w w' → (v'.ownBlock = v.ownBlock ∨ v'.ownBlock = some w.heap.size) → K (a.put op.dst v') w') : op.wp Try.prog a w K Q := by
  obtain ⟨i0, hi0, hz0, hz1, hz2⟩ := info_parts info_A
  refine wp_append_sl (P := Try.prog) w s x _ ho B 50 i0 _ 3 8 Try.underlying32 hi0 hz0 hz1 hz2 rfl (by omega) v xs.length (ftv xs) hs hown b A m c (ftv ys) hx hr (by rw [ftv_length, hm]) (fun hA => by have := Sl.none_len hr (m := m * 3) (by rw [ftv_length, hm]) hA; omega) (ftv_one _)
    (by simp only [maxLen]; omega) (by omega) hbase ?_
  intro v' w' h1 h2 h3
  exact h v' w' (by rw [List.length_append, hm, ftv_append]; exact h1) (Mod.of_grown h2) h3
theorem wp_stA (x y : Operand) (ho : op.op = .store 32 x y) (p : Addr) (A : Option Addr) (n c : Nat) (hx : a.eval x = .pointer (some p)) (hy : a.eval y = .slice A n c) (old : Value) (hc : w.cell? p = some old) (hf : w.frozen? p = false)
    (h : K (a.put op.dst undef) (w.setCell p (.slice A n c))) : op.wp Try.prog a w K Q := by
  unfold Oper.wp execOp
  simp only [ho, hx, hy]
  go_simp
  exact h
end
theorem info_R : (Try.prog.info? 55).map (fun i => (i.zero, i.size, i.bytes)) = some (some (.agg #[.int .u8 0, .int .u16 0, .int .u32 0]), 3, 8) := by kernel_rfl
section
variable {ops : Array Oper} {S : World → Prop} {op : Oper} {a : Act}
theorem yk_ldR (hw : Region.wanted op (yielded ops a.tmps) = true) (x : Operand) (ho : op.op = .load 35 x) (p : Addr) (v : Value) (hx : a.eval x = .pointer (some p)) (hS : ∀ w, S w → w.cell? p = some v) : YieldsIf Try.prog ops S op v a :=
  .inl ⟨hw, fun w h => by
    have hc := hS w h
    unfold execOp
    simp only [ho, hx]
    go_simp⟩
variable {w : World} {K : Act → World → Prop} {Q : Exit → Act → World → Prop}
theorem wp_bsR (x : Operand) (ho : op.op = .buildSlice 35 1 #[(0, x)]) (y : Ft) (hx : a.eval x = .agg y.cells.toArray)
    (h : K (a.put op.dst (.slice (some ⟨w.heap.size, 0, none⟩) 1 1)) (w.alloc (.cells y.cells.toArray 55))) : op.wp Try.prog a w K Q := by
  have hr : (Instr.buildSlice 35 1 #[(0, .agg y.cells.toArray)]).run Try.prog w = .ok (.slice (some ⟨w.heap.size, 0, none⟩) 1 1) (w.alloc (.cells y.cells.toArray 55)) := by kernel_rfl
  unfold Oper.wp execOp
  simp only [ho, List.map_toArray, List.map_cons, List.map_nil, hx, Sem.run_bind, hr, Result.andThen_ok, Sem.run_pure]
  exact h
theorem wp_appR (s x : Operand) (ho : op.op = .call { callee := .builtin .append, args := #[s, x], argTypes := #[35, 35] })
    (B : Nat) (v : Value) (xs : List Ft) (hs : a.eval s = v) (hown : w.ownsRow B 55 3 v xs.length (ftv xs))
    (b : Nat) (A : Option Addr) (m c : Nat) (ys : List Ft) (hx : a.eval x = .slice A m c) (hr : Sl w b A (ftv ys)) (hm : ys.length = m)
    (hlen : xs.length + m ≤ 1000000) (hbase : B ≤ w.heap.size)
    (h : ∀ v' w', w'.ownsRow B 55 3 v' (xs ++ ys).length (ftv (xs ++ ys)) → Mod (fun i => v.ownBlock = some i) w w' → (v'.ownBlock = v.ownBlock ∨ v'.ownBlock = some w.heap.size) → K (a.put op.dst v') w') : op.wp Try.prog a w K Q := by
  obtain ⟨i0, hi0, hz0, hz1, hz2⟩ := info_parts info_R
  refine wp_append_sl (P := Try.prog) w s x _ ho B 55 i0 _ 3 8 Try.underlying35 hi0 hz0 hz1 hz2 rfl (by omega) v xs.length (ftv xs) hs hown b A m c (ftv ys) hx hr (by rw [ftv_length, hm]) (fun hA => by have := Sl.none_len hr (m := m * 3) (by rw [ftv_length, hm]) hA; omega) (ftv_one _)
    (by simp only [maxLen]; omega) (by omega) hbase ?_
  intro v' w' h1 h2 h3
  exact h v' w' (by rw [List.length_append, hm, ftv_append]; exact h1) (Mod.of_grown h2) h3
theorem wp_stR (x y : Operand) (ho : op.op = .store 35 x y) (p : Addr) (A : Option Addr) (n c : Nat) (hx : a.eval x = .pointer (some p)) (hy : a.eval y = .slice A n c) (old : Value) (hc : w.cell? p = some old) (hf : w.frozen? p = false)
    (h : K (a.put op.dst undef) (w.setCell p (.slice A n c))) : op.wp Try.prog a w K Q := by
  unfold Oper.wp execOp
  simp only [ho, hx, hy]
  go_simp
  exact h
end
section
variable {ops : Array Oper} {S : World → Prop} {op : Oper} {a : Act}
theorem yk_lvA (hw : Region.wanted op (yielded ops a.tmps) = true) (x : Operand) (ho : op.op = .load 50 x) (b : Nat) (f : Ft) (hx : a.eval x = .pointer (some ⟨b, 0, none⟩)) (hS : ∀ w, S w → w.heap[b]? = some (.cells f.cells.toArray 50 (0, 0))) : YieldsIf Try.prog ops S op (.agg f.cells.toArray) a :=
  .inl ⟨hw, fun w h => by
    have hc := hS w h
    have c0 : w.cell? ⟨b, 0, none⟩ = some (.int .u8 (f.how : Int)) := by rw [cell_of_row w _ _ _ _ _ hc]; rfl
    have c1 : w.cell? ⟨b, 1, none⟩ = some (.int .u16 (f.pos : Int)) := by rw [cell_of_row w _ _ _ _ _ hc]; rfl
    have c2 : w.cell? ⟨b, 2, none⟩ = some (.int .u32 (f.mask : Int)) := by rw [cell_of_row w _ _ _ _ _ hc]; rfl
    unfold execOp
    simp only [ho, hx]
    go_simp⟩
end
section
variable {ops : Array Oper} {S : World → Prop} {op : Oper} {a : Act}
theorem yk_ldB (hw : Region.wanted op (yielded ops a.tmps) = true) (x : Operand) (ho : op.op = .load 31 x) (p : Addr) (v : Value) (hx : a.eval x = .pointer (some p)) (hS : ∀ w, S w → w.cell? p = some v) : YieldsIf Try.prog ops S op v a :=
  .inl ⟨hw, fun w h => by
    have hc := hS w h
    unfold execOp
    simp only [ho, hx]
    go_simp⟩
variable {w : World} {K : Act → World → Prop} {Q : Exit → Act → World → Prop}
theorem wp_bsB (x : Operand) (ho : op.op = .buildSlice 31 1 #[(0, x)]) (A : Option Addr) (n c : Nat) (hx : a.eval x = .slice A n c)
    (h : K (a.put op.dst (.slice (some ⟨w.heap.size, 0, none⟩) 1 1)) (w.alloc (.cells #[.slice A n c] 46))) : op.wp Try.prog a w K Q := by
  have hr : (Instr.buildSlice 31 1 #[(0, .slice A n c)]).run Try.prog w = .ok (.slice (some ⟨w.heap.size, 0, none⟩) 1 1) (w.alloc (.cells #[.slice A n c] 46)) := by kernel_rfl
  unfold Oper.wp execOp
  simp only [ho, List.map_toArray, List.map_cons, List.map_nil, hx, Sem.run_bind, hr, Result.andThen_ok, Sem.run_pure]
  exact h
theorem wp_appB (s x : Operand) (ho : op.op = .call { callee := .builtin .append, args := #[s, x], argTypes := #[31, 31] })
    (B : Nat) (v : Value) (us : List Value) (hs : a.eval s = v) (hown : RowS w B v us)
    (b : Nat) (A : Option Addr) (m c : Nat) (vs : List Value) (hx : a.eval x = .slice A m c) (hr : Sl w b A vs) (hm : vs.length = m) (h1 : ∀ u ∈ vs, u.oneCell' = true)
    (hlen : us.length + m ≤ 1000000) (hbase : B ≤ w.heap.size)
    (h : ∀ v' w', RowS w' B v' (us ++ vs) → Mod (fun i => v.ownBlock = some i) w w' → (v'.ownBlock = v.ownBlock ∨ v'.ownBlock = some w.heap.size) → K (a.put op.dst v') w') : op.wp Try.prog a w K Q := by
  obtain ⟨i0, hi0, hz0, hz1, hz2⟩ := info_parts slice_info
  refine wp_append_sl (P := Try.prog) w s x _ ho B 46 i0 _ 1 24 Try.underlying31 hi0 hz0 hz1 hz2 rfl (by omega) v us.length us hs hown b A m c vs hx hr (by rw [hm, Nat.mul_one]) (fun hA => by have := Sl.none_len hr (m := m) hm hA; omega) h1
    (by simp only [maxLen]; omega) (by omega) hbase ?_
  intro v' w' h1 h2 h3
  exact h v' w' (by unfold RowS; rw [List.length_append, hm]; exact h1) (Mod.of_grown h2) h3
theorem wp_stB (x y : Operand) (ho : op.op = .store 31 x y) (p : Addr) (A : Option Addr) (n c : Nat) (hx : a.eval x = .pointer (some p)) (hy : a.eval y = .slice A n c) (old : Value) (hc : w.cell? p = some old) (hf : w.frozen? p = false)
    (h : K (a.put op.dst undef) (w.setCell p (.slice A n c))) : op.wp Try.prog a w K Q := by
  unfold Oper.wp execOp
  simp only [ho, hx, hy]
  go_simp
  exact h
end
theorem results_ct {P : Program} {fn : Func} {p t : Tmp} {ty : TypeId} (h : fn.results = #[.cell p ty, .tmp t]) (tmps : Array Value) (w : World) (g : Nat) (tt : TypeId) (cs : Array Value) (fr : Nat × Nat) (d : TypeDesc)
    (hp : tmps.getD p undef = .pointer (some ⟨g, 0, none⟩)) (hg : w.heap[g]? = some (.cells cs tt fr))
    (hu : P.underlying ty = some d) (hd : (match d with | .struct _ | .array _ _ => true | _ => false) = true) (hi : (P.info? ty).map (·.size) = some cs.size) :
    (results fn tmps).run P w = .ok (.tuple #[.agg cs, tmps.getD t undef]) w := by
  have hp' : tmps[p]?.getD undef = .pointer (some ⟨g, 0, none⟩) := by simpa using hp
  simp [results, h, hp', asAddr, run_loadVar_row w g tt ty cs fr d hg hu hd hi]
set_option maxHeartbeats 1000000 in
set_option maxRecDepth 20000 in
/-- Block g is a turn. -/
def BoxT (w : World) (g : Nat) (a b : Value) : Prop := w.heap[g]? = some (.cells #[a, b] 34 (0, 0))
namespace BoxT
variable {w w' : World} {g : Nat} {a b : Value}
theorem lt (q : BoxT w g a b) : g < w.heap.size := (Array.getElem?_eq_some_iff.1 q).1
theorem c0 (q : BoxT w g a b) : w.cell? ⟨g, 0, none⟩ = some a := by rw [cell_of_row w g 0 _ _ _ q]; rfl
theorem c1 (q : BoxT w g a b) : w.cell? ⟨g, 1, none⟩ = some b := by rw [cell_of_row w g 1 _ _ _ q]; rfl
theorem fz (q : BoxT w g a b) (j : Nat) : w.frozen? ⟨g, j, none⟩ = false := frozen_of_row w g j _ _ q
theorem mod {S : Nat → Prop} (q : BoxT w g a b) (hm : Mod S w w') (hs : ¬ S g) : BoxT w' g a b := (hm.block g q.lt hs).trans q
theorem ext (q : BoxT w g a b) (hm : Below w.heap.size w w') : BoxT w' g a b := (hm.block g q.lt).trans q
theorem set0 (q : BoxT w g a b) (v : Value) : BoxT (w.setCell ⟨g, 0, none⟩ v) g v b := heap_setCell_same w g 0 _ _ v q
theorem set1 (q : BoxT w g a b) (v : Value) : BoxT (w.setCell ⟨g, 1, none⟩ v) g a v := heap_setCell_same w g 1 _ _ v q
theorem other (q : BoxT w g a b) {p : Addr} (hp : g ≠ p.block) (u : Value) : BoxT (w.setCell p u) g a b := (heap_setCell_other w p g u hp).trans q
theorem ne_row (q : BoxT w g a b) {B n sz : Nat} {e : TypeId} {v : Value} {xs : List Value} (hr : w.ownsRow B e sz v n xs) (he : 34 ≠ e) : v.ownBlock ≠ some g := row_apart hr q he
end BoxT
/-- What few keeps: the variables, the rows. -/
structure FW (w0 : World) (g1 g2 g4 : Nat) (a1 a2 qf qa vF : Value) (us : List Value) (ll : List (List UInt8)) (vA : Value) (fa : List Ft) (vR : Value) (fr : List Ft) (w : World) : Prop where
  hb : Below w0.heap.size w0 w
  lo : w0.heap.size ≤ g4 ∧ g1 ≠ g4 ∧ g2 ≠ g4
  q1 : BoxT w g1 a1 a2
  q2 : BoxT w g2 (.slice none 0 0) (.slice none 0 0)
  q4 : BoxT w g4 qf qa
  hF : RowS w w0.heap.size vF us
  hI : RowsIn w w0.heap.size us ll
  hA : w.ownsRow w0.heap.size 50 3 vA fa.length (ftv fa)
  hR : w.ownsRow w0.heap.size 55 3 vR fr.length (ftv fr)
namespace FW
variable {w0 w w' : World} {g1 g2 g4 : Nat} {a1 a2 qf qa vF : Value} {us : List Value} {ll : List (List UInt8)} {vA : Value} {fa : List Ft} {vR : Value} {fr : List Ft}
theorem ext (F : FW w0 g1 g2 g4 a1 a2 qf qa vF us ll vA fa vR fr w) (h : Below w.heap.size w w') : FW w0 g1 g2 g4 a1 a2 qf qa vF us ll vA fa vR fr w' :=
  ⟨F.hb.trans (h.mono F.hb.size), F.lo, F.q1.ext h, F.q2.ext h, F.q4.ext h, own_ext F.hF h, F.hI.ext h, own_ext F.hA h, own_ext F.hR h⟩
theorem modF (F : FW w0 g1 g2 g4 a1 a2 qf qa vF us ll vA fa vR fr w) (h : Mod (fun i => vF.ownBlock = some i) w w') {v2 : Value} {us2 : List Value} {ll2 : List (List UInt8)} (h2 : RowS w' w0.heap.size v2 us2) (h3 : RowsIn w' w0.heap.size us2 ll2) : FW w0 g1 g2 g4 a1 a2 qf qa v2 us2 ll2 vA fa vR fr w' :=
  ⟨F.hb.trans (h.below F.hb.size fun i hi hh => by have := (World.ownsRow.lt F.hF i hh).1; omega), F.lo, F.q1.mod h (F.q1.ne_row F.hF (by decide)), F.q2.mod h (F.q2.ne_row F.hF (by decide)), F.q4.mod h (F.q4.ne_row F.hF (by decide)), h2, h3,
    own_mod F.hA h (fun k hk hh => own_apart F.hF F.hA (by decide) hh hk), own_mod F.hR h (fun k hk hh => own_apart F.hF F.hR (by decide) hh hk)⟩
theorem modA (F : FW w0 g1 g2 g4 a1 a2 qf qa vF us ll vA fa vR fr w) (h : Mod (fun i => vA.ownBlock = some i) w w') {v2 : Value} {f2 : List Ft} (h2 : w'.ownsRow w0.heap.size 50 3 v2 f2.length (ftv f2)) : FW w0 g1 g2 g4 a1 a2 qf qa vF us ll v2 f2 vR fr w' :=
  ⟨F.hb.trans (h.below F.hb.size fun i hi hh => by have := (World.ownsRow.lt F.hA i hh).1; omega), F.lo, F.q1.mod h (F.q1.ne_row F.hA (by decide)), F.q2.mod h (F.q2.ne_row F.hA (by decide)), F.q4.mod h (F.q4.ne_row F.hA (by decide)),
    own_mod F.hF h (fun k hk hh => own_apart F.hA F.hF (by decide) hh hk), ⟨F.hI.1, fun i l hl => by obtain ⟨u, h4, h5⟩ := F.hI.2 i l hl; exact ⟨u, h4, h5.mod h (fun k hk hh => own_apart F.hA h5 (by decide) hh hk)⟩⟩, h2, own_mod F.hR h (fun k hk hh => own_apart F.hA F.hR (by decide) hh hk)⟩
theorem modR (F : FW w0 g1 g2 g4 a1 a2 qf qa vF us ll vA fa vR fr w) (h : Mod (fun i => vR.ownBlock = some i) w w') {v2 : Value} {f2 : List Ft} (h2 : w'.ownsRow w0.heap.size 55 3 v2 f2.length (ftv f2)) : FW w0 g1 g2 g4 a1 a2 qf qa vF us ll vA fa v2 f2 w' :=
  ⟨F.hb.trans (h.below F.hb.size fun i hi hh => by have := (World.ownsRow.lt F.hR i hh).1; omega), F.lo, F.q1.mod h (F.q1.ne_row F.hR (by decide)), F.q2.mod h (F.q2.ne_row F.hR (by decide)), F.q4.mod h (F.q4.ne_row F.hR (by decide)),
    own_mod F.hF h (fun k hk hh => own_apart F.hR F.hF (by decide) hh hk), ⟨F.hI.1, fun i l hl => by obtain ⟨u, h4, h5⟩ := F.hI.2 i l hl; exact ⟨u, h4, h5.mod h (fun k hk hh => own_apart F.hR h5 (by decide) hh hk)⟩⟩, own_mod F.hA h (fun k hk hh => own_apart F.hR F.hA (by decide) hh hk), h2⟩
/-- A cell of the variable, written. -/
theorem set_ (F : FW w0 g1 g2 g4 a1 a2 qf qa vF us ll vA fa vR fr w) (j : Nat) (u : Value) {d1 d2 : Value} (h4 : BoxT (w.setCell ⟨g4, j, none⟩ u) g4 d1 d2) : FW w0 g1 g2 g4 a1 a2 d1 d2 vF us ll vA fa vR fr (w.setCell ⟨g4, j, none⟩ u) := by
  have hm := Mod.setCell w ⟨g4, j, none⟩ u
  have hn : ∀ {B n sz : Nat} {e : TypeId} {v : Value} {xs : List Value}, w.ownsRow B e sz v n xs → 34 ≠ e → ∀ i, v.ownBlock = some i → ¬ i = g4 := fun hr he i hi hh => F.q4.ne_row hr he (by rw [← hh]; exact hi)
  exact ⟨F.hb.setCell F.lo.1 u, F.lo, F.q1.other F.lo.2.1 _, F.q2.other F.lo.2.2 _, h4, own_mod F.hF hm (fun i hi hh => hn F.hF (by decide) i hi hh), ⟨F.hI.1, fun i l hl => by obtain ⟨u, h4, h5⟩ := F.hI.2 i l hl; exact ⟨u, h4, h5.mod hm (fun i hi hh => hn h5 (by decide) i hi hh)⟩⟩,
    own_mod F.hA hm (fun i hi hh => hn F.hA (by decide) i hi hh), own_mod F.hR hm (fun i hi hh => hn F.hR (by decide) i hi hh)⟩
theorem set4f (F : FW w0 g1 g2 g4 a1 a2 qf qa vF us ll vA fa vR fr w) (u : Value) : FW w0 g1 g2 g4 a1 a2 u qa vF us ll vA fa vR fr (w.setCell ⟨g4, 0, none⟩ u) := F.set_ 0 u (F.q4.set0 u)
theorem set4a (F : FW w0 g1 g2 g4 a1 a2 qf qa vF us ll vA fa vR fr w) (u : Value) : FW w0 g1 g2 g4 a1 a2 qf u vF us ll vA fa vR fr (w.setCell ⟨g4, 1, none⟩ u) := F.set_ 1 u (F.q4.set1 u)
end FW
def fewL (ls : List (List UInt8)) (k : Nat) : List (List UInt8) := ((ls.take k).take 8).map (List.take 40)
theorem fewL_next (ls : List (List UInt8)) (k : Nat) (hk : k < ls.length) (h8 : k < 8) : fewL ls (k + 1) = fewL ls k ++ [ls[k].take 40] := by
  unfold fewL
  rw [List.take_take, List.take_take, show min 8 (k + 1) = k + 1 by omega, show min 8 k = k by omega, List.take_succ_eq_append_getElem hk, List.map_append]
  rfl
theorem fewL_past (ls : List (List UInt8)) (k : Nat) (h8 : 8 ≤ k) : fewL ls (k + 1) = fewL ls k := by
  unfold fewL
  rw [List.take_take, List.take_take, show min 8 (k + 1) = 8 by omega, show min 8 k = 8 by omega]
def fewF (fs : List Ft) (k : Nat) : List Ft := (fs.take k).take 8
theorem fewF_next (fs : List Ft) (k : Nat) (hk : k < fs.length) (h8 : k < 8) : fewF fs (k + 1) = fewF fs k ++ [fs[k]] := by
  unfold fewF
  rw [List.take_take, List.take_take, show min 8 (k + 1) = k + 1 by omega, show min 8 k = k by omega, List.take_succ_eq_append_getElem hk]
theorem fewF_past (fs : List Ft) (k : Nat) (h8 : 8 ≤ k) : fewF fs (k + 1) = fewF fs k := by
  unfold fewF
  rw [List.take_take, List.take_take, show min 8 (k + 1) = 8 by omega, show min 8 k = 8 by omega]
theorem fewL_length (ls : List (List UInt8)) (k : Nat) : (fewL ls k).length ≤ 8 := by unfold fewL; simp; omega
theorem fewF_length (fs : List Ft) (k : Nat) : (fewF fs k).length ≤ 8 := by unfold fewF; simp; omega
end Go.Proofs.Ytbcfelihncnofaa
