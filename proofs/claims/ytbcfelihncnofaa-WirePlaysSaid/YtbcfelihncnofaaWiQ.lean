/- How a wire of the reference lies; a step of it. No condition beyond those said. -/
import Derived.Test.YtbcfelihncnofaaWiO
import Derived.Test.YtbcfelihncnofaaWiH
namespace Go.Proofs.Ytbcfelihncnofaa
open Go.RowKit
set_option linter.unusedVariables false

/-- Block g is a wire of the reference: its frames, and how many Takes there were. -/
def BoxR (w : World) (g : Nat) (v : Value) (now : Int) : Prop := w.heap[g]? = some (.cells #[v, .int .i64 now] 30 (0, 0))
namespace BoxR
variable {w w' : World} {g : Nat} {v : Value} {now : Int}
theorem lt (q : BoxR w g v now) : g < w.heap.size := (Array.getElem?_eq_some_iff.1 q).1
theorem c0 (q : BoxR w g v now) : w.cell? ⟨g, 0, none⟩ = some v := by rw [cell_of_row w g 0 _ _ _ q]; rfl
theorem c1 (q : BoxR w g v now) : w.cell? ⟨g, 1, none⟩ = some (.int .i64 now) := by rw [cell_of_row w g 1 _ _ _ q]; rfl
theorem fz (q : BoxR w g v now) (j : Nat) : w.frozen? ⟨g, j, none⟩ = false := frozen_of_row w g j _ _ q
theorem mod {S : Nat → Prop} (q : BoxR w g v now) (hm : Mod S w w') (hs : ¬ S g) : BoxR w' g v now := (hm.block g q.lt hs).trans q
theorem ext (q : BoxR w g v now) (hm : Below w.heap.size w w') : BoxR w' g v now := (hm.block g q.lt).trans q
theorem set0 (q : BoxR w g v now) (u : Value) : BoxR (w.setCell ⟨g, 0, none⟩ u) g u now := heap_setCell_same w g 0 _ _ u q
theorem set1 (q : BoxR w g v now) (n : Int) : BoxR (w.setCell ⟨g, 1, none⟩ (.int .i64 n)) g v n := heap_setCell_same w g 1 _ _ _ q
theorem ne_row (q : BoxR w g v now) {B n sz : Nat} {e : TypeId} {u : Value} {xs : List Value} (hr : w.ownsRow B e sz u n xs) (he : 30 ≠ e) : u.ownBlock ≠ some g := row_apart hr q he
theorem ne_sl (q : BoxR w g v now) {e : TypeId} {b : Nat} {A : Option Addr} {xs : List Value} (h : SlT e w b A xs) (he : 30 ≠ e) (h0 : xs ≠ []) : b ≠ g := fun hh => by
  subst hh
  obtain ⟨cur, fr, hc⟩ := h.2 h0
  unfold BoxR at q
  rw [q] at hc
  injection hc with hc
  injection hc with _ h2 _
  exact he h2
end BoxR
/-- A row's own blocks turn. -/
theorem TMod.of_row {T1 T2 : TypeId} {B C n sz : Nat} {w w' : World} {v : Value} {xs : List Value} (hm : Mod (fun i => v.ownBlock = some i) w w') (hr : w.ownsRow C T2 sz v n xs) (hB : B ≤ w.heap.size) (hC : B ≤ C) : TMod T1 T2 B w w' :=
  ⟨hm.below hB (fun i hi hh => by have := (World.ownsRow.lt hr i hh).1; omega), fun b cur e fr hc _ h2 => hm.block b (Array.getElem?_eq_some_iff.1 hc).1 (fun hh => row_apart hr hc h2 hh)⟩
theorem TMod.setR {T2 : TypeId} {w : World} {B g j : Nat} {v u : Value} {now : Int} (q : BoxR w g v now) (hg : B ≤ g) : TMod 30 T2 B w (w.setCell ⟨g, j, none⟩ u) :=
  ⟨(Below.refl _ _).setCell hg u, fun b cur e fr hc h1 _ => heap_setCell_other w ⟨g, j, none⟩ b u (fun h => by
    subst h
    unfold BoxR at q
    rw [q] at hc
    injection hc with hc
    injection hc with _ h2 _
    exact h1 h2.symm)⟩
/-- What a step of a wire of the reference keeps. -/
structure RF (w0 : World) (C g : Nat) (now : Int) (vq v : Value) (ps : List Pl) (w : World) : Prop where
  hT : TMod 30 65 C w0 w
  hC : C ≤ w0.heap.size ∧ C ≤ g
  q : BoxR w g vq now
  hr : RowW 65 w C v ps
  hx : ∀ x ∈ ps, SlT 5 w x.b x.A (bv x.l)
namespace RF
variable {w0 w w' : World} {C g : Nat} {now : Int} {vq v : Value} {ps : List Pl}
theorem ext (F : RF w0 C g now vq v ps w) (h : Below w.heap.size w w') : RF w0 C g now vq v ps w' :=
  ⟨F.hT.trans (TMod.of_new h (Nat.le_trans F.hC.1 F.hT.bel.size)), F.hC, F.q.ext h, own_ext F.hr h, fun x hx => (F.hx x hx).ext h⟩
theorem app (F : RF w0 C g now vq v ps w) (h : Mod (fun i => v.ownBlock = some i) w w') {v2 : Value} {xs : List Pl} (hr : RowW 65 w' C v2 (ps ++ xs)) (hxs : ∀ x ∈ xs, SlT 5 w x.b x.A (bv x.l)) : RF w0 C g now vq v2 (ps ++ xs) w' :=
  ⟨F.hT.trans (TMod.of_row h F.hr (Nat.le_trans F.hC.1 F.hT.bel.size) (Nat.le_refl _)), F.hC, F.q.mod h (F.q.ne_row F.hr (by decide)), hr, fun x hx => by
    rcases List.mem_append.1 hx with hx | hx
    · exact (F.hx x hx).mod h (fun cur fr hc => row_apart F.hr hc (by decide))
    · exact (hxs x hx).mod h (fun cur fr hc => row_apart F.hr hc (by decide))⟩
theorem keep (F : RF w0 C g now vq v ps w) (h : Mod (fun i => v.ownBlock = some i) w w') {e : TypeId} {b : Nat} {A : Option Addr} {xs : List Value} (hs : SlT e w b A xs) (he : e ≠ 65) : SlT e w' b A xs := hs.mod h (fun cur fr hc => row_apart F.hr hc he)
theorem set0 (F : RF w0 C g now vq v ps w) (u : Value) : RF w0 C g now u v ps (w.setCell ⟨g, 0, none⟩ u) := by
  have hm := Mod.setCell w ⟨g, 0, none⟩ u
  exact ⟨F.hT.trans (TMod.setR F.q F.hC.2), F.hC, F.q.set0 u, own_mod F.hr hm (fun k hk hh => F.q.ne_row F.hr (by decide) (by rw [← show k = g from hh]; exact hk)), fun x hx => (TMod.setR (T2 := 65) F.q F.hC.2).slT (F.hx x hx) (by decide) (by decide)⟩
theorem set1 (F : RF w0 C g now vq v ps w) (n : Int) : RF w0 C g n vq v ps (w.setCell ⟨g, 1, none⟩ (.int .i64 n)) := by
  have hm := Mod.setCell w ⟨g, 1, none⟩ (.int .i64 n)
  exact ⟨F.hT.trans (TMod.setR F.q F.hC.2), F.hC, F.q.set1 n, own_mod F.hr hm (fun k hk hh => F.q.ne_row F.hr (by decide) (by rw [← show k = g from hh]; exact hk)), fun x hx => (TMod.setR (T2 := 65) F.q F.hC.2).slT (F.hx x hx) (by decide) (by decide)⟩
end RF
/-- A wire of the reference: all frames, and when each comes. -/
structure Ri (C g : Nat) (w : World) (fs : List (List UInt8 × Int)) (now : Int) : Prop where
  out : ∃ v ps, BoxR w g v now ∧ RowW 65 w C v ps ∧ ps.map keyP = fs ∧ ∀ x ∈ ps, SlT 5 w x.b x.A (bv x.l)
theorem Ri.mod {C g : Nat} {w w' : World} {fs : List (List UInt8 × Int)} {now : Int} (h : Ri C g w fs now) {T1 T2 : TypeId} {B : Nat} (hm : TMod T1 T2 B w w') (h1 : 30 ≠ T1) (h2 : 30 ≠ T2) (h3 : 65 ≠ T1) (h4 : 65 ≠ T2) (h5 : 5 ≠ T1) (h6 : 5 ≠ T2) : Ri C g w' fs now := by
  obtain ⟨v, ps, q, hr, hk, hx⟩ := h.out
  exact ⟨v, ps, (hm.keep g _ _ _ q h1 h2).trans q, hm.own hr h3 h4, hk, fun x hx2 => hm.slT (hx x hx2) h5 h6⟩
/-- When what waits for so many Takes comes. -/
def shK (now : Int) (x : List UInt8 × Int) : List UInt8 × Int := (x.1, now + (x.2 - 1))
section
variable {ops : Array Oper} {S : World → Prop} {op : Oper} {a : Act}
theorem yk_lvRA (hw : Region.wanted op (yielded ops a.tmps) = true) (x : Operand) (ho : op.op = .load 55 x) (b : Nat) (f : Ft) (hx : a.eval x = .pointer (some ⟨b, 0, none⟩)) (hS : ∀ w, S w → w.heap[b]? = some (.cells f.cells.toArray 55 (0, 0))) : YieldsIf Try.prog ops S op (.agg f.cells.toArray) a :=
  .inl ⟨hw, fun w h => by
    have hc := hS w h
    have c0 : w.cell? ⟨b, 0, none⟩ = some (.int .u8 (f.how : Int)) := by rw [cell_of_row w _ _ _ _ _ hc]; rfl
    have c1 : w.cell? ⟨b, 1, none⟩ = some (.int .u16 (f.pos : Int)) := by rw [cell_of_row w _ _ _ _ _ hc]; rfl
    have c2 : w.cell? ⟨b, 2, none⟩ = some (.int .u32 (f.mask : Int)) := by rw [cell_of_row w _ _ _ _ _ hc]; rfl
    unfold execOp
    simp only [ho, hx]
    go_simp⟩
theorem yk_ldI (hw : Region.wanted op (yielded ops a.tmps) = true) (x : Operand) (ho : op.op = .load 3 x) (p : Addr) (v : Int) (hx : a.eval x = .pointer (some p)) (hS : ∀ w, S w → w.cell? p = some (.int .i64 v)) : YieldsIf Try.prog ops S op (.int .i64 v) a :=
  .inl ⟨hw, fun w h => by
    have hc := hS w h
    unfold execOp
    simp only [ho, hx]
    go_simp⟩
theorem yk_addI (hw : Region.wanted op (yielded ops a.tmps) = true) (x y : Operand) (R : TypeId) (ho : op.op = .binOp .add 3 x y R) (m n : Int) (hx : a.eval x = .int .i64 m) (hy : a.eval y = .int .i64 n) (hb : -1000000 ≤ m + n ∧ m + n ≤ 1000000) : YieldsIf Try.prog ops S op (.int .i64 (m + n)) a :=
  .inl ⟨hw, fun w h => by
    have e := IntWalk.i64_in (m + n) (by omega)
    unfold execOp
    simp only [ho, hx, hy]
    go_simp⟩
theorem wp_bsF2 {w : World} {K : Act → World → Prop} {Q : Exit → Act → World → Prop} (x1 x2 : Operand) (ho : op.op = .buildSlice 28 2 #[(0, x1), (1, x2)]) (y : Pl) (hx : a.eval x1 = .agg y.cells.toArray) (hx2 : a.eval x2 = .agg y.cells.toArray)
    (h : K (a.put op.dst (.slice (some ⟨w.heap.size, 0, none⟩) 2 2)) (w.alloc (.cells #[y.sv, .int .i64 y.t, y.sv, .int .i64 y.t] 65))) : op.wp Try.prog a w K Q := by
  have hr : (Instr.buildSlice 28 2 #[(0, .agg y.cells.toArray), (1, .agg y.cells.toArray)]).run Try.prog w = .ok (.slice (some ⟨w.heap.size, 0, none⟩) 2 2) (w.alloc (.cells #[y.sv, .int .i64 y.t, y.sv, .int .i64 y.t] 65)) := by kernel_rfl
  unfold Oper.wp execOp
  simp only [ho, List.map_toArray, List.map_cons, List.map_nil, hx, hx2, Sem.run_bind, hr, Result.andThen_ok, Sem.run_pure]
  exact h
end
end Go.Proofs.Ytbcfelihncnofaa
