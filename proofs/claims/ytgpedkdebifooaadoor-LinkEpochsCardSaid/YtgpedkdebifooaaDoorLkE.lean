/- Steps of start's drawn region. No condition: plain lemmas. -/
import Derived.Test.YtgpedkdebifooaaDoorLkD
import Derived.Test.YtgpedkdebifooaaDoorLkS
import Derived.Test.YtgpedkdebifooaaDoorLkR
namespace Go.Proofs.YtgpedkdebifooaaDoor
open Go.RowKit
set_option linter.unusedVariables false

section
variable {ops : Array Oper} {S : World → Prop} {op : Oper} {a : Act}
theorem yk_ldW (hw : Region.wanted op (yielded ops a.tmps) = true) (x : Operand) (ho : op.op = .load 82 x) (p : Addr) (v : Value) (hx : a.eval x = .pointer (some p)) (hS : ∀ w, S w → w.cell? p = some v) : YieldsIf Tryd.prog ops S op v a :=
  .inl ⟨hw, fun w h => by
    have hc := hS w h
    unfold execOp
    simp only [ho, hx]
    go_simp⟩
theorem yk_ldF (hw : Region.wanted op (yielded ops a.tmps) = true) (x : Operand) (ho : op.op = .load 83 x) (p : Addr) (v : Value) (hx : a.eval x = .pointer (some p)) (hS : ∀ w, S w → w.cell? p = some v) : YieldsIf Tryd.prog ops S op v a :=
  .inl ⟨hw, fun w h => by
    have hc := hS w h
    unfold execOp
    simp only [ho, hx]
    go_simp⟩
theorem yk_ldQ (hw : Region.wanted op (yielded ops a.tmps) = true) (x : Operand) (ho : op.op = .load 42 x) (p : Addr) (v : Value) (hx : a.eval x = .pointer (some p)) (hS : ∀ w, S w → w.cell? p = some v) : YieldsIf Tryd.prog ops S op v a :=
  .inl ⟨hw, fun w h => by
    have hc := hS w h
    unfold execOp
    simp only [ho, hx]
    go_simp⟩
theorem yk_ldPc (hw : Region.wanted op (yielded ops a.tmps) = true) (x : Operand) (ho : op.op = .load 96 x) (b : Nat) (f l : Bool) (v : Value) (hx : a.eval x = .pointer (some ⟨b, 0, none⟩)) (hS : ∀ w, S w → w.cell? ⟨b, 0, none⟩ = some (.bool f) ∧ w.cell? ⟨b, 1, none⟩ = some (.bool l) ∧ w.cell? ⟨b, 2, none⟩ = some v) : YieldsIf Tryd.prog ops S op (.agg #[.bool f, .bool l, v]) a :=
  .inl ⟨hw, fun w h => by
    obtain ⟨c0, c1, c2⟩ := hS w h
    unfold execOp
    simp only [ho, hx]
    go_simp⟩
variable {w : World} {K : Act → World → Prop} {Q : Exit → Act → World → Prop}
theorem wp_bsF (x : Operand) (ho : op.op = .buildSlice 83 1 #[(0, x)]) (y : Fl) (hx : a.eval x = .agg y.cells.toArray)
    (h : K (a.put op.dst (.slice (some ⟨w.heap.size, 0, none⟩) 1 1)) (w.alloc (.cells y.cells.toArray 98))) : op.wp Tryd.prog a w K Q := by
  have hr : (Instr.buildSlice 83 1 #[(0, .agg y.cells.toArray)]).run Tryd.prog w = .ok (.slice (some ⟨w.heap.size, 0, none⟩) 1 1) (w.alloc (.cells y.cells.toArray 98)) := by kernel_rfl
  unfold Oper.wp execOp
  simp only [ho, List.map_toArray, List.map_cons, List.map_nil, hx, Sem.run_bind, hr, Result.andThen_ok, Sem.run_pure]
  exact h
theorem flight_info : (Tryd.prog.info? 98).map (fun i => (i.zero, i.size, i.bytes)) = some (some (.agg #[.bool false, .bool false, .slice none 0 0, .int .u16 0, .bool false, .int .i64 0]), 6, 48) := by kernel_rfl
theorem wp_appF (s x : Operand) (ho : op.op = .call { callee := .builtin .append, args := #[s, x], argTypes := #[83, 83] })
    (B : Nat) (v : Value) (xs : List Fl) (hs : a.eval s = v) (hown : RowF w B v xs)
    (b : Nat) (A : Option Addr) (m c : Nat) (ys : List Fl) (hx : a.eval x = .slice A m c) (hr : Sl w b A (fvs ys)) (hm : ys.length = m)
    (hlen : xs.length + m ≤ 1000000) (hbase : B ≤ w.heap.size)
    (h : ∀ v' w', RowF w' B v' (xs ++ ys) → Mod (fun i => v.ownBlock = some i) w w' → (v'.ownBlock = v.ownBlock ∨ v'.ownBlock = some w.heap.size) → K (a.put op.dst v') w') : op.wp Tryd.prog a w K Q := by
  obtain ⟨i0, hi0, hz0, hz1, hz2⟩ := info_parts flight_info
  refine wp_append_sl (P := Tryd.prog) w s x _ ho B 98 i0 _ 6 48 Tryd.underlying83 hi0 hz0 hz1 hz2 rfl (by omega) v xs.length (fvs xs) hs hown b A m c (fvs ys) hx hr (by rw [fvs_length, hm]) (fun hA => by have := Sl.none_len hr (m := m * 6) (by rw [fvs_length, hm]) hA; omega) (fvs_one ys)
    (by simp only [maxLen]; omega) (by omega) hbase ?_
  intro v' w' h1 h2 h3
  exact h v' w' (by unfold RowF; rw [List.length_append, hm, fvs_append]; exact h1) (Mod.of_grown h2) h3
theorem wp_stF (x y : Operand) (ho : op.op = .store 83 x y) (p : Addr) (A : Option Addr) (n c : Nat) (hx : a.eval x = .pointer (some p)) (hy : a.eval y = .slice A n c) (old : Value) (hc : w.cell? p = some old) (hf : w.frozen? p = false)
    (h : K (a.put op.dst undef) (w.setCell p (.slice A n c))) : op.wp Tryd.prog a w K Q := by
  unfold Oper.wp execOp
  simp only [ho, hx, hy]
  go_simp
  exact h
end
theorem sl_newF (w : World) (vs : List Value) (t : TypeId) : Sl (w.alloc (.cells vs.toArray t)) w.heap.size (some ⟨w.heap.size, 0, none⟩) vs := fun _ => ⟨0, rfl, fun j u hu => by
  rw [cell_of_row _ _ _ _ _ _ (heap_alloc_new w _)]
  simpa using hu⟩
/-- Whether one more may fly. -/
def roomB (nx : Nat) : List Fl → Bool
  | [] => true
  | x :: _ => decide (toI x.seq nx < 32)
/-- What start leaves: the next number, what waits, what flies. -/
def startN : List PV → Nat → List Fl → Nat × List PV × List Fl
  | [], nx, xs => (nx, [], xs)
  | x :: ws, nx, xs => if roomB nx xs then startN ws ((nx + 1) % 65536) (xs ++ [⟨x, nx, false, 0⟩]) else (nx, x :: ws, xs)
/-- How a link lies, with what waits and what flies. -/
structure LS (w : World) (B g bm : Nat) (L : Lk) (vw vf vh : Value) (ws : List PV) (xs : List Fl) : Prop where
  q : LkB w g bm L vw vf vh
  rp : RowP 96 w B vw ws
  rf : RowF w B vf xs
  hB : B ≤ w.heap.size
theorem rows_apartT {w : World} {B B' n n' sz sz' : Nat} {e e' : TypeId} {v v' : Value} {xs ys : List Value} (h : w.ownsRow B e sz v n xs) (h' : w.ownsRow B' e' sz' v' n' ys) (he : e ≠ e') : ∀ k, v.ownBlock = some k → v'.ownBlock ≠ some k := fun k hk hk' => by
  rcases h.2 with ⟨rfl, _⟩ | ⟨g, cap, cur, rfl, _, hh, _⟩
  · simp [Value.ownBlock] at hk
  · have : g = k := by simpa [Value.ownBlock] using hk
    subst this
    exact row_apart h' hh he hk'
namespace LS
variable {w w' : World} {B g bm : Nat} {L : Lk} {vw vf vh : Value} {ws : List PV} {xs : List Fl}
theorem ext (q : LS w B g bm L vw vf vh ws xs) (hm : Below w.heap.size w w') : LS w' B g bm L vw vf vh ws xs := ⟨q.q.ext hm, ownsP_ext q.rp hm, ownsP_ext q.rf hm, Nat.le_trans q.hB hm.size⟩
end LS
theorem row_first {e : TypeId} {w : World} {B : Nat} {v : Value} {x : PV} {xs : List PV} (h : RowP e w B v (x :: xs)) : ∃ g1 k1, v = .slice (some ⟨g1, 0, none⟩) (xs.length + 1) k1 ∧ xs.length + 1 ≤ k1 ∧ B ≤ g1 ∧ g1 < w.heap.size ∧ v.ownBlock = some g1 ∧ (w.cell? ⟨g1, 0, none⟩ = some (.bool x.p.first) ∧ w.cell? ⟨g1, 1, none⟩ = some (.bool x.p.last) ∧ w.cell? ⟨g1, 2, none⟩ = some (.slice x.A x.p.data.length x.c)) := by
  have h0 := h
  rcases h.2 with ⟨_, hn⟩ | ⟨g, cap, cur, rfl, hg, hh, hnc, hcm, hcs, hct⟩
  · simp at hn
  · have hc := fun j u hu => h0.cells (g := g) rfl j u hu
    refine ⟨g, cap, rfl, hnc, hg, (Array.getElem?_eq_some_iff.1 hh).1, rfl, ?_, ?_, ?_⟩
    · have := hc 0 _ rfl
      simpa [Addr.add_lit] using this
    · have := hc 1 _ rfl
      simpa [Addr.add_lit] using this
    · have := hc 2 _ rfl
      simpa [Addr.add_lit] using this
theorem row_cells {e : TypeId} {w : World} {B g1 m k1 : Nat} {x : PV} {xs : List PV} (h : w.ownsRow B e 3 (.slice (some ⟨g1, 0, none⟩) m k1) (xs.length + 1) (pvs (x :: xs))) : w.cell? ⟨g1, 0, none⟩ = some (.bool x.p.first) ∧ w.cell? ⟨g1, 1, none⟩ = some (.bool x.p.last) ∧ w.cell? ⟨g1, 2, none⟩ = some (.slice x.A x.p.data.length x.c) := by
  obtain ⟨g, k, hv, -, -, -, -, hc⟩ := row_first h
  injection hv with hv
  injection hv with hv
  injection hv with hv
  subst hv
  exact hc
theorem sl_newF1 (w : World) (y : Fl) : Sl (w.alloc (.cells y.cells.toArray 98)) w.heap.size (some ⟨w.heap.size, 0, none⟩) (fvs [y]) := by
  rw [fvs_cons, show fvs [] = [] from rfl, List.append_nil]
  exact sl_newF _ _ _
/-- room, of a link that lies so. -/
theorem room_any (B g bm : Nat) (L : Lk) (vw vf vh : Value) (ws : List PV) (xs : List Fl) (w : World) (q : LS w B g bm L vw vf vh ws xs) (hx : L.nx < 65536) (hs : ∀ x ∈ xs, x.seq < 65536) :
    Calls Tryd.prog 66 #[.pointer (some ⟨g, 0, none⟩)] w fun e w' => e = .returned (.bool (roomB L.nx xs)) ∧ Below w.heap.size w w' := by
  obtain ⟨A, c, b, rfl, hnc, hcm, hA, hBb, hsl, hk⟩ := ownsP_sl q.rf
  cases xs with
  | nil => exact room_none g bm L vw A c vh w q.q
  | cons x l =>
    obtain ⟨off, rfl, hc⟩ := hsl (by rw [fvs_cons]; simp)
    refine room_some g bm L vw b off _ c x.seq vh w q.q (by simp) hnc (hc 3 _ ?_) (hs x (by simp)) hx
    rw [fvs_cons]
    rfl
end Go.Proofs.YtgpedkdebifooaaDoor
