/- How a link lies: its ten cells, what waits, what flies. No condition: plain lemmas. -/
import Derived.Test.YtgpedkdebifooaaDoorLkD
namespace Go.Proofs.YtgpedkdebifooaaDoor
open Go.RowKit
set_option linter.unusedVariables false

/-- A piece that flies: its number, whether it was sent, when last. -/
structure Fl where
  p : PV
  seq : Nat
  sent : Bool
  at_ : Int
abbrev Fl.cells (x : Fl) : List Value := [.bool x.p.p.first, .bool x.p.p.last, .slice x.p.A x.p.p.data.length x.p.c, .int .u16 (x.seq : Int), .bool x.sent, .int .i64 x.at_]
def fvs (xs : List Fl) : List Value := xs.flatMap Fl.cells
theorem fvs_cons (x : Fl) (xs : List Fl) : fvs (x :: xs) = x.cells ++ fvs xs := rfl
theorem fvs_append (xs ys : List Fl) : fvs (xs ++ ys) = fvs xs ++ fvs ys := by simp [fvs]
theorem fvs_length (xs : List Fl) : (fvs xs).length = xs.length * 6 := by
  induction xs with
  | nil => rfl
  | cons x l ih => rw [fvs_cons, List.length_append, ih, List.length_cons]; simp; omega
theorem fvs_at : ∀ (xs : List Fl) (k : Nat) (hk : k < xs.length) (j : Nat), j < 6 → (fvs xs)[k * 6 + j]? = xs[k].cells[j]?
  | x :: l, 0, _, j, hj => by
    rw [fvs_cons, List.getElem?_append_left (by simp; omega)]
    simp
  | x :: l, k + 1, hk, j, hj => by
    rw [fvs_cons, List.getElem?_append_right (by simp; omega), show (k + 1) * 6 + j - x.cells.length = k * 6 + j by simp; omega, fvs_at l k (by simpa using hk) j hj]
    simp
theorem fvs_one (xs : List Fl) : ∀ u ∈ fvs xs, u.oneCell' = true := fun u hu => by
  obtain ⟨x, _, hx⟩ := List.mem_flatMap.1 hu
  simp at hx
  rcases hx with rfl | rfl | rfl | rfl | rfl | rfl <;> rfl
/-- What flies, in a slice of the link's own. -/
abbrev RowF (w : World) (B : Nat) (v : Value) (xs : List Fl) : Prop := w.ownsRow B 98 6 v xs.length (fvs xs)
/-- The numbers of a link. -/
structure Lk where
  ep : Nat
  nx : Nat
  cn : Nat
  cb : Nat
  lv : Bool
  ow : Bool
abbrev Lk.cells (L : Lk) (vw vf : Value) (bm : Nat) (vh : Value) : Array Value := #[.int .u16 (L.ep : Int), vw, vf, .int .u16 (L.nx : Int), .int .u16 (L.cn : Int), .int .u32 (L.cb : Int), .map (some bm), vh, .bool L.lv, .bool L.ow]
/-- Block g is a link. -/
def LkB (w : World) (g bm : Nat) (L : Lk) (vw vf vh : Value) : Prop := w.heap[g]? = some (.cells (L.cells vw vf bm vh) 87 (0, 0))
namespace LkB
variable {w w' : World} {g bm : Nat} {L : Lk} {vw vf vh : Value}
theorem lt (q : LkB w g bm L vw vf vh) : g < w.heap.size := (Array.getElem?_eq_some_iff.1 q).1
theorem c0 (q : LkB w g bm L vw vf vh) : w.cell? ⟨g, 0, none⟩ = some (.int .u16 (L.ep : Int)) := by rw [cell_of_row w g 0 _ _ _ q]; rfl
theorem c1 (q : LkB w g bm L vw vf vh) : w.cell? ⟨g, 1, none⟩ = some (vw) := by rw [cell_of_row w g 1 _ _ _ q]; rfl
theorem c2 (q : LkB w g bm L vw vf vh) : w.cell? ⟨g, 2, none⟩ = some (vf) := by rw [cell_of_row w g 2 _ _ _ q]; rfl
theorem c3 (q : LkB w g bm L vw vf vh) : w.cell? ⟨g, 3, none⟩ = some (.int .u16 (L.nx : Int)) := by rw [cell_of_row w g 3 _ _ _ q]; rfl
theorem c4 (q : LkB w g bm L vw vf vh) : w.cell? ⟨g, 4, none⟩ = some (.int .u16 (L.cn : Int)) := by rw [cell_of_row w g 4 _ _ _ q]; rfl
theorem c5 (q : LkB w g bm L vw vf vh) : w.cell? ⟨g, 5, none⟩ = some (.int .u32 (L.cb : Int)) := by rw [cell_of_row w g 5 _ _ _ q]; rfl
theorem c6 (q : LkB w g bm L vw vf vh) : w.cell? ⟨g, 6, none⟩ = some (.map (some bm)) := by rw [cell_of_row w g 6 _ _ _ q]; rfl
theorem c7 (q : LkB w g bm L vw vf vh) : w.cell? ⟨g, 7, none⟩ = some (vh) := by rw [cell_of_row w g 7 _ _ _ q]; rfl
theorem c8 (q : LkB w g bm L vw vf vh) : w.cell? ⟨g, 8, none⟩ = some (.bool L.lv) := by rw [cell_of_row w g 8 _ _ _ q]; rfl
theorem c9 (q : LkB w g bm L vw vf vh) : w.cell? ⟨g, 9, none⟩ = some (.bool L.ow) := by rw [cell_of_row w g 9 _ _ _ q]; rfl
theorem fz (q : LkB w g bm L vw vf vh) (j : Nat) : w.frozen? ⟨g, j, none⟩ = false := frozen_of_row w g j _ _ q
theorem mod {S : Nat → Prop} (q : LkB w g bm L vw vf vh) (hm : Mod S w w') (hs : ¬ S g) : LkB w' g bm L vw vf vh := (hm.block g q.lt hs).trans q
theorem ext (q : LkB w g bm L vw vf vh) (hm : Below w.heap.size w w') : LkB w' g bm L vw vf vh := (hm.block g q.lt).trans q
theorem set1 (q : LkB w g bm L vw vf vh) (v : Value) : LkB (w.setCell ⟨g, 1, none⟩ v) g bm L v vf vh := heap_setCell_same w g 1 _ _ v q
theorem set2 (q : LkB w g bm L vw vf vh) (v : Value) : LkB (w.setCell ⟨g, 2, none⟩ v) g bm L vw v vh := heap_setCell_same w g 2 _ _ v q
theorem set3 (q : LkB w g bm L vw vf vh) (n : Nat) : LkB (w.setCell ⟨g, 3, none⟩ (.int .u16 (n : Int))) g bm { L with nx := n } vw vf vh := heap_setCell_same w g 3 _ _ _ q
theorem set9 (q : LkB w g bm L vw vf vh) (b : Bool) : LkB (w.setCell ⟨g, 9, none⟩ (.bool b)) g bm { L with ow := b } vw vf vh := heap_setCell_same w g 9 _ _ _ q
end LkB
end Go.Proofs.YtgpedkdebifooaaDoor
