/- A variable that lies in a block of one cell: what it reads as, and how that stays. No condition. -/
import Derived.Test.YtgpedkdebifooaaDoorBase
namespace Go.Proofs.YtgpedkdebifooaaDoor
open Go.RowKit

/-- Block g is one cell, v. -/
def Box (w : World) (g : Nat) (v : Value) (t : TypeId) : Prop := w.heap[g]? = some (.cells #[v] t (0, 0))
namespace Box
variable {w w' : World} {g : Nat} {v : Value} {t : TypeId}
theorem new_ (w : World) (v : Value) (t : TypeId) : Box (w.alloc (.cells #[v] t)) w.heap.size v t := heap_alloc_new w _
theorem lt (h : Box w g v t) : g < w.heap.size := (Array.getElem?_eq_some_iff.1 h).1
theorem cell (h : Box w g v t) : w.cell? ⟨g, 0, none⟩ = some v := by
  have := cell_of_row w g 0 _ _ _ h
  simpa using this
theorem frozen (h : Box w g v t) : w.frozen? ⟨g, 0, none⟩ = false := frozen_of_row w g 0 _ _ h
theorem below {B : Nat} (h : Box w g v t) (hb : Below B w w') (hg : g < B) : Box w' g v t := (hb.block g hg).trans h
theorem ext (h : Box w g v t) (hb : Below w.heap.size w w') : Box w' g v t := (hb.block g h.lt).trans h
theorem alloc (h : Box w g v t) (o : Obj) : Box (w.alloc o) g v t := (Below.heap_alloc w o g h.lt).trans h
theorem set_ (h : Box w g v t) (u : Value) : Box (w.setCell ⟨g, 0, none⟩ u) g u t := heap_setCell_same w g 0 _ _ u h
theorem other (h : Box w g v t) {p : Addr} (hp : g ≠ p.block) (u : Value) : Box (w.setCell p u) g v t := (heap_setCell_other w p g u hp).trans h
theorem drew (h : Box w g v t) : Box w.drew g v t := h
theorem drewN (h : Box w g v t) (n : Nat) : Box (w.drewN n) g v t := h
theorem mod {S : Nat → Prop} (h : Box w g v t) (hm : Mod S w w') (hs : ¬ S g) : Box w' g v t := (hm.block g h.lt hs).trans h
end Box
end Go.Proofs.YtgpedkdebifooaaDoor
