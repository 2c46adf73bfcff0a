/- The law's awake: the document's example. No condition. -/
import Derived.Test.YtgpedkdebifooaaDoorTableSum
import Derived.Lib.SlBytesConst
namespace Go.Proofs.YtgpedkdebifooaaDoor
open Go.RowKit

theorem Sl.cells_new' (w : World) (cs : Array Value) (t : TypeId) (fr : Nat × Nat) : Sl (w.alloc (.cells cs t fr)) w.heap.size (some ⟨w.heap.size, 0, none⟩) cs.toList := fun _ =>
  ⟨0, rfl, fun j u hu => by
    rw [Nat.zero_add, cell_of_row _ _ _ cs t fr (heap_alloc_new w _)]
    simpa using hu⟩
end Go.Proofs.YtgpedkdebifooaaDoor
