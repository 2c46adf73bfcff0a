/- The reference's acks, laid in new memory. No condition. -/
import Derived.Test.YtdkfmgadipfipaaDoorRefNote
namespace Go.Proofs.YtdkfmgadipfipaaDoor
open Go.RowKit
theorem made_eq (w : World) (c cs : Array Value) (t : TypeId) : (w.alloc (.cells c t)).setRow w.heap.size cs = w.alloc (.cells cs t) := by
  unfold World.setRow World.alloc
  congr 1
  apply Array.ext
  · simp
  · intro k h1 h2
    simp only [Array.getElem_modify, Array.getElem_push]
    by_cases h : k < w.heap.size
    · rw [if_neg (by omega), dif_pos h, dif_pos h]
    · have hk : w.heap.size = k := by simp at h2; omega
      rw [if_pos hk, dif_neg h, dif_neg h]
theorem BoxR.made (w : World) (x : Nat) (f : Nat → Bool) : (storeCells ⟨w.heap.size, 0, none⟩ (raF x f).toList 0).run Tryd.prog (w.alloc (.cells #[.int .u16 0, .bool false, .bool false, .bool false, .bool false, .bool false, .bool false, .bool false, .bool false, .bool false, .bool false, .bool false, .bool false, .bool false, .bool false, .bool false, .bool false, .bool false, .bool false, .bool false, .bool false, .bool false, .bool false, .bool false, .bool false, .bool false, .bool false, .bool false, .bool false, .bool false, .bool false, .bool false, .bool false] 37)) = .ok () (w.alloc (.cells (raF x f) 37)) := by
  have h := BoxR.new_ w 0 (fun _ => false)
  rw [raF_lit0] at h
  rw [h.store, made_eq]
end Go.Proofs.YtdkfmgadipfipaaDoor
