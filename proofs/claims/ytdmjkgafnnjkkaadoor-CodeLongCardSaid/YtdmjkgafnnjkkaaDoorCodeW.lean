/- The document's example holds. Condition: the tables lie. -/
import Derived.Test.YtdmjkgafnnjkkaaDoorCodeL
namespace Go.Proofs.YtdmjkgafnnjkkaaDoor
open Go.RowKit

theorem line_set : lineB 1 1 0 0 (-5) 0 = [115, 101, 116, 32, 49, 32, 48, 32, 48, 32, 45, 53, 32, 45] := by
  have d5 : Lib.decDigits 5 = [53] := by rw [Lib.decDigits]; rfl
  have d1 : Lib.decDigits 1 = [49] := by rw [Lib.decDigits]; rfl
  have d0 : Lib.decDigits 0 = [48] := by rw [Lib.decDigits]; rfl
  have w1 : wordAt 1 = [115, 101, 116] := rfl
  have n5 : Int.natAbs (-5) = 5 := rfl
  unfold lineB textN Lib.itoa
  rw [w1]
  simp [n5, d5, d0, d1, Lib.join]
theorem stop_right : checkV [⟨0, 0, 0, 0, 0, 0⟩] 1 1 = (0, true) := by decide +kernel
theorem ok_stop : (Cd.mk 0 0 0 0 0 0).Ok := ⟨by decide, by decide, by decide, by decide, by decide, by decide, by decide⟩
theorem okK_one {c : Cd} (h : c.Ok) : okK [c] := fun x hx => by
  rw [List.mem_singleton] at hx
  subst hx
  exact h
theorem sl_new (w : World) (vs : List Value) (t : TypeId) : Sl (w.alloc (.cells vs.toArray t)) w.heap.size (some ⟨w.heap.size, 0, none⟩) vs := fun _ => ⟨0, rfl, fun j u hu => by
  rw [Nat.zero_add, cell_of_row _ _ j _ _ _ (heap_alloc_new w (.cells vs.toArray t))]
  simpa using hu⟩
set_option maxRecDepth 20000 in
theorem Awake_calls (w : World) (hT : AllT w) : Calls Tryd.prog 10 #[] w fun e w' => e = .returned (.bool true) ∧ Below w.heap.size w w' := by
  have hX := CText_in 1 1 0 0 (-5) 0 ⟨by decide, by decide, by decide, by decide, by decide, by decide, by decide⟩ (by omega) w hT
  rw [line_set] at hX
  go_enter Tryd.func10, Tryd.ntmps10
  go_wp2_with fail
  refine hX.mono ?_
  rintro e w1 ⟨rfl, hb⟩
  have hT1 := hT.ext hb
  clear hX hT
  have hR := Right_calls (some ⟨w1.heap.size, 0, none⟩) [⟨0, 0, 0, 0, 0, 0⟩] 1 1 w1.heap.size 1 1 (w1.alloc (.cells #[.int .u8 0, .int .u8 0, .int .u8 0, .int .u8 0, .int .i32 0, .int .u32 0] 33)) (sl_new w1 (kv [⟨0, 0, 0, 0, 0, 0⟩]) _) rfl (by decide) (okK_one ok_stop) (by decide) (by decide) (hT1.ext (below_alloc1 _ _)).c
  rw [stop_right] at hR
  have hb2 := hb.trans ((below_alloc1 w1 (.cells #[.int .u8 0, .int .u8 0, .int .u8 0, .int .u8 0, .int .i32 0, .int .u32 0] 33)).mono hb.size)
  clear hT1
  go_wp2_with fail
  refine hR.mono ?_
  rintro e w2 ⟨rfl, h9⟩
  have hb3 := hb2.trans (h9.mono hb2.size)
  clear h9 hb hb2 hR
  go_wp2
  go_ret
  exact ⟨rfl, hb3⟩
end Go.Proofs.YtdmjkgafnnjkkaaDoor
