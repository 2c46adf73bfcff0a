/- The law's awake: the document's example. No condition. -/
import Derived.Test.YtjamkjkjnkiniaaTableSum
import Derived.Lib.SlBytesConst
namespace Go.Proofs.Ytjamkjkjnkiniaa
open Go.RowKit

theorem example_sum : sumN ([[49, 50, 51, 52, 53], [54, 55, 56, 57]] : List (List UInt8)).flatten = 3808858755 := by decide +kernel
theorem Sl.cells_new' (w : World) (cs : Array Value) (t : TypeId) (fr : Nat × Nat) : Sl (w.alloc (.cells cs t fr)) w.heap.size (some ⟨w.heap.size, 0, none⟩) cs.toList := fun _ =>
  ⟨0, rfl, fun j u hu => by
    rw [Nat.zero_add, cell_of_row _ _ _ cs t fr (heap_alloc_new w _)]
    simpa using hu⟩
set_option maxHeartbeats 1000000 in
set_option maxRecDepth 20000 in
theorem awake_calls (w : World) : Calls Try.prog 8 #[] w fun e w' => e = .returned (.bool true) ∧ Below w.heap.size w w' := by
  go_enter Try.func8, Try.ntmps8
  go_wp2_with fail
  refine (Make_calls _).mono ?_
  rintro e w1 ⟨rfl, hb1⟩
  go_wp2_with fail
  rw [Lib.run_convert_bytes_const w1 _ 5 _ 5 5 (by kernel_rfl) (by kernel_rfl)]
  simp only [Result.andThen_ok]
  have a1 := Sl.cells_new' w1 #[.int .u8 49, .int .u8 50, .int .u8 51, .int .u8 52, .int .u8 53] 5 (5, 6)
  have c1 : Below w1.heap.size w1 (w1.alloc (.cells #[.int .u8 49, .int .u8 50, .int .u8 51, .int .u8 52, .int .u8 53] 5 (5, 6))) := (Below.refl _ _).alloc (Nat.le_refl _) _
  obtain ⟨w2, hw2⟩ : ∃ w2, w2 = w1.alloc (.cells #[.int .u8 49, .int .u8 50, .int .u8 51, .int .u8 52, .int .u8 53] 5 (5, 6)) := ⟨_, rfl⟩
  rw [← hw2] at a1 c1
  rw [show (Obj.cells #[.int .u8 49, .int .u8 50, .int .u8 51, .int .u8 52, .int .u8 53] 5 ((#[.int .u8 49, .int .u8 50, .int .u8 51, .int .u8 52, .int .u8 53] : Array Value).size, (#[.int .u8 49, .int .u8 50, .int .u8 51, .int .u8 52, .int .u8 53] : Array Value).size + 1)) = .cells #[.int .u8 49, .int .u8 50, .int .u8 51, .int .u8 52, .int .u8 53] 5 (5, 6) from rfl, ← hw2]
  clear hw2
  go_wp2_with fail
  rw [Lib.run_convert_bytes_const w2 _ 5 _ 4 4 (by kernel_rfl) (by kernel_rfl)]
  simp only [Result.andThen_ok]
  have a2 := Sl.cells_new' w2 #[.int .u8 54, .int .u8 55, .int .u8 56, .int .u8 57] 5 (4, 5)
  have c2 : Below w2.heap.size w2 (w2.alloc (.cells #[.int .u8 54, .int .u8 55, .int .u8 56, .int .u8 57] 5 (4, 5))) := (Below.refl _ _).alloc (Nat.le_refl _) _
  obtain ⟨w3, hw3⟩ : ∃ w3, w3 = w2.alloc (.cells #[.int .u8 54, .int .u8 55, .int .u8 56, .int .u8 57] 5 (4, 5)) := ⟨_, rfl⟩
  rw [← hw3] at a2 c2
  rw [show (Obj.cells #[.int .u8 54, .int .u8 55, .int .u8 56, .int .u8 57] 5 ((#[.int .u8 54, .int .u8 55, .int .u8 56, .int .u8 57] : Array Value).size, (#[.int .u8 54, .int .u8 55, .int .u8 56, .int .u8 57] : Array Value).size + 1)) = .cells #[.int .u8 54, .int .u8 55, .int .u8 56, .int .u8 57] 5 (4, 5) from rfl, ← hw3]
  clear hw3
  go_wp2_with fail
  have c3 : Below w3.heap.size w3 (w3.alloc (.cells #[.slice (some ⟨w1.heap.size, 0, none⟩) 5 5, .slice (some ⟨w2.heap.size, 0, none⟩) 4 4] 22)) := (Below.refl _ _).alloc (Nat.le_refl _) _
  have s1 : Bs w2 w1.heap.size (some ⟨w1.heap.size, 0, none⟩) [49, 50, 51, 52, 53] := a1
  have s2 : Bs w3 w2.heap.size (some ⟨w2.heap.size, 0, none⟩) [54, 55, 56, 57] := a2
  refine (TableSum_calls _ [.slice (some ⟨w1.heap.size, 0, none⟩) 5 5, .slice (some ⟨w2.heap.size, 0, none⟩) 4 4] [[49, 50, 51, 52, 53], [54, 55, 56, 57]] 2 2 w3.heap.size _ (Sl.cells_new w3 _ _) ((Bss.cons (Sl.ext s1 c2) rfl (Bss.cons s2 rfl (Bss.nil_ _))).ext c3) rfl (by simp [maxLen]) (by simp)).mono ?_
  rintro e w4 ⟨rfl, hb4⟩
  rw [example_sum]
  have h12 := c1.size
  have h23 := c2.size
  have h34 := c3.size
  have hb5 := (((hb1.trans (c1.mono hb1.size)).trans (c2.mono (by have := hb1.size; omega))).trans (c3.mono (by have := hb1.size; omega))).trans (hb4.mono (Nat.le_trans (by have := hb1.size; omega) h34))
  clear a1 a2 s1 s2 c1 c2 c3 hb1 hb4 h12 h23 h34
  go_wp2_with fail
  go_ret
  exact ⟨rfl, hb5⟩
end Go.Proofs.Ytjamkjkjnkiniaa
