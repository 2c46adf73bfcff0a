/- Seal: a text and its sum, in memory of its own. Condition: the table is Make's, the text's length fits. -/
import Derived.Test.YtgpedkdebifooaaDoorTailOf
import Derived.Test.YtgpedkdebifooaaDoorBurst
import Derived.Outline
namespace Go.Proofs.YtgpedkdebifooaaDoor
open Go.RowKit

/-- The sum's bytes, one by one. -/
theorem TailOf_four (A : Option Addr) (l : List UInt8) (n c b : Nat) (w : World) (hs : Bs w b A l) (hn : l.length = n) (h2 : n ≤ 140737488355328) :
    Calls Tryd.prog 77 #[.agg (tabTo 256), .slice A n c] w fun e w' => ∃ x y z t : Nat, e = .returned (.agg #[.int .u8 x, .int .u8 y, .int .u8 z, .int .u8 t]) ∧ Hid (bv (low (sumN l) 4) = [.int .u8 x, .int .u8 y, .int .u8 z, .int .u8 t]) ∧ Below w.heap.size w w' := by
  refine (TailOf_calls A l n c b w hs hn h2).mono ?_
  rintro e w' ⟨rfl, hb⟩
  have h := low4_int (sumN l) (sumN_lt l)
  refine ⟨sumN l % 256, sumN l / 256 % 256, sumN l / 65536 % 256, sumN l / 16777216, ?_, Lib.hid ?_, hb⟩
  · rw [h]
    simp only [Int.natCast_emod, Int.natCast_ediv]
    rfl
  · have h2 := congrArg Array.toList h
    simp only [Int.natCast_emod, Int.natCast_ediv]
    simpa using h2
/-- A sealed text. -/
def sealedL (l : List UInt8) : List UInt8 := l ++ low (sumN l) 4
@[simp] theorem sealedL_length (l : List UInt8) : (sealedL l).length = l.length + 4 := by simp [sealedL]

set_option maxHeartbeats 1000000 in
set_option maxRecDepth 20000 in
theorem Seal_calls (A : Option Addr) (l : List UInt8) (n c b : Nat) (w : World) (hs : Bs w b A l) (hn : l.length = n) (h2 : n ≤ 140737488355000) :
    Calls Tryd.prog 48 #[.agg (tabTo 256), .slice A n c] w fun e w' => ∃ v, e = .returned v ∧ Row w' w.heap.size v (sealedL l) ∧ Below w.heap.size w w' := by
  have HN := Lib.hid hn
  clear hn
  go_enter Tryd.func48, Tryd.ntmps48
  go_wp2_with fail
  have hb1 := (Below.refl w.heap.size w).alloc (Nat.le_refl _) (.cells (tabTo 256) 114)
  have hg := heap_alloc_new w (.cells (tabTo 256) 114)
  obtain ⟨W, hW⟩ : ∃ W, W = w.alloc (.cells (tabTo 256) 114) := ⟨_, rfl⟩
  rw [← hW] at hb1 hg ⊢
  clear hW
  have hs1 := Sl.ext hs hb1
  refine wp_load_row 114 _ rfl w.heap.size rfl _ _ _ _ hg table_under rfl (table_size 256) ?_
  go_wp2_with fail
  refine (TailOf_four A l n c b _ hs1 HN.out (by omega)).mono ?_
  rintro e w4 ⟨x, y, z, t, rfl, hE, hb4⟩
  have hs4 := Sl.ext hs1 hb4
  have hb5 := hb1.trans (hb4.mono hb1.size)
  have hb4' := hb4.size
  clear hs1 hb1 hb4 hg hs
  have sx := Sl.cells_new w4 #[.int .u8 (x : Int), .int .u8 (y : Int), .int .u8 (z : Int), .int .u8 (t : Int)] 155
  rw [show (#[Value.int .u8 (x : Int), .int .u8 (y : Int), .int .u8 (z : Int), .int .u8 (t : Int)] : Array Value).toList = bv (low (sumN l) 4) from hE.out.symm] at sx
  have hs5 := hs4.alloc (.cells #[.int .u8 (x : Int), .int .u8 (y : Int), .int .u8 (z : Int), .int .u8 (t : Int)] 155)
  have hb6 := hb5.alloc hb5.size (.cells #[.int .u8 (x : Int), .int .u8 (y : Int), .int .u8 (z : Int), .int .u8 (t : Int)] 155)
  have hz6 : (w4.alloc (.cells #[.int .u8 (x : Int), .int .u8 (y : Int), .int .u8 (z : Int), .int .u8 (t : Int)] 155)).heap.size = w4.heap.size + 1 := by simp
  obtain ⟨i0, hi0, hz0, hz1, hz2⟩ := info_parts byte_info
  obtain ⟨w6, hr, hown, hgr⟩ := run_make_own (P := Tryd.prog) (w4.alloc (.cells #[.int .u8 (x : Int), .int .u8 (y : Int), .int .u8 (z : Int), .int .u8 (t : Int)] 155)) w.heap.size 31 5 i0 _ 1 Tryd.underlying31 hi0 hz0 hz1 .i64 .i64 (n + 4) (by rw [hz2]; omega) (by simp only [maxLen]; omega) hb6.size
  have hr' : (Instr.makeSlice 31 (.int .i64 0) (.int .i64 ((n : Int) + 4))).run Tryd.prog (w4.alloc (.cells #[.int .u8 (x : Int), .int .u8 (y : Int), .int .u8 (z : Int), .int .u8 (t : Int)] 155)) = _ := hr
  have HR := Lib.hid hr'
  have hm6 := Mod.of_grown hgr
  have hs6 := hs5.mod hm6 (by simp)
  have sx6 := sx.mod hm6 (by simp)
  have hb7 := hb6.trans (hm6.below hb6.size (fun i _ h => by simp at h))
  have hz7 := hm6.size
  rw [hz6] at hz7
  have hb6' := hb6.size
  rw [hz6] at hb6'
  have hrow : Row w6 w.heap.size (.slice (some ⟨w4.heap.size + 1, 0, none⟩) 0 (n + 4)) [] := by rw [← hz6]; exact hown
  rw [hz6] at HR
  clear hr hr' hown hgr hi0 hz0 hz1 hz2 hs5 sx hb5 hb6 hm6 hs4
  go_wp2_with fail
  rw [HR.out]
  simp only [Result.andThen_ok]
  have hno : ∀ i, (Value.slice (some ⟨w4.heap.size + 1, 0, none⟩) 0 (n + 4)).ownBlock = some i → w.heap.size ≤ i := by
    intro i hi
    simp [Value.ownBlock] at hi
    omega
  have sx6' : Value.ownBlock (Value.slice (some ⟨w4.heap.size + 1, 0, none⟩) 0 (n + 4)) = some w4.heap.size → False := by simp [Value.ownBlock]
  go_wp2_with (first
    | (at_builtin; refine wpList_app w6 rfl (.tmp 14) (.tmp 15) rfl w.heap.size _ _ rfl hrow b A n c l rfl hs6 HN.out (by simp; omega) hb7.size ?_; intro v7 w7 hrow7 hmod7 hown7; have sx7 := sx6.mod hmod7 sx6'; have hb8 := hb7.trans (hmod7.below hb7.size (fun i hi h => Nat.not_le_of_lt hi (hno i h))); clear hmod7 hs6 sx6 hb7 hrow)
    | (at_builtin; refine wpList_app w7 rfl (.tmp 17) (.tmp 18) rfl w.heap.size _ _ rfl hrow7 w4.heap.size _ 4 4 (low (sumN l) 4) rfl sx7 (by simp) (by have := HN.out; simp; omega) hb8.size ?_; intro v8 w8 hrow8 hmod8 hown8))
  go_ret
  refine ⟨_, rfl, hrow8.cast ?_, hb8.trans (hmod8.below hb8.size (fun i hi h => Nat.not_le_of_lt hi (hrow7.lt i h).1))⟩
  simp [sealedL]
end Go.Proofs.YtgpedkdebifooaaDoor
