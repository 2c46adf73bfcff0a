/- tailOf: a text's sum, as four bytes, the lowest first. Condition: the table is Make's. -/
import Derived.Test.YtgpedkdebifooaaDoorWaxAwake
namespace Go.Proofs.YtgpedkdebifooaaDoor
open Go.RowKit

theorem put4 {w : World} {g : Nat} {a b c d a' b' c' d' : Value} {t : TypeId} (h : w.heap[g]? = some (.cells #[a, b, c, d] t (0, 0))) :
    ((((w.setCell ⟨g, 0, none⟩ a').setCell ⟨g, 1, none⟩ b').setCell ⟨g, 2, none⟩ c').setCell ⟨g, 3, none⟩ d').heap[g]? = some (.cells #[a', b', c', d'] t (0, 0)) := by
  have h0 : (w.setCell ⟨g, 0, none⟩ a').heap[g]? = some (.cells #[a', b, c, d] t (0, 0)) := heap_setCell_same w g 0 _ _ a' h
  have h1 : ((w.setCell ⟨g, 0, none⟩ a').setCell ⟨g, 1, none⟩ b').heap[g]? = some (.cells #[a', b', c, d] t (0, 0)) := heap_setCell_same _ g 1 _ _ b' h0
  have h2 : (((w.setCell ⟨g, 0, none⟩ a').setCell ⟨g, 1, none⟩ b').setCell ⟨g, 2, none⟩ c').heap[g]? = some (.cells #[a', b', c', d] t (0, 0)) := heap_setCell_same _ g 2 _ _ c' h1
  exact heap_setCell_same _ g 3 _ _ d' h2
theorem low4_int (v : Nat) (h : v < 2 ^ 32) : (bv (low v 4)).toArray = #[Value.int .u8 ((v : Int) % 256), .int .u8 ((v : Int) / 256 % 256), .int .u8 ((v : Int) / 65536 % 256), .int .u8 ((v : Int) / 16777216)] := by
  simp only [low, bv, List.range_succ_eq_map, List.range_zero, List.map_cons, List.map_nil, UInt8.toNat_ofNat']
  simp
  omega
set_option maxHeartbeats 1000000 in
set_option maxRecDepth 20000 in
theorem TailOf_calls (A : Option Addr) (l : List UInt8) (n c b : Nat) (w : World) (hs : Bs w b A l) (hn : l.length = n) (h2 : n ≤ 140737488355328) :
    Calls Tryd.prog 77 #[.agg (tabTo 256), .slice A n c] w fun e w' => e = .returned (.agg (bv (low (sumN l) 4)).toArray) ∧ Below w.heap.size w w' := by
  have HN := Lib.hid hn
  clear hn
  go_enter Tryd.func77, Tryd.ntmps77
  go_wp2_with fail
  have hb1 : Below w.heap.size w ((w.alloc (.cells (tabTo 256) 114)).alloc (.cells #[.int .u8 0, .int .u8 0, .int .u8 0, .int .u8 0] 155)) := ((Below.refl _ _).alloc (Nat.le_refl _) _).alloc (by simp) _
  have hg : ((w.alloc (.cells (tabTo 256) 114)).alloc (.cells #[.int .u8 0, .int .u8 0, .int .u8 0, .int .u8 0] 155)).heap[w.heap.size]? = some (.cells (tabTo 256) 114 (0, 0)) := (Below.heap_alloc _ _ _ (by simp)).trans (heap_alloc_new w _)
  have hr := heap_alloc2_new w (.cells (tabTo 256) 114) (.cells #[.int .u8 0, .int .u8 0, .int .u8 0, .int .u8 0] 155)
  have hz : w.heap.size + 2 ≤ ((w.alloc (.cells (tabTo 256) 114)).alloc (.cells #[.int .u8 0, .int .u8 0, .int .u8 0, .int .u8 0] 155)).heap.size := by simp
  obtain ⟨W, hW⟩ : ∃ W, W = (w.alloc (.cells (tabTo 256) 114)).alloc (.cells #[.int .u8 0, .int .u8 0, .int .u8 0, .int .u8 0] 155) := ⟨_, rfl⟩
  rw [← hW] at hb1 hg hr hz ⊢
  clear hW
  have hs1 := Sl.ext hs hb1
  refine wp_load_row 114 _ rfl w.heap.size rfl _ _ _ _ hg table_under rfl (table_size 256) ?_
  go_wp2_with fail
  have hx : Below W.heap.size W (W.alloc (.cells #[.slice A n c] 31)) := (Below.refl _ _).alloc (Nat.le_refl _) _
  refine (TableSum_calls _ [.slice A n c] [l] 1 1 W.heap.size _ (Sl.cells_new W _ _) ((Bss.cons hs1 HN.out (Bss.nil_ _)).ext hx) rfl (by simp [maxLen]) (by have := HN.out; simp; omega)).mono ?_
  rintro e w4 ⟨rfl, hb4⟩
  have hr4 := (hb4.block (w.heap.size + 1) (Nat.lt_of_lt_of_le (by omega) hx.size)).trans ((hx.block _ (by omega)).trans hr)
  have hb5 := (hb1.trans (hx.mono (by omega))).trans (hb4.mono (Nat.le_trans (by omega) hx.size))
  rw [show ([l] : List (List UInt8)).flatten = l by simp]
  have hsl := sumN_lt l
  obtain ⟨v, hv⟩ : ∃ v, v = sumN l := ⟨_, rfl⟩
  rw [← hv] at hsl ⊢
  have p0 := cell_of_row w4 (w.heap.size + 1) 0 _ _ _ hr4
  have p1 := cell_of_row w4 (w.heap.size + 1) 1 _ _ _ hr4
  have p2 := cell_of_row w4 (w.heap.size + 1) 2 _ _ _ hr4
  have p3 := cell_of_row w4 (w.heap.size + 1) 3 _ _ _ hr4
  simp at p0 p1 p2 p3
  have f0 := frozen_of_row w4 (w.heap.size + 1) 0 _ _ hr4
  have f1 := frozen_of_row w4 (w.heap.size + 1) 1 _ _ hr4
  have f2 := frozen_of_row w4 (w.heap.size + 1) 2 _ _ hr4
  have f3 := frozen_of_row w4 (w.heap.size + 1) 3 _ _ hr4
  have HR := Lib.hid hr4
  have HV := Lib.hid hv
  clear hx hb4 hb1 hg hr hs1 hs hr4 hv
  go_wp2_with fail
  have hE := put4 (a' := .int .u8 ((v : Int) % 256)) (b' := .int .u8 ((v : Int) / 256 % 256)) (c' := .int .u8 ((v : Int) / 65536 % 256)) (d' := .int .u8 ((v : Int) / 16777216)) HR.out
  refine bodyPost_ret (results_cell_row (P := Tryd.prog) rfl _ _ (w.heap.size + 1) _ _ (0, 0) (.array 4 5) rfl hE (by kernel_rfl) rfl (by kernel_rfl)) rfl ?_
  refine ⟨by rw [← HV.out, low4_int v hsl], (((hb5.setCell ?_ _).setCell ?_ _).setCell ?_ _).setCell ?_ _⟩ <;> simp
end Go.Proofs.YtgpedkdebifooaaDoor
