/- A delta as it lies: a tick, a sum, its places, its cells; and the plain words of Of: the places that were touched, below k. Conditions: those said. -/
import Derived.Test.YtpppjlcfhijdgaaBoardRefD
import Derived.Test.YtpppjlcfhijdgaaPenByte
namespace Go.Proofs.Ytpppjlcfhijdgaa
open Go.RowKit

/-- Block b holds a delta. -/
def BoxD (w : World) (b : Nat) (t h : Nat) (vp vc : Value) : Prop := w.heap[b]? = some (.cells #[.int .u32 (t : Int), .int .u32 (h : Int), vp, vc] 38 (0, 0))
namespace BoxD
variable {w w' : World} {b t h : Nat} {vp vc : Value}
theorem new_ (w : World) (t h : Nat) (vp vc : Value) : BoxD (w.alloc (.cells #[.int .u32 (t : Int), .int .u32 (h : Int), vp, vc] 38)) w.heap.size t h vp vc := heap_alloc_new w _
theorem lt (q : BoxD w b t h vp vc) : b < w.heap.size := (Array.getElem?_eq_some_iff.1 q).1
theorem c0 (q : BoxD w b t h vp vc) : w.cell? ⟨b, 0, none⟩ = some (.int .u32 (t : Int)) := by rw [cell_of_row w b 0 _ _ _ q]; rfl
theorem c1 (q : BoxD w b t h vp vc) : w.cell? ⟨b, 1, none⟩ = some (.int .u32 (h : Int)) := by rw [cell_of_row w b 1 _ _ _ q]; rfl
theorem c2 (q : BoxD w b t h vp vc) : w.cell? ⟨b, 2, none⟩ = some vp := by rw [cell_of_row w b 2 _ _ _ q]; rfl
theorem c3 (q : BoxD w b t h vp vc) : w.cell? ⟨b, 3, none⟩ = some vc := by rw [cell_of_row w b 3 _ _ _ q]; rfl
theorem fr (q : BoxD w b t h vp vc) (j : Nat) : w.frozen? ⟨b, j, none⟩ = false := frozen_of_row w b j _ _ q
theorem ext (q : BoxD w b t h vp vc) (hb : Below w.heap.size w w') : BoxD w' b t h vp vc := (hb.block b q.lt).trans q
theorem alloc (q : BoxD w b t h vp vc) (o : Obj) : BoxD (w.alloc o) b t h vp vc := (Below.heap_alloc w o b q.lt).trans q
theorem mod {S : Nat → Prop} (q : BoxD w b t h vp vc) (hm : Mod S w w') (hs : ¬ S b) : BoxD w' b t h vp vc := (hm.block b q.lt hs).trans q
theorem set1 (q : BoxD w b t h vp vc) (u : Nat) : BoxD (w.setCell ⟨b, 1, none⟩ (.int .u32 (u : Int))) b t u vp vc := heap_setCell_same w b 1 _ _ _ q
theorem set2 (q : BoxD w b t h vp vc) (u : Value) : BoxD (w.setCell ⟨b, 2, none⟩ u) b t h u vc := heap_setCell_same w b 2 _ _ _ q
theorem set3 (q : BoxD w b t h vp vc) (u : Value) : BoxD (w.setCell ⟨b, 3, none⟩ u) b t h vp u := heap_setCell_same w b 3 _ _ _ q
theorem other (q : BoxD w b t h vp vc) {p : Addr} (hp : b ≠ p.block) (u : Value) : BoxD (w.setCell p u) b t h vp vc := (heap_setCell_other w p b u hp).trans q
end BoxD
/-- A row's block is no block of another type. -/
theorem own_ne {w : World} {B n sz : Nat} {e t : TypeId} {v : Value} {xs : List Value} (hr : w.ownsRow B e sz v n xs) {g : Nat} {cs : Array Value} {fr : Nat × Nat} (hg : w.heap[g]? = some (.cells cs t fr)) (ht : t ≠ e) : v.ownBlock ≠ some g := by
  intro hv
  rcases hr.2 with ⟨rfl, _⟩ | ⟨g', cap, cur, rfl, _, hh, _⟩
  · simp [Value.ownBlock] at hv
  · have : g' = g := by simpa [Value.ownBlock] using hv
    subst this
    rw [hh] at hg
    injection hg with hg
    injection hg with _ h2 _
    exact ht h2.symm
/-- The places below k that were touched. -/
def placesTo (t k : Nat) : List Nat := (List.range k).filter fun i => t.testBit i
def placesB (t k : Nat) : List UInt8 := (placesTo t k).map UInt8.ofNat
/-- The cells there. -/
def cellsTo (V : List (Int × Nat)) (t k : Nat) : List (Int × Nat) := (placesTo t k).map fun i => V.getD i (0, 0)
theorem placesTo_hit {t k : Nat} (h : t.testBit k = true) : placesTo t (k + 1) = placesTo t k ++ [k] := by simp [placesTo, List.range_succ, List.filter_append, h]
theorem placesTo_miss {t k : Nat} (h : t.testBit k = false) : placesTo t (k + 1) = placesTo t k := by simp [placesTo, List.range_succ, List.filter_append, h]
theorem placesB_hit {t k : Nat} (h : t.testBit k = true) : placesB t (k + 1) = placesB t k ++ [UInt8.ofNat k] := by simp [placesB, placesTo_hit h]
theorem placesB_miss {t k : Nat} (h : t.testBit k = false) : placesB t (k + 1) = placesB t k := by simp [placesB, placesTo_miss h]
theorem cellsTo_hit {V : List (Int × Nat)} {t k : Nat} (hk : k < V.length) (h : t.testBit k = true) : cellsTo V t (k + 1) = cellsTo V t k ++ [V[k]] := by simp [cellsTo, placesTo_hit h, List.getD, hk]
theorem cellsTo_miss {V : List (Int × Nat)} {t k : Nat} (h : t.testBit k = false) : cellsTo V t (k + 1) = cellsTo V t k := by simp [cellsTo, placesTo_miss h]
theorem placesTo_len (t k : Nat) : (placesTo t k).length ≤ k := by
  have := List.length_filter_le (fun i => t.testBit i) (List.range k)
  simpa [placesTo] using this
@[simp] theorem placesB_len (t k : Nat) : (placesB t k).length = (placesTo t k).length := by simp [placesB]
@[simp] theorem cellsTo_len (V : List (Int × Nat)) (t k : Nat) : (cellsTo V t k).length = (placesTo t k).length := by simp [cellsTo]
theorem placesTo_mem {t k i : Nat} : i ∈ placesTo t k ↔ i < k ∧ t.testBit i = true := by simp [placesTo]
/-- The bit of a place, as Of asks for it. -/
theorem bit_asked (t k : Nat) (h : t ≤ 18446744073709551615) : (bits .and .u64 ((t : Int) / 2 ^ k) 1 == 1) = t.testBit k := by
  have hd : t / 2 ^ k ≤ 18446744073709551615 := Nat.le_trans (Nat.div_le_self _ _) h
  have e : ((t : Int) / 2 ^ k) = ((t / 2 ^ k : Nat) : Int) := by simp
  have h1 := bits_and_u64_nat (t / 2 ^ k) 1 (by omega) (by omega)
  rw [e]
  rw [show (1 : Int) = ((1 : Nat) : Int) from rfl, h1, Nat.and_one_is_mod, Nat.testBit_eq_decide_div_mod_eq, Bool.eq_iff_iff]
  simp only [beq_iff_eq, decide_eq_true_eq]
  omega
end Go.Proofs.Ytpppjlcfhijdgaa
