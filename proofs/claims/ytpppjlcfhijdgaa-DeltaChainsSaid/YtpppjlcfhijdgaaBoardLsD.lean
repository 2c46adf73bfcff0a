/- The board's calls, over lists of cells; the arms of a walk that meets whole boards. Conditions: a board has 48 cells at most; the cells fit. -/
import Derived.Test.YtpppjlcfhijdgaaBoardRowD
namespace Go.Proofs.Ytpppjlcfhijdgaa
open Go.RowKit

theorem made_row (w : World) (c cs : Array Value) (t : TypeId) : (w.alloc (.cells c t)).setRow w.heap.size cs = w.alloc (.cells cs t) := by
  unfold World.setRow World.alloc
  congr 1
  apply Array.ext
  · simp
  · intro k h1 h2
    simp only [Array.getElem_modify, Array.getElem_push]
    by_cases h : k < w.heap.size
    · rw [if_neg (by omega), dif_pos h, dif_pos h]
    · have hk : w.heap.size = k := by simp at h2; omega
      rw [if_pos hk, dif_neg h, dif_neg h]
/-- Block b holds the board of these cells. -/
def BoxL (w : World) (b : Nat) (L : List (Int × Nat)) : Prop := w.heap[b]? = some (.cells (bdL L) 32 (0, 0))
namespace BoxL
variable {w w' : World} {b : Nat} {L : List (Int × Nat)}
theorem new_ (w : World) (L : List (Int × Nat)) : BoxL (w.alloc (.cells (bdL L) 32)) w.heap.size L := heap_alloc_new w _
theorem lt (h : BoxL w b L) : b < w.heap.size := (Array.getElem?_eq_some_iff.1 h).1
theorem ext (h : BoxL w b L) (hb : Below w.heap.size w w') : BoxL w' b L := (hb.block b h.lt).trans h
theorem below {B : Nat} (h : BoxL w b L) (hb : Below B w w') (hB : b < B) : BoxL w' b L := (hb.block b hB).trans h
theorem alloc (h : BoxL w b L) (o : Obj) : BoxL (w.alloc o) b L := (Below.heap_alloc w o b h.lt).trans h
theorem other (h : BoxL w b L) {p : Addr} (hp : b ≠ p.block) (u : Value) : BoxL (w.setCell p u) b L := (heap_setCell_other w p b u hp).trans h
theorem row_ (h : BoxL w b L) (M : List (Int × Nat)) : BoxL (w.setRow b (bdL M)) b M := setRow_heap w b _ _ _ _ h
theorem orow (h : BoxL w b L) {b' : Nat} (hp : b ≠ b') (cs : Array Value) : BoxL (w.setRow b' cs) b L := (setRow_other w b' b cs hp).trans h
theorem mod {S : Nat → Prop} (h : BoxL w b L) (hm : Mod S w w') (hs : ¬ S b) : BoxL w' b L := (hm.block b h.lt hs).trans h
end BoxL
section
variable {ops : Array Oper} {rest : List Oper} {o : Oper} {a : Act} {w : World} {Q : Exit → Act → World → Prop}
theorem wpList_ld (hw : Region.wanted o (yielded ops a.tmps) = true) (s : Operand) (ho : o.op = .load 32 s)
    (b : Nat) (hx : a.eval s = .pointer (some ⟨b, 0, none⟩)) (L : List (Int × Nat)) (q : BoxL w b L) (h : wpList Try.prog ops Q rest (a.put o.dst (.agg (bdL L))) w) : wpList Try.prog ops Q (o :: rest) a w :=
  wpList_load_bd hw s ho b hx _ _ _ q h
theorem wpList_al (hg : o.guard = none) (ho : o.op = .alloc 32) (dst : Option Tmp) (hdst : o.dst = dst) (N : Nat) (hN : w.heap.size = N)
    (h : wpList Try.prog ops Q rest (a.put dst (.pointer (some ⟨N, 0, none⟩))) (w.alloc (.cells (bdL []) 32))) : wpList Try.prog ops Q (o :: rest) a w :=
  wpList_alloc_bd hg ho dst hdst N hN h
theorem wpList_st (hg : o.guard = none) (x y : Operand) (ho : o.op = .store 32 x y)
    (b : Nat) (L M : List (Int × Nat)) (hx : a.eval x = .pointer (some ⟨b, 0, none⟩)) (hy : a.eval y = .agg (bdL M)) (q : BoxL w b L)
    (h : wpList Try.prog ops Q rest (a.put o.dst undef) (w.setRow b (bdL M))) : wpList Try.prog ops Q (o :: rest) a w :=
  wpList_store_bd hg x y ho b _ _ _ hx hy _ _ _ q h
/-- The first store into a board's variable that was just made. -/
theorem wpList_put {N : Nat} (hg : o.guard = none) (x y : Operand) (ho : o.op = .store 32 x y) (hN : w.heap.size = N)
    (M : List (Int × Nat)) (hx : a.eval x = .pointer (some ⟨N, 0, none⟩)) (hy : a.eval y = .agg (bdL M))
    (h : wpList Try.prog ops Q rest (a.put o.dst undef) (w.alloc (.cells (bdL M) 32))) : wpList Try.prog ops Q (o :: rest) a (w.alloc (.cells (bdL []) 32)) := by
  subst hN
  refine wpList_st hg x y ho _ [] M hx hy (BoxL.new_ w []) ?_
  rw [made_row]
  exact h
end
theorem View_calls (L : List (Int × Nat)) (o : Int) (w : World) (hL : L.length ≤ 48) (hok : okC L) :
    Calls Try.prog 18 #[.agg (bdL L), .int .i64 o] w fun e w' => e = .returned (.agg (bdL (viewL o L))) ∧ Below w.heap.size w w' := by
  have h := bView_calls (bdF L) (bdG L) L.length o w hL (fun i hi => by rw [bdG_in hi]; exact (okC_get hok hi).2)
  have e : bdA (fun j => if j < L.length ∧ sees (bdG L j) o = false then 0 else bdF L j) (bdG L) L.length = bdL (viewL o L) := by
    unfold bdL
    rw [viewL_length]
    refine bdA_congr (fun j _ => ?_) (fun j _ => ?_)
    · by_cases hj : j < L.length
      · rw [bdF_in (L := viewL o L) (by simpa using hj), bdG_in hj, bdF_in hj]
        simp only [viewL, List.getElem_map, seeC]
        cases h : sees L[j].2 o <;> simp [hj]
      · rw [if_neg (by omega), bdF_out (L := L) (by omega), bdF_out (L := viewL o L) (by simp; omega)]
    · by_cases hj : j < L.length
      · rw [bdG_in (L := viewL o L) (by simpa using hj), bdG_in hj]
        simp [viewL, seeC_lab]
      · rw [bdG_out (L := L) (by omega), bdG_out (L := viewL o L) (by simp; omega)]
  rw [e] at h
  exact h
theorem At_in (L : List (Int × Nat)) (i : Nat) (w : World) (hL : L.length ≤ 48) (hi : i < L.length) :
    Calls Try.prog 31 #[.agg (bdL L), .int .i64 i] w fun e w' => e = .returned (.tuple #[.agg #[.int .i32 L[i].1, .int .u32 ((L[i].2 : Nat) : Int)], .bool true]) ∧ Below w.heap.size w w' := by
  have h := bAt_in (bdF L) (bdG L) L.length i w hi hL
  rw [bdF_in hi, bdG_in hi] at h
  exact h
theorem At_out (L : List (Int × Nat)) (i : Int) (w : World) (hi : ¬(0 ≤ i ∧ i < (L.length : Int))) :
    Calls Try.prog 31 #[.agg (bdL L), .int .i64 i] w fun e w' => e = .returned (.tuple #[.agg #[.int .i32 0, .int .u32 0], .bool false]) ∧ Below w.heap.size w w' :=
  bAt_out _ _ _ i w hi
theorem Put_in (L : List (Int × Nat)) (i : Nat) (x : Int) (y : Nat) (w : World) (hL : L.length ≤ 48) (hi : i < L.length) :
    Calls Try.prog 32 #[.agg (bdL L), .int .i64 i, .agg #[.int .i32 x, .int .u32 (y : Int)]] w fun e w' => e = .returned (.tuple #[.agg (bdL (L.set i (x, y))), .int .i64 0]) ∧ Below w.heap.size w w' := by
  have h := bPut_in (bdF L) (bdG L) L.length i x y w hi hL
  rw [bdL_set (x, y) hi] at h
  exact h
theorem Put_out (L : List (Int × Nat)) (i : Int) (x : Int) (y : Nat) (w : World) (hi : ¬(0 ≤ i ∧ i < (L.length : Int))) :
    Calls Try.prog 32 #[.agg (bdL L), .int .i64 i, .agg #[.int .i32 x, .int .u32 (y : Int)]] w fun e w' => e = .returned (.tuple #[.agg (bdL L), .int .i64 7]) ∧ Below w.heap.size w w' :=
  bPut_out _ _ _ i x y w hi
theorem Len_calls (L : List (Int × Nat)) (w : World) :
    Calls Try.prog 44 #[.agg (bdL L)] w fun e w' => e = .returned (.int .i64 (L.length : Int)) ∧ Below w.heap.size w w' := bLen_calls _ _ _ w
end Go.Proofs.Ytpppjlcfhijdgaa
