/- A board: how it lies, flat: 48 cells of a value and a label, and how many there are. No condition beyond those said. -/
import Derived.Test.YtpppjlcfhijdgaaRows
import Derived.Test.YtpppjlcfhijdgaaBox
import Derived.Deep.MidRow
namespace Go.Proofs.Ytpppjlcfhijdgaa
open Go.RowKit

/-- The cells of a board: f tells the values, g the labels, n how many there are. -/
def bdC (f : Nat → Int) (g : Nat → Nat) (j : Nat) : Value := if j % 2 = 0 then .int .i32 (f (j / 2)) else .int .u32 ((g (j / 2) : Nat) : Int)
def bdA (f : Nat → Int) (g : Nat → Nat) (n : Nat) : Array Value := ((List.range 96).map (bdC f g) ++ [Value.int .i64 (n : Int)]).toArray
theorem bdA_size (f : Nat → Int) (g : Nat → Nat) (n : Nat) : (bdA f g n).size = 97 := by simp [bdA]
theorem bdA_get {f : Nat → Int} {g : Nat → Nat} {n j : Nat} (h : j < 96) : (bdA f g n)[j]? = some (bdC f g j) := by
  simp [bdA, List.getElem?_append, h]
theorem bdA_len (f : Nat → Int) (g : Nat → Nat) (n : Nat) : (bdA f g n)[96]? = some (.int .i64 (n : Int)) := by simp [bdA]
theorem bdC_val (f : Nat → Int) (g : Nat → Nat) (i : Nat) : bdC f g (i * 2) = .int .i32 (f i) := by
  unfold bdC; rw [if_pos (by omega), show i * 2 / 2 = i by omega]
theorem bdC_lab (f : Nat → Int) (g : Nat → Nat) (i : Nat) : bdC f g (i * 2 + 1) = .int .u32 ((g i : Nat) : Int) := by
  unfold bdC; rw [if_neg (by omega), show (i * 2 + 1) / 2 = i by omega]
theorem bdA_val {f : Nat → Int} {g : Nat → Nat} {n i : Nat} (h : i < 48) : (bdA f g n)[i * 2]? = some (.int .i32 (f i)) := by rw [bdA_get (by omega), bdC_val]
theorem bdA_lab {f : Nat → Int} {g : Nat → Nat} {n i : Nat} (h : i < 48) : (bdA f g n)[i * 2 + 1]? = some (.int .u32 ((g i : Nat) : Int)) := by rw [bdA_get (by omega), bdC_lab]
theorem bdA_ext {A : Array Value} {f : Nat → Int} {g : Nat → Nat} {n : Nat} (hs : A.size = 97) (h1 : ∀ i, i < 48 → A[i * 2]? = some (.int .i32 (f i))) (h2 : ∀ i, i < 48 → A[i * 2 + 1]? = some (.int .u32 ((g i : Nat) : Int))) (h3 : A[96]? = some (.int .i64 (n : Int))) : A = bdA f g n := by
  apply Array.ext_getElem?
  intro j
  rcases Nat.lt_or_ge j 97 with h | h
  · by_cases e : j = 96
    · subst e; rw [h3, bdA_len]
    · rcases Nat.mod_two_eq_zero_or_one j with hj | hj
      · obtain ⟨i, rfl⟩ : ∃ i, j = i * 2 := ⟨j / 2, by omega⟩
        rw [h1 i (by omega), bdA_val (by omega)]
      · obtain ⟨i, rfl⟩ : ∃ i, j = i * 2 + 1 := ⟨j / 2, by omega⟩
        rw [h2 i (by omega), bdA_lab (by omega)]
  · rw [Array.getElem?_eq_none (by rw [hs]; exact h), Array.getElem?_eq_none (by rw [bdA_size]; exact h)]
theorem bdA_setVal {f : Nat → Int} {g : Nat → Nat} {n k : Nat} (x : Int) (hk : k < 48) : (bdA f g n).setIfInBounds (k * 2) (.int .i32 x) = bdA (fun i => if i = k then x else f i) g n := by
  refine bdA_ext (by rw [Array.size_setIfInBounds, bdA_size]) (fun i hi => ?_) (fun i hi => ?_) ?_
  · rw [Array.getElem?_setIfInBounds, bdA_size]
    by_cases e : i = k
    · subst e; rw [if_pos rfl, if_pos (by omega), if_pos rfl]
    · rw [if_neg (by omega), if_neg e, bdA_val hi]
  · rw [Array.getElem?_setIfInBounds, if_neg (by omega), bdA_lab hi]
  · rw [Array.getElem?_setIfInBounds, if_neg (by omega), bdA_len]
theorem bdA_setLab {f : Nat → Int} {g : Nat → Nat} {n k : Nat} (x : Nat) (hk : k < 48) : (bdA f g n).setIfInBounds (k * 2 + 1) (.int .u32 (x : Int)) = bdA f (fun i => if i = k then x else g i) n := by
  refine bdA_ext (by rw [Array.size_setIfInBounds, bdA_size]) (fun i hi => ?_) (fun i hi => ?_) ?_
  · rw [Array.getElem?_setIfInBounds, if_neg (by omega), bdA_val hi]
  · rw [Array.getElem?_setIfInBounds, bdA_size]
    by_cases e : i = k
    · subst e; rw [if_pos rfl, if_pos (by omega), if_pos rfl]
    · rw [if_neg (by omega), if_neg e, bdA_lab hi]
  · rw [Array.getElem?_setIfInBounds, if_neg (by omega), bdA_len]
theorem bdA_congr {f f' : Nat → Int} {g g' : Nat → Nat} {n : Nat} (h1 : ∀ i, i < 48 → f i = f' i) (h2 : ∀ i, i < 48 → g i = g' i) : bdA f g n = bdA f' g' n :=
  bdA_ext (bdA_size _ _ _) (fun i hi => by rw [bdA_val hi, h1 i hi]) (fun i hi => by rw [bdA_lab hi, h2 i hi]) (bdA_len _ _ _)
theorem bdA_all (f : Nat → Int) (g : Nat → Nat) (n : Nat) : (bdA f g n).all (·.oneCell') = true := by
  rw [Array.all_eq_true_iff_forall_mem]
  intro v hv
  simp only [bdA, List.mem_toArray, List.mem_append, List.mem_map, List.mem_singleton] at hv
  rcases hv with ⟨j, _, rfl⟩ | rfl
  · unfold bdC; split <;> rfl
  · rfl
theorem bd_size (f : Nat → Int) (g : Nat → Nat) (n : Nat) : (Try.prog.info? 32).map (·.size) = some (bdA f g n).size := by rw [bdA_size]; kernel_rfl
theorem bd_zero (w : World) : (zeroValue 32).run Try.prog w = .ok (.agg (bdA (fun _ => 0) (fun _ => 0) 0)) w := by kernel_rfl
/-- Block b holds the board. -/
def BoxB (w : World) (b : Nat) (f : Nat → Int) (g : Nat → Nat) (n : Nat) : Prop := w.heap[b]? = some (.cells (bdA f g n) 32 (0, 0))
namespace BoxB
variable {w w' : World} {b n : Nat} {f : Nat → Int} {g : Nat → Nat}
theorem new_ (w : World) (f : Nat → Int) (g : Nat → Nat) (n : Nat) : BoxB (w.alloc (.cells (bdA f g n) 32)) w.heap.size f g n := heap_alloc_new w _
theorem lt (h : BoxB w b f g n) : b < w.heap.size := (Array.getElem?_eq_some_iff.1 h).1
theorem cv (h : BoxB w b f g n) {i : Nat} (hi : i < 48) : w.cell? ⟨b, i * 2, none⟩ = some (.int .i32 (f i)) := by rw [cell_of_row w b (i * 2) _ _ _ h]; exact bdA_val hi
theorem cl (h : BoxB w b f g n) {i : Nat} (hi : i < 48) : w.cell? ⟨b, i * 2 + 1, none⟩ = some (.int .u32 ((g i : Nat) : Int)) := by rw [cell_of_row w b (i * 2 + 1) _ _ _ h]; exact bdA_lab hi
theorem cn (h : BoxB w b f g n) : w.cell? ⟨b, 96, none⟩ = some (.int .i64 (n : Int)) := by rw [cell_of_row w b 96 _ _ _ h]; exact bdA_len f g n
theorem fr (h : BoxB w b f g n) (j : Nat) : w.frozen? ⟨b, j, none⟩ = false := frozen_of_row w b j _ _ h
theorem ext (h : BoxB w b f g n) (hb : Below w.heap.size w w') : BoxB w' b f g n := (hb.block b h.lt).trans h
theorem alloc (h : BoxB w b f g n) (o : Obj) : BoxB (w.alloc o) b f g n := (Below.heap_alloc w o b h.lt).trans h
theorem setVal (h : BoxB w b f g n) {k : Nat} (hk : k < 48) (x : Int) : BoxB (w.setCell ⟨b, k * 2, none⟩ (.int .i32 x)) b (fun i => if i = k then x else f i) g n := by
  have := heap_setCell_same w b (k * 2) _ _ (.int .i32 x) h
  rwa [bdA_setVal x hk] at this
theorem setLab (h : BoxB w b f g n) {k : Nat} (hk : k < 48) (x : Nat) : BoxB (w.setCell ⟨b, k * 2 + 1, none⟩ (.int .u32 (x : Int))) b f (fun i => if i = k then x else g i) n := by
  have := heap_setCell_same w b (k * 2 + 1) _ _ (.int .u32 (x : Int)) h
  rwa [bdA_setLab x hk] at this
theorem congr {f' : Nat → Int} {g' : Nat → Nat} (h : BoxB w b f g n) (h1 : ∀ i, i < 48 → f i = f' i) (h2 : ∀ i, i < 48 → g i = g' i) : BoxB w b f' g' n := by
  unfold BoxB at *
  rwa [← bdA_congr h1 h2]
theorem other (h : BoxB w b f g n) {p : Addr} (hp : b ≠ p.block) (u : Value) : BoxB (w.setCell p u) b f g n := (heap_setCell_other w p b u hp).trans h
theorem row_ (h : BoxB w b f g n) (f' : Nat → Int) (g' : Nat → Nat) (n' : Nat) : BoxB (w.setRow b (bdA f' g' n')) b f' g' n' := setRow_heap w b _ _ _ _ h
theorem orow (h : BoxB w b f g n) {b' : Nat} (hp : b ≠ b') (cs : Array Value) : BoxB (w.setRow b' cs) b f g n := (setRow_other w b' b cs hp).trans h
theorem store (h : BoxB w b f g n) (f' : Nat → Int) (g' : Nat → Nat) (n' : Nat) : (storeCells ⟨b, 0, none⟩ (bdA f' g' n').toList 0).run Try.prog w = .ok () (w.setRow b (bdA f' g' n')) := by
  have := run_storeCells_from (P := Try.prog) b _ (bdA f' g' n').toList 0 _ w h (by simp [bdA_size]) (fun v hv => (Array.all_eq_true_iff_forall_mem.1 (bdA_all f' g' n')) v (by simpa using hv))
  rw [List.take_zero, List.nil_append, Array.toArray_toList] at this
  exact this
theorem load (h : BoxB w b f g n) : (Instr.loadAt 32 (.pointer (some ⟨b, 0, none⟩))).run Try.prog w = .ok (.agg (bdA f g n)) w := by
  simp only [Instr.loadAt, Instr.sureAddr, Sem.run_bind, Sem.run_pure, Result.andThen_ok, run_loadVar_row w b _ 32 (bdA f g n) (0, 0) _ h Try.underlying32 rfl (bd_size _ _ _)]
end BoxB
theorem wpList_load_bd {ops : Array Oper} {rest : List Oper} {o : Oper} {a : Act} {w : World} {Q : Exit → Act → World → Prop} (hw : Region.wanted o (yielded ops a.tmps) = true) (s : Operand) (ho : o.op = .load 32 s)
    (b : Nat) (hx : a.eval s = .pointer (some ⟨b, 0, none⟩)) (f : Nat → Int) (g : Nat → Nat) (n : Nat) (q : BoxB w b f g n) (h : wpList Try.prog ops Q rest (a.put o.dst (.agg (bdA f g n))) w) : wpList Try.prog ops Q (o :: rest) a w :=
  BigFrame.wpList_want hw fun _ hK => wp_load_row 32 s ho b hx _ _ _ _ q Try.underlying32 rfl (bd_size _ _ _) (hK _ _ h)
theorem below_setRow {B : Nat} {a w : World} (h : Below B a w) (g : Nat) (cs : Array Value) (hg : B ≤ g) : Below B a (w.setRow g cs) :=
  h.trans ⟨rfl, rfl, rfl, by simp, fun k hk => setRow_other w g k cs (by omega)⟩
end Go.Proofs.Ytpppjlcfhijdgaa
