/- The reference's row of what has come: how it lies, and Bits, Has, Of. Conditions: the numbers fit. -/
import Derived.Test.YtdkfmgadipfipaaDoorRefTo
namespace Go.Proofs.YtdkfmgadipfipaaDoor
open Go.RowKit

/-- The cells of the reference's acks: the number, and the flags. -/
def raF (x : Nat) (f : Nat → Bool) : Array Value := (Value.int .u16 (x : Int) :: (List.range 32).map fun i => Value.bool (f i)).toArray
theorem raF_size (x : Nat) (f : Nat → Bool) : (raF x f).size = 33 := by simp [raF]
theorem raF_zero (x : Nat) (f : Nat → Bool) : (raF x f)[0]? = some (.int .u16 (x : Int)) := by simp [raF]
theorem raF_get {x : Nat} {f : Nat → Bool} {i : Nat} (h : i < 32) : (raF x f)[1 + i]? = some (.bool (f i)) := by
  rw [Nat.add_comm]
  simp [raF, List.getElem?_range h]
theorem raF_set {x : Nat} {f : Nat → Bool} {k : Nat} (b : Bool) (_h : k < 32) : (raF x f).setIfInBounds (1 + k) (.bool b) = raF x (fun i => if i = k then b else f i) := by
  apply Array.ext_getElem?
  intro i
  rw [Array.getElem?_setIfInBounds, raF_size]
  rcases Nat.eq_zero_or_pos i with rfl | h0
  · rw [if_neg (by omega), raF_zero, raF_zero]
  · obtain ⟨j, rfl⟩ : ∃ j, i = 1 + j := ⟨i - 1, by omega⟩
    by_cases hj : j < 32
    · rw [raF_get hj, raF_get hj]
      by_cases e : j = k
      · subst e; simp; omega
      · rw [if_neg (by omega), if_neg e]
    · rw [Array.getElem?_eq_none (by rw [raF_size]; omega), Array.getElem?_eq_none (by rw [raF_size]; omega)]
      split
      · omega
      · rfl
theorem raF_set0 (x y : Nat) (f : Nat → Bool) : (raF x f).setIfInBounds 0 (.int .u16 (y : Int)) = raF y f := by simp [raF]
theorem raF_congr {x : Nat} {f g : Nat → Bool} (h : ∀ i, i < 32 → f i = g i) : raF x f = raF x g := by
  unfold raF
  congr 2
  apply List.map_congr_left
  intro i hi
  rw [h i (List.mem_range.1 hi)]
theorem raF_all (x : Nat) (f : Nat → Bool) : (raF x f).all (·.oneCell') = true := by simp [raF, Value.oneCell']
theorem raF_lit (x : Nat) : raF x (fun _ => false) = #[.int .u16 (x : Int), .bool false, .bool false, .bool false, .bool false, .bool false, .bool false, .bool false, .bool false, .bool false, .bool false, .bool false, .bool false, .bool false, .bool false, .bool false, .bool false, .bool false, .bool false, .bool false, .bool false, .bool false, .bool false, .bool false, .bool false, .bool false, .bool false, .bool false, .bool false, .bool false, .bool false, .bool false, .bool false] := by simp [raF, List.range, List.range.loop]
theorem raF_lit0 : raF 0 (fun _ => false) = #[.int .u16 0, .bool false, .bool false, .bool false, .bool false, .bool false, .bool false, .bool false, .bool false, .bool false, .bool false, .bool false, .bool false, .bool false, .bool false, .bool false, .bool false, .bool false, .bool false, .bool false, .bool false, .bool false, .bool false, .bool false, .bool false, .bool false, .bool false, .bool false, .bool false, .bool false, .bool false, .bool false, .bool false] := raF_lit 0
abbrev raT : TypeId := 37
theorem ra_size (x : Nat) (f : Nat → Bool) : (Tryd.prog.info? 37).map (·.size) = some (raF x f).size := by rw [raF_size]; kernel_rfl
theorem ra_zero (w : World) : (zeroValue 37).run Tryd.prog w = .ok (.agg (raF 0 (fun _ => false))) w := by kernel_rfl
/-- Block g holds the acks. -/
def BoxR (w : World) (g : Nat) (x : Nat) (f : Nat → Bool) : Prop := w.heap[g]? = some (.cells (raF x f) 37 (0, 0))
namespace BoxR
variable {w w' : World} {g x : Nat} {f : Nat → Bool}
theorem new_ (w : World) (x : Nat) (f : Nat → Bool) : BoxR (w.alloc (.cells (raF x f) 37)) w.heap.size x f := heap_alloc_new w _
theorem lt (h : BoxR w g x f) : g < w.heap.size := (Array.getElem?_eq_some_iff.1 h).1
theorem c0 (h : BoxR w g x f) : w.cell? ⟨g, 0, none⟩ = some (.int .u16 (x : Int)) := by rw [cell_of_row w g 0 _ _ _ h]; exact raF_zero x f
theorem ck (h : BoxR w g x f) {k : Nat} (hk : k < 32) : w.cell? ⟨g, 1 + k, none⟩ = some (.bool (f k)) := by rw [cell_of_row w g (1 + k) _ _ _ h]; exact raF_get hk
theorem fr (h : BoxR w g x f) (j : Nat) : w.frozen? ⟨g, j, none⟩ = false := frozen_of_row w g j _ _ h
theorem ext (h : BoxR w g x f) (hb : Below w.heap.size w w') : BoxR w' g x f := (hb.block g h.lt).trans h
theorem alloc (h : BoxR w g x f) (o : Obj) : BoxR (w.alloc o) g x f := (Below.heap_alloc w o g h.lt).trans h
theorem set0 (h : BoxR w g x f) (y : Nat) : BoxR (w.setCell ⟨g, 0, none⟩ (.int .u16 (y : Int))) g y f := by
  have := heap_setCell_same w g 0 _ _ (.int .u16 (y : Int)) h
  rwa [raF_set0] at this
theorem setk (h : BoxR w g x f) {k : Nat} (hk : k < 32) (b : Bool) : BoxR (w.setCell ⟨g, 1 + k, none⟩ (.bool b)) g x (fun i => if i = k then b else f i) := by
  have := heap_setCell_same w g (1 + k) _ _ (.bool b) h
  rwa [raF_set b hk] at this
theorem congr {f' : Nat → Bool} (h : BoxR w g x f) (e : ∀ i, i < 32 → f i = f' i) : BoxR w g x f' := by
  unfold BoxR at *
  rwa [← raF_congr e]
theorem other (h : BoxR w g x f) {p : Addr} (hp : g ≠ p.block) (u : Value) : BoxR (w.setCell p u) g x f := (heap_setCell_other w p g u hp).trans h
theorem row_ (h : BoxR w g x f) (y : Nat) (e : Nat → Bool) : BoxR (w.setRow g (raF y e)) g y e := setRow_heap w g _ _ _ _ h
theorem orow (h : BoxR w g x f) {g' : Nat} (hp : g ≠ g') (cs : Array Value) : BoxR (w.setRow g' cs) g x f := (setRow_other w g' g cs hp).trans h
theorem store (h : BoxR w g x f) (y : Nat) (e : Nat → Bool) : (storeCells ⟨g, 0, none⟩ (raF y e).toList 0).run Tryd.prog w = .ok () (w.setRow g (raF y e)) := by
  have := run_storeCells_from (P := Tryd.prog) g _ (raF y e).toList 0 _ w h (by simp [raF_size]) (fun v hv => (Array.all_eq_true_iff_forall_mem.1 (raF_all y e)) v (by simpa using hv))
  rw [List.take_zero, List.nil_append, Array.toArray_toList] at this
  exact this
end BoxR
theorem below_setRow {B : Nat} {a w : World} (h : Below B a w) (g : Nat) (cs : Array Value) (hg : B ≤ g) : Below B a (w.setRow g cs) :=
  h.trans ⟨rfl, rfl, rfl, by simp, fun k hk => setRow_other w g k cs (by omega)⟩

theorem half_lt {y k : Nat} (hy : y < 4294967296) : y / 2 ^ (k + 1) < 2147483648 := by
  rw [Nat.div_lt_iff_lt_mul (Nat.two_pow_pos _)]
  have h1 : 2 ^ 1 ≤ 2 ^ (k + 1) := Nat.pow_le_pow_right (by omega) (by omega)
  have h2 : 2147483648 * 2 ^ 1 ≤ 2147483648 * 2 ^ (k + 1) := Nat.mul_le_mul_left _ h1
  omega
set_option maxHeartbeats 4000000 in
set_option maxRecDepth 20000 in
theorem RefBits_calls (x y : Nat) (w : World) (hy : y < 4294967296) :
    Calls Tryd.prog 18 #[.agg (raF x y.testBit)] w fun e w' => e = .returned (.int .u32 (y : Int)) ∧ Below w.heap.size w w' := by
  have q0 := BoxR.new_ w x y.testBit
  have hb := below_alloc1 w (.cells (raF x y.testBit) 37)
  go_enter Tryd.func18, Tryd.ntmps18
  go_wp2_with fail
  go_loopw [3, 4] (fun nn k wr => ∃ j : Nat, j ≤ 32 ∧ k = .int .i64 ((j : Int) - 1) ∧ nn = .int .u32 ((y / 2 ^ j : Nat) : Int) ∧ wr = w.alloc (.cells (raF x y.testBit) 37)) (fun _ k _ => (intOf k + 1).toNat)
  case atStart => exact ⟨32, Nat.le_refl _, by go_num, by rw [show y / 2 ^ 32 = 0 by omega]; rfl, rfl⟩
  case round =>
    obtain ⟨j, hj, rfl, rfl, rfl⟩ := hrel
    by_cases h0 : j = 0
    · subst h0
      go_wp2_with fail
      go_ret
      refine ⟨?_, hb⟩
      show Ending.returned (Value.int .u32 ((y / 2 ^ 0 : Nat) : Int)) = _
      rw [Nat.pow_zero, Nat.div_one]
    · obtain ⟨m, rfl⟩ : ∃ m, j = m + 1 := ⟨j - 1, by omega⟩
      have hc := q0.ck (k := m) (by omega)
      have hl := half_lt (k := m) hy
      have hh := half_bit y m
      obtain ⟨P, hP⟩ : ∃ P, P = y / 2 ^ (m + 1) := ⟨_, rfl⟩
      obtain ⟨N, hN⟩ : ∃ N, N = y / 2 ^ m := ⟨_, rfl⟩
      rw [← hP] at hl hh ⊢
      rw [← hN] at hh
      have HN := Lib.hid hN
      have e1 : (m : Int) < 32 := by omega
      have hw : IntKind.u32.wrap ((P : Int) * 2) = (P : Int) * 2 := IntWalk.u32_in _ (by omega)
      clear hN hP
      cases hbit : y.testBit m with
      | true =>
        rw [hbit] at hc
        rw [hbit, if_pos rfl] at hh
        clear hbit
        have hw2 : IntKind.u32.wrap ((P : Int) * 2 + 1) = (P : Int) * 2 + 1 := IntWalk.u32_in _ (by omega)
        go_wp2_with fail
        go_roundw
        case rel => exact ⟨m, by omega, by go_num, by rw [← HN.out, hh]; go_num, trivial⟩
        case measure => simp [intOf]
      | false =>
        rw [hbit] at hc
        rw [hbit, if_neg (by simp)] at hh
        clear hbit
        go_wp2_with fail
        go_roundw
        case rel => exact ⟨m, by omega, by go_num, by rw [← HN.out, hh]; go_num, trivial⟩
        case measure => simp [intOf]
set_option maxHeartbeats 4000000 in
set_option maxRecDepth 20000 in
theorem RefHas_calls (x y s : Nat) (w : World) (hx : x < 65536) (hs : s < 65536) :
    Calls Tryd.prog 15 #[.agg (raF x y.testBit), .int .u16 s] w fun e w' => e = .returned (.bool (hasN x y s)) ∧ Below w.heap.size w w' := by
  have q0 := BoxR.new_ w x y.testBit
  have hb := below_alloc1 w (.cells (raF x y.testBit) 37)
  have hT := fun W => RefTo_calls x s W hx hs
  have hu : hasN x y s = (decide (toI x s < 0) || (decide (0 < toI x s) && decide (toI x s ≤ 32) && y.testBit (toI x s - 1).toNat)) := rfl
  obtain ⟨lo, hi⟩ := toI_bounds x s
  obtain ⟨d, hd⟩ : ∃ d, d = toI x s := ⟨_, rfl⟩
  rw [← hd] at hT hu lo hi
  rw [hu]
  have c0 := q0.c0
  clear hd hu hx hs
  by_cases h1 : d < 0
  · have e1 : decide (d < 0) = true := by simpa using h1
    rw [e1, Bool.true_or]
    go_enter Tryd.func15, Tryd.ntmps15
    go_wp2_with fail
    refine (hT _).mono ?_
    rintro e w1 ⟨rfl, rfl⟩
    go_wp2_with fail
    go_ret
    exact ⟨rfl, hb⟩
  · have e1 : decide (d < 0) = false := by simpa using h1
    rw [e1, Bool.false_or]
    by_cases h2 : 0 < d
    · have e2 : decide (0 < d) = true := by simpa using h2
      rw [e2, Bool.true_and]
      by_cases h3 : d ≤ 32
      · obtain ⟨k, rfl⟩ : ∃ k : Nat, d = (k : Int) + 1 := ⟨(d - 1).toNat, by omega⟩
        have e3 : decide ((k : Int) + 1 ≤ 32) = true := by simpa using h3
        rw [e3, Bool.true_and, show ((k : Int) + 1 - 1).toNat = k by omega]
        have hc := q0.ck (k := k) (by omega)
        have e4 : (k : Int) < 32 := by omega
        obtain ⟨B, hB⟩ : ∃ B, B = y.testBit k := ⟨_, rfl⟩
        rw [← hB] at hc ⊢
        clear e1 e2 e3 h1 h2 h3 hB lo hi
        go_enter Tryd.func15, Tryd.ntmps15
        go_wp2_with fail
        refine (hT _).mono ?_
        rintro e w1 ⟨rfl, rfl⟩
        go_wp2_with fail
        go_ret
        exact ⟨rfl, hb⟩
      · have e3 : decide (d ≤ 32) = false := by simpa using h3
        have e4 : ¬ (d < 33) := by omega
        rw [e3, Bool.false_and]
        go_enter Tryd.func15, Tryd.ntmps15
        go_wp2_with fail
        refine (hT _).mono ?_
        rintro e w1 ⟨rfl, rfl⟩
        go_wp2_with fail
        go_ret
        exact ⟨rfl, hb⟩
    · have e2 : decide (0 < d) = false := by simpa using h2
      rw [e2, Bool.false_and, Bool.false_and]
      go_enter Tryd.func15, Tryd.ntmps15
      go_wp2_with fail
      refine (hT _).mono ?_
      rintro e w1 ⟨rfl, rfl⟩
      go_wp2_with fail
      go_ret
      exact ⟨rfl, hb⟩
end Go.Proofs.YtdkfmgadipfipaaDoor
