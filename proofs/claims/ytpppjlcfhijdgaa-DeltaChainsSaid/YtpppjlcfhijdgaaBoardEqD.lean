/- When two boards, or two cells, are the same to Go's own test. No condition. -/
import Derived.Test.YtpppjlcfhijdgaaBoardNewD
namespace Go.Proofs.Ytpppjlcfhijdgaa
open Go.RowKit

theorem cell_under : ∃ f0 f1 : Field, Try.prog.underlying 29 = some (.struct #[f0, f1]) ∧ f0.name ≠ "_" ∧ f1.name ≠ "_" ∧ f0.type = 21 ∧ f1.type = 27 ∧ f0.offset = 0 ∧ f1.offset = 1 :=
  ⟨_, _, Try.underlying29, by decide, by decide, rfl, rfl, rfl, rfl⟩
theorem board_under : ∃ f0 f1 : Field, Try.prog.underlying 32 = some (.struct #[f0, f1]) ∧ f0.name ≠ "_" ∧ f1.name ≠ "_" ∧ f0.type = 30 ∧ f1.type = 3 ∧ f0.offset = 0 ∧ f1.offset = 96 :=
  ⟨_, _, Try.underlying32, by decide, by decide, rfl, rfl, rfl, rfl⟩
theorem cell_held : Try.prog.stoodInHeld 29 = false := by kernel_rfl
theorem board_held : Try.prog.stoodInHeld 32 = false := by kernel_rfl
/-- The flat cells alone. -/
def cellsA (f : Nat → Int) (g : Nat → Nat) : Array Value := ((List.range 96).map (bdC f g)).toArray
theorem cellsA_at (f : Nat → Int) (g : Nat → Nat) {i : Nat} (hi : i < 48) : (cellsA f g).extract (i * 2) (i * 2 + 2) = #[.int .i32 (f i), .int .u32 ((g i : Nat) : Int)] := by
  apply Array.ext'
  have h : ((List.range 96).map (bdC f g)).drop (i * 2) = bdC f g (i * 2) :: bdC f g (i * 2 + 1) :: ((List.range 96).map (bdC f g)).drop (i * 2 + 2) := by
    rw [List.drop_eq_getElem_cons (by simp; omega), List.drop_eq_getElem_cons (by simp; omega)]
    simp
  simp only [cellsA, List.extract_toArray, List.extract_eq_take_drop]
  rw [show i * 2 + 2 - i * 2 = 2 by omega, h]
  simp [bdC_val, bdC_lab]
theorem bdA_cells (f : Nat → Int) (g : Nat → Nat) (n : Nat) : (bdA f g n).extract 0 96 = cellsA f g := by
  apply Array.ext'
  simp only [bdA, cellsA, List.extract_toArray, List.extract_eq_take_drop]
  simp
section
variable (w : World)
theorem part_at (f : Nat → Int) (g : Nat → Nat) {i : Nat} (hi : i < 48) : (part 29 (cellsA f g) (i * 2)).run Try.prog w = .ok (.agg #[.int .i32 (f i), .int .u32 ((g i : Nat) : Int)]) w := by
  obtain ⟨i0, hi0, _, hz1, _⟩ := info_parts cellB_info
  simp [part, isAgg, run_underlying Try.underlying29, sizeOf, typeInfo, hi0, hz1, cellsA_at f g hi]
theorem run_equal_cell (d : Nat) (x x' : Int) (y y' : Nat) : (Op.equalIn (d + 2) 29 (.agg #[.int .i32 x, .int .u32 (y : Int)]) (.agg #[.int .i32 x', .int .u32 (y' : Int)])).run Try.prog w = .ok (x == x' && y == y') w := by
  obtain ⟨f0, f1, hu, h0, h1, t0, t1, o0, o1⟩ := cell_under
  have hf : Try.prog.fieldsOf 29 = #[f0, f1] := by simp [Program.fieldsOf, hu]
  rw [run_equalIn_struct w (d + 1) _ _ _ (by rw [hf]; exact hu) cell_held, hf]
  simp [Op.eqFields, h0, h1, t0, t1, o0, o1, part, isAgg, run_underlying Try.underlying21, run_underlying Try.underlying27, run_equalIn_int w d _ .i32 .i32 _ _ Try.underlying21, run_equalIn_int w d _ .u32 .u32 _ _ Try.underlying27]
  by_cases e : x = x' <;> by_cases e2 : y = y' <;> simp [e, e2, Int.natCast_inj]
theorem run_equal_cells (d : Nat) (f f' : Nat → Int) (g g' : Nat → Nat) : (Op.equalIn (d + 3) 30 (.agg (cellsA f g)) (.agg (cellsA f' g'))).run Try.prog w = .ok ((List.range 48).all fun i => f i == f' i && g i == g' i) w := by
  obtain ⟨i0, hi0, _, hz1, _⟩ := info_parts cellB_info
  have hsz : ∀ w, (sizeOf 29).run Try.prog w = .ok 2 w := fun w => by simp [sizeOf, typeInfo, hi0, hz1]
  rw [List.range_eq_range', Op.equalIn]
  simp only [Sem.run_bind, run_underlying Try.underlying30, Result.andThen_ok, hsz, Std.Legacy.Range.forIn_eq_forIn_range', Std.Legacy.Range.size, Nat.sub_zero, Nat.add_sub_cancel, Nat.div_one]
  have hl : ∀ i ∈ List.range' 0 48 1, i < 48 := fun i hi => by simpa using (List.mem_range'_1.1 hi).2
  generalize List.range' 0 48 1 = l at hl ⊢
  induction l with
  | nil => simp
  | cons i l ih =>
    have hi : i < 48 := hl i (by simp)
    simp only [List.forIn_cons, Sem.run_bind, part_at w f g hi, part_at w f' g' hi, run_equal_cell w d, Result.andThen_ok, List.all_cons]
    cases hb : (f i == f' i && g i == g' i)
    · simp
    · simp only [Bool.not_true, Bool.false_eq_true, if_false, Sem.run_pure, Result.andThen_ok, Bool.true_and]
      exact ih fun j hj => hl j (by simp [hj])
theorem cells_info : ∃ i : TypeInfo, Try.prog.info? 30 = some i ∧ i.size = 96 := by
  have hz : (Try.prog.info? 30).map (·.size) = some 96 := by kernel_rfl
  cases hi : Try.prog.info? 30 with
  | none => rw [hi] at hz; cases hz
  | some i => exact ⟨i, rfl, by rw [hi] at hz; simpa using hz⟩
theorem part_cells (f : Nat → Int) (g : Nat → Nat) (n : Nat) : (part 30 (bdA f g n) 0).run Try.prog w = .ok (.agg (cellsA f g)) w := by
  obtain ⟨i, hi, hs⟩ := cells_info
  have e := bdA_cells f g n
  obtain ⟨X, hX⟩ : ∃ X, X = bdA f g n := ⟨_, rfl⟩
  obtain ⟨Y, hY⟩ : ∃ Y, Y = cellsA f g := ⟨_, rfl⟩
  rw [← hX, ← hY] at e
  rw [← hX, ← hY]
  clear hX hY
  simp [part, isAgg, run_underlying Try.underlying30, sizeOf, typeInfo, hi, hs, e]
theorem part_len (f : Nat → Int) (g : Nat → Nat) (n : Nat) : (part 3 (bdA f g n) 96).run Try.prog w = .ok (.int .i64 (n : Int)) w := by
  have e := bdA_len f g n
  obtain ⟨X, hX⟩ : ∃ X, X = bdA f g n := ⟨_, rfl⟩
  rw [← hX] at e
  rw [← hX]
  clear hX
  simp [part, isAgg, run_underlying Try.underlying3, e]
theorem run_equal_bd (d : Nat) (f f' : Nat → Int) (g g' : Nat → Nat) (n n' : Nat) (q : Bool) (hq : q = true ↔ bdA f g n = bdA f' g' n') : (Op.equalIn (d + 3 + 1) 32 (.agg (bdA f g n)) (.agg (bdA f' g' n'))).run Try.prog w = .ok q w := by
  obtain ⟨f0, f1, hu, h0, h1, t0, t1, o0, o1⟩ := board_under
  have hf : Try.prog.fieldsOf 32 = #[f0, f1] := by simp [Program.fieldsOf, hu]
  rw [run_equalIn_struct w (d + 3) _ _ _ (by rw [hf]; exact hu) board_held, hf]
  have hc := run_equal_cells w d f f' g g'
  obtain ⟨r, hr⟩ : ∃ r, r = (List.range 48).all (fun i => f i == f' i && g i == g' i) := ⟨_, rfl⟩
  rw [← hr] at hc
  have key : q = true ↔ (r = true ∧ n = n') := by
    rw [hr]
    constructor
    · intro h
      obtain ⟨h1, h2⟩ := bdA_inj (hq.1 h)
      refine ⟨?_, h1⟩
      simp only [List.all_eq_true, List.mem_range, Bool.and_eq_true, beq_iff_eq]
      exact h2
    · rintro ⟨h1, rfl⟩
      simp only [List.all_eq_true, List.mem_range, Bool.and_eq_true, beq_iff_eq] at h1
      exact hq.2 (bdA_congr (fun i hi => (h1 i hi).1) (fun i hi => (h1 i hi).2))
  have hint : (Op.equalIn (d + 3) 3 (.int .i64 (n : Int)) (.int .i64 (n' : Int))).run Try.prog w = .ok ((n : Int) == (n' : Int)) w := run_equalIn_int w (d + 2) _ .i64 .i64 _ _ Try.underlying3
  have q1 := part_cells w f g n
  have q2 := part_cells w f' g' n'
  have q3 := part_len w f g n
  have q4 := part_len w f' g' n'
  clear hr hq hf hu
  obtain ⟨X, hX⟩ : ∃ X, X = bdA f g n := ⟨_, rfl⟩
  obtain ⟨Y, hY⟩ : ∃ Y, Y = bdA f' g' n' := ⟨_, rfl⟩
  obtain ⟨CX, hCX⟩ : ∃ X, X = cellsA f g := ⟨_, rfl⟩
  obtain ⟨CY, hCY⟩ : ∃ Y, Y = cellsA f' g' := ⟨_, rfl⟩
  rw [← hX] at q1 q3 ⊢
  rw [← hY] at q2 q4 ⊢
  rw [← hCX] at q1 hc
  rw [← hCY] at q2 hc
  clear hX hY hCX hCY
  have e1 : (Op.eqFields (d + 3) X Y [f1]).run Try.prog w = .ok ((n : Int) == (n' : Int)) w := by
    simp only [Op.eqFields, h1, t1, o1, ne_eq, not_false_eq_true, if_true, Sem.run_bind, q3, q4, hint, Result.andThen_ok]
    cases ((n : Int) == (n' : Int)) <;> rfl
  show (Op.eqFields (d + 3) X Y [f0, f1]).run Try.prog w = _
  rw [Op.eqFields, if_pos h0, t0, o0]
  rw [Sem.run_bind, q1, Result.andThen_ok, Sem.run_bind, q2, Result.andThen_ok, Sem.run_bind, hc, Result.andThen_ok]
  cases r
  · have : q = false := by rw [Bool.eq_false_iff]; intro h; have := (key.1 h).1; cases this
    rw [this]
    simp only [Bool.not_false, if_true, Sem.run_pure]
  · have : q = ((n : Int) == (n' : Int)) := by
      rw [Bool.eq_iff_iff, key]
      simp only [true_and, beq_iff_eq]
      omega
    rw [this]
    simp only [Bool.not_true, Bool.false_eq_true, if_false]
    exact e1
theorem run_eql_bd (f f' : Nat → Int) (g g' : Nat → Nat) (n n' : Nat) (q : Bool) (hq : q = true ↔ bdA f g n = bdA f' g' n') : (binOp .eql 32 (.agg (bdA f g n)) (.agg (bdA f' g' n'))).run Try.prog w = .ok (.bool q) w := by
  rw [run_eql_struct, run_equal_bd w 9996 _ _ _ _ _ _ q hq]
  rfl
theorem run_neq_bd (f f' : Nat → Int) (g g' : Nat → Nat) (n n' : Nat) (q : Bool) (hq : q = true ↔ bdA f g n = bdA f' g' n') : (binOp .neq 32 (.agg (bdA f g n)) (.agg (bdA f' g' n'))).run Try.prog w = .ok (.bool (!q)) w := by
  rw [run_neq_struct, run_equal_bd w 9996 _ _ _ _ _ _ q hq]
  rfl
end
theorem eq_guard (b : BinOp) (x y : Operand) (xs ys : Array Value) (w : World) : (eqGuard b 32 x y (.agg xs) (.agg ys)).run Try.prog w = .ok () w := run_eqGuard_agg w b _ x y xs ys (by kernel_rfl)
theorem wpList_eql_bd {ops : Array Oper} {rest : List Oper} {o : Oper} {a : Act} {w : World} {Q : Exit → Act → World → Prop} (hw : Region.wanted o (yielded ops a.tmps) = true) (x y : Operand) (ho : o.op = .binOp .eql 32 x y 32)
    (L M : List (Int × Nat)) (hx : a.eval x = .agg (bdL L)) (hy : a.eval y = .agg (bdL M)) (hL : L.length ≤ 48) (d : Bool) (hd : d = decide (L = M))
    (h : wpList Try.prog ops Q rest (a.put o.dst (.bool d)) w) : wpList Try.prog ops Q (o :: rest) a w :=
  BigFrame.wpList_want hw fun K hK => by
    have e : d = true ↔ bdA (bdF L) (bdG L) L.length = bdA (bdF M) (bdG M) M.length := by
      rw [hd, decide_eq_true_iff]
      exact (bdL_inj hL).symm
    unfold Oper.wp
    simp only [execOp, ho, hx, hy, bdL, Sem.run_bind, eq_guard, Result.andThen_ok, run_eql_bd w _ _ _ _ _ _ d e, Sem.run_pure]
    exact hK _ _ h
end Go.Proofs.Ytpppjlcfhijdgaa
