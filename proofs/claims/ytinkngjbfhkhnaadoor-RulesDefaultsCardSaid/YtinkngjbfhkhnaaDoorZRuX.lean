/- When two states are the same to Go's own test; what moves count, however many there are. No condition. -/
import Derived.Test.YtinkngjbfhkhnaaDoorZRuBase08
namespace Go.Proofs.YtinkngjbfhkhnaaDoor
open Go.RowKit

theorem st_under : ∃ f0 f1 f2 : Field, Tryd.prog.underlying 46 = some (.struct #[f0, f1, f2]) ∧ f0.name ≠ "_" ∧ f1.name ≠ "_" ∧ f2.name ≠ "_" ∧ f0.type = 42 ∧ f1.type = 44 ∧ f2.type = 22 ∧ f0.offset = 0 ∧ f1.offset = 97 ∧ f2.offset = 98 :=
  ⟨_, _, _, Tryd.underlying46, by decide, by decide, by decide, rfl, rfl, rfl, rfl, rfl, rfl⟩
theorem dice_under : ∃ f0 : Field, Tryd.prog.underlying 44 = some (.struct #[f0]) ∧ f0.name ≠ "_" ∧ f0.type = 27 ∧ f0.offset = 0 :=
  ⟨_, Tryd.underlying44, by decide, rfl, rfl⟩
theorem st_held : Tryd.prog.stoodInHeld 46 = false := by kernel_rfl
theorem dice_held : Tryd.prog.stoodInHeld 44 = false := by kernel_rfl
theorem bd_info97 : ∃ i : TypeInfo, Tryd.prog.info? 42 = some i ∧ i.size = 97 := by
  have hz : (Tryd.prog.info? 42).map (·.size) = some 97 := by kernel_rfl
  cases hi : Tryd.prog.info? 42 with
  | none => rw [hi] at hz; cases hz
  | some i => exact ⟨i, rfl, by rw [hi] at hz; simpa using hz⟩
theorem dice_info1 : ∃ i : TypeInfo, Tryd.prog.info? 44 = some i ∧ i.size = 1 := by
  have hz : (Tryd.prog.info? 44).map (·.size) = some 1 := by kernel_rfl
  cases hi : Tryd.prog.info? 44 with
  | none => rw [hi] at hz; cases hz
  | some i => exact ⟨i, rfl, by rw [hi] at hz; simpa using hz⟩
section
variable (w : World)
theorem stA_bd (s : St) : (stA s).extract 0 97 = bdL s.L := by
  apply Array.ext'
  simp only [stA, stL, List.extract_toArray, List.extract_eq_take_drop]
  rw [List.drop_zero, show 97 - 0 = (bdL s.L).toList.length by rw [bdL_list], List.take_left' rfl]
theorem stA_dice (s : St) : (stA s).extract 97 98 = #[.int .u64 (s.d : Int)] := by
  apply Array.ext'
  simp only [stA, stL, stE, List.extract_toArray, List.extract_eq_take_drop]
  rw [List.drop_append_of_le_length (by rw [bdL_list]; omega), show (bdL s.L).toList.drop 97 = [] from List.drop_eq_nil_of_le (by rw [bdL_list]; omega)]
  rfl
theorem stA_tk (s : St) : (stA s)[98]? = some (.int .u32 (s.tk : Int)) := by
  have h := stL_at (s := s) (k := 1) (v := .int .u32 (s.tk : Int)) rfl
  unfold stA
  rw [List.getElem?_toArray]
  exact h
theorem part_bd (s : St) : (part 42 (stA s) 0).run Tryd.prog w = .ok (.agg (bdL s.L)) w := by
  obtain ⟨i, hi, hs⟩ := bd_info97
  have e := stA_bd s
  obtain ⟨X, hX⟩ : ∃ X, X = stA s := ⟨_, rfl⟩
  obtain ⟨Y, hY⟩ : ∃ Y, Y = bdL s.L := ⟨_, rfl⟩
  rw [← hX, ← hY] at e
  rw [← hX, ← hY]
  clear hX hY
  simp [part, isAgg, run_underlying Tryd.underlying42, sizeOf, typeInfo, hi, hs, e]
theorem part_dice (s : St) : (part 44 (stA s) 97).run Tryd.prog w = .ok (.agg #[.int .u64 (s.d : Int)]) w := by
  obtain ⟨i, hi, hs⟩ := dice_info1
  have e := stA_dice s
  obtain ⟨X, hX⟩ : ∃ X, X = stA s := ⟨_, rfl⟩
  rw [← hX] at e
  rw [← hX]
  clear hX
  simp [part, isAgg, run_underlying Tryd.underlying44, sizeOf, typeInfo, hi, hs, e]
theorem part_tk (s : St) : (part 22 (stA s) 98).run Tryd.prog w = .ok (.int .u32 (s.tk : Int)) w := by
  have e := stA_tk s
  obtain ⟨X, hX⟩ : ∃ X, X = stA s := ⟨_, rfl⟩
  rw [← hX] at e
  rw [← hX]
  clear hX
  simp [part, isAgg, run_underlying Tryd.underlying22, e]
theorem run_equal_dice (d : Nat) (x y : Nat) : (Op.equalIn (d + 2) 44 (.agg #[.int .u64 (x : Int)]) (.agg #[.int .u64 (y : Int)])).run Tryd.prog w = .ok ((x : Int) == (y : Int)) w := by
  obtain ⟨f0, hu, h0, t0, o0⟩ := dice_under
  have hf : Tryd.prog.fieldsOf 44 = #[f0] := by simp [Program.fieldsOf, hu]
  rw [run_equalIn_struct w (d + 1) _ _ _ (by rw [hf]; exact hu) dice_held, hf]
  simp [Op.eqFields, h0, t0, o0, part, isAgg, run_underlying Tryd.underlying27, run_equalIn_int w d _ .u64 .u64 _ _ Tryd.underlying27]
  by_cases e : (x : Int) = (y : Int)
  · rw [if_pos e, e, beq_self_eq_true]
  · rw [if_neg e, beq_eq_false_iff_ne.2 e]
/-- A state is itself. -/
theorem run_equal_st (d : Nat) (s : St) : (Op.equalIn (d + 5) 46 (.agg (stA s)) (.agg (stA s))).run Tryd.prog w = .ok true w := by
  obtain ⟨f0, f1, f2, hu, h0, h1, h2, t0, t1, t2, o0, o1, o2⟩ := st_under
  have hf : Tryd.prog.fieldsOf 46 = #[f0, f1, f2] := by simp [Program.fieldsOf, hu]
  rw [run_equalIn_struct w (d + 4) _ _ _ (by rw [hf]; exact hu) st_held, hf]
  have q0 := part_bd w s
  have q1 := part_dice w s
  have q2 := part_tk w s
  have r0 : (Op.equalIn (d + 4) 42 (.agg (bdL s.L)) (.agg (bdL s.L))).run Tryd.prog w = .ok true w := run_equal_bd w d _ _ _ _ _ _ true (by simp)
  have r1 : (Op.equalIn (d + 4) 44 (.agg #[.int .u64 (s.d : Int)]) (.agg #[.int .u64 (s.d : Int)])).run Tryd.prog w = .ok true w := by
    have h := run_equal_dice w (d + 2) s.d s.d
    rw [show ((s.d : Int) == (s.d : Int)) = true by simp] at h
    exact h
  have r2 : (Op.equalIn (d + 4) 22 (.int .u32 (s.tk : Int)) (.int .u32 (s.tk : Int))).run Tryd.prog w = .ok true w := by
    have h := run_equalIn_int w (d + 3) 22 .u32 .u32 (s.tk : Int) (s.tk : Int) Tryd.underlying22
    rw [show ((s.tk : Int) == (s.tk : Int)) = true by simp] at h
    exact h
  clear hu hf
  obtain ⟨X, hX⟩ : ∃ X, X = stA s := ⟨_, rfl⟩
  obtain ⟨Y, hY⟩ : ∃ Y, Y = bdL s.L := ⟨_, rfl⟩
  rw [← hX] at q0 q1 q2 ⊢
  rw [← hY] at q0 r0
  clear hX hY
  show (Op.eqFields (d + 4) X X [f0, f1, f2]).run Tryd.prog w = _
  simp only [Op.eqFields, h0, h1, h2, t0, t1, t2, o0, o1, o2, ne_eq, not_false_eq_true, if_true, Sem.run_bind, q0, q1, q2, r0, r1, r2, Result.andThen_ok, Bool.not_true, Bool.false_eq_true, if_false, Sem.run_pure]
theorem run_eql_st (s : St) : (binOp .eql 46 (.agg (stA s)) (.agg (stA s))).run Tryd.prog w = .ok (.bool true) w := by
  rw [run_eql_struct, run_equal_st w 9995]
  rfl
end
theorem st_guard (b : BinOp) (x y : Operand) (xs ys : Array Value) (w : World) : (eqGuard b 46 x y (.agg xs) (.agg ys)).run Tryd.prog w = .ok () w := run_eqGuard_agg w b _ x y xs ys (by kernel_rfl)
theorem yk_eqSt {ops : Array Oper} {S : World → Prop} {op : Oper} {a : Act} (hw : Region.wanted op (yielded ops a.tmps) = true) (x y : Operand) (ho : op.op = .binOp .eql 46 x y 46) (s : St) (hx : a.eval x = .agg (stA s)) (hy : a.eval y = .agg (stA s)) : YieldsIf Tryd.prog ops S op (.bool true) a :=
  .inl ⟨hw, fun w _ => by
    simp only [execOp, ho, hx, hy, Sem.run_bind, st_guard, Result.andThen_ok, run_eql_st w s, Sem.run_pure]⟩
section
variable {o : Oper} {a : Act} {w : World} {Q : Exit → Act → World → Prop} {K : Act → World → Prop}
theorem wp_alSt (ho : o.op = .alloc 46) (h : K (a.put o.dst (.pointer (some ⟨w.heap.size, 0, none⟩))) (w.alloc (.cells (stA zSt) 46))) : o.wp Tryd.prog a w K Q := by
  have hz : (zeroValue 46).run Tryd.prog w = .ok (.agg (stA zSt)) w := by kernel_rfl
  unfold Oper.wp execOp
  simp only [ho, Instr.alloc, newVar, newRow, run_newObj_alloc, Sem.run_bind, Sem.run_pure, Result.andThen_ok, hz, Value.cells]
  exact h
theorem wp_alO (ho : o.op = .alloc 53) (h : K (a.put o.dst (.pointer (some ⟨w.heap.size, 0, none⟩))) (w.alloc (.cells (otA 0 (.slice none 0 0) 0) 53))) : o.wp Tryd.prog a w K Q := by
  have hz : (zeroValue 53).run Tryd.prog w = .ok (.agg (otA 0 (.slice none 0 0) 0)) w := by kernel_rfl
  unfold Oper.wp execOp
  simp only [ho, Instr.alloc, newVar, newRow, run_newObj_alloc, Sem.run_bind, Sem.run_pure, Result.andThen_ok, hz, Value.cells]
  exact h
end
/-- All moves of the players that there are, each one that counts. -/
def wholeM (g : Gm) (M : List Nat) : List Nat := (List.range g.pl.toNat).map (mvAt g M)
theorem mvAt_lt {g : Gm} (h : g.df < g.mv) (M : List Nat) (i : Nat) : mvAt g M i < g.mv := by
  unfold mvAt
  split
  · rename_i h1; exact h1.2
  · exact h
theorem mvAt_take (g : Gm) (M : List Nat) {i n : Nat} (h : i < n) : mvAt g (M.take n) i = mvAt g M i := by
  unfold mvAt
  have e : (M.take n).getD i 0 = M.getD i 0 := by simp [List.getD, h]
  rw [e, List.length_take]
  have : (i < min n M.length ∧ M.getD i 0 < g.mv) ↔ (i < M.length ∧ M.getD i 0 < g.mv) := by omega
  simp only [this]
theorem mvAt_whole {g : Gm} (h : g.df < g.mv) (M N : List Nat) {i : Nat} (hi : i < g.pl.toNat) : mvAt g (wholeM g M ++ N) i = mvAt g M i := by
  have e : (wholeM g M ++ N).getD i 0 = mvAt g M i := by
    simp [List.getD, wholeM, List.getElem?_append, hi]
  have h1 := mvAt_lt h M i
  unfold mvAt
  rw [e, if_pos ⟨by simp [wholeM]; omega, h1⟩]
  rfl
theorem cntL_take (g : Gm) (M : List Nat) : cntL g (M.take g.pl.toNat) = cntL g M := by
  unfold cntL
  apply List.map_congr_left
  intro i hi
  rw [mvAt_take g M (List.mem_range.1 hi)]
theorem cntL_whole {g : Gm} (h : g.df < g.mv) (M N : List Nat) : cntL g (wholeM g M ++ N) = cntL g M := by
  unfold cntL
  apply List.map_congr_left
  intro i hi
  rw [mvAt_whole h M N (List.mem_range.1 hi)]
theorem right48 {g : Gm} (h : rightB g = true) : g.L.length ≤ 48 := by
  have h4 := (right_parts h).2.2.2.1
  unfold rcB at h4
  simp only [Bool.and_eq_true, decide_eq_true_eq] at h4
  exact h4.1
theorem gin_mod1 {w w' : World} {g : Gm} {s : Gs} {X B : Nat} (h : GIn w g s) (hm : Mod (fun i => i = X) w w') (h1 : B ≤ s.b) (h2 : B ≤ s.b') (hX : X < B) : GIn w' g s :=
  ⟨h.sc.mod hm (by show ¬ s.b = X; omega), h.sk.mod hm (by show ¬ s.b' = X; omega)⟩
theorem u32_infoR : (Tryd.prog.info? 22).map (fun i => (i.zero, i.size, i.bytes)) = some (some (.int .u32 0), 1, 4) := by kernel_rfl
theorem ms_oneR (l : List Nat) : ∀ u ∈ ms l, u.oneCell' = true := by
  intro u hu
  obtain ⟨_, _, rfl⟩ := List.mem_map.1 hu
  rfl
structure StopU (p : Prop) : Prop where
  out : p
theorem stop_atU {p : Prop} (h : StopU p) : p := h.out
theorem wp_appU {w : World} {o : Oper} {a : Act} {K : Act → World → Prop} {Q : Exit → Act → World → Prop} (s x : Operand)
    (ho : o.op = .call { callee := .builtin .append, args := #[s, x], argTypes := #[60, 60] })
    (B n : Nat) (v : Value) (l : List Nat) (hs : a.eval s = v) (hown : w.ownsRow B 22 1 v n (ms l))
    (b : Nat) (A : Option Addr) (m c : Nat) (news : List Nat) (hx : a.eval x = .slice A m c) (hr : Sl w b A (ms news)) (hm : news.length = m)
    (hlen : (n + m) * 4 ≤ 140737488355328) (hbase : B ≤ w.heap.size)
    (h : ∀ v' w', w'.ownsRow B 22 1 v' (n + m) (ms (l ++ news)) → w.grownBy w' v.ownBlock → (v'.ownBlock = v.ownBlock ∨ v'.ownBlock = some w.heap.size) → K (a.put o.dst v') w') : o.wp Tryd.prog a w K Q := by
  obtain ⟨i0, hi0, hz0, hz1, hz2⟩ := info_parts u32_infoR
  refine wp_append_sl (P := Tryd.prog) w s x _ ho B 22 i0 _ 1 4 Tryd.underlying60 hi0 hz0 hz1 hz2 rfl (by omega) v n (ms l) hs hown b A m c (ms news) hx hr (by simp [hm]) (Sl.none_len hr (by simp [hm])) (ms_oneR _)
    (by simp only [maxLen]; omega) (by omega) hbase ?_
  intro v' w' h1 h2 h3
  exact h v' w' (by rw [ms, List.map_append]; exact h1) h2 h3
theorem wpList_appU (w : World) {ops : Array Oper} {rest : List Oper} {o : Oper} {a : Act} {Q : Exit → Act → World → Prop} (hgd : o.guard = none) (s x : Operand)
    (ho : o.op = .call { callee := .builtin .append, args := #[s, x], argTypes := #[60, 60] })
    (B n : Nat) (v : Value) (l : List Nat) (hs : a.eval s = v) (hown : w.ownsRow B 22 1 v n (ms l))
    (b : Nat) (A : Option Addr) (m c : Nat) (news : List Nat) (hx : a.eval x = .slice A m c) (hr : Sl w b A (ms news)) (hm : news.length = m)
    (hlen : n + m ≤ 1000000000000) (hbase : B ≤ w.heap.size)
    (h : ∀ v' w', w'.ownsRow B 22 1 v' (n + m) (ms (l ++ news)) → w.grownBy w' v.ownBlock → (v'.ownBlock = v.ownBlock ∨ v'.ownBlock = some w.heap.size) → wpList Tryd.prog ops Q rest (a.put o.dst v') w') : wpList Tryd.prog ops Q (o :: rest) a w := by
  obtain ⟨i0, hi0, hz0, hz1, hz2⟩ := info_parts u32_infoR
  refine wpList_append_sl (P := Tryd.prog) w hgd s x _ ho B 22 i0 _ 1 4 Tryd.underlying60 hi0 hz0 hz1 hz2 rfl (by omega) v n (ms l) hs hown b A m c (ms news) hx hr (by simp [hm]) (Sl.none_len hr (by simp [hm])) (ms_oneR _)
    (by simp only [maxLen]; omega) (by omega) hbase ?_
  intro v' w' h1 h2 h3
  exact h v' w' (by rw [ms, List.map_append]; exact h1) h2 h3
end Go.Proofs.YtinkngjbfhkhnaaDoor
