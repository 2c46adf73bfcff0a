/- A row of states. Conditions: those said. -/
import Derived.Test.YtnbbglhpjpebhaaDoorZTrP
import Derived.Test.YtnbbglhpjpebhaaDoorZTrBase11
namespace Go.Proofs.YtnbbglhpjpebhaaDoor
open Go.RowKit
set_option linter.unusedVariables false

def stsL (l : List St) : List Value := l.flatMap stL
theorem stsL_len (l : List St) : (stsL l).length = l.length * 99 := by
  induction l with
  | nil => rfl
  | cons s l ih =>
    show (stL s ++ stsL l).length = _
    rw [List.length_append, ih, stL_len, List.length_cons]
    omega
theorem stsL_at : ∀ {l : List St} {i : Nat} (h : i < l.length) {j : Nat} {v : Value}, (stL l[i])[j]? = some v → (stsL l)[i * 99 + j]? = some v
  | s :: l, 0, _, j, v, hv => by
    show (stL s ++ stsL l)[0 * 99 + j]? = some v
    have hv : (stL s)[j]? = some v := hv
    rw [Nat.zero_mul, Nat.zero_add, List.getElem?_append_left (List.getElem?_eq_some_iff.1 hv).1]
    exact hv
  | s :: l, i + 1, h, j, v, hv => by
    show (stL s ++ stsL l)[(i + 1) * 99 + j]? = some v
    rw [List.getElem?_append_right (by rw [stL_len]; omega), stL_len, show (i + 1) * 99 + j - 99 = i * 99 + j by omega]
    exact stsL_at (l := l) (i := i) (by simpa using h) hv
theorem stsL_app (l m : List St) : stsL (l ++ m) = stsL l ++ stsL m := by simp [stsL]
theorem stsL_one (l : List St) : ∀ u ∈ stsL l, u.oneCell' = true := by
  intro u hu
  obtain ⟨s, _, h⟩ := List.mem_flatMap.1 hu
  exact stL_all s u h
theorem sts_info : (Tryd.prog.info? 40).map (fun i => (i.zero, i.size, i.bytes)) = some (some (.agg (stA zSt)), 99, 408) := by kernel_rfl
theorem sts_range {w : World} {b off : Nat} {l : List St} {i : Nat} (h : Sl w b (some ⟨b, off, none⟩) (stsL l)) (hi : i < l.length) : w.rangeAt b (off + i * 99) (stL l[i]) := fun j v hv => by
  have hne : stsL l ≠ [] := fun e => by
    have := congrArg List.length e
    rw [stsL_len] at this
    simp at this
    omega
  obtain ⟨o, e, hc⟩ := h hne
  injection e with e
  injection e with _ e
  subst e
  rw [Nat.add_assoc]
  exact hc _ v (stsL_at hi hv)
section
variable {ops : Array Oper} {S : World → Prop} {op : Oper} {a : Act}
theorem yk_ldRow (hw : Region.wanted op (yielded ops a.tmps) = true) (x : Operand) (ho : op.op = .load 40 x) (b off : Nat) (s : St) (hx : a.eval x = .pointer (some ⟨b, off, none⟩)) (hS : ∀ w, S w → w.rangeAt b off (stL s)) : YieldsIf Tryd.prog ops S op (.agg (stA s)) a :=
  yieldsIf_load_mid (P := Tryd.prog) (S := S) hw _ x ho b off hx (stL s) _ (fun w h => hS w h) Tryd.underlying40 rfl (st_size _)
theorem yk_ixS (hw : Region.wanted op (yielded ops a.tmps) = true) (x y : Operand) (ho : op.op = .indexAddr 72 x y) (b off n c k : Nat) (hx : a.eval x = .slice (some ⟨b, off, none⟩) n c) (hy : a.eval y = .int .i64 (k : Int))
    (hk : (k : Int) < (n : Int)) : YieldsIf Tryd.prog ops S op (.pointer (some ⟨b, off + k * 99, none⟩)) a :=
  .inl ⟨hw, fun w _ => by
    unfold execOp
    simp only [ho, hx, hy]
    go_simp⟩
theorem yk_subI (hw : Region.wanted op (yielded ops a.tmps) = true) (x y : Operand) (ho : op.op = .binOp .sub 3 x y 3) (n m z : Int) (hx : a.eval x = .int .i64 n) (hy : a.eval y = .int .i64 m) (hz : IntKind.i64.wrap (n - m) = z) : YieldsIf Tryd.prog ops S op (.int .i64 z) a :=
  .inl ⟨hw, fun w _ => by
    unfold execOp
    simp only [ho, hx, hy]
    rw [← hz]
    go_simp⟩
theorem yk_rem20 (hw : Region.wanted op (yielded ops a.tmps) = true) (x : Operand) (ho : op.op = .binOp .rem 5 x (.const (.int .u8 20)) 5) (n q : Nat) (hx : a.eval x = .int .u8 (n : Int)) (hz : (n : Int) % 20 = (q : Int)) : YieldsIf Tryd.prog ops S op (.int .u8 (q : Int)) a :=
  .inl ⟨hw, fun w _ => by
    have hb : (q : Int) < 20 := by omega
    have e2 : (n : Int).tmod 20 = (q : Int) := by rw [Int.tmod_eq_emod_of_nonneg (by omega)]; exact hz
    unfold execOp
    simp only [ho, hx]
    go_simp⟩
theorem yk_cvU (hw : Region.wanted op (yielded ops a.tmps) = true) (x : Operand) (ho : op.op = .convert 5 22 x) (q : Nat) (hx : a.eval x = .int .u8 (q : Int)) (hq : q < 20) : YieldsIf Tryd.prog ops S op (.int .u32 (q : Int)) a :=
  .inl ⟨hw, fun w _ => by
    have e : IntKind.u32.wrap (q : Int) = (q : Int) := by rw [IntKind.wrap_u32]; omega
    unfold execOp
    simp only [ho, hx]
    go_simp⟩
theorem yk_cvI (hw : Region.wanted op (yielded ops a.tmps) = true) (x : Operand) (ho : op.op = .convert 5 3 x) (q : Nat) (hx : a.eval x = .int .u8 (q : Int)) (hq : q < 20) : YieldsIf Tryd.prog ops S op (.int .i64 (q : Int)) a :=
  .inl ⟨hw, fun w _ => by
    have e : IntKind.i64.wrap (q : Int) = (q : Int) := IntWalk.i64_in _ (by omega)
    unfold execOp
    simp only [ho, hx]
    go_simp⟩
theorem yk_min16 (hw : Region.wanted op (yielded ops a.tmps) = true) (x : Operand) (ho : op.op = .call { callee := .builtin .min, args := #[x, .const (.int .i64 16)], argTypes := #[3, 3] }) (q r : Nat) (hx : a.eval x = .int .i64 (q : Int)) (hr : r = min q 16) : YieldsIf Tryd.prog ops S op (.int .i64 (r : Int)) a :=
  .inl ⟨hw, fun w _ => by
    have m1 : min (q : Int) 16 = (r : Int) := by omega
    have m2 : (if (16 : Int) < (q : Int) then (16 : Int) else (q : Int)) = (r : Int) := by split <;> omega
    have m3 : (if (q : Int) ≤ 16 then (q : Int) else (16 : Int)) = (r : Int) := by split <;> omega
    clear hr
    unfold execOp
    simp only [ho, resolve, invoke, List.map_toArray, List.map_cons, List.map_nil, hx]
    go_simp⟩
end
theorem run_bsS (w : World) (s : St) : (Instr.buildSlice 72 1 #[(0, .agg (stA s))]).run Tryd.prog w = .ok (.slice (some ⟨w.heap.size, 0, none⟩) 1 1) (w.alloc (.cells (stA s) 40)) := by
  have hz : (zeroValue 40).run Tryd.prog w = .ok (.agg (stA zSt)) w := by kernel_rfl
  have hs : (sizeOf 40).run Tryd.prog w = .ok 99 w := by kernel_rfl
  have hfill : Instr.fill (fun i => some (i * 99, 99)) ((Array.range 99).map ((stA zSt)[· % (stA zSt).size]!)) [(0, .agg (stA s))] = some (stA s) := by
    have e : ((Array.range 99).map ((stA zSt)[· % (stA zSt).size]!)) = (stL zSt).toArray := by kernel_rfl
    rw [e, fill_one (v := .agg (stA s)) (o := 0) (n := 99) rfl (by simp [Value.cells, stA, stL_len]) (by rw [stL_len]; omega), ← List.append_nil (stL zSt), splice_head (by simp [Value.cells, stA, stL_len])]
    simp [Instr.fill, Value.cells]
  unfold Instr.buildSlice
  simp [run_underlying Tryd.underlying72, hs, hz, Result.andThen, Value.cells]
  rw [hfill]
  simp [newRow]
theorem wp_bsS {o : Oper} {a : Act} {w : World} {K : Act → World → Prop} {Q : Exit → Act → World → Prop} (x : Operand) (s : St) (ho : o.op = .buildSlice 72 1 #[(0, x)]) (hx : a.eval x = .agg (stA s))
    (h : K (a.put o.dst (.slice (some ⟨w.heap.size, 0, none⟩) 1 1)) (w.alloc (.cells (stA s) 40))) : o.wp Tryd.prog a w K Q := by
  have e : ((#[(0, x)] : Array (Nat × Operand)).map fun (p : Nat × Operand) => (p.1, a.eval p.2)) = #[(0, .agg (stA s))] := by simp [hx]
  unfold Oper.wp execOp
  simp only [ho, e, run_bsS w s, Sem.run_bind, Result.andThen_ok, Sem.run_pure]
  exact h
theorem wpList_bsS {ops : Array Oper} {rest : List Oper} {o : Oper} {a : Act} {w : World} {Q : Exit → Act → World → Prop} (hgd : o.guard = none) (x : Operand) (s : St) (ho : o.op = .buildSlice 72 1 #[(0, x)]) (hx : a.eval x = .agg (stA s))
    (h : wpList Tryd.prog ops Q rest (a.put o.dst (.slice (some ⟨w.heap.size, 0, none⟩) 1 1)) (w.alloc (.cells (stA s) 40))) : wpList Tryd.prog ops Q (o :: rest) a w :=
  wpList_plain hgd fun _ hK => wp_bsS x s ho hx (hK _ _ h)
theorem wp_appSt {w : World} {o : Oper} {a : Act} {K : Act → World → Prop} {Q : Exit → Act → World → Prop} (s x : Operand)
    (ho : o.op = .call { callee := .builtin .append, args := #[s, x], argTypes := #[72, 72] })
    (B n : Nat) (v : Value) (l : List St) (hs : a.eval s = v) (hown : w.ownsRow B 40 99 v n (stsL l))
    (b : Nat) (A : Option Addr) (y : St) (hx : a.eval x = .slice A 1 1) (hr : Sl w b A (stL y))
    (hlen : n ≤ 1000) (hbase : B ≤ w.heap.size)
    (h : ∀ v' w', w'.ownsRow B 40 99 v' (n + 1) (stsL (l ++ [y])) → w.grownBy w' v.ownBlock → (v'.ownBlock = v.ownBlock ∨ v'.ownBlock = some w.heap.size) → K (a.put o.dst v') w') : o.wp Tryd.prog a w K Q := by
  obtain ⟨i0, hi0, hz0, hz1, hz2⟩ := info_parts sts_info
  refine wp_append_sl (P := Tryd.prog) w s x _ ho B 40 i0 _ 99 408 Tryd.underlying72 hi0 hz0 hz1 hz2 (by show (stA zSt).size = 99; exact stA_size _) (by omega) v n (stsL l) hs hown b A 1 1 (stL y) hx hr (by rw [stL_len]) (fun hA => by have h9 := Sl.none_len (m := 99) hr (by rw [stL_len]) hA; omega) (stL_all y)
    (by simp only [maxLen]; omega) (by omega) hbase ?_
  intro v' w' h1 h2 h3
  exact h v' w' (by rw [stsL_app]; simpa [stsL] using h1) h2 h3
end Go.Proofs.YtnbbglhpjpebhaaDoor
