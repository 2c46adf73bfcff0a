/- Parts of one proof, in their order. -/
import Derived.Test.YtnbbglhpjpebhaaDoorZTrBase05
import Derived.Great.Walk
import Derived.Deep.DeepCutAuto
/- Run: what comes of all instructions. Conditions: the numbers fit. -/
namespace Go.Proofs.YtnbbglhpjpebhaaDoor
open Go.RowKit

def zS : VS := ⟨[], 0, 0, [], 0, 0, 0, []⟩
def zM : VS := ⟨[], 0, 0, [], 0, 0, 0, List.replicate 8 (0, 0)⟩
def zX : MX := ⟨.nilFunc, .slice none 0 0, .slice none 0 0, 0, 0⟩
theorem resZ_info : (Tryd.prog.info? 87).map (fun i => (i.zero, i.size)) = some (some (.agg (resA (.slice none 0 0) zS)), 102) := by kernel_rfl
theorem machZ_info : (Tryd.prog.info? 106).map (fun i => (i.zero, i.size)) = some (some (.agg (mRow zX (.slice none 0 0) zM).toArray), 124) := by kernel_rfl
theorem info_two {P : Program} {t : TypeId} {z : Value} {n : Nat} (h : (P.info? t).map (fun i => (i.zero, i.size)) = some (some z, n)) : ∃ i, P.info? t = some i ∧ i.zero = some z ∧ i.size = n := by
  cases hi : P.info? t with
  | none => rw [hi] at h; simp at h
  | some i => rw [hi] at h; simp at h; exact ⟨i, rfl, h.1, h.2⟩
/-- What a part of a struct's value makes of its cells. -/
def splice (cs : List Value) (o : Nat) (vs : List Value) : List Value := cs.take o ++ vs ++ cs.drop (o + vs.length)
theorem fold_splice (o : Nat) : ∀ (vs : List Value) (k : Nat) (cs : List Value), o + k + vs.length ≤ cs.length → ((vs.zipIdx k).foldl (fun (a : Array Value) (x : Value × Nat) => a.setIfInBounds (o + x.2) x.1) cs.toArray) = (splice cs (o + k) vs).toArray
  | [], k, cs, _ => by simp [splice]
  | v :: vs, k, cs, h => by
    simp only [List.length_cons] at h
    rw [List.zipIdx_cons, List.foldl_cons]
    have e : cs.toArray.setIfInBounds (o + (v, k).2) (v, k).1 = (cs.set (o + k) v).toArray := by simp
    rw [e, fold_splice o vs (k + 1) _ (by simp; omega)]
    congr 1
    unfold splice
    rw [show o + (k + 1) = o + k + 1 by omega, List.take_set, List.take_add_one, List.getElem?_eq_getElem (by omega), List.drop_set]
    rw [List.set_append_right _ _ (by simp; omega)]
    simp only [List.length_take, Option.toList_some, List.length_cons, List.append_assoc, List.cons_append]
    rw [show o + k - min (o + k) cs.length = 0 by omega, if_pos (by omega), show o + k + 1 + vs.length = o + k + (vs.length + 1) by omega]
    rfl
theorem fill_one {place : Nat → Option (Nat × Nat)} {cs : List Value} {i o n : Nat} {v : Value} {rest : List (Nat × Value)} (hp : place i = some (o, n)) (hn : v.cells.toList.length = n) (hl : o + n ≤ cs.length) :
    Instr.fill place cs.toArray ((i, v) :: rest) = Instr.fill place (splice cs o v.cells.toList).toArray rest := by
  have hs : v.cells.size = n := by rw [← hn]; simp
  have e : (v.cells.zipIdx.foldl (fun (a : Array Value) (x : Value × Nat) => a.setIfInBounds (o + x.2) x.1) cs.toArray) = (splice cs o v.cells.toList).toArray := by
    have h0 := fold_splice o v.cells.toList 0 cs (by rw [hn]; omega)
    rw [Nat.add_zero] at h0
    rw [← h0, ← Array.foldl_toList]
    simp
  rw [Instr.fill, hp]
  simp only
  rw [if_neg (by simp [hs]; omega)]
  rw [← e]
theorem splice_head {A vs R : List Value} (h : A.length = vs.length) : splice (A ++ R) 0 vs = vs ++ R := by
  unfold splice
  rw [List.take_zero, List.nil_append, Nat.zero_add, ← h, List.drop_left]
theorem splice_one {A R : List Value} {k : Nat} (v : Value) (hk : k < R.length) : splice (A ++ R) (A.length + k) [v] = A ++ R.set k v := by
  unfold splice
  rw [List.take_length_add_append, show A.length + k + [v].length = A.length + (k + 1) by simp; omega, List.drop_length_add_append, List.append_assoc, List.append_assoc, List.set_eq_take_append_cons_drop, if_pos hk]
  rfl
theorem splice_mid {A C vs R : List Value} (h : C.length = vs.length) : splice (A ++ (C ++ R)) A.length vs = A ++ (vs ++ R) := by
  unfold splice
  rw [List.take_left, ← h, List.drop_length_add_append, List.drop_left, List.append_assoc]
theorem resA_built (L : List (Int × Nat)) (d : Nat) : Tryd.prog.built 87 [(0, .agg (bdL L)), (1, .agg #[.int .u64 (d : Int)])] = some (resA (.slice none 0 0) { zS with L := L, d := d }) := by
  unfold Program.built
  obtain ⟨i, hi, hz, _⟩ := info_two resZ_info
  rw [hi, Tryd.underlying87]
  simp only []
  rw [hz]
  rw [show (List.mapM (fun f => Option.map (fun (i : TypeInfo) => (Field.offset f, i.size)) (Tryd.prog.info? f.type)) _ : Option (List (Nat × Nat))) = some [(0, 97), (97, 1), (98, 1), (99, 1), (100, 1), (101, 1)] by kernel_rfl]
  obtain ⟨T, hT⟩ : ∃ T : List Value, T = [.int .u64 ((0 : Nat) : Int), .int .u64 ((0 : Nat) : Int), .slice none 0 0, .int .i64 ((0 : Nat) : Int), .int .i64 ((0 : Nat) : Int)] := ⟨_, rfl⟩
  have hz0 : resL (.slice none 0 0) zS = (bdL []).toList ++ T := by rw [hT]; rfl
  have hl : T.length = 5 := by rw [hT]; rfl
  show Instr.fill _ (resL (.slice none 0 0) zS).toArray _ = _
  rw [hz0, fill_one (v := .agg (bdL L)) (o := 0) (n := 97) rfl (bdL_list L) (by rw [List.length_append, bdL_list]; omega)]
  rw [show (Value.agg (bdL L)).cells.toList = (bdL L).toList from rfl, splice_head (by rw [bdL_list, bdL_list])]
  rw [fill_one (v := .agg #[.int .u64 (d : Int)]) (o := 97) (n := 1) rfl rfl (by rw [List.length_append, bdL_list]; omega)]
  rw [show (Value.agg #[.int .u64 (d : Int)]).cells.toList = [.int .u64 (d : Int)] from rfl, show (97 : Nat) = (bdL L).toList.length + 0 by rw [bdL_list], splice_one _ (by omega), hT]
  rfl
theorem resA_built2 (L : List (Int × Nat)) (d : Nat) : Tryd.prog.built 87 [(0, .agg (bdL L)), (1, .agg #[.int .u64 (d : Int)]), (5, .int .i64 2)] = some (resA (.slice none 0 0) { zS with L := L, d := d, e := 2 }) := by
  unfold Program.built
  obtain ⟨i, hi, hz, _⟩ := info_two resZ_info
  rw [hi, Tryd.underlying87]
  simp only []
  rw [hz]
  rw [show (List.mapM (fun f => Option.map (fun (i : TypeInfo) => (Field.offset f, i.size)) (Tryd.prog.info? f.type)) _ : Option (List (Nat × Nat))) = some [(0, 97), (97, 1), (98, 1), (99, 1), (100, 1), (101, 1)] by kernel_rfl]
  obtain ⟨T, hT⟩ : ∃ T : List Value, T = [.int .u64 ((0 : Nat) : Int), .int .u64 ((0 : Nat) : Int), .slice none 0 0, .int .i64 ((0 : Nat) : Int), .int .i64 ((0 : Nat) : Int)] := ⟨_, rfl⟩
  have hz0 : resL (.slice none 0 0) zS = (bdL []).toList ++ T := by rw [hT]; rfl
  have hl : T.length = 5 := by rw [hT]; rfl
  show Instr.fill _ (resL (.slice none 0 0) zS).toArray _ = _
  rw [hz0, fill_one (v := .agg (bdL L)) (o := 0) (n := 97) rfl (bdL_list L) (by rw [List.length_append, bdL_list]; omega)]
  rw [show (Value.agg (bdL L)).cells.toList = (bdL L).toList from rfl, splice_head (by rw [bdL_list, bdL_list])]
  rw [fill_one (v := .agg #[.int .u64 (d : Int)]) (o := 97) (n := 1) rfl rfl (by rw [List.length_append, bdL_list]; omega)]
  rw [show (Value.agg #[.int .u64 (d : Int)]).cells.toList = [.int .u64 (d : Int)] from rfl, show (97 : Nat) = (bdL L).toList.length + 0 by rw [bdL_list], splice_one _ (by omega)]
  rw [fill_one (v := .int .i64 2) (o := 101) (n := 1) rfl rfl (by rw [List.length_append, bdL_list, List.length_set]; omega)]
  rw [show (Value.int .i64 2).cells.toList = [.int .i64 2] from rfl, show (101 : Nat) = (bdL L).toList.length + 4 by rw [bdL_list], splice_one _ (by rw [List.length_set]; omega), hT]
  rfl
/-- A machine that was just made: no register is laid. -/
def newM (L : List (Int × Nat)) (d : Nat) : VS := ⟨L, d, 0, [], 0, 0, 0, List.replicate 8 (0, 0)⟩
theorem mach_built (L : List (Int × Nat)) (d : Nat) (X : MX) (hc : X.cmp.cells = #[X.cmp]) (hcd : X.cd.cells = #[X.cd]) (hmv : X.mv.cells = #[X.mv]) : Tryd.prog.built 106 [(0, .agg (resA (.slice none 0 0) { zS with L := L, d := d })), (1, X.cmp), (2, X.cd), (5, X.mv), (6, .int .u32 (X.tk : Int)), (7, .int .u32 (X.al : Int))] = some (mRow X (.slice none 0 0) (newM L d)).toArray := by
  unfold Program.built
  obtain ⟨i, hi, hz, _⟩ := info_two machZ_info
  rw [hi, Tryd.underlying106]
  simp only []
  rw [hz]
  rw [show (List.mapM (fun f => Option.map (fun (i : TypeInfo) => (Field.offset f, i.size)) (Tryd.prog.info? f.type)) _ : Option (List (Nat × Nat))) = some [(0, 102), (102, 1), (103, 1), (104, 1), (105, 16), (121, 1), (122, 1), (123, 1)] by kernel_rfl]
  obtain ⟨T, hT⟩ : ∃ T : List Value, T = [.nilFunc, .slice none 0 0, .int .i64 ((0 : Nat) : Int)] ++ (cv (List.replicate 8 (0, 0)) ++ [.slice none 0 0, .int .u32 ((0 : Nat) : Int), .int .u32 ((0 : Nat) : Int)]) := ⟨_, rfl⟩
  have hz0 : mRow zX (.slice none 0 0) zM = resL (.slice none 0 0) zS ++ T := by rw [hT]; rfl
  have hl : T.length = 22 := by rw [hT]; rfl
  obtain ⟨A, hA⟩ : ∃ A, A = resL (.slice none 0 0) { zS with L := L, d := d } := ⟨_, rfl⟩
  have hAl : A.length = 102 := by rw [hA, resL_len]
  have hA2 : (Value.agg (resA (.slice none 0 0) { zS with L := L, d := d })).cells.toList = A := by rw [hA]; rfl
  show Instr.fill _ (mRow zX (.slice none 0 0) zM).toArray _ = _
  rw [hz0, fill_one (v := .agg (resA (.slice none 0 0) { zS with L := L, d := d })) (o := 0) (n := 102) rfl (by rw [hA2, hAl]) (by rw [List.length_append, resL_len]; omega)]
  rw [hA2, splice_head (by rw [resL_len, hAl])]
  rw [fill_one (v := X.cmp) (o := 102) (n := 1) rfl (by rw [hc]; rfl) (by rw [List.length_append, hAl]; omega)]
  rw [show X.cmp.cells.toList = [X.cmp] by rw [hc], show (102 : Nat) = A.length + 0 by omega, splice_one _ (by omega)]
  rw [fill_one (v := X.cd) (o := 103) (n := 1) rfl (by rw [hcd]; rfl) (by rw [List.length_append, hAl, List.length_set]; omega)]
  rw [show X.cd.cells.toList = [X.cd] by rw [hcd], show (103 : Nat) = A.length + 1 by omega, splice_one _ (by rw [List.length_set]; omega)]
  rw [fill_one (v := X.mv) (o := 121) (n := 1) rfl (by rw [hmv]; rfl) (by rw [List.length_append, hAl, List.length_set, List.length_set]; omega)]
  rw [show X.mv.cells.toList = [X.mv] by rw [hmv], show (121 : Nat) = A.length + 19 by omega, splice_one _ (by rw [List.length_set, List.length_set]; omega)]
  rw [fill_one (v := .int .u32 (X.tk : Int)) (o := 122) (n := 1) rfl rfl (by rw [List.length_append, hAl, List.length_set, List.length_set, List.length_set]; omega)]
  rw [show (Value.int .u32 (X.tk : Int)).cells.toList = [.int .u32 (X.tk : Int)] from rfl, show (122 : Nat) = A.length + 20 by omega, splice_one _ (by rw [List.length_set, List.length_set, List.length_set]; omega)]
  rw [fill_one (v := .int .u32 (X.al : Int)) (o := 123) (n := 1) rfl rfl (by rw [List.length_append, hAl, List.length_set, List.length_set, List.length_set, List.length_set]; omega)]
  rw [show (Value.int .u32 (X.al : Int)).cells.toList = [.int .u32 (X.al : Int)] from rfl, show (123 : Nat) = A.length + 21 by omega, splice_one _ (by rw [List.length_set, List.length_set, List.length_set, List.length_set]; omega), hT, hA]
  show some _ = some _
  congr 2
section
variable {ops : Array Oper} {rest : List Oper} {o : Oper} {a : Act} {w : World} {Q : Exit → Act → World → Prop}
theorem wpList_alR (hg : o.guard = none) (ho : o.op = .alloc 87) (dst : Option Tmp) (hdst : o.dst = dst) (N : Nat) (hN : w.heap.size = N)
    (h : wpList Tryd.prog ops Q rest (a.put dst (.pointer (some ⟨N, 0, none⟩))) (w.alloc (.cells (resA (.slice none 0 0) zS) 87))) : wpList Tryd.prog ops Q (o :: rest) a w := by
  have hz : (zeroValue 87).run Tryd.prog w = .ok (.agg (resA (.slice none 0 0) zS)) w := by kernel_rfl
  subst hN
  refine Great.wpList_allocTo hg dst hdst _ _ ?_ h
  unfold execOp
  simp only [ho, Instr.alloc, newVar, newRow, run_newObj_alloc, Sem.run_bind, Sem.run_pure, Result.andThen_ok, hz, Value.cells]
theorem wpList_alM (hg : o.guard = none) (ho : o.op = .alloc 106) (dst : Option Tmp) (hdst : o.dst = dst) (N : Nat) (hN : w.heap.size = N)
    (h : wpList Tryd.prog ops Q rest (a.put dst (.pointer (some ⟨N, 0, none⟩))) (w.alloc (.cells (mRow zX (.slice none 0 0) zM).toArray 106))) : wpList Tryd.prog ops Q (o :: rest) a w := by
  have hz : (zeroValue 106).run Tryd.prog w = .ok (.agg (mRow zX (.slice none 0 0) zM).toArray) w := by kernel_rfl
  subst hN
  refine Great.wpList_allocTo hg dst hdst _ _ ?_ h
  unfold execOp
  simp only [ho, Instr.alloc, newVar, newRow, run_newObj_alloc, Sem.run_bind, Sem.run_pure, Result.andThen_ok, hz, Value.cells]
theorem wpList_bdR1 (hgd : o.guard = none) (s1 s2 : Operand) (L : List (Int × Nat)) (d : Nat) (ho : o.op = .build 87 #[(0, s1), (1, s2)]) (h1 : a.eval s1 = .agg (bdL L)) (h2 : a.eval s2 = .agg #[.int .u64 (d : Int)])
    (h : wpList Tryd.prog ops Q rest (a.put o.dst (.agg (resA (.slice none 0 0) { zS with L := L, d := d }))) w) : wpList Tryd.prog ops Q (o :: rest) a w := by
  have e : Tryd.prog.built 87 ((#[(0, s1), (1, s2)] : Array (Nat × Operand)).map fun (i, x) => (i, a.eval x)).toList = some (resA (.slice none 0 0) { zS with L := L, d := d }) := by
    rw [← resA_built L d]
    simp [h1, h2]
  exact wpList_build hgd _ _ ho (by rw [e]; rfl) (by rw [e]; exact h)
theorem wpList_bdR2 (hgd : o.guard = none) (s1 s2 s5 : Operand) (L : List (Int × Nat)) (d : Nat) (ho : o.op = .build 87 #[(0, s1), (1, s2), (5, s5)]) (h1 : a.eval s1 = .agg (bdL L)) (h2 : a.eval s2 = .agg #[.int .u64 (d : Int)]) (h5 : a.eval s5 = .int .i64 2)
    (h : wpList Tryd.prog ops Q rest (a.put o.dst (.agg (resA (.slice none 0 0) { zS with L := L, d := d, e := 2 }))) w) : wpList Tryd.prog ops Q (o :: rest) a w := by
  have e : Tryd.prog.built 87 ((#[(0, s1), (1, s2), (5, s5)] : Array (Nat × Operand)).map fun (i, x) => (i, a.eval x)).toList = some (resA (.slice none 0 0) { zS with L := L, d := d, e := 2 }) := by
    rw [← resA_built2 L d]
    simp [h1, h2, h5]
  exact wpList_build hgd _ _ ho (by rw [e]; rfl) (by rw [e]; exact h)
theorem wpList_bdM (hgd : o.guard = none) (s0 s1 s2 s5 s6 s7 : Operand) (L : List (Int × Nat)) (d : Nat) (X : MX) (hc : X.cmp.cells = #[X.cmp]) (hcd : X.cd.cells = #[X.cd]) (hmv : X.mv.cells = #[X.mv])
    (ho : o.op = .build 106 #[(0, s0), (1, s1), (2, s2), (5, s5), (6, s6), (7, s7)]) (h0 : a.eval s0 = .agg (resA (.slice none 0 0) { zS with L := L, d := d })) (h1 : a.eval s1 = X.cmp) (h2 : a.eval s2 = X.cd) (h5 : a.eval s5 = X.mv) (h6 : a.eval s6 = .int .u32 (X.tk : Int)) (h7 : a.eval s7 = .int .u32 (X.al : Int))
    (h : wpList Tryd.prog ops Q rest (a.put o.dst (.agg (mRow X (.slice none 0 0) (newM L d)).toArray)) w) : wpList Tryd.prog ops Q (o :: rest) a w := by
  have e : Tryd.prog.built 106 ((#[(0, s0), (1, s1), (2, s2), (5, s5), (6, s6), (7, s7)] : Array (Nat × Operand)).map fun (i, x) => (i, a.eval x)).toList = some (mRow X (.slice none 0 0) (newM L d)).toArray := by
    rw [← mach_built L d X hc hcd hmv]
    simp [h0, h1, h2, h5, h6, h7]
  exact wpList_build hgd _ _ ho (by rw [e]; rfl) (by rw [e]; exact h)
end
end Go.Proofs.YtnbbglhpjpebhaaDoor
/- Run: what comes of it. Conditions: the numbers fit; the table of the operations lies. -/
namespace Go.Proofs.YtnbbglhpjpebhaaDoor
open Go.RowKit

def BoxR (w : World) (g : Nat) (sh : Value) (s : VS) : Prop := w.heap[g]? = some (.cells (resA sh s) 87 (0, 0))
theorem resA_size (sh : Value) (s : VS) : (resA sh s).size = 102 := by unfold resA; simp [resL_len]
theorem resA_all (sh : Value) (s : VS) (h : sh.oneCell' = true) : (resA sh s).all (·.oneCell') = true := by
  refine Array.all_eq_true_iff_forall_mem.2 fun v hv => ?_
  have hv : v ∈ resL sh s := by simpa [resA] using hv
  unfold resL at hv
  rw [List.mem_append] at hv
  rcases hv with hv | hv
  · exact Array.all_eq_true_iff_forall_mem.1 (bdL_all s.L) v (by simpa using hv)
  · simp only [List.mem_cons, List.not_mem_nil, or_false] at hv
    rcases hv with rfl | rfl | rfl | rfl | rfl
    · rfl
    · rfl
    · exact h
    · rfl
    · rfl
theorem mod_setRow (w : World) (g : Nat) (cs : Array Value) : Mod (fun i => i = g) w (w.setRow g cs) := ⟨rfl, rfl, rfl, by simp [World.setRow], fun k _ hk => setRow_other w g k cs hk⟩
theorem check_parts {l : List Cd} {cells players : Int} (h : (checkV l cells players).2 = true) : l.length ≤ 96 ∧ ∀ c ∈ l, fitsB c cells ((l.length : Int) + 1) players = true := by
  unfold checkV at h
  by_cases h1 : 96 < l.length
  · rw [if_pos h1] at h; cases h
  rw [if_neg h1] at h
  by_cases h2 : l.findIdx (checkP l cells players) < l.length
  · rw [if_pos h2] at h; cases h
  refine ⟨by omega, fun c hc => ?_⟩
  have h3 := List.findIdx_eq_length.1 (Nat.le_antisymm List.findIdx_le_length (Nat.le_of_not_lt h2)) c hc
  simpa [checkP] using h3
def regK (al k : Nat) : List (Int × Nat) := (List.range 8).map fun j => if j < k then (0, al) else (0, 0)
theorem regK_zero (al : Nat) : regK al 0 = List.replicate 8 (0, 0) := rfl
theorem regK_all (al : Nat) : regK al 8 = List.replicate 8 (0, al) := rfl
theorem regK_succ (al k : Nat) : (regK al k).set k (0, al) = regK al (k + 1) := by
  unfold regK
  apply List.ext_getElem
  · simp
  · intro j h1 h2
    rw [List.getElem_set]
    simp only [List.getElem_map, List.getElem_range]
    by_cases e : k = j
    · subst e; rw [if_pos rfl, if_pos (by omega)]
    · rw [if_neg e]
      by_cases h3 : j < k
      · rw [if_pos h3, if_pos (by omega)]
      · rw [if_neg h3, if_neg (by omega)]
def newK (L : List (Int × Nat)) (d al k : Nat) : VS := ⟨L, d, 0, [], 0, 0, 0, regK al k⟩
namespace BoxR
variable {w w' : World} {g : Nat} {sh : Value} {s : VS}
theorem lt (h : BoxR w g sh s) : g < w.heap.size := (Array.getElem?_eq_some_iff.1 h).1
theorem below {B : Nat} (h : BoxR w g sh s) (hb : Below B w w') (hg : g < B) : BoxR w' g sh s := (hb.block g hg).trans h
theorem ext (h : BoxR w g sh s) (hb : Below w.heap.size w w') : BoxR w' g sh s := (hb.block g h.lt).trans h
theorem mod {S : Nat → Prop} (h : BoxR w g sh s) (hm : Mod S w w') (hs : ¬ S g) : BoxR w' g sh s := (hm.block g h.lt hs).trans h
theorem row_ (h : BoxR w g sh s) (sh' : Value) (s' : VS) : BoxR (w.setRow g (resA sh' s')) g sh' s' := setRow_heap w g _ _ _ _ h
end BoxR
section
variable {ops : Array Oper} {rest : List Oper} {o : Oper} {a : Act} {w : World} {Q : Exit → Act → World → Prop}
theorem wpList_stR (hg : o.guard = none) (x y : Operand) (ho : o.op = .store 87 x y) (g : Nat) (sh' : Value) (s' : VS) (hx : a.eval x = .pointer (some ⟨g, 0, none⟩)) (hy : a.eval y = .agg (resA sh' s')) (h1 : sh'.oneCell' = true) (sh : Value) (s : VS) (q : BoxR w g sh s)
    (h : wpList Tryd.prog ops Q rest (a.put o.dst undef) (w.setRow g (resA sh' s'))) : wpList Tryd.prog ops Q (o :: rest) a w :=
  wpList_store_row hg 87 x y ho g _ hx hy _ _ q (by rw [resA_size]; kernel_rfl) (by rw [resA_size, resA_size]) (resA_all _ _ h1) h
theorem mrow_all (X : MX) (sh : Value) (s : VS) (h0 : sh.oneCell' = true) (h1 : X.cmp.oneCell' = true) (h2 : X.cd.oneCell' = true) (h3 : X.mv.oneCell' = true) : (mRow X sh s).toArray.all (·.oneCell') = true := by
  refine Array.all_eq_true_iff_forall_mem.2 fun v hv => ?_
  have hv : v ∈ mRow X sh s := by simpa using hv
  unfold mRow mMid mEnd at hv
  rw [List.mem_append, List.mem_append, List.mem_append] at hv
  rcases hv with hv | hv | hv | hv
  · exact Array.all_eq_true_iff_forall_mem.1 (bdL_all s.L) v (by simpa using hv)
  · simp only [List.mem_cons, List.not_mem_nil, or_false] at hv
    rcases hv with rfl | rfl | rfl | rfl | rfl | rfl | rfl | rfl
    · rfl
    · rfl
    · exact h0
    · rfl
    · rfl
    · exact h1
    · exact h2
    · rfl
  · exact cv_one _ v hv
  · simp only [List.mem_cons, List.not_mem_nil, or_false] at hv
    rcases hv with rfl | rfl | rfl
    · exact h3
    · rfl
    · rfl
theorem wpList_stMach (hg : o.guard = none) (x y : Operand) (ho : o.op = .store 106 x y) (g : Nat) (X : MX) (s : VS) (hx : a.eval x = .pointer (some ⟨g, 0, none⟩)) (hy : a.eval y = .agg (mRow X (.slice none 0 0) s).toArray) (hR : s.R.length = 8) (h1 : X.cmp.oneCell' = true) (h2 : X.cd.oneCell' = true) (h3 : X.mv.oneCell' = true)
    (old : Array Value) (q : w.heap[g]? = some (.cells old 106 (0, 0))) (ho2 : old.size = 124)
    (h : wpList Tryd.prog ops Q rest (a.put o.dst undef) (w.setRow g (mRow X (.slice none 0 0) s).toArray)) : wpList Tryd.prog ops Q (o :: rest) a w :=
  wpList_store_row hg 106 x y ho g _ hx hy _ _ q (by rw [List.size_toArray, mRow_size hR]; kernel_rfl) (by rw [ho2, List.size_toArray, mRow_size hR]) (mrow_all _ _ _ rfl h1 h2 h3) h
end
/-- What is asked of what came. -/
structure RunIn (P : VP) (A : Option Addr) (bc : Nat) (Am : Option Addr) (bm : Nat) (L : List (Int × Nat)) (w : World) : Prop where
  code : Sl w bc A (kv P.code)
  moves : Is w bm Am P.mv
  ok : okK P.code
  len : P.code.length ≤ maxLen
  mvl : P.mv.length ≤ 100
  mv : ∀ x ∈ P.mv, -2147483648 ≤ x ∧ x ≤ 2147483647
  L48 : L.length ≤ 48
  okL : okC L
  al : P.al < 4294967296
  tab : CTab w
  hbc : bc < w.heap.size
  hbm : bm < w.heap.size
set_option maxHeartbeats 16000000 in
set_option maxRecDepth 20000 in
theorem Run_calls (comp : Nat → Int → Int → Int) (hcomp : Comp comp) (hcf : CompFit comp) (P : VP) (A : Option Addr) (cap bc : Nat) (Am : Option Addr) (capm bm : Nat) (L : List (Int × Nat)) (d : Nat) (w : World) (hin : RunIn P A bc Am bm L w) :
    Calls Tryd.prog 35 #[.slice A P.code.length cap, .agg (bdL L), .agg #[.int .u64 (d : Int)], .slice Am P.mv.length capm, .int .u32 (P.tk : Int), .int .u32 (P.al : Int)] w fun e w' => ∃ sh, e = .returned (.agg (resA sh (wholeV comp P L d))) ∧ RowS w' w.heap.size sh (wholeV comp P L d).sh ∧ Below w.heap.size w w' := by
  obtain ⟨F, hF⟩ : ∃ F, F = wholeV comp P L d := ⟨_, rfl⟩
  rw [← hF]
  have HF := Lib.hid hF
  clear hF
  have HI := Lib.hid hin
  have hL := hin.L48
  obtain ⟨W0, hW0⟩ : ∃ W0, W0 = ((w.alloc (.cells (bdL L) 36)).alloc (.cells #[.int .u64 (d : Int)] 38)).alloc (.cells (resA (.slice none 0 0) zS) 87) := ⟨_, rfl⟩
  have qb : BoxL W0 w.heap.size L := by rw [hW0]; exact ((BoxL.new_ w L).alloc _).alloc _
  have qd : Box W0 (w.heap.size + 1) (.int .u64 (d : Int)) 38 := by
    have h := (Box.new_ (w.alloc (.cells (bdL L) 36)) (.int .u64 (d : Int)) 38).alloc (.cells (resA (.slice none 0 0) zS) 87)
    rw [show (w.alloc (.cells (bdL L) 36)).heap.size = w.heap.size + 1 by simp] at h
    rw [hW0]; exact h
  have qr : BoxR W0 (w.heap.size + 2) (.slice none 0 0) zS := by
    have h : BoxR (((w.alloc (.cells (bdL L) 36)).alloc (.cells #[.int .u64 (d : Int)] 38)).alloc (.cells (resA (.slice none 0 0) zS) 87)) _ (.slice none 0 0) zS := heap_alloc_new _ _
    rw [show ((w.alloc (.cells (bdL L) 36)).alloc (.cells #[.int .u64 (d : Int)] 38)).heap.size = w.heap.size + 2 by simp] at h
    rw [hW0]; exact h
  have hb0 : Below w.heap.size w W0 := by rw [hW0]; exact below_alloc3 w _ _ _
  have hz0 : W0.heap.size = w.heap.size + 3 := by rw [hW0]; simp
  have hT0 := HI.out.tab.ext hb0
  have hc0 := Sl.ext HI.out.code hb0
  have hR := fun W hs hT => Right_calls A P.code P.code.length cap bc L.length P.mv.length W hs rfl HI.out.len HI.out.ok (by omega) (by omega) hT
  have hLen := fun W => Len_calls L W
  have eN : ((w.alloc (.cells (bdL L) 36)).alloc (.cells #[.int .u64 (d : Int)] 38)).heap.size = w.heap.size + 2 := by simp
  have HEN := Lib.hid eN
  have HW0 := Lib.hid hW0
  obtain ⟨ok, hokk⟩ : ∃ ok, ok = (checkV P.code L.length P.mv.length).2 := ⟨_, rfl⟩
  rw [← hokk] at hR
  have HOK := Lib.hid hokk
  obtain ⟨nc, hnc⟩ : ∃ nc, nc = P.code.length := ⟨_, rfl⟩
  obtain ⟨nm, hnm⟩ : ∃ nm, nm = P.mv.length := ⟨_, rfl⟩
  rw [← hnc, ← hnm] at hR ⊢
  have HNC := Lib.hid hnc
  have HNM := Lib.hid hnm
  clear hin eN hW0 hokk hnc hnm
  go_enter Tryd.func35, Tryd.ntmps35
  go_wp2_with (first | ((with_reducible refine at_al 87 12 ?_); refine wpList_alR rfl rfl (some 12) rfl (w.heap.size + 2) HEN.out ?_; rw [← HW0.out]) | ((with_reducible refine at_ld 36 7 ?_); refine wpList_ld rfl (.tmp 7) rfl w.heap.size rfl L qb ?_))
  refine (hLen _).mono ?_
  rintro e w1 ⟨rfl, h1⟩
  have qb := qb.ext h1
  have qd := qd.ext h1
  have qr := qr.ext h1
  have hb1 := hb0.trans (h1.mono hb0.size)
  have hT1 := hT0.ext h1
  have hc1 := Sl.ext hc0 h1
  clear hLen hb0 hT0 hc0
  go_wp2_with fail
  refine (hR w1 hc1 hT1).mono ?_
  rintro e w2 ⟨rfl, h2⟩
  have qb := qb.ext h2
  have qd := qd.ext h2
  have qr := qr.ext h2
  have hb2 := hb1.trans (h2.mono hb1.size)
  have hz2 : w.heap.size + 3 ≤ w2.heap.size := by have := h1.size; have := h2.size; omega
  have dc := qd.cell
  clear hR hb1 hT1 hc1 h1 h2 hz0 HW0 HEN
  cases ok with
  | false =>
    have hFe : F = { startV P L d with e := 2 } := by rw [HF.out]; unfold wholeV; rw [if_neg (by rw [← HOK.out]; decide)]
    go_wp2_with (first | ((with_reducible refine at_ld 36 7 ?_); refine wpList_ld rfl (.tmp 7) rfl w.heap.size rfl L qb ?_) | ((with_reducible refine at_bd 87 24 _ ?_); refine wpList_bdR2 rfl (.tmp 22) (.tmp 23) (.const (.int .i64 2)) L d rfl rfl rfl rfl ?_) | ((with_reducible refine at_st 87 12 24 ?_); refine wpList_stR rfl (.tmp 12) (.tmp 24) rfl (w.heap.size + 2) (.slice none 0 0) { zS with L := L, d := d, e := 2 } rfl rfl rfl (.slice none 0 0) zS qr ?_))
    have qr3 := qr.row_ (.slice none 0 0) { zS with L := L, d := d, e := 2 }
    have hb3 := below_setRow hb2 (w.heap.size + 2) (resA (.slice none 0 0) { zS with L := L, d := d, e := 2 }) (by omega)
    exact bodyPost_ret (results_cell_row (P := Tryd.prog) rfl _ _ (w.heap.size + 2) _ _ (0, 0) _ rfl qr3 Tryd.underlying87 rfl (by rw [resA_size]; kernel_rfl)) rfl ⟨.slice none 0 0, by rw [hFe]; rfl, by rw [hFe]; exact World.ownsRow_nil _ _ _ _, hb3⟩
  | true =>
    have hck := check_parts (HOK.out.symm)
    obtain ⟨X, hX⟩ : ∃ X : MX, X = ⟨.func (.func 47) #[] #[], .slice A nc cap, .slice Am nm capm, P.tk, P.al⟩ := ⟨_, rfl⟩
    have x1 : X.cmp = .func (.func 47) #[] #[] := by rw [hX]
    have x2 : X.cd = .slice A nc cap := by rw [hX]
    have x3 : X.mv = .slice Am nm capm := by rw [hX]
    have x4 : X.tk = P.tk := by rw [hX]
    have x5 : X.al = P.al := by rw [hX]
    have HX1 := Lib.hid x1
    have HX2 := Lib.hid x2
    have HX3 := Lib.hid x3
    have HX4 := Lib.hid x4
    have HX5 := Lib.hid x5
    have o1 : X.cmp.cells = #[X.cmp] := by rw [x1]; rfl
    have o2 : X.cd.cells = #[X.cd] := by rw [x2]; rfl
    have o3 : X.mv.cells = #[X.mv] := by rw [x3]; rfl
    have O1 := Lib.hid o1
    have O2 := Lib.hid o2
    have O3 := Lib.hid o3
    clear hX x1 x2 x3 x4 x5 o1 o2 o3
    have hN0 : (newM L d).R.length = 8 := rfl
    go_wp2_with (first | ((with_reducible refine at_ld 36 7 ?_); refine wpList_ld rfl (.tmp 7) rfl w.heap.size rfl L qb ?_) | ((with_reducible refine at_bd 87 27 _ ?_); refine wpList_bdR1 rfl (.tmp 25) (.tmp 26) L d rfl rfl rfl ?_) | ((with_reducible refine at_bd 106 32 _ ?_); refine wpList_bdM rfl (.tmp 27) (.func 47) (.tmp 28) (.tmp 29) (.tmp 30) (.tmp 31) L d X O1.out O2.out O3.out rfl rfl HX1.out.symm HX2.out.symm HX3.out.symm (by rw [HX4.out]; rfl) (by rw [HX5.out]; rfl) ?_) | ((with_reducible refine at_al 106 13 ?_); refine wpList_alM rfl rfl (some 13) rfl w2.heap.size rfl ?_) | ((with_reducible refine at_st 106 13 32 ?_); refine wpList_stMach rfl (.tmp 13) (.tmp 32) rfl w2.heap.size X (newM L d) rfl rfl hN0 (by rw [HX1.out]; rfl) (by rw [HX2.out]; rfl) (by rw [HX3.out]; rfl) _ (heap_alloc_new w2 _) (by rw [List.size_toArray, mRow_size rfl]) ?_; rw [made_row]))
    obtain ⟨b, hbe⟩ : ∃ b, b = w2.heap.size := ⟨_, rfl⟩
    have q3 : MB (w2.alloc (.cells (mRow X (.slice none 0 0) (newM L d)).toArray 106)) b X (.slice none 0 0) (newK L d P.al 0) := ⟨by rw [hbe]; exact heap_alloc_new w2 _, rfl⟩
    have hx3 := below_alloc1 w2 (.cells (mRow X (.slice none 0 0) (newM L d)).toArray 106)
    have qb := qb.ext hx3
    have qd := qd.ext hx3
    have qr := qr.ext hx3
    have hb3 := hb2.trans (hx3.mono hb2.size)
    rw [← hbe] at hz2 ⊢
    obtain ⟨wz, hwz⟩ : ∃ wz, wz = w2.alloc (.cells (mRow X (.slice none 0 0) (newM L d)).toArray 106) := ⟨_, rfl⟩
    rw [← hwz] at q3 qb qd qr hb3 ⊢
    clear hwz hbe hx3 hb2 dc
    go_loopw [14, 33] (fun _ c wr => ∃ k : Nat, k ≤ 8 ∧ c = .int .i64 k ∧ MB wr b X (.slice none 0 0) (newK L d P.al k) ∧ MM b wz wr ∧ Below w.heap.size w wr) (fun _ c _ => 8 - (intOf c).toNat)
    case atStart => exact ⟨0, Nat.zero_le _, rfl, q3, MM.refl_ _ _, hb3⟩
    case round =>
      clear q3 hb3
      obtain ⟨k, hk, rfl, q, hm, hb⟩ := hrel
      by_cases hlt : k < 8
      · have ek : (k : Int) < 8 := by omega
        have hO := open_calls b none b X (newK L d P.al k) 0 wr ⟨.slice none 0 0, q, World.ownsRow_nil _ _ _ _, rfl, by simp⟩
        rw [HX5.out] at hO
        go_wp2_with fail
        refine hO.mono ?_
        rintro e w4 ⟨rfl, h4⟩
        have q4 := q.ext h4
        have hm4 := hm.ext h4
        have hb4 := hb.trans (h4.mono hb.size)
        have c0 := q4.cRv hlt
        have c1 := q4.cRl hlt
        have f0 := q4.free (105 + k * 2)
        have f1 := q4.free (105 + k * 2 + 1)
        have q5 : MB ((w4.setCell ⟨b, 105 + k * 2, none⟩ (.int .i32 0)).setCell ⟨b, 105 + k * 2 + 1, none⟩ (.int .u32 (P.al : Int))) b X (.slice none 0 0) (newK L d P.al (k + 1)) := by
          have := q4.sR hlt (0, P.al)
          unfold VS.setR newK at this
          rw [regK_succ] at this
          exact this
        have hm5 := (hm4.cell (105 + k * 2) (.int .i32 0)).cell (105 + k * 2 + 1) (.int .u32 (P.al : Int))
        have hb5 := (hb4.setCell (p := ⟨b, 105 + k * 2, none⟩) (by dsimp only; omega) (.int .i32 0)).setCell (p := ⟨b, 105 + k * 2 + 1, none⟩) (by dsimp only; omega) (.int .u32 (P.al : Int))
        have Q5 := Lib.hid q5
        have hl4 := q4.lt
        clear hO q q4 q5 hm hm4 hb hb4
        go_wp2_with fail
        go_roundw
        case rel => exact ⟨k + 1, by omega, by go_num, Q5.out, hm5, hb5⟩
        case measure => simp [intOf]; omega
      · obtain rfl : k = 8 := by omega
        have hcode : Sl wr bc A (kv P.code) := HI.out.code.below hb HI.out.hbc
        have hmoves : Is wr bm Am P.mv := HI.out.moves.below hb HI.out.hbm
        have hbcb := HI.out.hbc
        have hbmb := HI.out.hbm
        have hXO : XOk X P wr b := ⟨HX1.out, ⟨A, cap, bc, by rw [HX2.out, HNC.out], hcode, by omega⟩, ⟨Am, capm, bm, by rw [HX3.out, HNM.out], hmoves, by omega⟩, HX4.out, HX5.out, hck.1, HI.out.mvl⟩
        have hPO : POk comp P L.length := ⟨hcf, HI.out.al, HI.out.mv, hck.1, fun c hc => ⟨HI.out.ok c hc, hck.2 c hc⟩⟩
        have hTO : TOk (startV P L d) L.length := ⟨⟨rfl, rfl, HI.out.okL, fun c hc => by rw [List.eq_of_mem_replicate hc]; exact ⟨⟨by show (-2147483648 : Int) ≤ 0; omega, by show (0 : Int) ≤ 2147483647; omega⟩, HI.out.al⟩, Nat.two_pow_pos _⟩, Nat.zero_le _, Nat.le_refl _, Nat.zero_le _⟩
        have hRun := run_calls comp hcomp P b none b L.length X (startV P L d) wr ⟨.slice none 0 0, q, World.ownsRow_nil _ _ _ _, rfl, by simp⟩ hL hPO hTO hXO (Nat.le_refl _)
        have hFe : F = endV L d (runV comp P 402 (startV P L d)) := by rw [HF.out]; unfold wholeV; rw [if_pos (by rw [← HOK.out])]
        rw [show 402 - (startV P L d).u = 402 from rfl] at hRun
        obtain ⟨S5, hS5⟩ : ∃ S5, S5 = runV comp P 402 (startV P L d) := ⟨_, rfl⟩
        rw [← hS5] at hRun hFe
        have HFE := Lib.hid hFe
        have qb := qb.mod hm (by omega)
        have qd := qd.mod hm (by omega)
        have qr := qr.mod hm (by omega)
        have hqb := q.lt
        clear hcode hmoves hXO hPO hTO hS5 hFe hck hm q
        go_wp2_with fail
        refine hRun.mono ?_
        rintro e w5 ⟨rfl, r', h5, h6⟩
        have qb := qb.below h6 (by omega)
        have qd := qd.below h6 (by omega)
        have qr := qr.below h6 (by omega)
        have hb5 := hb.trans (h6.mono (by omega))
        obtain ⟨sh5, q5, hS5, hr5, hrb5⟩ := h5
        have hone : sh5.oneCell' = true := by rcases hS5.2 with ⟨h, _⟩ | ⟨g, cp, cur, h, _⟩ <;> rw [h] <;> rfl
        have hS6 : RowS w5 w.heap.size sh5 S5.sh := owns_low hS5 (by omega)
        have c1 := q5.cE
        have hl5 := q5.lt
        have hz5 := hb5.size
        clear hRun hb h6
        by_cases he : S5.e = 0
        · have hFs : F = S5 := by rw [HFE.out]; unfold endV; rw [if_pos he]
          have ee : ((S5.e : Int) != 0) = false := by simp [he]
          have HE := Lib.hid he
          clear he
          go_wp2_with (first | ((with_reducible refine at_ld 87 54 ?_); refine wpList_ldR rfl (.tmp 54) rfl b rfl q5 ?_) | ((with_reducible refine at_st 87 12 55 ?_); refine wpList_stR rfl (.tmp 12) (.tmp 55) rfl (w.heap.size + 2) sh5 S5 rfl rfl hone (.slice none 0 0) zS qr ?_))
          have qr6 := qr.row_ sh5 S5
          have hb6 := below_setRow hb5 (w.heap.size + 2) (resA sh5 S5) (by omega)
          refine bodyPost_ret (results_cell_row (P := Tryd.prog) rfl _ _ (w.heap.size + 2) _ _ (0, 0) _ rfl qr6 Tryd.underlying87 rfl (by rw [resA_size]; kernel_rfl)) rfl ⟨sh5, by rw [hFs], by rw [hFs]; exact hS6.mod (S := fun i => i = w.heap.size + 2) (mod_setRow _ _ _) (fun k hk h => by have := (World.ownsRow.lt hS5 k hk).1; omega), hb6⟩
        · have hFs : F = { S5 with L := L, d := d, t := 0 } := by rw [HFE.out]; unfold endV; rw [if_neg he]
          have ee : ((S5.e : Int) != 0) = true := by simp; omega
          have dc := qd.cell
          have c97 := q5.cD
          clear he
          go_wp2_with fail
          refine wp_region_held_drew (S := fun w' => BoxL w' w.heap.size L ∧ Box w' (w.heap.size + 1) (.int .u64 (d : Int)) 38) (by kernel_rfl) ?_ (fun hHeld => ?_)
          · exact ⟨qb, qd⟩
          refine wpAnyH_take (i := 0) (by simp only [List.getElem?_toArray, List.getElem?_cons_zero]; rfl) (by kernel_rfl) (by kernel_rfl) (by kernel_rfl) (by exact fun _ _ _ h => h) (by exact yieldsIf_load_bd (by kernel_rfl) (.tmp 7) rfl w.heap.size rfl _ _ _ (fun w h => h.1)) hHeld ?_
          try simp only [Act.put, List.setIfInBounds_toArray, List.set_cons_zero, List.set_cons_succ]
          refine wpAnyH_take (i := 1) (v := ?zv1) (by simp only [List.getElem?_toArray, List.getElem?_cons_succ, List.getElem?_cons_zero]; rfl) (by kernel_rfl) (by kernel_rfl) (by kernel_rfl) (by exact fun _ _ _ h => h) (Or.inl ⟨by rfl, ?zy1⟩) hHeld ?_
          case zy1 => (intro w hSw; (try dsimp only at hSw); have hy0 := hSw.2.cell; clear hSw; go_simp; try (with_reducible rfl))
          try simp only [Act.put, List.setIfInBounds_toArray, List.set_cons_zero, List.set_cons_succ]
          refine wpAnyH_take (i := 2) (v := ?zv2) (by simp only [List.getElem?_toArray, List.getElem?_cons_succ, List.getElem?_cons_zero]; rfl) (by kernel_rfl) (by kernel_rfl) (by kernel_rfl) (by exact fun _ _ _ h => h) (Or.inl ⟨by rfl, ?zy2⟩) hHeld ?_
          case zy2 => (intro w hSw; (try dsimp only at hSw); have hy0 := hSw.2.cell; clear hSw; go_simp; try (with_reducible rfl))
          try simp only [Act.put, List.setIfInBounds_toArray, List.set_cons_zero, List.set_cons_succ]
          refine wpAnyH_take (i := 3) (v := ?zv3) (by simp only [List.getElem?_toArray, List.getElem?_cons_succ, List.getElem?_cons_zero]; rfl) (by kernel_rfl) (by kernel_rfl) (by kernel_rfl) (by exact fun _ _ _ h => h) (Or.inl ⟨by rfl, ?zy3⟩) hHeld ?_
          case zy3 => (intro w hSw; (try dsimp only at hSw); have hy0 := hSw.2.cell; clear hSw; go_simp; try (with_reducible rfl))
          try simp only [Act.put, List.setIfInBounds_toArray, List.set_cons_zero, List.set_cons_succ]
          refine wpAnyH_ready (rs := [4]) (by kernel_rfl) (by simp) ?_
          refine AllReadyH.cons (by simp only [List.getElem?_toArray, List.getElem?_cons_succ, List.getElem?_cons_zero]; rfl) (fun KK hKK => ?_) AllReadyH.nil
          rw [if_pos (by rfl)]
          refine wp_stM (.tmp 49) (.tmp 46) rfl b L rfl rfl q5 ?_
          have hm6 : MM b w5 (w5.drew.setCells b 0 (bdL L).toList) := (MM.dr (MM.refl_ b w5)).long (bdL L).toList
          have q6 : MB (w5.drew.setCells b 0 (bdL L).toList) b X sh5 { S5 with L := L } := MB.sL (w := w5.drew) q5 L
          have qb := qb.mod hm6 (by omega)
          have qd := qd.mod hm6 (by omega)
          have qr := qr.mod hm6 (by omega)
          have hl6 := q6.lt
          obtain ⟨w6, hw6⟩ : ∃ w6, w6 = w5.drew.setCells b 0 (bdL L).toList := ⟨_, rfl⟩
          rw [← hw6] at hm6 q6 qb qd qr hl6 ⊢
          clear hw6 c97
          have c97 := q6.cD
          have f97 := q6.free 97
          refine hKK.out _ _ ?_ (fun hHeld => ?_)
          · exact ⟨qb, qd⟩
          clear hKK KK
          try simp only [Act.put]
          refine wpAnyH_take (i := 5) (v := ?zv5) (by simp only [List.getElem?_toArray, List.getElem?_cons_succ, List.getElem?_cons_zero]; rfl) (by kernel_rfl) (by kernel_rfl) (by kernel_rfl) (by exact fun _ _ _ h => h) (Or.inl ⟨by rfl, ?zy5⟩) hHeld ?_
          case zy5 => (intro w hSw; (try dsimp only at hSw); have hy0 := hSw.2.cell; clear hSw; go_simp; try (with_reducible rfl))
          try simp only [Act.put, List.setIfInBounds_toArray, List.set_cons_zero, List.set_cons_succ]
          refine wpAnyH_take (i := 6) (v := ?zv6) (by simp only [List.getElem?_toArray, List.getElem?_cons_succ, List.getElem?_cons_zero]; rfl) (by kernel_rfl) (by kernel_rfl) (by kernel_rfl) (by exact fun _ _ _ h => h) (Or.inl ⟨by rfl, ?zy6⟩) hHeld ?_
          case zy6 => (intro w hSw; (try dsimp only at hSw); have hy0 := hSw.2.cell; clear hSw; go_simp; try (with_reducible rfl))
          try simp only [Act.put, List.setIfInBounds_toArray, List.set_cons_zero, List.set_cons_succ]
          refine wpAnyH_ready (rs := [7]) (by kernel_rfl) (by simp) ?_
          refine AllReadyH.cons (by simp only [List.getElem?_toArray, List.getElem?_cons_succ, List.getElem?_cons_zero]; rfl) (fun KK hKK => ?_) AllReadyH.nil
          go_simp
          have q7 := q6.sD d
          have hm7 := hm6.cell 97 (.int .u64 (d : Int))
          have qb := qb.mod ((MM.refl_ b _).cell 97 (.int .u64 (d : Int))) (by omega)
          have qd := qd.mod ((MM.refl_ b _).cell 97 (.int .u64 (d : Int))) (by omega)
          have qr := qr.mod ((MM.refl_ b _).cell 97 (.int .u64 (d : Int))) (by omega)
          have c98 := q7.cT
          have f98 := q7.free 98
          refine hKK.out _ _ ?_ (fun hHeld => ?_)
          · exact ⟨qb, qd⟩
          clear hKK KK
          try simp only [Act.put, List.setIfInBounds_toArray, List.set_cons_zero, List.set_cons_succ]
          refine wpAnyH_take (i := 8) (v := ?zv8) (by simp only [List.getElem?_toArray, List.getElem?_cons_succ, List.getElem?_cons_zero]; rfl) (by kernel_rfl) (by kernel_rfl) (by kernel_rfl) (by exact fun _ _ _ h => h) (Or.inl ⟨by rfl, ?zy8⟩) hHeld ?_
          case zy8 => (intro w hSw; (try dsimp only at hSw); have hy0 := hSw.2.cell; clear hSw; go_simp; try (with_reducible rfl))
          try simp only [Act.put, List.setIfInBounds_toArray, List.set_cons_zero, List.set_cons_succ]
          refine wpAnyH_take (i := 9) (v := ?zv9) (by simp only [List.getElem?_toArray, List.getElem?_cons_succ, List.getElem?_cons_zero]; rfl) (by kernel_rfl) (by kernel_rfl) (by kernel_rfl) (by exact fun _ _ _ h => h) (Or.inl ⟨by rfl, ?zy9⟩) hHeld ?_
          case zy9 => (intro w hSw; (try dsimp only at hSw); have hy0 := hSw.2.cell; clear hSw; go_simp; try (with_reducible rfl))
          try simp only [Act.put, List.setIfInBounds_toArray, List.set_cons_zero, List.set_cons_succ]
          refine wpAnyH_ready (rs := [10]) (by kernel_rfl) (by simp) ?_
          refine AllReadyH.cons (by simp only [List.getElem?_toArray, List.getElem?_cons_succ, List.getElem?_cons_zero]; rfl) (fun KK hKK => ?_) AllReadyH.nil
          go_simp
          have q8 := q7.sT 0
          have hm8 := hm7.cell 98 (.int .u64 0)
          have qb := qb.mod ((MM.refl_ b _).cell 98 (.int .u64 0)) (by omega)
          have qd := qd.mod ((MM.refl_ b _).cell 98 (.int .u64 0)) (by omega)
          have qr := qr.mod ((MM.refl_ b _).cell 98 (.int .u64 0)) (by omega)
          refine hKK.out _ _ ?_ (fun hHeld => ?_)
          · exact ⟨qb, qd⟩
          clear hKK KK
          try simp only [Act.put, List.setIfInBounds_toArray, List.set_cons_zero, List.set_cons_succ]
          refine wpAnyH_done (by kernel_rfl) ?_ _
          have hr8 : RowS ((w6.setCell ⟨b, 97, none⟩ (.int .u64 (d : Int))).setCell ⟨b, 98, none⟩ (.int .u64 0)) w.heap.size sh5 S5.sh := hS6.mod hm8 (fun k hk h => hrb5 (hr5.symm.trans (hk.trans (congrArg some h))))
          have hb8 : Below w.heap.size w ((w6.setCell ⟨b, 97, none⟩ (.int .u64 (d : Int))).setCell ⟨b, 98, none⟩ (.int .u64 0)) := hb5.trans (hm8.below (by omega) (fun i hi h => by omega))
          clear c97 f97 c98 f98 dc
          go_wp2_with (first | ((with_reducible refine at_ld 87 54 ?_); refine wpList_ldR rfl (.tmp 54) rfl b rfl q8 ?_) | ((with_reducible refine at_st 87 12 55 ?_); refine wpList_stR rfl (.tmp 12) (.tmp 55) rfl (w.heap.size + 2) sh5 { S5 with L := L, d := d, t := 0 } rfl rfl hone (.slice none 0 0) zS qr ?_))
          have qr9 := qr.row_ sh5 { S5 with L := L, d := d, t := 0 }
          have hb9 := below_setRow hb8 (w.heap.size + 2) (resA sh5 { S5 with L := L, d := d, t := 0 }) (by omega)
          refine bodyPost_ret (results_cell_row (P := Tryd.prog) rfl _ _ (w.heap.size + 2) _ _ (0, 0) _ rfl qr9 Tryd.underlying87 rfl (by rw [resA_size]; kernel_rfl)) rfl ⟨sh5, by first | rfl | rw [hFs], by first | (rw [hFs]; exact hr8.mod (S := fun i => i = w.heap.size + 2) (mod_setRow _ _ _) (fun k hk h => by have := (World.ownsRow.lt hS5 k hk).1; omega)) | exact hr8.mod (S := fun i => i = w.heap.size + 2) (mod_setRow _ _ _) (fun k hk h => by have := (World.ownsRow.lt hS5 k hk).1; omega), hb9⟩
end Go.Proofs.YtnbbglhpjpebhaaDoor
/- What came of it, in a variable: what its fields read as; and the document's example. Conditions: the table of the operations lies. -/
namespace Go.Proofs.YtnbbglhpjpebhaaDoor
open Go.RowKit

namespace BoxR
variable {w w' : World} {g : Nat} {sh : Value} {s : VS}
theorem at_ (h : BoxR w g sh s) {k : Nat} {v : Value} (hv : (resA sh s)[k]? = some v) : w.cell? ⟨g, k, none⟩ = some v := by
  rw [cell_of_row w g k _ _ _ h]
  exact hv
theorem cD (h : BoxR w g sh s) : w.cell? ⟨g, 97, none⟩ = some (.int .u64 (s.d : Int)) := h.at_ (resA_at _ _ (k := 0) rfl)
theorem cT (h : BoxR w g sh s) : w.cell? ⟨g, 98, none⟩ = some (.int .u64 (s.t : Int)) := h.at_ (resA_at _ _ (k := 1) rfl)
theorem cS (h : BoxR w g sh s) : w.cell? ⟨g, 99, none⟩ = some sh := h.at_ (resA_at _ _ (k := 2) rfl)
theorem cU (h : BoxR w g sh s) : w.cell? ⟨g, 100, none⟩ = some (.int .i64 (s.u : Int)) := h.at_ (resA_at _ _ (k := 3) rfl)
theorem cE (h : BoxR w g sh s) : w.cell? ⟨g, 101, none⟩ = some (.int .i64 (s.e : Int)) := h.at_ (resA_at _ _ (k := 4) rfl)
theorem rangeB (h : BoxR w g sh s) : w.rangeAt g 0 (bdL s.L).toList := fun j v hv => by
  rw [Nat.zero_add]
  refine h.at_ ?_
  unfold resA resL
  rw [List.getElem?_toArray, List.getElem?_append_left (List.getElem?_eq_some_iff.1 hv).1]
  exact hv
theorem rangeA (h : BoxR w g sh s) : w.rangeAt g 0 (resL sh s) := fun j v hv => by
  rw [Nat.zero_add]
  refine h.at_ ?_
  unfold resA
  rw [List.getElem?_toArray]
  exact hv
theorem new_ (w : World) (sh : Value) (s : VS) : BoxR (w.alloc (.cells (resA sh s) 87)) w.heap.size sh s := heap_alloc_new w _
theorem al (h : BoxR w g sh s) (o : Obj) : BoxR (w.alloc o) g sh s := h.ext (below_alloc1 _ _)
end BoxR
section
variable {ops : Array Oper} {rest : List Oper} {o : Oper} {a : Act} {w : World} {Q : Exit → Act → World → Prop} {sh : Value} {s : VS}
theorem wpList_ldRB (hgd : o.guard = none) (x : Operand) (ho : o.op = .load 36 x) (g : Nat) (hx : a.eval x = .pointer (some ⟨g, 0, none⟩)) (h : BoxR w g sh s)
    (k : wpList Tryd.prog ops Q rest (a.put o.dst (.agg (bdL s.L))) w) : wpList Tryd.prog ops Q (o :: rest) a w :=
  wpList_load_mid hgd _ x ho g 0 hx _ _ h.rangeB Tryd.underlying36 rfl (bd_sizeL _) (by rw [Array.toArray_toList]; exact k)
theorem wp_ldRB {K : Act → World → Prop} (x : Operand) (ho : o.op = .load 36 x) (g : Nat) (hx : a.eval x = .pointer (some ⟨g, 0, none⟩)) (h : BoxR w g sh s)
    (k : K (a.put o.dst (.agg (bdL s.L))) w) : o.wp Tryd.prog a w K Q :=
  wp_load_mid _ x ho g 0 hx _ _ h.rangeB Tryd.underlying36 rfl (bd_sizeL _) (by rw [Array.toArray_toList]; exact k)
theorem wpList_ldRA (hgd : o.guard = none) (x : Operand) (ho : o.op = .load 87 x) (g : Nat) (hx : a.eval x = .pointer (some ⟨g, 0, none⟩)) (h : BoxR w g sh s)
    (k : wpList Tryd.prog ops Q rest (a.put o.dst (.agg (resA sh s))) w) : wpList Tryd.prog ops Q (o :: rest) a w :=
  wpList_load_mid hgd _ x ho g 0 hx _ _ h.rangeA Tryd.underlying87 rfl (res_size _ _) k
theorem yieldsIf_ldRB {S : World → Prop} (hw : Region.wanted o (yielded ops a.tmps) = true) (x : Operand) (ho : o.op = .load 36 x) (g : Nat) (hx : a.eval x = .pointer (some ⟨g, 0, none⟩)) (hS : ∀ w, S w → BoxR w g sh s) : YieldsIf Tryd.prog ops S o (.agg (bdL s.L)) a := by
  have h := yieldsIf_load_mid (P := Tryd.prog) (S := S) hw _ x ho g 0 hx (bdL s.L).toList _ (fun w h => (hS w h).rangeB) Tryd.underlying36 rfl (bd_sizeL _)
  rw [Array.toArray_toList] at h
  exact h
theorem wpList_putR {N : Nat} (hg : o.guard = none) (x y : Operand) (ho : o.op = .store 87 x y) (hN : w.heap.size = N) (sh : Value) (s : VS) (h1 : sh.oneCell' = true) (hx : a.eval x = .pointer (some ⟨N, 0, none⟩)) (hy : a.eval y = .agg (resA sh s))
    (h : wpList Tryd.prog ops Q rest (a.put o.dst undef) (w.alloc (.cells (resA sh s) 87))) : wpList Tryd.prog ops Q (o :: rest) a (w.alloc (.cells (resA (.slice none 0 0) zS) 87)) := by
  subst hN
  refine wpList_stR hg x y ho w.heap.size sh s hx hy h1 (.slice none 0 0) zS (BoxR.new_ w _ _) ?_
  rw [made_row]
  exact h
end
theorem rowS_one {w : World} {B : Nat} {sh : Value} {l : List (Nat × Nat × Int)} (h : RowS w B sh l) : sh.oneCell' = true := by
  rcases h.2 with ⟨h, _⟩ | ⟨g, cp, cur, h, _⟩ <;> rw [h] <;> rfl
theorem comp_fit : CompFit compN := fun op _ _ h0 h1 => compN_fit op h0 h1
theorem ok_cd {op a b c : Nat} {n : Int} {m : Nat} (h1 : op ≤ 255) (h2 : a ≤ 255) (h3 : b ≤ 255) (h4 : c ≤ 255) (h5 : -2147483648 ≤ n) (h6 : n ≤ 2147483647) (h7 : m ≤ 4294967295) : (Cd.mk op a b c n m).Ok := ⟨h1, h2, h3, h4, h5, h6, h7⟩
theorem sl_new (w : World) (vs : List Value) (t : TypeId) : Sl (w.alloc (.cells vs.toArray t)) w.heap.size (some ⟨w.heap.size, 0, none⟩) vs := fun _ => ⟨0, rfl, fun j u hu => by
  rw [Nat.zero_add, cell_of_row _ _ j _ _ _ (heap_alloc_new w (.cells vs.toArray t))]
  simpa using hu⟩
end Go.Proofs.YtnbbglhpjpebhaaDoor
/- Nothing of it is wanted here. -/
namespace Go.Proofs.YtnbbglhpjpebhaaDoor
theorem vmv_there : True := trivial
end Go.Proofs.YtnbbglhpjpebhaaDoor
/- Loads of what came of it, and tests of boards, where a guard stands ahead of them. No condition. -/
namespace Go.Proofs.YtnbbglhpjpebhaaDoor
open Go.RowKit

section
variable {ops : Array Oper} {rest : List Oper} {o : Oper} {a : Act} {w : World} {Q : Exit → Act → World → Prop} {sh : Value} {s : VS}
theorem wpList_ldRBw (hw : Region.wanted o (yielded ops a.tmps) = true) (x : Operand) (ho : o.op = .load 36 x) (g : Nat) (hx : a.eval x = .pointer (some ⟨g, 0, none⟩)) (h : BoxR w g sh s)
    (k : wpList Tryd.prog ops Q rest (a.put o.dst (.agg (bdL s.L))) w) : wpList Tryd.prog ops Q (o :: rest) a w :=
  BigFrame.wpList_want hw fun _ hK => wp_ldRB x ho g hx h (hK _ _ k)
theorem wpList_ldRAw (hw : Region.wanted o (yielded ops a.tmps) = true) (x : Operand) (ho : o.op = .load 87 x) (g : Nat) (hx : a.eval x = .pointer (some ⟨g, 0, none⟩)) (h : BoxR w g sh s)
    (k : wpList Tryd.prog ops Q rest (a.put o.dst (.agg (resA sh s))) w) : wpList Tryd.prog ops Q (o :: rest) a w :=
  BigFrame.wpList_want hw fun _ hK => wp_load_mid _ x ho g 0 hx _ _ h.rangeA Tryd.underlying87 rfl (res_size _ _) (hK _ _ k)
theorem wpList_neq_bd (hw : Region.wanted o (yielded ops a.tmps) = true) (x y : Operand) (ho : o.op = .binOp .neq 36 x y 36)
    (L M : List (Int × Nat)) (hx : a.eval x = .agg (bdL L)) (hy : a.eval y = .agg (bdL M)) (hL : L.length ≤ 48) (d : Bool) (hd : d = decide (L = M))
    (h : wpList Tryd.prog ops Q rest (a.put o.dst (.bool (!d))) w) : wpList Tryd.prog ops Q (o :: rest) a w :=
  BigFrame.wpList_want hw fun K hK => by
    have e : d = true ↔ bdA (bdF L) (bdG L) L.length = bdA (bdF M) (bdG M) M.length := by
      rw [hd, decide_eq_true_iff]
      exact (bdL_inj hL).symm
    unfold Oper.wp
    simp only [execOp, ho, hx, hy, bdL, Sem.run_bind, eq_guard, Result.andThen_ok, run_neq_bd w _ _ _ _ _ _ d e, Sem.run_pure]
    exact hK _ _ h
end
/-- What a call of Run wants, of a program, moves and cells that were just laid. -/
theorem runIn_new {w : World} {P : VP} {L : List (Int × Nat)} {g1 g2 : Nat} (hc : Sl w g1 (some ⟨g1, 0, none⟩) (kv P.code)) (hm : Is w g2 (some ⟨g2, 0, none⟩) P.mv) (hok : okK P.code) (hl : P.code.length ≤ 96) (hml : P.mv.length ≤ 100) (hmv : ∀ x ∈ P.mv, -2147483648 ≤ x ∧ x ≤ 2147483647) (hL : L.length ≤ 48) (hoL : okC L) (hal : P.al < 4294967296) (hT : CTab w) (h1 : g1 < w.heap.size) (h2 : g2 < w.heap.size) :
    RunIn P (some ⟨g1, 0, none⟩) g1 (some ⟨g2, 0, none⟩) g2 L w := ⟨hc, hm, hok, by simp only [maxLen]; omega, hml, hmv, hL, hoL, hal, hT, h1, h2⟩
theorem kv_new (w : World) (l : List Cd) (o : Obj) (t : TypeId) : Sl ((w.alloc (.cells (kv l).toArray t)).alloc o) w.heap.size (some ⟨w.heap.size, 0, none⟩) (kv l) := (sl_new w (kv l) t).alloc o
theorem iv_new (w : World) (l : List Int) (o : Obj) (t : TypeId) : Is ((w.alloc o).alloc (.cells (iv l).toArray t)) (w.heap.size + 1) (some ⟨w.heap.size + 1, 0, none⟩) l := by
  have h := sl_new (w.alloc o) (iv l) t
  rw [show (w.alloc o).heap.size = w.heap.size + 1 by simp] at h
  exact h
end Go.Proofs.YtnbbglhpjpebhaaDoor
/- What the law makes of what came in: the first cells, the first moves, the first instructions, and as the document has them. Conditions: the lists fit. -/
namespace Go.Proofs.YtnbbglhpjpebhaaDoor
open Go.RowKit

abbrev RowK (e : TypeId) (w : World) (B : Nat) (v : Value) (L : List Cd) : Prop := w.ownsRow B e 6 v L.length (kv L)
theorem owns_modK {w w' : World} {B n sz : Nat} {e : TypeId} {v : Value} {xs : List Value} (h : w.ownsRow B e sz v n xs) {S : Nat → Prop} (hm : Mod S w w') (hs : ∀ k, v.ownBlock = some k → ¬ S k) : w'.ownsRow B e sz v n xs := by
  refine ⟨h.1, ?_⟩
  rcases h.2 with h2 | ⟨g, cap, cur, rfl, hg, hh, r⟩
  · exact .inl h2
  · exact .inr ⟨g, cap, cur, rfl, hg, by rw [hm.block g (Array.getElem?_eq_some_iff.1 hh).1 (hs g rfl)]; exact hh, r⟩
theorem owns_lowK {w : World} {B B' n sz : Nat} {e : TypeId} {v : Value} {xs : List Value} (h : w.ownsRow B e sz v n xs) (hB : B' ≤ B) : w.ownsRow B' e sz v n xs := by
  refine ⟨h.1, ?_⟩
  rcases h.2 with h2 | ⟨g, cap, cur, rfl, hg, r⟩
  · exact .inl h2
  · exact .inr ⟨g, cap, cur, rfl, by omega, r⟩
namespace RowK
variable {e : TypeId} {w w' : World} {B : Nat} {v : Value} {L : List Cd}
theorem nil_ (e : TypeId) (w : World) (B : Nat) : RowK e w B (.slice none 0 0) [] := World.ownsRow_nil _ _ _ _
theorem ext (h : RowK e w B v L) (hm : Below w.heap.size w w') : RowK e w' B v L :=
  owns_modK h (Mod.of_below hm) fun k hk => by have := (World.ownsRow.lt h k hk).2; omega
theorem sl (h : RowK e w B v L) : ∃ A c b, v = .slice A L.length c ∧ L.length ≤ c ∧ c ≤ maxLen ∧ (A = none → L.length = 0) ∧ B ≤ b ∧ Sl w b A (kv L) ∧ (∀ k, v.ownBlock = some k → k = b) := by
  rcases h.2 with ⟨rfl, hn⟩ | ⟨g, cap, cur, rfl, hb, _, hnc, hcm, _⟩
  · have hl : L = [] := List.eq_nil_of_length_eq_zero hn
    subst hl
    exact ⟨none, 0, B, rfl, Nat.le_refl _, by simp [maxLen], fun _ => rfl, Nat.le_refl _, Sl.nil_ _ _ _, by simp [Value.ownBlock]⟩
  · refine ⟨_, cap, g, rfl, hnc, hcm, by simp, hb, fun _ => ⟨0, rfl, fun j u hu => ?_⟩, by simp [Value.ownBlock]⟩
    have := h.cells (g := g) rfl j u hu
    simpa [Addr.add_lit] using this
end RowK
theorem kv_one (l : List Cd) : ∀ u ∈ kv l, u.oneCell' = true := by
  intro u hu
  obtain ⟨c, _, hu⟩ := List.mem_flatMap.1 hu
  simp only [cdA, List.mem_cons, List.not_mem_nil, or_false] at hu
  rcases hu with rfl | rfl | rfl | rfl | rfl | rfl <;> rfl
theorem kv_take : ∀ (l : List Cd) (k : Nat), (kv l).take (k * 6) = kv (l.take k) := by
  intro l
  induction l with
  | nil => intro k; simp
  | cons c l ih =>
    intro k
    cases k with
    | zero => simp
    | succ k =>
      rw [kv_cons, show (k + 1) * 6 = (cdA c).toList.length + k * 6 by rw [cdA_len]; omega, List.take_length_add_append, ih, List.take_succ_cons, kv_cons]
theorem codeB_info : (Tryd.prog.info? 80).map (fun i => (i.zero, i.size, i.bytes)) = some (some (.agg #[.int .u8 0, .int .u8 0, .int .u8 0, .int .u8 0, .int .i32 0, .int .u32 0]), 6, 12) := by kernel_rfl
section
variable (w : World)
theorem wpList_appK {t e : TypeId} (ht : Tryd.prog.underlying t = some (.slice e)) (hinf : (Tryd.prog.info? e).map (fun i => (i.zero, i.size, i.bytes)) = some (some (.agg #[.int .u8 0, .int .u8 0, .int .u8 0, .int .u8 0, .int .i32 0, .int .u32 0]), 6, 12)) {ops : Array Oper} {rest : List Oper} {o : Oper} {a : Act} {Q : Exit → Act → World → Prop} (hgd : o.guard = none) (s x : Operand)
    (ho : o.op = .call { callee := .builtin .append, args := #[s, x], argTypes := #[t, t] })
    (B : Nat) (v : Value) (L : List Cd) (hs : a.eval s = v) (hown : RowK e w B v L)
    (b : Nat) (A : Option Addr) (m c : Nat) (M : List Cd) (hx : a.eval x = .slice A m c) (hr : Sl w b A (kv M)) (hm : M.length = m)
    (hlen : L.length + m ≤ 1000000000000) (hbase : B ≤ w.heap.size)
    (h : ∀ v' w', RowK e w' B v' (L ++ M) → Mod (fun i => v.ownBlock = some i) w w' → (v'.ownBlock = v.ownBlock ∨ v'.ownBlock = some w.heap.size) → wpList Tryd.prog ops Q rest (a.put o.dst v') w') : wpList Tryd.prog ops Q (o :: rest) a w := by
  obtain ⟨i0, hi0, hz0, hz1, hz2⟩ := info_parts hinf
  refine wpList_append_sl (P := Tryd.prog) w hgd s x _ ho B e i0 _ 6 12 ht hi0 hz0 hz1 hz2 rfl (by omega) v L.length (kv L) hs hown b A m c (kv M) hx hr (by simp [hm]) (fun hA => by have := Sl.none_len hr rfl hA; simp at this; omega) (kv_one _)
    (by simp only [maxLen]; omega) (by omega) hbase ?_
  intro v' w' h1 h2 h3
  exact h v' w' (by unfold RowK; rw [List.length_append, hm, kv_append]; exact h1) (Mod.of_grown h2) h3
end
theorem below_ownK {w w' : World} {v : Value} {B : Nat} (h : Mod (fun i => v.ownBlock = some i) w w') (hB : B ≤ w.heap.size) (hv : ∀ k, v.ownBlock = some k → B ≤ k) : Below B w w' :=
  h.below hB fun i hi hk => by have := hv i hk; omega
theorem take_nextK {l : List Cd} {k : Nat} (h : k < l.length) : l.take (k + 1) = l.take k ++ [l[k]] := by rw [List.take_add_one, List.getElem?_eq_getElem h]; rfl
end Go.Proofs.YtnbbglhpjpebhaaDoor
/- Two runs that one sees alike stay so, or go apart at a show; what a run keeps. Conditions: the instructions may be; the numbers fit. -/
namespace Go.Proofs.YtnbbglhpjpebhaaDoor
open Go.RowKit

structure Vis2 (al : Nat) (v : Nat → Bool) : Prop where
  and_ : ∀ a b, v (a &&& b) = true → v a = true ∧ v b = true
  clr : ∀ r, r < 4294967296 → lessN al r = 0 → v r = true
  zero : v 0 = false
theorem clr2 {v : Nat → Bool} {s z : VS} {al : Nat} (hV : Vis2 al v) (h : RelV v s z) (hR : okC s.R) (i : Nat) : VS.clr al (s.rg i) = VS.clr al (z.rg i) ∧ (VS.clr al (s.rg i) = true → (s.rg i).1 = (z.rg i).1) := by
  have h1 := h.rg i
  refine ⟨by unfold VS.clr; rw [vw_lab h1], fun hc => vw_val h1 (hV.clr _ (getD_fit hR i).2 ?_)⟩
  simpa [VS.clr] using hc
theorem place2 {v : Nat → Bool} {s z : VS} {al : Nat} (hV : Vis2 al v) (h : RelV v s z) (hR : okC s.R) (c : Cd) : s.place al c = z.place al c := by
  obtain ⟨h1, h2⟩ := clr2 hV h hR c.b
  unfold VS.place
  rw [← h1, ← h.len]
  by_cases hc : VS.clr al (s.rg c.b) = true
  · rw [if_pos hc, if_pos hc, h2 hc]
  · rw [if_neg hc, if_neg hc]
/-- One instruction. -/
theorem follow_rel2 {comp : Nat → Int → Int → Int} {code : List Cd} {mv mw : List Int} {tk al : Nat} {v : Nat → Bool} (hV : Vis2 al v) (c : Cd)
    (hrev : c.op = 22 → ∃ p, p < 32 ∧ v = fun m => m.testBit p) (hm : c.m < 4294967296)
    (hmv : c.op = 21 → v (aloneN c.n) = true → mv.getD c.n.toNat 0 = mw.getD c.n.toNat 0)
    {s z : VS} (h : RelV v s z) (hok : okC s.L) (hokR : okC s.R) :
    RelV v (followV comp ⟨code, mv, tk, al⟩ s c) (followV comp ⟨code, mw, tk, al⟩ z c) ∨ Apart v (followV comp ⟨code, mv, tk, al⟩ s c) (followV comp ⟨code, mw, tk, al⟩ z c) := by
  have hp := place2 hV h hokR c
  unfold followV
  rw [← hp]
  by_cases h0 : c.op = 0
  · rw [if_pos h0, if_pos h0]; exact .inl (h.goes _)
  rw [if_neg h0, if_neg h0]
  by_cases h1 : c.op = 1
  · rw [if_pos h1, if_pos h1]; exact .inl (h.setR _ rfl)
  rw [if_neg h1, if_neg h1]
  by_cases h25 : c.op = 25
  · rw [if_pos h25, if_pos h25]; exact .inl (h.setR _ rfl)
  rw [if_neg h25, if_neg h25]
  by_cases h2 : c.op = 2
  · rw [if_pos h2, if_pos h2]; exact .inl (h.setR _ (h.cl _))
  rw [if_neg h2, if_neg h2]
  by_cases h3 : c.op = 3
  · rw [if_pos h3, if_pos h3]; exact .inl (h.put _ (h.rg _))
  rw [if_neg h3, if_neg h3]
  by_cases h4 : c.op = 4
  · rw [if_pos h4, if_pos h4]
    left
    split
    · exact h.setR _ (h.cl _)
    · exact h.fail _
  rw [if_neg h4, if_neg h4]
  by_cases h5 : c.op = 5
  · rw [if_pos h5, if_pos h5]
    left
    split
    · exact h.put _ (h.rg _)
    · exact h.fail _
  rw [if_neg h5, if_neg h5]
  by_cases h18 : c.op = 18
  · rw [if_pos h18, if_pos h18]
    left
    refine h.setR _ (vw_mk (by rw [vw_lab (h.rg c.a), vw_lab (h.rg c.b), vw_lab (h.rg c.c)]) fun hv => ?_)
    obtain ⟨hab, hc⟩ := hV.and_ _ _ hv
    obtain ⟨ha, hb⟩ := hV.and_ _ _ hab
    rw [vw_val (h.rg c.a) ha, vw_val (h.rg c.b) hb, vw_val (h.rg c.c) hc]
  rw [if_neg h18, if_neg h18]
  by_cases h19 : c.op = 19
  · rw [if_pos h19, if_pos h19]
    left
    obtain ⟨e1, e2⟩ := clr2 hV h hokR c.a
    rw [← e1]
    by_cases hc : VS.clr al (s.rg c.a) = true
    · rw [if_pos hc, if_pos hc, e2 hc]
      split
      · exact h.goes _
      · exact h
    · rw [if_neg hc, if_neg hc]; exact h.fail _
  rw [if_neg h19, if_neg h19]
  by_cases h20 : c.op = 20
  · rw [if_pos h20, if_pos h20]; exact .inl (h.goes _)
  rw [if_neg h20, if_neg h20]
  by_cases h21 : c.op = 21
  · rw [if_pos h21, if_pos h21]
    exact .inl (h.setR _ (vw_mk rfl (hmv h21)))
  rw [if_neg h21, if_neg h21]
  by_cases h22 : c.op = 22
  · rw [if_pos h22, if_pos h22]
    obtain ⟨p, hp32, rfl⟩ := hrev h22
    split
    · rename_i hpl
      obtain ⟨i, hi⟩ : ∃ i, i = (s.place al c).2 := ⟨_, rfl⟩
      rw [← hi]
      obtain ⟨m, hmm⟩ : ∃ m, m = c.m &&& al := ⟨_, rfl⟩
      rw [← hmm]
      have hml : m < 4294967296 := by rw [hmm]; exact Nat.lt_of_le_of_lt Nat.and_le_left hm
      have hcl := h.cl i
      have hlab := vw_lab hcl
      have hq : (s.cl i).2 < 4294967296 := by
        unfold VS.cl
        by_cases hi : i < s.L.length
        · rw [show s.L.getD i (0, 0) = s.L[i] by simp [List.getD, hi]]
          exact (okC_get hok hi).2
        · rw [show s.L.getD i (0, 0) = (0, 0) by simp [List.getD, hi]]
          decide
      unfold VS.reveal
      rw [← hlab]
      by_cases hf : lessN m (s.cl i).2 = 0
      · left
        rw [if_pos hf, if_pos hf]
        have hor := lessN_or hml hq hf
        rw [hor]
        exact { h.put i (r := ((s.cl i).1, (s.cl i).2)) (q := ((z.cl i).1, (s.cl i).2)) (vw_mk rfl fun hv => vw_val hcl hv) with }
      · rw [if_neg hf, if_neg hf]
        by_cases hval : (lessN m (s.cl i).2).testBit p = true → (s.cl i).1 = (z.cl i).1
        · left
          refine { h.put i (r := ((s.cl i).1, (s.cl i).2 ||| m)) (q := ((z.cl i).1, (s.cl i).2 ||| m)) (vw_mk rfl fun hv => ?_) with sh := ?_ }
          · by_cases hq2 : (s.cl i).2.testBit p = true
            · exact vw_val hcl hq2
            · apply hval
              rw [lessN_bit m hq p hp32]
              rw [Nat.testBit_or] at hv
              simp_all
          · rw [List.map_append, List.map_append, h.sh]
            congr 1
            simp only [List.map_cons, List.map_nil, vs3]
            by_cases hb : (lessN m (s.cl i).2).testBit p = true
            · rw [hval hb]
            · rw [if_neg hb, if_neg hb]
        · right
          simp only [Classical.not_imp] at hval
          have hlen : s.sh.length = z.sh.length := by have := congrArg List.length h.sh; simpa using this
          refine ⟨s.sh.length, (i, lessN m (s.cl i).2, (s.cl i).1), (i, lessN m (s.cl i).2, (z.cl i).1), ?_, ?_, rfl, rfl, hval.1, hval.2, ?_⟩
          · simp
          · simp [hlen]
          · simp only [List.take_left]
            rw [hlen, List.take_left]
            exact h.sh
    · exact .inl (h.fail _)
  rw [if_neg h22, if_neg h22]
  by_cases h23 : c.op = 23
  · rw [if_pos h23, if_pos h23]
    left
    exact (h.setR _ (vw_mk rfl fun hv => by rw [hV.zero] at hv; cases hv)).dice _ _
  rw [if_neg h23, if_neg h23]
  by_cases h24 : c.op = 24
  · rw [if_pos h24, if_pos h24]
    left
    unfold shufV
    refine (h.dice _ _).puts hV.zero _ ?_
    rw [shufN_length, shufN_length]
    simp [h.len]
  rw [if_neg h24, if_neg h24]
  left
  refine h.setR _ (vw_mk (by rw [vw_lab (h.rg c.b), vw_lab (h.rg c.c)]) fun hv => ?_)
  obtain ⟨hb, hc⟩ := hV.and_ _ _ hv
  rw [vw_val (h.rg c.b) hb, vw_val (h.rg c.c) hc]
section
variable {comp : Nat → Int → Int → Int} {code : List Cd} {mv mw : List Int} {tk al N : Nat} {v : Nat → Bool}
theorem step_rel (hV : Vis2 al v) (hrev : (∃ p, p < 32 ∧ v = fun m => m.testBit p) ∨ ∀ c ∈ code, c.op ≠ 22) (hP : POk comp ⟨code, mv, tk, al⟩ N)
    (hmv : ∀ c ∈ code, c.op = 21 → v (aloneN c.n) = true → mv.getD c.n.toNat 0 = mw.getD c.n.toNat 0) {s z : VS} (h : RelV v s z) (hl : LOk s N) (hi : s.nx < code.length) :
    RelV v (stepV comp ⟨code, mv, tk, al⟩ s) (stepV comp ⟨code, mw, tk, al⟩ z) ∨ Apart v (stepV comp ⟨code, mv, tk, al⟩ s) (stepV comp ⟨code, mw, tk, al⟩ z) := by
  have hmem := List.getElem_mem hi
  have e1 : codeAt ⟨code, mv, tk, al⟩ s.nx = code[s.nx] := codeAt_in _ hi
  have e2 : codeAt ⟨code, mw, tk, al⟩ z.nx = code[s.nx] := by rw [← h.nx]; exact codeAt_in ⟨code, mw, tk, al⟩ hi
  have hc := hP.code _ hmem
  unfold stepV
  rw [e1, e2, ← h.nx, ← h.u]
  have h1 : RelV v { s with nx := s.nx + 1, u := s.u + 1 } { z with nx := s.nx + 1, u := s.u + 1 } := { h with nx := rfl, u := rfl }
  refine follow_rel2 hV code[s.nx] (fun h22 => ?_) (by have := hc.1.hm; omega) (hmv _ hmem) h1 hl.okL hl.okR
  rcases hrev with h | h
  · exact h
  · exact absurd h22 (h _ hmem)
theorem run_rel (hV : Vis2 al v) (hrev : (∃ p, p < 32 ∧ v = fun m => m.testBit p) ∨ ∀ c ∈ code, c.op ≠ 22) (hP : POk comp ⟨code, mv, tk, al⟩ N)
    (hmv : ∀ c ∈ code, c.op = 21 → v (aloneN c.n) = true → mv.getD c.n.toNat 0 = mw.getD c.n.toNat 0) : ∀ (k : Nat) {s z : VS}, RelV v s z → LOk s N →
    RelV v (runV comp ⟨code, mv, tk, al⟩ k s) (runV comp ⟨code, mw, tk, al⟩ k z) ∨ Apart v (runV comp ⟨code, mv, tk, al⟩ k s) (runV comp ⟨code, mw, tk, al⟩ k z)
  | 0, _, _, h, _ => .inl h
  | k + 1, s, z, h, hl => by
    unfold runV
    rw [← h.nx, ← h.e, ← h.u]
    by_cases h1 : s.nx < code.length ∧ s.e = 0
    · rw [if_pos h1, if_pos h1]
      by_cases h2 : s.u = 400
      · rw [if_pos h2, if_pos h2]; exact .inl (h.fail 9)
      · rw [if_neg h2, if_neg h2]
        have hc := hP.code _ (List.getElem_mem h1.1)
        have hl1 : LOk (stepV comp ⟨code, mv, tk, al⟩ s) N := by
          unfold stepV
          rw [codeAt_in ⟨code, mv, tk, al⟩ h1.1]
          exact follow_ok comp _ hP (s := { s with nx := s.nx + 1, u := s.u + 1 }) { hl with } hc.1 hc.2
        rcases step_rel hV hrev hP hmv h hl h1.1 with h3 | h3
        · exact run_rel hV hrev hP hmv k h3 hl1
        · obtain ⟨m1, g1⟩ := run_sh comp ⟨code, mv, tk, al⟩ k (stepV comp ⟨code, mv, tk, al⟩ s)
          obtain ⟨m2, g2⟩ := run_sh comp ⟨code, mw, tk, al⟩ k (stepV comp ⟨code, mw, tk, al⟩ z)
          exact .inr (h3.grow g1 g2)
    · rw [if_neg h1, if_neg h1]; exact .inl h
theorem start_ok {P : VP} {L : List (Int × Nat)} (d : Nat) (hL : okC L) (hal : P.al < 4294967296) : LOk (startV P L d) L.length :=
  ⟨rfl, rfl, hL, fun c hc => by rw [List.eq_of_mem_replicate hc]; exact ⟨⟨by show (-2147483648 : Int) ≤ 0; omega, by show (0 : Int) ≤ 2147483647; omega⟩, hal⟩, Nat.two_pow_pos _⟩
/-- Two whole runs. -/
theorem whole_rel (hV : Vis2 al v) (hrev : (∃ p, p < 32 ∧ v = fun m => m.testBit p) ∨ ∀ c ∈ code, c.op ≠ 22) (hcf : CompFit comp) (hal : al < 4294967296) (hmvf : ∀ x ∈ mv, -2147483648 ≤ x ∧ x ≤ 2147483647) (hok : okK code)
    (hmv : ∀ c ∈ code, c.op = 21 → v (aloneN c.n) = true → mv.getD c.n.toNat 0 = mw.getD c.n.toNat 0) (hmm : mv.length = mw.length) {L M : List (Int × Nat)} (hL : okC L) (h : L.map (vw v) = M.map (vw v)) (d d' : Nat) :
    RelV v (wholeV comp ⟨code, mv, tk, al⟩ L d) (wholeV comp ⟨code, mw, tk, al⟩ M d') ∨ Apart v (wholeV comp ⟨code, mv, tk, al⟩ L d) (wholeV comp ⟨code, mw, tk, al⟩ M d') := by
  have hlen : L.length = M.length := by have := congrArg List.length h; simpa using this
  have hS : RelV v (startV ⟨code, mv, tk, al⟩ L d) (startV ⟨code, mw, tk, al⟩ M d') := ⟨h, rfl, rfl, rfl, rfl, rfl, rfl⟩
  by_cases hck : (checkV code L.length mv.length).2 = true
  · have hcp := check_parts hck
    have hP : POk comp ⟨code, mv, tk, al⟩ L.length := ⟨hcf, hal, hmvf, hcp.1, fun c hc => ⟨hok c hc, hcp.2 c hc⟩⟩
    have hr := run_rel (mw := mw) hV hrev hP hmv 402 hS (start_ok d hL hal)
    have e1 : wholeV comp ⟨code, mv, tk, al⟩ L d = endV L d (runV comp ⟨code, mv, tk, al⟩ 402 (startV ⟨code, mv, tk, al⟩ L d)) := if_pos hck
    have e2 : wholeV comp ⟨code, mw, tk, al⟩ M d' = endV M d' (runV comp ⟨code, mw, tk, al⟩ 402 (startV ⟨code, mw, tk, al⟩ M d')) := if_pos (by show (checkV code M.length mw.length).2 = true; rw [← hlen, ← hmm]; exact hck)
    rw [e1, e2]
    rcases hr with hr | hr
    · left
      unfold endV
      rw [← hr.e]
      by_cases he : (runV comp ⟨code, mv, tk, al⟩ 402 (startV ⟨code, mv, tk, al⟩ L d)).e = 0
      · rw [if_pos he, if_pos he]; exact hr
      · rw [if_neg he, if_neg he]; exact ⟨h, hr.R, rfl, hr.u, by first | rfl | exact hr.e, hr.nx, hr.sh⟩
    · right
      refine hr.grow (m := []) (m' := []) ?_ ?_
      · unfold endV; split <;> simp
      · unfold endV; split <;> simp
  · have e1 : wholeV comp ⟨code, mv, tk, al⟩ L d = { startV ⟨code, mv, tk, al⟩ L d with e := 2 } := if_neg hck
    have e2 : wholeV comp ⟨code, mw, tk, al⟩ M d' = { startV ⟨code, mw, tk, al⟩ M d' with e := 2 } := if_neg (by show ¬ (checkV code M.length mw.length).2 = true; rw [← hlen, ← hmm]; exact hck)
    rw [e1, e2]
    exact .inl { hS with e := rfl }
end
/-- The views of a run: who sees by the mask's bit. -/
theorem vis_bit {al p : Nat} (hp : p < 32) (hb : al.testBit p = true) : Vis2 al (fun m => m.testBit p) :=
  ⟨fun a b h => by simp only [Nat.testBit_and, Bool.and_eq_true] at h; exact h, fun r hr h => by
    have h1 := lessN_bit al hr p hp
    rw [h, Nat.zero_testBit, hb] at h1
    simpa using h1.symm, Nat.zero_testBit p⟩
/-- Who sees what all see. -/
theorem vis_all {al : Nat} (hal : al < 4294967296) (h0 : al ≠ 0) : Vis2 al (fun m => decide (m < 4294967296 ∧ lessN al m = 0) || decide (4294967296 ≤ m)) := by
  have hbit : ∀ m, m < 4294967296 → (lessN al m = 0 ↔ ∀ i, i < 32 → al.testBit i = true → m.testBit i = true) := fun m hm => by
    constructor
    · intro h i hi hb
      have h1 := lessN_bit al hm i hi
      rw [h, Nat.zero_testBit, hb] at h1
      simpa using h1.symm
    · intro h
      refine ext32 (lessN_lt _ hal) (by omega) fun i hi => ?_
      rw [lessN_bit al hm i hi, Nat.zero_testBit]
      cases hb : al.testBit i with
      | false => rfl
      | true => rw [h i hi hb]; rfl
  refine ⟨fun a b h => ?_, fun r hr h => by simp [hr, h], ?_⟩
  · simp only [Bool.or_eq_true, decide_eq_true_eq] at h ⊢
    rcases h with ⟨h1, h2⟩ | h1
    · have hb := (hbit _ h1).1 h2
      constructor
      · by_cases ha : a < 4294967296
        · exact .inl ⟨ha, (hbit a ha).2 fun i hi hx => by have := hb i hi hx; rw [Nat.testBit_and, Bool.and_eq_true] at this; exact this.1⟩
        · exact .inr (by omega)
      · by_cases ha : b < 4294967296
        · exact .inl ⟨ha, (hbit b ha).2 fun i hi hx => by have := hb i hi hx; rw [Nat.testBit_and, Bool.and_eq_true] at this; exact this.2⟩
        · exact .inr (by omega)
    · have ha := Nat.and_le_left (n := a) (m := b)
      have hb := Nat.and_le_right (n := a) (m := b)
      exact ⟨.inr (by omega), .inr (by omega)⟩
  · have h1 : ¬ lessN al 0 = 0 := by
      unfold lessN
      intro h
      apply h0
      have h2 : al &&& 4294967295 = al := by
        rw [show (4294967295 : Nat) = 2 ^ 32 - 1 by rfl, Nat.and_two_pow_sub_one_eq_mod]
        omega
      rw [← h2]
      exact h
    simp [h1]
end Go.Proofs.YtnbbglhpjpebhaaDoor
/- What the laws take besides: the first observers, and the moves of a law's players. Conditions: none but the list's shape. -/
namespace Go.Proofs.YtnbbglhpjpebhaaDoor
open Go.RowKit

/-- The first n observers. -/
def allN (n : Int) : Nat := 2 ^ (min (max n 0) 32).toNat - 1
theorem allN_lt (n : Int) : allN n < 4294967296 := by
  unfold allN
  have : (2 : Nat) ^ (min (max n 0) 32).toNat ≤ 2 ^ 32 := Nat.pow_le_pow_right (by omega) (by omega)
  omega
theorem allN_bit (n : Int) (i : Nat) (hi : i < 32) : (allN n).testBit i = decide ((i : Int) < n) := by
  unfold allN
  rw [Nat.testBit_two_pow_sub_one, decide_eq_decide]
  omega
set_option maxHeartbeats 1000000 in
set_option maxRecDepth 20000 in
theorem All_calls (n : Int) (w : World) :
    Calls Tryd.prog 50 #[.int .i64 n] w fun e w' => e = .returned (.int .u32 (allN n : Nat)) ∧ w' = w := by
  have hB := Lib.hid (show allN n = 2 ^ (min (max n 0) 32).toNat - 1 from rfl)
  obtain ⟨t, ht⟩ : ∃ t, t = allN n := ⟨_, rfl⟩
  rw [← ht] at hB ⊢
  clear ht
  obtain ⟨x, hx⟩ : ∃ x, max n 0 = x := ⟨_, rfl⟩
  rw [hx] at hB
  obtain ⟨k, hk⟩ : ∃ k : Nat, min x 32 = (k : Int) := ⟨(min x 32).toNat, by omega⟩
  have hk32 : k ≤ 32 := by omega
  have hB := Lib.hid (show t = 2 ^ k - 1 by rw [hB.out, hk]; simp)
  have hkl : (k : Int) ≤ 32 := by omega
  obtain ⟨P, hP⟩ : ∃ P : Nat, P = 2 ^ k := ⟨_, rfl⟩
  have hPi : (2 : Int) ^ k = (P : Int) := by rw [hP]; simp
  have hP1 : 1 ≤ P := by rw [hP]; exact Nat.one_le_two_pow
  have hP2 : P ≤ 4294967296 := by
    rw [hP, show (4294967296 : Nat) = 2 ^ 32 from rfl]
    exact Nat.pow_le_pow_right (by omega) hk32
  rw [← hP] at hB
  have H1 := Lib.hid hP1
  have H2 := Lib.hid hP2
  clear hP hP1 hP2 hk32
  go_enter Tryd.func50, Tryd.ntmps50
  go_wp2_with fail
  go_ret
  refine ⟨?_, rfl⟩
  have h1 := H1.out
  have h2 := H2.out
  show Ending.returned (.int .u32 (((P : Int) % 4294967296 - 1) % 4294967296)) = _
  rw [hB.out]
  congr 2
  omega
/-- The moves of a law's players: one at least, six at most. -/
def playN (M : List Int) : List Int := if M.length = 0 then [0] else M.take 6
theorem playN_len (M : List Int) : 1 ≤ (playN M).length ∧ (playN M).length ≤ 6 := by
  unfold playN
  split
  · exact ⟨Nat.le_refl _, by decide⟩
  · rw [List.length_take]; omega
theorem playN_fit (M : List Int) (h : ∀ x ∈ M, -2147483648 ≤ x ∧ x ≤ 2147483647) : ∀ x ∈ playN M, -2147483648 ≤ x ∧ x ≤ 2147483647 := by
  unfold playN
  split
  · intro x hx
    simp only [List.mem_cons, List.not_mem_nil, or_false] at hx
    subst hx
    omega
  · exact fun x hx => h x (List.mem_of_mem_take hx)
end Go.Proofs.YtnbbglhpjpebhaaDoor
/- A list of cells whose hidden values are other ones, in plain words. Conditions: those said. -/
namespace Go.Proofs.YtnbbglhpjpebhaaDoor

/-- The cell at j, with another value if there is one and it isn't seen. -/
def agAt (q : Nat → Bool) (vals : List Int) (c : Int × Nat) (j : Nat) : Int × Nat := if j < vals.length ∧ q c.2 = false then (vals.getD j 0, c.2) else c
/-- The first k cells so. -/
def ag (q : Nat → Bool) (vals : List Int) (M : List (Int × Nat)) (k : Nat) : List (Int × Nat) := M.mapIdx fun j c => if j < k then agAt q vals c j else c
section
variable {q : Nat → Bool} {vals : List Int} {M : List (Int × Nat)} {k : Nat}
@[simp] theorem ag_length (q : Nat → Bool) (vals : List Int) (M : List (Int × Nat)) (k : Nat) : (ag q vals M k).length = M.length := by simp [ag]
theorem ag_zero (q : Nat → Bool) (vals : List Int) (M : List (Int × Nat)) : ag q vals M 0 = M := by
  apply List.ext_getElem (by simp)
  intro j h1 h2
  simp [ag]
theorem ag_at {j : Nat} (h : j < M.length) (hk : k ≤ j) : (ag q vals M k)[j]'(by simpa using h) = M[j] := by
  simp [ag, Nat.not_lt.2 hk]
theorem ag_set (h : k < M.length) : (ag q vals M k).set k (agAt q vals M[k] k) = ag q vals M (k + 1) := by
  apply List.ext_getElem (by simp)
  intro j h1 h2
  rw [List.getElem_set]
  by_cases e : k = j
  · subst e
    simp [ag]
  · rw [if_neg e]
    simp only [ag, List.getElem_mapIdx]
    have : j < k + 1 ↔ j < k := by omega
    simp only [this]
theorem ag_same (h : k < M.length) (hc : ¬(k < vals.length ∧ q M[k].2 = false)) : ag q vals M k = ag q vals M (k + 1) := by
  rw [← ag_set h]
  have : agAt q vals M[k] k = (ag q vals M k)[k]'(by simpa using h) := by
    rw [ag_at h (Nat.le_refl _)]
    unfold agAt
    rw [if_neg hc]
  rw [this, List.set_getElem_self]
theorem agAt_lab (q : Nat → Bool) (vals : List Int) (c : Int × Nat) (j : Nat) : (agAt q vals c j).2 = c.2 := by unfold agAt; split <;> rfl
theorem ag_lab (q : Nat → Bool) (vals : List Int) (M : List (Int × Nat)) (k j : Nat) (h : j < M.length) : ((ag q vals M k)[j]'(by simpa using h)).2 = M[j].2 := by
  simp only [ag, List.getElem_mapIdx]
  split
  · exact agAt_lab _ _ _ _
  · rfl
theorem ag_ok (k : Nat) (hok : okC M) (hv : ∀ x ∈ vals, -2147483648 ≤ x ∧ x ≤ 2147483647) : okC (ag q vals M k) := by
  intro c hc
  obtain ⟨j, hj, rfl⟩ := List.getElem_of_mem hc
  have hj' : j < M.length := by simpa using hj
  refine ⟨?_, by rw [ag_lab q vals M k j hj']; exact (okC_get hok hj').2⟩
  simp only [ag, List.getElem_mapIdx]
  split
  · unfold agAt
    split
    · rename_i h
      have : vals.getD j 0 = vals[j]'h.1 := by simp [List.getD, h.1]
      simp only [this]
      exact hv _ (List.getElem_mem _)
    · exact (okC_get hok hj').1
  · exact (okC_get hok hj').1
end
end Go.Proofs.YtnbbglhpjpebhaaDoor
/- What two runs on boards that one sees alike come to: who may see what, what is shown, what one sees then. Conditions: the instructions may be; the numbers fit. -/
namespace Go.Proofs.YtnbbglhpjpebhaaDoor
open Go.RowKit

theorem follow_quiet (comp : Nat → Int → Int → Int) (P : VP) (s : VS) (c : Cd) (hc : c.op ≠ 22) : (followV comp P s c).sh = s.sh := by
  refine follow_elim comp P (C := fun z => z.sh = s.sh) s c (fun _ => rfl) (fun _ => rfl) (fun _ => rfl) (fun _ => rfl) (fun _ => rfl) (fun _ _ => rfl) (fun _ _ => rfl) (fun _ _ => rfl) (fun _ => rfl) (fun _ _ _ => rfl) (fun _ _ _ => rfl) (fun _ _ => rfl) (fun _ => rfl) (fun _ => rfl) (fun e _ => absurd e hc) (fun _ => rfl) (fun _ => by unfold shufV; rw [puts_sh]) (fun _ => rfl)
theorem run_quiet (comp : Nat → Int → Int → Int) (P : VP) (h : ∀ c ∈ P.code, c.op ≠ 22) : ∀ (k : Nat) (s : VS), (runV comp P k s).sh = s.sh
  | 0, _ => rfl
  | k + 1, s => by
    unfold runV
    by_cases h1 : s.nx < P.code.length ∧ s.e = 0
    · rw [if_pos h1]
      by_cases h2 : s.u = 400
      · rw [if_pos h2]; rfl
      · rw [if_neg h2, run_quiet comp P h k]
        unfold stepV
        rw [codeAt_in P h1.1]
        exact follow_quiet comp P { s with nx := s.nx + 1, u := s.u + 1 } _ (h _ (List.getElem_mem h1.1))
    · rw [if_neg h1]
theorem whole_quiet (comp : Nat → Int → Int → Int) (P : VP) (h : ∀ c ∈ P.code, c.op ≠ 22) (L : List (Int × Nat)) (d : Nat) : (wholeV comp P L d).sh = [] := by
  unfold wholeV
  split
  · unfold endV
    have e := run_quiet comp P h 402 (startV P L d)
    split <;> exact e
  · rfl
theorem ag_vw {q : Nat → Bool} {v : Nat → Bool} {vals : List Int} {M : List (Int × Nat)} (k : Nat) (h : ∀ c ∈ M, q c.2 = false → v c.2 = false) : M.map (vw v) = (ag q vals M k).map (vw v) := by
  apply List.ext_getElem (by simp)
  intro j h1 h2
  have hj : j < M.length := by simpa using h1
  simp only [List.getElem_map, ag, List.getElem_mapIdx]
  split
  · unfold agAt
    split
    · rename_i hq
      exact vw_mk rfl fun hv => by have h3 := (h _ (List.getElem_mem hj) hq.2).symm.trans hv; cases h3
    · rfl
  · rfl
theorem labs_of_rel {v : Nat → Bool} {L M : List (Int × Nat)} (h : L.map (vw v) = M.map (vw v)) : L.map Prod.snd = M.map Prod.snd := by
  have h1 := congrArg (List.map Prod.snd) h
  simp only [List.map_map] at h1
  exact h1
/-- VmLabels, in plain words. -/
theorem labels_whole {J : List Cd} {Q : List Int} {M : List (Int × Nat)} {vals : List Int} {tk al : Nat} (d d' : Nat) (hal : al < 4294967296) (h0 : al ≠ 0) (hok : okK J) (hM : okC M) (hQ : ∀ x ∈ Q, -2147483648 ≤ x ∧ x ≤ 2147483647)
    (hrev : ∀ c ∈ J, c.op ≠ 22) {F G : VS} (hF : F = wholeV compN ⟨J, Q, tk, al⟩ M d) (hG : G = wholeV compN ⟨J, Q, tk, al⟩ (ag (fun m => decide (lessN al m = 0)) vals M M.length) d') :
    F.e = G.e ∧ F.t = G.t ∧ F.u = G.u ∧ F.L.map Prod.snd = G.L.map Prod.snd := by
  have hr := whole_rel (comp := compN) (code := J) (mv := Q) (mw := Q) (tk := tk) (al := al) (vis_all hal h0) (.inr hrev) comp_fit hal hQ hok (fun _ _ _ _ => rfl) rfl hM (ag_vw (q := fun m => decide (lessN al m = 0)) (vals := vals) M.length (fun c hc hq => by
    have h1 := (hM c hc).2
    have h2 : ¬ lessN al c.2 = 0 := by simpa using hq
    simp [h2]; omega)) d d'
  rw [← hF, ← hG] at hr
  rcases hr with hr | ⟨k, x, y, hx, _⟩
  · exact ⟨hr.e, hr.t, hr.u, labs_of_rel hr.L⟩
  · exfalso
    rw [hF, whole_quiet _ _ hrev] at hx
    simp at hx
theorem sees_bit {m p : Nat} (hp : p < 32) : sees m (p : Int) = m.testBit p := hasM_bit hp
theorem view_vw {p : Nat} (hp : p < 32) (L : List (Int × Nat)) : viewL (p : Int) L = L.map (vw fun m => m.testBit p) := by
  unfold viewL
  apply List.map_congr_left
  intro c _
  unfold seeC vw
  rw [sees_bit hp]
  by_cases h : c.2.testBit p = true
  · rw [if_pos h, if_pos h]
  · rw [if_neg h, if_neg h]
theorem view_map_vw {p : Nat} (hp : p < 32) (L : List (Int × Nat)) : (viewL (p : Int) L).map (vw fun m => m.testBit p) = L.map (vw fun m => m.testBit p) := by
  rw [view_vw hp, List.map_map]
  apply List.map_congr_left
  intro c _
  exact vw_mk (x := (vw (fun m => m.testBit p) c).1) (m := c.2) rfl fun h => if_pos h
/-- What was shown by two runs: alike up to some place, where one is shown what isn't the same; or all of it. -/
structure ShowsTo (p : Nat) (A B : List (Nat × Nat × Int)) (K : Nat) (q : Prop) : Prop where
  a : K ≤ A.length
  b : K ≤ B.length
  same : ∀ i (h1 : i < A.length) (h2 : i < B.length), i ≤ K → A[i].1 = B[i].1 ∧ A[i].2.1 = B[i].2.1 ∧ (i < K → A[i].2.1.testBit p = true → A[i].2.2 = B[i].2.2)
  ends : (K = A.length ∧ K = B.length ∧ q) ∨ (∃ (h1 : K < A.length) (h2 : K < B.length), A[K].2.1.testBit p = true ∧ A[K].2.2 ≠ B[K].2.2)
theorem vs3_parts {v : Nat → Bool} {x y : Nat × Nat × Int} (h : vs3 v x = vs3 v y) : x.1 = y.1 ∧ x.2.1 = y.2.1 ∧ (v x.2.1 = true → x.2.2 = y.2.2) := by
  have h1 := congrArg Prod.fst h
  have h2 := congrArg (fun z : Nat × Nat × Int => z.2.1) h
  have h3 := congrArg (fun z : Nat × Nat × Int => z.2.2) h
  simp only [vs3] at h1 h2 h3
  refine ⟨h1, h2, fun hv => ?_⟩
  rw [← h2, if_pos hv, if_pos hv] at h3
  exact h3
theorem map_take_at {v : Nat → Bool} {A B : List (Nat × Nat × Int)} {k i : Nat} (h : (A.take k).map (vs3 v) = (B.take k).map (vs3 v)) (hi : i < k) (h1 : i < A.length) (h2 : i < B.length) : vs3 v A[i] = vs3 v B[i] := by
  have e := congrArg (fun l => l[i]?) h
  simpa [List.getElem?_map, List.getElem?_take, hi, h1, h2] using e
theorem shows_rel {p : Nat} {s z : VS} (h : RelV (fun m => m.testBit p) s z ∨ Apart (fun m => m.testBit p) s z) : ∃ K, ShowsTo p s.sh z.sh K (RelV (fun m => m.testBit p) s z) := by
  rcases h with h | ⟨k, x, y, hx, hy, e1, e2, e3, e4, e5⟩
  · have hl : s.sh.length = z.sh.length := by have := congrArg List.length h.sh; simpa using this
    refine ⟨s.sh.length, Nat.le_refl _, by omega, fun i h1 h2 hi => ?_, .inl ⟨rfl, hl, h⟩⟩
    have e : vs3 (fun m => m.testBit p) s.sh[i] = vs3 (fun m => m.testBit p) z.sh[i] := by
      have e := congrArg (fun l => l[i]?) h.sh
      simpa [List.getElem?_map, h1, h2] using e
    have e := vs3_parts e
    exact ⟨e.1, e.2.1, fun _ => e.2.2⟩
  · obtain ⟨hk1, rfl⟩ := List.getElem?_eq_some_iff.1 hx
    obtain ⟨hk2, rfl⟩ := List.getElem?_eq_some_iff.1 hy
    refine ⟨k, by omega, by omega, fun i h1 h2 hi => ?_, .inr ⟨hk1, hk2, e3, e4⟩⟩
    by_cases hik : i = k
    · subst hik
      exact ⟨e1, e2, fun h => by omega⟩
    · have e := vs3_parts (map_take_at e5 (show i < k by omega) h1 h2)
      exact ⟨e.1, e.2.1, fun _ => e.2.2⟩
/-- The moves, with others at all places but one. -/
def agm (p : Nat) (vals : List Int) (Q : List Int) (k : Nat) : List Int := Q.mapIdx fun j x => if j < k ∧ j ≠ p ∧ j < vals.length then vals.getD j 0 else x
section
variable {p : Nat} {vals Q : List Int} {k : Nat}
@[simp] theorem agm_length (p : Nat) (vals Q : List Int) (k : Nat) : (agm p vals Q k).length = Q.length := by simp [agm]
theorem agm_zero (p : Nat) (vals Q : List Int) : agm p vals Q 0 = Q := by
  apply List.ext_getElem (by simp)
  intro j h1 h2
  simp [agm]
theorem agm_set (hp : k ≠ p) (hv : k < vals.length) : (agm p vals Q k).set k vals[k] = agm p vals Q (k + 1) := by
  apply List.ext_getElem (by simp)
  intro j h1 h2
  rw [List.getElem_set]
  by_cases e : k = j
  · subst e
    simp [agm, hp, hv]
  · rw [if_neg e]
    simp only [agm, List.getElem_mapIdx]
    have : j < k + 1 ↔ j < k := by omega
    simp only [this]
theorem agm_same (hc : ¬(k ≠ p ∧ k < vals.length)) : agm p vals Q k = agm p vals Q (k + 1) := by
  apply List.ext_getElem (by simp)
  intro j h1 h2
  simp only [agm, List.getElem_mapIdx]
  by_cases e : k = j
  · subst e
    rw [if_neg (by omega), if_neg (by omega)]
  · have : j < k + 1 ↔ j < k := by omega
    simp only [this]
theorem agm_fit (k : Nat) (hQ : ∀ x ∈ Q, -2147483648 ≤ x ∧ x ≤ 2147483647) (hv : ∀ x ∈ vals, -2147483648 ≤ x ∧ x ≤ 2147483647) : ∀ x ∈ agm p vals Q k, -2147483648 ≤ x ∧ x ≤ 2147483647 := by
  intro x hx
  obtain ⟨j, hj, rfl⟩ := List.getElem_of_mem hx
  have hj' : j < Q.length := by simpa using hj
  simp only [agm, List.getElem_mapIdx]
  split
  · rename_i h
    have : vals.getD j 0 = vals[j]'h.2.2 := by simp [List.getD, h.2.2]
    rw [this]
    exact hv _ (List.getElem_mem _)
  · exact hQ _ (List.getElem_mem _)
theorem agm_own (k : Nat) : (agm p vals Q k).getD p 0 = Q.getD p 0 := by
  by_cases hp : p < Q.length
  · simp [List.getD, agm, hp]
  · simp [List.getD, hp]
end
theorem alone_own {n : Int} {p : Nat} (hp : p < 32) (h : (aloneN n).testBit p = true) : n.toNat = p := by
  rw [aloneN_bit n p hp] at h
  have : n = (p : Int) := by simpa using h
  omega
/-- VmHides, in plain words. -/
theorem hides_whole {J : List Cd} {Q other : List Int} {M : List (Int × Nat)} {vals : List Int} {tk al p : Nat} (d d' : Nat) (hp : p < 32) (hal : al < 4294967296) (hb : al.testBit p = true) (hok : okK J) (hM : okC M) (hQ : ∀ x ∈ Q, -2147483648 ≤ x ∧ x ≤ 2147483647)
    {F G : VS} (hF : F = wholeV compN ⟨J, Q, tk, al⟩ M d) (hG : G = wholeV compN ⟨J, agm p other Q Q.length, tk, al⟩ (ag (fun m => sees m (p : Int)) vals M M.length) d') :
    ∃ K, ShowsTo p F.sh G.sh K (F.e = G.e ∧ F.u = G.u ∧ F.t = G.t ∧ viewL (p : Int) F.L = viewL (p : Int) G.L ∧ F.L.map Prod.snd = G.L.map Prod.snd) := by
  have hr := whole_rel (comp := compN) (code := J) (mv := Q) (mw := agm p other Q Q.length) (tk := tk) (al := al) (vis_bit hp hb) (.inl ⟨p, hp, rfl⟩) comp_fit hal hQ hok (fun c _ _ hv => by rw [alone_own hp hv]; exact (agm_own _).symm) (by simp) hM (ag_vw (q := fun m => sees m (p : Int)) (vals := vals) M.length (fun c hc hq => by rw [← sees_bit hp]; exact hq)) d d'
  rw [← hF, ← hG] at hr
  obtain ⟨K, h⟩ := shows_rel hr
  refine ⟨K, h.a, h.b, h.same, h.ends.imp (fun ⟨h1, h2, h3⟩ => ⟨h1, h2, h3.e, h3.u, h3.t, ?_, labs_of_rel h3.L⟩) id⟩
  rw [view_vw hp, view_vw hp, h3.L]
/-- One's own move alone. -/
def mine (p : Nat) (Q : List Int) : List Int := if p < Q.length then (List.replicate Q.length (0 : Int)).set p (Q.getD p 0) else List.replicate Q.length 0
@[simp] theorem mine_length (p : Nat) (Q : List Int) : (mine p Q).length = Q.length := by unfold mine; split <;> simp
theorem mine_own (p : Nat) (Q : List Int) : (mine p Q).getD p 0 = Q.getD p 0 := by
  unfold mine
  by_cases hp : p < Q.length
  · simp [List.getD, hp]
  · simp [List.getD, hp]
theorem mine_fit (p : Nat) {Q : List Int} (hQ : ∀ x ∈ Q, -2147483648 ≤ x ∧ x ≤ 2147483647) : ∀ x ∈ mine p Q, -2147483648 ≤ x ∧ x ≤ 2147483647 := by
  intro x hx
  unfold mine at hx
  split at hx
  · rename_i hp
    rcases List.mem_or_eq_of_mem_set hx with h | h
    · rw [List.eq_of_mem_replicate h]; omega
    · have : Q.getD p 0 = Q[p] := by simp [List.getD, hp]
      rw [h, this]
      exact hQ _ (List.getElem_mem _)
  · rw [List.eq_of_mem_replicate hx]; omega
/-- VmViews, in plain words. -/
theorem views_whole {J : List Cd} {Q : List Int} {M : List (Int × Nat)} {tk al p : Nat} (d d' : Nat) (hp : p < 32) (hal : al < 4294967296) (hb : al.testBit p = true) (hok : okK J) (hM : okC M) (hQ : ∀ x ∈ Q, -2147483648 ≤ x ∧ x ≤ 2147483647)
    {F G : VS} (hF : F = wholeV compN ⟨J, Q, tk, al⟩ M d) (hG : G = wholeV compN ⟨J, mine p Q, tk, al⟩ (viewL (p : Int) M) d') :
    (∃ x ∈ F.sh, x.2.1.testBit p = true) ∨ (F.e = G.e ∧ F.t = G.t ∧ viewL (p : Int) G.L = viewL (p : Int) F.L) := by
  have hr := whole_rel (comp := compN) (code := J) (mv := Q) (mw := mine p Q) (tk := tk) (al := al) (vis_bit hp hb) (.inl ⟨p, hp, rfl⟩) comp_fit hal hQ hok (fun c _ _ hv => by rw [alone_own hp hv]; exact (mine_own _ _).symm) (by simp) hM (view_map_vw hp M).symm d d'
  rw [← hF, ← hG] at hr
  rcases hr with h3 | ⟨k, x, y, hx, hy, e1, e2, e3, e4, e5⟩
  · right
    refine ⟨h3.e, h3.t, ?_⟩
    rw [view_vw hp, view_vw hp, h3.L]
  · left
    obtain ⟨hk1, rfl⟩ := List.getElem?_eq_some_iff.1 hx
    exact ⟨_, List.getElem_mem hk1, e3⟩
end Go.Proofs.YtnbbglhpjpebhaaDoor
/- What a run keeps: cells that were not touched; values, where nothing is stored. Conditions: the instructions may be; the numbers fit. -/
namespace Go.Proofs.YtnbbglhpjpebhaaDoor
open Go.RowKit

/-- Does it store? -/
def stores (c : Cd) : Bool := c.op == 3 || (c.op == 5 || c.op == 24)
structure Keep (L0 : List (Int × Nat)) (quiet : Prop) (s : VS) : Prop where
  still : ∀ i, s.t.testBit i = false → s.cl i = L0.getD i (0, 0)
  same : quiet → ∀ i, (s.cl i).1 = (L0.getD i (0, 0)).1 ∧ ∀ j, j < 32 → (L0.getD i (0, 0)).2.testBit j = true → (s.cl i).2.testBit j = true
namespace Keep
variable {L0 : List (Int × Nat)} {quiet : Prop} {s : VS}
theorem put (h : Keep L0 quiet s) (i : Nat) (r : Int × Nat) (hq : quiet → i < s.L.length → r.1 = (s.cl i).1 ∧ ∀ j, j < 32 → (s.cl i).2.testBit j = true → r.2.testBit j = true) : Keep L0 quiet (s.put i r) := by
  have hcl : ∀ k, (s.put i r).cl k = if k = i ∧ i < s.L.length then r else s.cl k := fun k => by
    unfold VS.put VS.cl
    simp only [List.getD, List.getElem?_set]
    by_cases e : i = k
    · subst e
      by_cases hl : i < s.L.length
      · rw [if_pos rfl, if_pos hl, if_pos ⟨rfl, hl⟩]; rfl
      · rw [if_pos rfl, if_neg hl, if_neg (by omega), List.getElem?_eq_none (by omega)]
    · rw [if_neg e, if_neg (by omega)]
  refine ⟨fun k hk => ?_, fun hqq k => ?_⟩
  · have hk : (s.t ||| 2 ^ i).testBit k = false := hk
    rw [Nat.testBit_or, Bool.or_eq_false_iff, Nat.testBit_two_pow] at hk
    rw [hcl, if_neg (by have := hk.2; simp at this; omega)]
    exact h.still k hk.1
  · rw [hcl]
    by_cases e : k = i ∧ i < s.L.length
    · rw [if_pos e]
      obtain ⟨rfl, hl⟩ := e
      obtain ⟨h1, h2⟩ := hq hqq hl
      obtain ⟨h3, h4⟩ := h.same hqq k
      exact ⟨h1.trans h3, fun j hj hb => h2 j hj (h4 j hj hb)⟩
    · rw [if_neg e]; exact h.same hqq k
theorem puts : ∀ {l : List Int} {s : VS} {i : Nat}, Keep L0 quiet s → ¬ quiet → Keep L0 quiet (s.puts i l)
  | [], _, _, h, _ => h
  | x :: _, s, i, h, hn => puts (s := s.put i (x, 0)) (i := i + 1) (h.put i (x, 0) (fun hq => absurd hq hn)) hn
end Keep
theorem follow_keep (comp : Nat → Int → Int → Int) (P : VP) {L0 : List (Int × Nat)} {quiet : Prop} {s : VS} (h : Keep L0 quiet s) (c : Cd) (hq : quiet → stores c = false) : Keep L0 quiet (followV comp P s c) := by
  have hc : ∀ z : VS, z.L = s.L → z.t = s.t → Keep L0 quiet z := fun z h1 h2 => ⟨fun i hi => by have := h.still i (by rw [← h2]; exact hi); unfold VS.cl at this ⊢; rw [h1]; exact this, fun hqq i => by have := h.same hqq i; unfold VS.cl at this ⊢; rw [h1]; exact this⟩
  have hn : ∀ k, c.op = k → (k = 3 ∨ k = 5 ∨ k = 24) → ¬ quiet := fun k e hk hqq => by
    have := hq hqq
    unfold stores at this
    rw [e] at this
    rcases hk with rfl | rfl | rfl <;> simp at this
  refine follow_elim comp P (C := fun z => Keep L0 quiet z) s c (fun _ => hc _ rfl rfl) (fun _ => hc _ rfl rfl) (fun _ => hc _ rfl rfl) (fun _ => hc _ rfl rfl) (fun e => h.put _ _ (fun hqq => absurd hqq (hn 3 e (.inl rfl)))) (fun _ _ => hc _ rfl rfl) (fun e _ => h.put _ _ (fun hqq => absurd hqq (hn 5 e (.inr (.inl rfl))))) (fun _ _ => hc _ rfl rfl) (fun _ => hc _ rfl rfl) (fun _ _ _ => hc _ rfl rfl) (fun _ _ _ => h) (fun _ _ => hc _ rfl rfl) (fun _ => hc _ rfl rfl) (fun _ => hc _ rfl rfl) (fun _ _ => ?_) (fun _ => hc _ rfl rfl) (fun e => ?_) (fun _ => hc _ rfl rfl)
  · have h2 := h.put (s.place P.al c).2 ((s.cl (s.place P.al c).2).1, (s.cl (s.place P.al c).2).2 ||| (c.m &&& P.al)) (fun _ _ => ⟨rfl, fun j _ hb => by rw [Nat.testBit_or, hb]; rfl⟩)
    exact ⟨h2.still, h2.same⟩
  · unfold shufV
    exact Keep.puts (s := { s with d := (shufN (c.c - 1) s.d (((s.L.drop c.n.toNat).take c.c).map Prod.fst)).2 }) ⟨h.still, h.same⟩ (hn 24 e (.inr (.inr rfl)))
theorem run_keep (comp : Nat → Int → Int → Int) (P : VP) {L0 : List (Int × Nat)} {quiet : Prop} (hq : quiet → ∀ c ∈ P.code, stores c = false) : ∀ (k : Nat) {s : VS}, Keep L0 quiet s → Keep L0 quiet (runV comp P k s)
  | 0, _, h => h
  | k + 1, s, h => by
    unfold runV
    by_cases h1 : s.nx < P.code.length ∧ s.e = 0
    · rw [if_pos h1]
      by_cases h2 : s.u = 400
      · rw [if_pos h2]; exact ⟨h.still, h.same⟩
      · rw [if_neg h2]
        refine run_keep comp P hq k ?_
        unfold stepV
        rw [codeAt_in P h1.1]
        exact follow_keep comp P (s := { s with nx := s.nx + 1, u := s.u + 1 }) ⟨h.still, h.same⟩ _ (fun hqq => hq hqq _ (List.getElem_mem h1.1))
    · rw [if_neg h1]; exact h
theorem run_tok (comp : Nat → Int → Int → Int) (P : VP) {N : Nat} (hP : POk comp P N) : ∀ (k : Nat) {s : VS}, TOk s N → TOk (runV comp P k s) N
  | 0, _, h => h
  | k + 1, s, h => by
    unfold runV
    by_cases h1 : s.nx < P.code.length ∧ s.e = 0
    · rw [if_pos h1]
      by_cases h2 : s.u = 400
      · rw [if_pos h2]; exact ⟨{ h.l with }, h.u, h.sh, h.nx⟩
      · rw [if_neg h2]
        exact run_tok comp P hP k (step_ok comp P hP h h1.1 (by have := h.u; omega))
    · rw [if_neg h1]; exact h
/-- What a whole run keeps. -/
theorem whole_keep {comp : Nat → Int → Int → Int} {P : VP} {L : List (Int × Nat)} {d : Nat} (hcf : CompFit comp) (hal : P.al < 4294967296) (hmvf : ∀ x ∈ P.mv, -2147483648 ≤ x ∧ x ≤ 2147483647) (hok : okK P.code) (hL : okC L) :
    (wholeV comp P L d).u ≤ 400 ∧ (wholeV comp P L d).L.length = L.length ∧ (wholeV comp P L d).t < 2 ^ L.length ∧ okC (wholeV comp P L d).L ∧
    ((wholeV comp P L d).e ≠ 0 → (wholeV comp P L d).L = L ∧ (wholeV comp P L d).d = d ∧ (wholeV comp P L d).t = 0) ∧
    Keep L (∀ c ∈ P.code, stores c = false) (wholeV comp P L d) := by
  have hS : Keep L (∀ c ∈ P.code, stores c = false) (startV P L d) := ⟨fun _ _ => rfl, fun _ _ => ⟨rfl, fun _ _ h => h⟩⟩
  by_cases hck : (checkV P.code L.length P.mv.length).2 = true
  · have hcp := check_parts hck
    have hP : POk comp P L.length := ⟨hcf, hal, hmvf, hcp.1, fun c hc => ⟨hok c hc, hcp.2 c hc⟩⟩
    have ht := run_tok comp P hP 402 (s := startV P L d) ⟨start_ok d hL hal, Nat.zero_le _, Nat.le_refl _, Nat.zero_le _⟩
    have hk := run_keep comp P (quiet := ∀ c ∈ P.code, stores c = false) (fun h => h) 402 hS
    have e1 : wholeV comp P L d = endV L d (runV comp P 402 (startV P L d)) := if_pos hck
    rw [e1]
    generalize runV comp P 402 (startV P L d) = z at *
    unfold endV
    by_cases he : z.e = 0
    · rw [if_pos he]
      exact ⟨ht.u, ht.l.L, ht.l.t, ht.l.okL, fun h => absurd he h, hk⟩
    · rw [if_neg he]
      exact ⟨ht.u, rfl, Nat.two_pow_pos _, hL, fun _ => ⟨rfl, rfl, rfl⟩, ⟨fun _ _ => rfl, fun _ _ => ⟨rfl, fun _ _ h => h⟩⟩⟩
  · have e1 : wholeV comp P L d = { startV P L d with e := 2 } := if_neg hck
    rw [e1]
    exact ⟨Nat.zero_le _, rfl, Nat.two_pow_pos _, hL, fun _ => ⟨rfl, rfl, rfl⟩, ⟨fun _ _ => rfl, fun _ _ => ⟨rfl, fun _ _ h => h⟩⟩⟩
end Go.Proofs.YtnbbglhpjpebhaaDoor
/- A list of cells whose labels are met with one mask; a row's label that is written. No condition. -/
namespace Go.Proofs.YtnbbglhpjpebhaaDoor
open Go.RowKit

/-- The first k cells, their labels met with al. -/
def mts (al : Nat) (M : List (Int × Nat)) (k : Nat) : List (Int × Nat) := M.mapIdx fun j c => if j < k then (c.1, c.2 &&& al) else c
section
variable {al : Nat} {M : List (Int × Nat)} {k : Nat}
@[simp] theorem mts_length (al : Nat) (M : List (Int × Nat)) (k : Nat) : (mts al M k).length = M.length := by simp [mts]
theorem mts_zero (al : Nat) (M : List (Int × Nat)) : mts al M 0 = M := by
  apply List.ext_getElem (by simp)
  intro j h1 h2
  simp [mts]
theorem mts_at {j : Nat} (h : j < M.length) (hk : k ≤ j) : (mts al M k)[j]'(by simpa using h) = M[j] := by
  simp [mts, Nat.not_lt.2 hk]
theorem mts_set (h : k < M.length) : (mts al M k).set k (M[k].1, M[k].2 &&& al) = mts al M (k + 1) := by
  apply List.ext_getElem (by simp)
  intro j h1 h2
  rw [List.getElem_set]
  by_cases e : k = j
  · subst e
    simp [mts]
  · rw [if_neg e]
    simp only [mts, List.getElem_mapIdx]
    have : j < k + 1 ↔ j < k := by omega
    simp only [this]
theorem mts_ok (k : Nat) (hok : okC M) : okC (mts al M k) := by
  intro c hc
  obtain ⟨j, hj, rfl⟩ := List.getElem_of_mem hc
  have hj' : j < M.length := by simpa using hj
  simp only [mts, List.getElem_mapIdx]
  have h := okC_get hok hj'
  split
  · exact ⟨h.1, Nat.lt_of_le_of_lt Nat.and_le_left h.2⟩
  · exact h
end
theorem RowC.set_lab {e : TypeId} {w : World} {B : Nat} {v : Value} {L : List (Int × Nat)} (h : RowC e w B v L) {k : Nat} (hk : k < L.length) :
    ∃ g cap, v = .slice (some ⟨g, 0, none⟩) L.length cap ∧ B ≤ g ∧ g < w.heap.size ∧ L.length ≤ cap ∧ w.cell? ⟨g, k * 2 + 1, none⟩ = some (.int .u32 ((L[k].2 : Nat) : Int)) ∧ (∀ j, w.frozen? ⟨g, j, none⟩ = false) ∧
      (∀ (y : Nat) w', w'.heap[g]? = (w.setCell ⟨g, k * 2 + 1, none⟩ (.int .u32 ((y : Nat) : Int))).heap[g]? → RowC e w' B v (L.set k (L[k].1, y))) := by
  rcases h.2 with ⟨_, hn⟩ | ⟨g, cap, cur, hv, hg, hh, hnc, hcm, hcs, hct⟩
  · omega
  · have hcell : ∀ j u, (cv L)[j]? = some u → w.cell? ⟨g, j, none⟩ = some u := fun j u hu => by
      rw [cell_of_row w g j _ _ _ hh]
      rw [← hct, List.getElem?_take] at hu
      split at hu
      · simpa using hu
      · cases hu
    have s1 : ∀ y : Nat, (cv L).set (k * 2 + 1) (.int .u32 ((y : Nat) : Int)) = cv (L.set k (L[k].1, y)) := fun y => by
      clear hcell hct hh hv h hnc
      induction L generalizing k with
      | nil => simp at hk
      | cons c L ih => cases k with
        | zero => rfl
        | succ k =>
          have := ih (by simpa using hk)
          rw [cv_cons, show (k + 1) * 2 + 1 = k * 2 + 1 + 1 + 1 by omega, List.set_cons_succ, List.set_cons_succ, this]
          rfl
    refine ⟨g, cap, hv, hg, (Array.getElem?_eq_some_iff.1 hh).1, hnc, hcell _ _ (cv_lab hk), fun j => frozen_of_row w g j _ _ hh, fun y w' hw => ?_⟩
    rw [heap_setCell_same w g _ cur _ _ hh] at hw
    refine ⟨by simp, .inr ⟨g, cap, _, by rw [hv, List.length_set], hg, hw, by simp; omega, hcm, by simpa using hcs, ?_⟩⟩
    rw [Array.toList_setIfInBounds, List.length_set, List.take_set, hct, s1]
theorem at_mk {P : Program} {ops : Array Oper} {rest : List Oper} {a : Act} {w : World} {Q : Exit → Act → World → Prop} {d : Option Tmp} {ty : TypeId} {pos : String} {af : Array Edge} {g : Option (Nat × Bool)} (T : TypeId) (x y : Tmp) (h : wpList P ops Q (Oper.mk d (.makeSlice T (.tmp x) (.tmp y)) ty pos af g :: rest) a w) : wpList P ops Q (Oper.mk d (.makeSlice T (.tmp x) (.tmp y)) ty pos af g :: rest) a w := h
theorem made_i32 (n : Nat) : (madeCells (Value.int .i32 0).cells (n * 1)).toList = iv (List.replicate n 0) := by
  apply List.ext_getElem (by simp [madeCells])
  intro j h1 h2
  simp [madeCells, Value.cells, iv]
  rw [Nat.mod_one]
  rfl
theorem sl_at {w : World} {b off k : Nat} {xs : List Value} {u : Value} (h : Sl w b (some ⟨b, off, none⟩) xs) (hu : xs[k]? = some u) : w.cell? ⟨b, off + k, none⟩ = some u := by
  obtain ⟨o, e, hc⟩ := h (by rintro rfl; simp at hu)
  injection e with e
  injection e with _ e
  rw [e]
  exact hc k u hu
theorem rowS_sl {w : World} {B : Nat} {v : Value} {l : List (Nat × Nat × Int)} (h : RowS w B v l) : ∃ A c b, v = .slice A l.length c ∧ l.length ≤ c ∧ c ≤ 9223372036854775807 ∧ Sl w b A (sv l) := by
  rcases h.2 with ⟨rfl, hn⟩ | ⟨g, cap, cur, rfl, hb, _, hnc, hcm, _⟩
  · have hl : l = [] := List.eq_nil_of_length_eq_zero hn
    subst hl
    exact ⟨none, 0, B, rfl, Nat.le_refl _, by decide, Sl.nil_ _ _ _⟩
  · refine ⟨_, cap, g, rfl, hnc, by simp only [maxLen] at hcm; omega, fun _ => ⟨0, rfl, fun j u hu => ?_⟩⟩
    have := h.cells (g := g) rfl j u hu
    simpa [Addr.add_lit] using this
theorem sv_get : ∀ {l : List (Nat × Nat × Int)} {k : Nat} (h : k < l.length), (sv l)[k * 3]? = some (.int .i64 (l[k].1 : Int)) ∧ (sv l)[k * 3 + 1]? = some (.int .u32 (l[k].2.1 : Int)) ∧ (sv l)[k * 3 + 2]? = some (.int .i32 l[k].2.2)
  | x :: l, 0, _ => ⟨rfl, rfl, rfl⟩
  | x :: l, k + 1, h => by
    have := sv_get (l := l) (k := k) (by simpa using h)
    rw [show sv (x :: l) = [Value.int .i64 (x.1 : Int), Value.int .u32 (x.2.1 : Int), Value.int .i32 x.2.2] ++ sv l by simp [sv]]
    rw [show (k + 1) * 3 = 3 + k * 3 by omega, show 3 + k * 3 + 1 = 3 + (k * 3 + 1) by omega, show 3 + k * 3 + 2 = 3 + (k * 3 + 2) by omega]
    rw [List.getElem?_append_right (by simp), List.getElem?_append_right (by simp), List.getElem?_append_right (by simp)]
    simpa using this
theorem mine_in {p : Nat} {Q : List Int} (h : p < Q.length) : (List.replicate Q.length (0 : Int)).set p Q[p] = mine p Q := by
  unfold mine
  rw [if_pos h]
  simp [List.getD, h]
theorem mine_out {p : Nat} {Q : List Int} (h : ¬ p < Q.length) : List.replicate Q.length (0 : Int) = mine p Q := by
  unfold mine
  rw [if_neg h]
theorem own_is {w : World} {B n c g : Nat} {e : TypeId} {xs : List Value} (h : w.ownsRow B e 1 (.slice (some ⟨g, 0, none⟩) n c) n xs) : Sl w g (some ⟨g, 0, none⟩) xs := fun _ => ⟨0, rfl, fun j u hu => by
  have := h.cells (g := g) rfl j u hu
  simpa [Addr.add_lit] using this⟩
/-- To whom something is shown is a mask. -/
theorem follow_shok (comp : Nat → Int → Int → Int) (P : VP) (hal : P.al < 4294967296) (s : VS) (c : Cd) (h : ∀ x ∈ s.sh, x.2.1 < 4294967296) : ∀ x ∈ (followV comp P s c).sh, x.2.1 < 4294967296 := by
  refine follow_elim comp P (C := fun z => ∀ x ∈ z.sh, x.2.1 < 4294967296) s c (fun _ => h) (fun _ => h) (fun _ => h) (fun _ => h) (fun _ => h) (fun _ _ => h) (fun _ _ => h) (fun _ _ => h) (fun _ => h) (fun _ _ _ => h) (fun _ _ _ => h) (fun _ _ => h) (fun _ => h) (fun _ => h) (fun _ _ => ?_) (fun _ => h) (fun _ => by unfold shufV; rw [puts_sh]; exact h) (fun _ => h)
  unfold VS.reveal
  intro x hx
  have hx : x ∈ (if lessN (c.m &&& P.al) (s.cl (s.place P.al c).2).2 = 0 then s.sh else s.sh ++ [((s.place P.al c).2, lessN (c.m &&& P.al) (s.cl (s.place P.al c).2).2, (s.cl (s.place P.al c).2).1)]) := hx
  split at hx
  · exact h x hx
  · rcases List.mem_append.1 hx with hx | hx
    · exact h x hx
    · rw [List.mem_singleton.1 hx]
      exact lessN_lt _ (Nat.lt_of_le_of_lt Nat.and_le_right hal)
theorem run_shok (comp : Nat → Int → Int → Int) (P : VP) (hal : P.al < 4294967296) : ∀ (k : Nat) (s : VS), (∀ x ∈ s.sh, x.2.1 < 4294967296) → ∀ x ∈ (runV comp P k s).sh, x.2.1 < 4294967296
  | 0, _, h => h
  | k + 1, s, h => by
    unfold runV
    by_cases h1 : s.nx < P.code.length ∧ s.e = 0
    · rw [if_pos h1]
      by_cases h2 : s.u = 400
      · rw [if_pos h2]; exact h
      · rw [if_neg h2]
        exact run_shok comp P hal k _ (follow_shok comp P hal { s with nx := s.nx + 1, u := s.u + 1 } _ h)
    · rw [if_neg h1]; exact h
theorem whole_shok (comp : Nat → Int → Int → Int) (P : VP) (hal : P.al < 4294967296) (L : List (Int × Nat)) (d : Nat) : ∀ x ∈ (wholeV comp P L d).sh, x.2.1 < 4294967296 := by
  have h0 : ∀ x ∈ (startV P L d).sh, x.2.1 < 4294967296 := fun x hx => (by cases hx)
  unfold wholeV
  split
  · unfold endV
    have e := run_shok comp P hal 402 (startV P L d) h0
    split <;> exact e
  · exact h0
theorem sees_of (m : Nat) {p : Nat} (hp : p < 32) : decide (m &&& aloneN (p : Int) ≠ 0) = m.testBit p := hasM_bit hp
/-- What comes of a run has as many cells. -/
theorem whole_len {P : VP} {L : List (Int × Nat)} {d : Nat} (hal : P.al < 4294967296) (hmv : ∀ x ∈ P.mv, -2147483648 ≤ x ∧ x ≤ 2147483647) (hok : okK P.code) (hL : okC L) : (wholeV compN P L d).L.length = L.length ∧ okC (wholeV compN P L d).L := by
  obtain ⟨-, h1, -, h2, -⟩ := whole_keep (comp := compN) (P := P) (L := L) (d := d) comp_fit hal hmv hok hL
  exact ⟨h1, h2⟩
end Go.Proofs.YtnbbglhpjpebhaaDoor
/- Loads and tests of whole boards, as steps of a region that draws its order. Conditions: those said. -/
namespace Go.Proofs.YtnbbglhpjpebhaaDoor
open Go.RowKit

theorem yieldsIf_ld {ops : Array Oper} {S : World → Prop} {op : Oper} {a : Act} (hw : Region.wanted op (yielded ops a.tmps) = true) (x : Operand) (ho : op.op = .load 36 x)
    (b : Nat) (hx : a.eval x = .pointer (some ⟨b, 0, none⟩)) (L : List (Int × Nat)) (hS : ∀ w, S w → BoxL w b L) : YieldsIf Tryd.prog ops S op (.agg (bdL L)) a :=
  yieldsIf_load_bd hw x ho b hx _ _ _ hS
theorem yieldsIf_eql {ops : Array Oper} {S : World → Prop} {op : Oper} {a : Act} (hw : Region.wanted op (yielded ops a.tmps) = true) (x y : Operand) (ho : op.op = .binOp .eql 36 x y 36)
    (L M : List (Int × Nat)) (hx : a.eval x = .agg (bdL L)) (hy : a.eval y = .agg (bdL M)) (hL : L.length ≤ 48) (d : Bool) (hd : d = decide (L = M)) : YieldsIf Tryd.prog ops S op (.bool d) a :=
  .inl ⟨hw, fun w _ => by
    have e : d = true ↔ bdA (bdF L) (bdG L) L.length = bdA (bdF M) (bdG M) M.length := by
      rw [hd, decide_eq_true_iff]
      exact (bdL_inj hL).symm
    unfold execOp
    simp only [ho, hx, hy, bdL, Sem.run_bind, eq_guard, Result.andThen_ok, run_eql_bd w _ _ _ _ _ _ d e, Sem.run_pure]⟩
end Go.Proofs.YtnbbglhpjpebhaaDoor
/- All that this seat's texts rest on. No condition. -/
namespace Go.Proofs.YtnbbglhpjpebhaaDoor
theorem all_there : True := trivial
end Go.Proofs.YtnbbglhpjpebhaaDoor
/- Steps of a region that draws its order, each by one closed fact. Conditions: those said. -/
namespace Go.Proofs.YtnbbglhpjpebhaaDoor
open Go.RowKit

section
variable {ops : Array Oper} {S : World → Prop} {op : Oper} {a : Act}
theorem yk (v : Value) (hw : Region.wanted op (yielded ops a.tmps) = true) (h : ∀ w, (execOp a.eval op).run Tryd.prog w = .ok (.value v) w) : YieldsIf Tryd.prog ops S op v a := .inl ⟨hw, fun w _ => h w⟩
theorem yk_no (hw : Region.wanted op (yielded ops a.tmps) = false) : YieldsIf Tryd.prog ops S op undef a := .inr ⟨hw, rfl⟩
theorem yk_eq (hw : Region.wanted op (yielded ops a.tmps) = true) (k : IntKind) (T : TypeId) (x y : Operand) (R : TypeId) (ho : op.op = .binOp .eql T x y R)
    (n m : Int) (hx : a.eval x = .int k n) (hy : a.eval y = .int k m) (d : Bool) (hd : (n == m) = d) : YieldsIf Tryd.prog ops S op (.bool d) a :=
  .inl ⟨hw, fun w _ => by
    unfold execOp
    simp only [ho, hx, hy]
    go_simp⟩
theorem yk_ne (hw : Region.wanted op (yielded ops a.tmps) = true) (k : IntKind) (T : TypeId) (x y : Operand) (R : TypeId) (ho : op.op = .binOp .neq T x y R)
    (n m : Int) (hx : a.eval x = .int k n) (hy : a.eval y = .int k m) (d : Bool) (hd : (n != m) = d) : YieldsIf Tryd.prog ops S op (.bool d) a :=
  .inl ⟨hw, fun w _ => by
    unfold execOp
    simp only [ho, hx, hy]
    go_simp⟩
theorem yk_ix (hw : Region.wanted op (yielded ops a.tmps) = true) (x y : Operand) (ho : op.op = .indexAddr 50 x y) (b off n c k : Nat) (hx : a.eval x = .slice (some ⟨b, off, none⟩) n c) (hy : a.eval y = .int .i64 (k : Int))
    (hk : (k : Int) < (n : Int)) : YieldsIf Tryd.prog ops S op (.pointer (some ⟨b, off + k * 3, none⟩)) a :=
  .inl ⟨hw, fun w _ => by
    unfold execOp
    simp only [ho, hx, hy]
    go_simp⟩
theorem yk_ldS (hw : Region.wanted op (yielded ops a.tmps) = true) (x : Operand) (ho : op.op = .load 50 x) (p : Addr) (v : Value) (hx : a.eval x = .pointer (some p)) (hS : ∀ w, S w → w.cell? p = some v) : YieldsIf Tryd.prog ops S op v a :=
  .inl ⟨hw, fun w h => by
    have hc := hS w h
    unfold execOp
    simp only [ho, hx]
    go_simp⟩
theorem yk_ldI (hw : Region.wanted op (yielded ops a.tmps) = true) (x : Operand) (ho : op.op = .load 3 x) (p : Addr) (v : Value) (hx : a.eval x = .pointer (some p)) (hS : ∀ w, S w → w.cell? p = some v) : YieldsIf Tryd.prog ops S op v a :=
  .inl ⟨hw, fun w h => by
    have hc := hS w h
    unfold execOp
    simp only [ho, hx]
    go_simp⟩
theorem yk_ldM (hw : Region.wanted op (yielded ops a.tmps) = true) (x : Operand) (ho : op.op = .load 31 x) (p : Addr) (v : Value) (hx : a.eval x = .pointer (some p)) (hS : ∀ w, S w → w.cell? p = some v) : YieldsIf Tryd.prog ops S op v a :=
  .inl ⟨hw, fun w h => by
    have hc := hS w h
    unfold execOp
    simp only [ho, hx]
    go_simp⟩
theorem yk_ldV (hw : Region.wanted op (yielded ops a.tmps) = true) (x : Operand) (ho : op.op = .load 21 x) (p : Addr) (v : Value) (hx : a.eval x = .pointer (some p)) (hS : ∀ w, S w → w.cell? p = some v) : YieldsIf Tryd.prog ops S op v a :=
  .inl ⟨hw, fun w h => by
    have hc := hS w h
    unfold execOp
    simp only [ho, hx]
    go_simp⟩
theorem yk_ldE (hw : Region.wanted op (yielded ops a.tmps) = true) (x : Operand) (ho : op.op = .load 41 x) (p : Addr) (v : Value) (hx : a.eval x = .pointer (some p)) (hS : ∀ w, S w → w.cell? p = some v) : YieldsIf Tryd.prog ops S op v a :=
  .inl ⟨hw, fun w h => by
    have hc := hS w h
    unfold execOp
    simp only [ho, hx]
    go_simp⟩
theorem yk_ldU (hw : Region.wanted op (yielded ops a.tmps) = true) (x : Operand) (ho : op.op = .load 27 x) (p : Addr) (v : Value) (hx : a.eval x = .pointer (some p)) (hS : ∀ w, S w → w.cell? p = some v) : YieldsIf Tryd.prog ops S op v a :=
  .inl ⟨hw, fun w h => by
    have hc := hS w h
    unfold execOp
    simp only [ho, hx]
    go_simp⟩
theorem wp_callF {o : Oper} {w : World} {K : Act → World → Prop} {Q : Exit → Act → World → Prop} (f : FuncId) (args : Array Value) (hrun : (execOp a.eval o).run Tryd.prog w = .ok (.enter f args) w)
    (hc : Calls Tryd.prog f args w fun e w' => ∃ v, e = .returned v ∧ K (a.put o.dst v) w') : o.wp Tryd.prog a w K Q := by
  unfold Oper.wp
  rw [hrun, Oper.upon_enter]
  refine hc.mono fun e w'' hh => ?_
  obtain ⟨v, rfl, hk⟩ := hh
  exact hk
end
theorem sl_same {a a' : World} {p : Addr} {v : Value} (h : Below a.heap.size a a') (hc : a.cell? p = some v) : a'.cell? p = some v :=
  (h.cell (World.block_lt_of_cell? a p hc)).trans hc
end Go.Proofs.YtnbbglhpjpebhaaDoor
/- A game, as it is handed on; Legal, All, rightCells. Conditions: the numbers fit. -/
namespace Go.Proofs.YtnbbglhpjpebhaaDoor
open Go.RowKit

/-- A game. -/
structure Gm where
  ob : Int
  pl : Int
  mv : Nat
  df : Nat
  L : List (Int × Nat)
  K : List Cd
/-- Its cells and its instructions, where they lie. -/
structure Gs where
  A : Option Addr
  c : Nat
  b : Nat
  A' : Option Addr
  c' : Nat
  b' : Nat
abbrev gmA (g : Gm) (s : Gs) : Array Value := #[.int .i64 g.ob, .int .i64 g.pl, .int .u32 (g.mv : Int), .int .u32 (g.df : Int), .slice s.A g.L.length s.c, .slice s.A' g.K.length s.c']
structure GIn (w : World) (g : Gm) (s : Gs) : Prop where
  sc : Sl w s.b s.A (cv g.L)
  sk : Sl w s.b' s.A' (kv g.K)
theorem GIn.ext {w w' : World} {g : Gm} {s : Gs} (h : GIn w g s) (hb : Below w.heap.size w w') : GIn w' g s := ⟨Sl.ext h.sc hb, Sl.ext h.sk hb⟩
structure GOk (g : Gm) (s : Gs) : Prop where
  o0 : -9223372036854775808 ≤ g.ob
  o1 : g.ob ≤ 9223372036854775807
  p0 : -9223372036854775808 ≤ g.pl
  p1 : g.pl ≤ 9223372036854775807
  m1 : g.mv ≤ 4294967295
  d1 : g.df ≤ 4294967295
  lL : g.L.length ≤ 55
  lK : g.K.length ≤ 100
  hL : g.L.length ≤ s.c
  hK : g.K.length ≤ s.c'
  oL : okC g.L
  oK : okK g.K
set_option maxHeartbeats 1000000 in
theorem Legal_calls (g : Gm) (s : Gs) (m : Nat) (w : World) (_hm : m ≤ 4294967295) (_hm2 : g.mv ≤ 4294967295) :
    Calls Tryd.prog 15 #[.agg (gmA g s), .int .u32 (m : Int)] w fun e w' => e = .returned (.bool (decide (m < g.mv))) ∧ Below w.heap.size w w' := by
  obtain ⟨ob, pl, mv, df, L, K⟩ := g
  have hb := below_alloc1 w (.cells (gmA ⟨ob, pl, mv, df, L, K⟩ s) 26)
  simp only at _hm2 ⊢
  obtain ⟨D, hD⟩ : ∃ D, D = decide (m < mv) := ⟨_, rfl⟩
  have e1 : decide (m < mv) = D := hD.symm
  rw [← hD]
  clear hD
  go_enter Tryd.func15, Tryd.ntmps15
  go_wp2
  go_ret
  exact ⟨rfl, hb⟩
set_option maxHeartbeats 1000000 in
theorem AllG_calls (g : Gm) (s : Gs) (w : World) :
    Calls Tryd.prog 37 #[.agg (gmA g s)] w fun e w' => e = .returned (.int .u32 (allN g.ob : Nat)) ∧ Below w.heap.size w w' := by
  obtain ⟨ob, pl, mv, df, L, K⟩ := g
  have hb := below_alloc1 w (.cells (gmA ⟨ob, pl, mv, df, L, K⟩ s) 26)
  have hA := fun W => All_calls ob W
  simp only
  obtain ⟨al, hal⟩ : ∃ al, al = allN ob := ⟨_, rfl⟩
  rw [← hal] at hA ⊢
  clear hal
  go_enter Tryd.func37, Tryd.ntmps37
  go_wp2_with fail
  refine (hA _).mono ?_
  rintro e w9 ⟨rfl, hw9⟩
  have hw9 := hw9.symm
  subst hw9
  go_wp2
  go_ret
  exact ⟨rfl, hb⟩
/-- Nobody who doesn't observe sees a cell. -/
def rcB (g : Gm) : Bool := decide (g.L.length ≤ 48) && g.L.all fun c => decide (lessN c.2 (allN g.ob) = 0)
theorem rcB_bad {g : Gm} {k : Nat} (hk : k < g.L.length) (h : lessN g.L[k].2 (allN g.ob) ≠ 0) : rcB g = false := by
  have : (g.L.all fun c => decide (lessN c.2 (allN g.ob) = 0)) = false := by
    rw [List.all_eq_false]
    exact ⟨g.L[k], List.getElem_mem hk, by simpa using h⟩
  unfold rcB
  rw [this, Bool.and_false]
theorem rcB_good {g : Gm} (h48 : g.L.length ≤ 48) (h : ∀ j (hj : j < g.L.length), lessN g.L[j].2 (allN g.ob) = 0) : rcB g = true := by
  unfold rcB
  rw [decide_eq_true h48, Bool.true_and, List.all_eq_true]
  intro c hc
  obtain ⟨j, hj, rfl⟩ := List.getElem_of_mem hc
  exact decide_eq_true (h j hj)
end Go.Proofs.YtnbbglhpjpebhaaDoor
