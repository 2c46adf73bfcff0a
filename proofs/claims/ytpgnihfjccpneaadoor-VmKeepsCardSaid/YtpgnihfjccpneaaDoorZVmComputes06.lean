/- Parts of one proof, in their order. -/
import Derived.Test.YtpgnihfjccpneaaDoorZVmComputes05
import Derived.Great.Walk
import Derived.Test.YtpgnihfjccpneaaDoorRows
import Derived.ProofKit
import Derived.OpenShut
import Derived.ShutString
import Derived.ChangeOld
import Derived.Deep.Slices
import Derived.Deep.Fields
import Derived.Lib.SmallJoins
import Derived.LaidSub
/- Run: what comes of all instructions. Conditions: the numbers fit. -/
namespace Go.Proofs.YtpgnihfjccpneaaDoor
open Go.RowKit

def zS : VS := ⟨[], 0, 0, [], 0, 0, 0, []⟩
def zM : VS := ⟨[], 0, 0, [], 0, 0, 0, List.replicate 8 (0, 0)⟩
def zX : MX := ⟨.nilFunc, .slice none 0 0, .slice none 0 0, 0, 0⟩
theorem resZ_info : (Tryd.prog.info? 50).map (fun i => (i.zero, i.size)) = some (some (.agg (resA (.slice none 0 0) zS)), 102) := by kernel_rfl
theorem machZ_info : (Tryd.prog.info? 84).map (fun i => (i.zero, i.size)) = some (some (.agg (mRow zX (.slice none 0 0) zM).toArray), 124) := by kernel_rfl
theorem info_two {P : Program} {t : TypeId} {z : Value} {n : Nat} (h : (P.info? t).map (fun i => (i.zero, i.size)) = some (some z, n)) : ∃ i, P.info? t = some i ∧ i.zero = some z ∧ i.size = n := by
  cases hi : P.info? t with
  | none => rw [hi] at h; simp at h
  | some i => rw [hi] at h; simp at h; exact ⟨i, rfl, h.1, h.2⟩
/-- What a part of a struct's value makes of its cells. -/
def splice (cs : List Value) (o : Nat) (vs : List Value) : List Value := cs.take o ++ vs ++ cs.drop (o + vs.length)
theorem fold_splice (o : Nat) : ∀ (vs : List Value) (k : Nat) (cs : List Value), o + k + vs.length ≤ cs.length → ((vs.zipIdx k).foldl (fun (a : Array Value) (x : Value × Nat) => a.setIfInBounds (o + x.2) x.1) cs.toArray) = (splice cs (o + k) vs).toArray
  | [], k, cs, _ => by simp [splice]
  | v :: vs, k, cs, h => by
    simp only [List.length_cons] at h
    rw [List.zipIdx_cons, List.foldl_cons]
    have e : cs.toArray.setIfInBounds (o + (v, k).2) (v, k).1 = (cs.set (o + k) v).toArray := by simp
    rw [e, fold_splice o vs (k + 1) _ (by simp; omega)]
    congr 1
    unfold splice
    rw [show o + (k + 1) = o + k + 1 by omega, List.take_set, List.take_add_one, List.getElem?_eq_getElem (by omega), List.drop_set]
    rw [List.set_append_right _ _ (by simp; omega)]
    simp only [List.length_take, Option.toList_some, List.length_cons, List.append_assoc, List.cons_append]
    rw [show o + k - min (o + k) cs.length = 0 by omega, if_pos (by omega), show o + k + 1 + vs.length = o + k + (vs.length + 1) by omega]
    rfl
theorem fill_one {place : Nat → Option (Nat × Nat)} {cs : List Value} {i o n : Nat} {v : Value} {rest : List (Nat × Value)} (hp : place i = some (o, n)) (hn : v.cells.toList.length = n) (hl : o + n ≤ cs.length) :
    Instr.fill place cs.toArray ((i, v) :: rest) = Instr.fill place (splice cs o v.cells.toList).toArray rest := by
  have hs : v.cells.size = n := by rw [← hn]; simp
  have e : (v.cells.zipIdx.foldl (fun (a : Array Value) (x : Value × Nat) => a.setIfInBounds (o + x.2) x.1) cs.toArray) = (splice cs o v.cells.toList).toArray := by
    have h0 := fold_splice o v.cells.toList 0 cs (by rw [hn]; omega)
    rw [Nat.add_zero] at h0
    rw [← h0, ← Array.foldl_toList]
    simp
  rw [Instr.fill, hp]
  simp only
  rw [if_neg (by simp [hs]; omega)]
  rw [← e]
theorem splice_head {A vs R : List Value} (h : A.length = vs.length) : splice (A ++ R) 0 vs = vs ++ R := by
  unfold splice
  rw [List.take_zero, List.nil_append, Nat.zero_add, ← h, List.drop_left]
theorem splice_one {A R : List Value} {k : Nat} (v : Value) (hk : k < R.length) : splice (A ++ R) (A.length + k) [v] = A ++ R.set k v := by
  unfold splice
  rw [List.take_length_add_append, show A.length + k + [v].length = A.length + (k + 1) by simp; omega, List.drop_length_add_append, List.append_assoc, List.append_assoc, List.set_eq_take_append_cons_drop, if_pos hk]
  rfl
theorem splice_mid {A C vs R : List Value} (h : C.length = vs.length) : splice (A ++ (C ++ R)) A.length vs = A ++ (vs ++ R) := by
  unfold splice
  rw [List.take_left, ← h, List.drop_length_add_append, List.drop_left, List.append_assoc]
theorem resA_built (L : List (Int × Nat)) (d : Nat) : Tryd.prog.built 50 [(0, .agg (bdL L)), (1, .agg #[.int .u64 (d : Int)])] = some (resA (.slice none 0 0) { zS with L := L, d := d }) := by
  unfold Program.built
  obtain ⟨i, hi, hz, _⟩ := info_two resZ_info
  rw [hi, Tryd.underlying50]
  simp only []
  rw [hz]
  rw [show (List.mapM (fun f => Option.map (fun (i : TypeInfo) => (Field.offset f, i.size)) (Tryd.prog.info? f.type)) _ : Option (List (Nat × Nat))) = some [(0, 97), (97, 1), (98, 1), (99, 1), (100, 1), (101, 1)] by kernel_rfl]
  obtain ⟨T, hT⟩ : ∃ T : List Value, T = [.int .u64 ((0 : Nat) : Int), .int .u64 ((0 : Nat) : Int), .slice none 0 0, .int .i64 ((0 : Nat) : Int), .int .i64 ((0 : Nat) : Int)] := ⟨_, rfl⟩
  have hz0 : resL (.slice none 0 0) zS = (bdL []).toList ++ T := by rw [hT]; rfl
  have hl : T.length = 5 := by rw [hT]; rfl
  show Instr.fill _ (resL (.slice none 0 0) zS).toArray _ = _
  rw [hz0, fill_one (v := .agg (bdL L)) (o := 0) (n := 97) rfl (bdL_list L) (by rw [List.length_append, bdL_list]; omega)]
  rw [show (Value.agg (bdL L)).cells.toList = (bdL L).toList from rfl, splice_head (by rw [bdL_list, bdL_list])]
  rw [fill_one (v := .agg #[.int .u64 (d : Int)]) (o := 97) (n := 1) rfl rfl (by rw [List.length_append, bdL_list]; omega)]
  rw [show (Value.agg #[.int .u64 (d : Int)]).cells.toList = [.int .u64 (d : Int)] from rfl, show (97 : Nat) = (bdL L).toList.length + 0 by rw [bdL_list], splice_one _ (by omega), hT]
  rfl
theorem resA_built2 (L : List (Int × Nat)) (d : Nat) : Tryd.prog.built 50 [(0, .agg (bdL L)), (1, .agg #[.int .u64 (d : Int)]), (5, .int .i64 2)] = some (resA (.slice none 0 0) { zS with L := L, d := d, e := 2 }) := by
  unfold Program.built
  obtain ⟨i, hi, hz, _⟩ := info_two resZ_info
  rw [hi, Tryd.underlying50]
  simp only []
  rw [hz]
  rw [show (List.mapM (fun f => Option.map (fun (i : TypeInfo) => (Field.offset f, i.size)) (Tryd.prog.info? f.type)) _ : Option (List (Nat × Nat))) = some [(0, 97), (97, 1), (98, 1), (99, 1), (100, 1), (101, 1)] by kernel_rfl]
  obtain ⟨T, hT⟩ : ∃ T : List Value, T = [.int .u64 ((0 : Nat) : Int), .int .u64 ((0 : Nat) : Int), .slice none 0 0, .int .i64 ((0 : Nat) : Int), .int .i64 ((0 : Nat) : Int)] := ⟨_, rfl⟩
  have hz0 : resL (.slice none 0 0) zS = (bdL []).toList ++ T := by rw [hT]; rfl
  have hl : T.length = 5 := by rw [hT]; rfl
  show Instr.fill _ (resL (.slice none 0 0) zS).toArray _ = _
  rw [hz0, fill_one (v := .agg (bdL L)) (o := 0) (n := 97) rfl (bdL_list L) (by rw [List.length_append, bdL_list]; omega)]
  rw [show (Value.agg (bdL L)).cells.toList = (bdL L).toList from rfl, splice_head (by rw [bdL_list, bdL_list])]
  rw [fill_one (v := .agg #[.int .u64 (d : Int)]) (o := 97) (n := 1) rfl rfl (by rw [List.length_append, bdL_list]; omega)]
  rw [show (Value.agg #[.int .u64 (d : Int)]).cells.toList = [.int .u64 (d : Int)] from rfl, show (97 : Nat) = (bdL L).toList.length + 0 by rw [bdL_list], splice_one _ (by omega)]
  rw [fill_one (v := .int .i64 2) (o := 101) (n := 1) rfl rfl (by rw [List.length_append, bdL_list, List.length_set]; omega)]
  rw [show (Value.int .i64 2).cells.toList = [.int .i64 2] from rfl, show (101 : Nat) = (bdL L).toList.length + 4 by rw [bdL_list], splice_one _ (by rw [List.length_set]; omega), hT]
  rfl
/-- A machine that was just made: no register is laid. -/
def newM (L : List (Int × Nat)) (d : Nat) : VS := ⟨L, d, 0, [], 0, 0, 0, List.replicate 8 (0, 0)⟩
theorem mach_built (L : List (Int × Nat)) (d : Nat) (X : MX) (hc : X.cmp.cells = #[X.cmp]) (hcd : X.cd.cells = #[X.cd]) (hmv : X.mv.cells = #[X.mv]) : Tryd.prog.built 84 [(0, .agg (resA (.slice none 0 0) { zS with L := L, d := d })), (1, X.cmp), (2, X.cd), (5, X.mv), (6, .int .u32 (X.tk : Int)), (7, .int .u32 (X.al : Int))] = some (mRow X (.slice none 0 0) (newM L d)).toArray := by
  unfold Program.built
  obtain ⟨i, hi, hz, _⟩ := info_two machZ_info
  rw [hi, Tryd.underlying84]
  simp only []
  rw [hz]
  rw [show (List.mapM (fun f => Option.map (fun (i : TypeInfo) => (Field.offset f, i.size)) (Tryd.prog.info? f.type)) _ : Option (List (Nat × Nat))) = some [(0, 102), (102, 1), (103, 1), (104, 1), (105, 16), (121, 1), (122, 1), (123, 1)] by kernel_rfl]
  obtain ⟨T, hT⟩ : ∃ T : List Value, T = [.nilFunc, .slice none 0 0, .int .i64 ((0 : Nat) : Int)] ++ (cv (List.replicate 8 (0, 0)) ++ [.slice none 0 0, .int .u32 ((0 : Nat) : Int), .int .u32 ((0 : Nat) : Int)]) := ⟨_, rfl⟩
  have hz0 : mRow zX (.slice none 0 0) zM = resL (.slice none 0 0) zS ++ T := by rw [hT]; rfl
  have hl : T.length = 22 := by rw [hT]; rfl
  obtain ⟨A, hA⟩ : ∃ A, A = resL (.slice none 0 0) { zS with L := L, d := d } := ⟨_, rfl⟩
  have hAl : A.length = 102 := by rw [hA, resL_len]
  have hA2 : (Value.agg (resA (.slice none 0 0) { zS with L := L, d := d })).cells.toList = A := by rw [hA]; rfl
  show Instr.fill _ (mRow zX (.slice none 0 0) zM).toArray _ = _
  rw [hz0, fill_one (v := .agg (resA (.slice none 0 0) { zS with L := L, d := d })) (o := 0) (n := 102) rfl (by rw [hA2, hAl]) (by rw [List.length_append, resL_len]; omega)]
  rw [hA2, splice_head (by rw [resL_len, hAl])]
  rw [fill_one (v := X.cmp) (o := 102) (n := 1) rfl (by rw [hc]; rfl) (by rw [List.length_append, hAl]; omega)]
  rw [show X.cmp.cells.toList = [X.cmp] by rw [hc], show (102 : Nat) = A.length + 0 by omega, splice_one _ (by omega)]
  rw [fill_one (v := X.cd) (o := 103) (n := 1) rfl (by rw [hcd]; rfl) (by rw [List.length_append, hAl, List.length_set]; omega)]
  rw [show X.cd.cells.toList = [X.cd] by rw [hcd], show (103 : Nat) = A.length + 1 by omega, splice_one _ (by rw [List.length_set]; omega)]
  rw [fill_one (v := X.mv) (o := 121) (n := 1) rfl (by rw [hmv]; rfl) (by rw [List.length_append, hAl, List.length_set, List.length_set]; omega)]
  rw [show X.mv.cells.toList = [X.mv] by rw [hmv], show (121 : Nat) = A.length + 19 by omega, splice_one _ (by rw [List.length_set, List.length_set]; omega)]
  rw [fill_one (v := .int .u32 (X.tk : Int)) (o := 122) (n := 1) rfl rfl (by rw [List.length_append, hAl, List.length_set, List.length_set, List.length_set]; omega)]
  rw [show (Value.int .u32 (X.tk : Int)).cells.toList = [.int .u32 (X.tk : Int)] from rfl, show (122 : Nat) = A.length + 20 by omega, splice_one _ (by rw [List.length_set, List.length_set, List.length_set]; omega)]
  rw [fill_one (v := .int .u32 (X.al : Int)) (o := 123) (n := 1) rfl rfl (by rw [List.length_append, hAl, List.length_set, List.length_set, List.length_set, List.length_set]; omega)]
  rw [show (Value.int .u32 (X.al : Int)).cells.toList = [.int .u32 (X.al : Int)] from rfl, show (123 : Nat) = A.length + 21 by omega, splice_one _ (by rw [List.length_set, List.length_set, List.length_set, List.length_set]; omega), hT, hA]
  show some _ = some _
  congr 2
section
variable {ops : Array Oper} {rest : List Oper} {o : Oper} {a : Act} {w : World} {Q : Exit → Act → World → Prop}
theorem wpList_alR (hg : o.guard = none) (ho : o.op = .alloc 50) (dst : Option Tmp) (hdst : o.dst = dst) (N : Nat) (hN : w.heap.size = N)
    (h : wpList Tryd.prog ops Q rest (a.put dst (.pointer (some ⟨N, 0, none⟩))) (w.alloc (.cells (resA (.slice none 0 0) zS) 50))) : wpList Tryd.prog ops Q (o :: rest) a w := by
  have hz : (zeroValue 50).run Tryd.prog w = .ok (.agg (resA (.slice none 0 0) zS)) w := by kernel_rfl
  subst hN
  refine Great.wpList_allocTo hg dst hdst _ _ ?_ h
  unfold execOp
  simp only [ho, Instr.alloc, newVar, newRow, run_newObj_alloc, Sem.run_bind, Sem.run_pure, Result.andThen_ok, hz, Value.cells]
theorem wpList_alM (hg : o.guard = none) (ho : o.op = .alloc 84) (dst : Option Tmp) (hdst : o.dst = dst) (N : Nat) (hN : w.heap.size = N)
    (h : wpList Tryd.prog ops Q rest (a.put dst (.pointer (some ⟨N, 0, none⟩))) (w.alloc (.cells (mRow zX (.slice none 0 0) zM).toArray 84))) : wpList Tryd.prog ops Q (o :: rest) a w := by
  have hz : (zeroValue 84).run Tryd.prog w = .ok (.agg (mRow zX (.slice none 0 0) zM).toArray) w := by kernel_rfl
  subst hN
  refine Great.wpList_allocTo hg dst hdst _ _ ?_ h
  unfold execOp
  simp only [ho, Instr.alloc, newVar, newRow, run_newObj_alloc, Sem.run_bind, Sem.run_pure, Result.andThen_ok, hz, Value.cells]
theorem wpList_bdR1 (hgd : o.guard = none) (s1 s2 : Operand) (L : List (Int × Nat)) (d : Nat) (ho : o.op = .build 50 #[(0, s1), (1, s2)]) (h1 : a.eval s1 = .agg (bdL L)) (h2 : a.eval s2 = .agg #[.int .u64 (d : Int)])
    (h : wpList Tryd.prog ops Q rest (a.put o.dst (.agg (resA (.slice none 0 0) { zS with L := L, d := d }))) w) : wpList Tryd.prog ops Q (o :: rest) a w := by
  have e : Tryd.prog.built 50 ((#[(0, s1), (1, s2)] : Array (Nat × Operand)).map fun (i, x) => (i, a.eval x)).toList = some (resA (.slice none 0 0) { zS with L := L, d := d }) := by
    rw [← resA_built L d]
    simp [h1, h2]
  exact wpList_build hgd _ _ ho (by rw [e]; rfl) (by rw [e]; exact h)
theorem wpList_bdR2 (hgd : o.guard = none) (s1 s2 s5 : Operand) (L : List (Int × Nat)) (d : Nat) (ho : o.op = .build 50 #[(0, s1), (1, s2), (5, s5)]) (h1 : a.eval s1 = .agg (bdL L)) (h2 : a.eval s2 = .agg #[.int .u64 (d : Int)]) (h5 : a.eval s5 = .int .i64 2)
    (h : wpList Tryd.prog ops Q rest (a.put o.dst (.agg (resA (.slice none 0 0) { zS with L := L, d := d, e := 2 }))) w) : wpList Tryd.prog ops Q (o :: rest) a w := by
  have e : Tryd.prog.built 50 ((#[(0, s1), (1, s2), (5, s5)] : Array (Nat × Operand)).map fun (i, x) => (i, a.eval x)).toList = some (resA (.slice none 0 0) { zS with L := L, d := d, e := 2 }) := by
    rw [← resA_built2 L d]
    simp [h1, h2, h5]
  exact wpList_build hgd _ _ ho (by rw [e]; rfl) (by rw [e]; exact h)
theorem wpList_bdM (hgd : o.guard = none) (s0 s1 s2 s5 s6 s7 : Operand) (L : List (Int × Nat)) (d : Nat) (X : MX) (hc : X.cmp.cells = #[X.cmp]) (hcd : X.cd.cells = #[X.cd]) (hmv : X.mv.cells = #[X.mv])
    (ho : o.op = .build 84 #[(0, s0), (1, s1), (2, s2), (5, s5), (6, s6), (7, s7)]) (h0 : a.eval s0 = .agg (resA (.slice none 0 0) { zS with L := L, d := d })) (h1 : a.eval s1 = X.cmp) (h2 : a.eval s2 = X.cd) (h5 : a.eval s5 = X.mv) (h6 : a.eval s6 = .int .u32 (X.tk : Int)) (h7 : a.eval s7 = .int .u32 (X.al : Int))
    (h : wpList Tryd.prog ops Q rest (a.put o.dst (.agg (mRow X (.slice none 0 0) (newM L d)).toArray)) w) : wpList Tryd.prog ops Q (o :: rest) a w := by
  have e : Tryd.prog.built 84 ((#[(0, s0), (1, s1), (2, s2), (5, s5), (6, s6), (7, s7)] : Array (Nat × Operand)).map fun (i, x) => (i, a.eval x)).toList = some (mRow X (.slice none 0 0) (newM L d)).toArray := by
    rw [← mach_built L d X hc hcd hmv]
    simp [h0, h1, h2, h5, h6, h7]
  exact wpList_build hgd _ _ ho (by rw [e]; rfl) (by rw [e]; exact h)
end
end Go.Proofs.YtpgnihfjccpneaaDoor
/- Run: what comes of it. Conditions: the numbers fit; the table of the operations lies. -/
namespace Go.Proofs.YtpgnihfjccpneaaDoor
open Go.RowKit

def BoxR (w : World) (g : Nat) (sh : Value) (s : VS) : Prop := w.heap[g]? = some (.cells (resA sh s) 50 (0, 0))
theorem resA_size (sh : Value) (s : VS) : (resA sh s).size = 102 := by unfold resA; simp [resL_len]
theorem resA_all (sh : Value) (s : VS) (h : sh.oneCell' = true) : (resA sh s).all (·.oneCell') = true := by
  refine Array.all_eq_true_iff_forall_mem.2 fun v hv => ?_
  have hv : v ∈ resL sh s := by simpa [resA] using hv
  unfold resL at hv
  rw [List.mem_append] at hv
  rcases hv with hv | hv
  · exact Array.all_eq_true_iff_forall_mem.1 (bdL_all s.L) v (by simpa using hv)
  · simp only [List.mem_cons, List.not_mem_nil, or_false] at hv
    rcases hv with rfl | rfl | rfl | rfl | rfl
    · rfl
    · rfl
    · exact h
    · rfl
    · rfl
theorem mod_setRow (w : World) (g : Nat) (cs : Array Value) : Mod (fun i => i = g) w (w.setRow g cs) := ⟨rfl, rfl, rfl, by simp [World.setRow], fun k _ hk => setRow_other w g k cs hk⟩
theorem check_parts {l : List Cd} {cells players : Int} (h : (checkV l cells players).2 = true) : l.length ≤ 96 ∧ ∀ c ∈ l, fitsB c cells ((l.length : Int) + 1) players = true := by
  unfold checkV at h
  by_cases h1 : 96 < l.length
  · rw [if_pos h1] at h; cases h
  rw [if_neg h1] at h
  by_cases h2 : l.findIdx (checkP l cells players) < l.length
  · rw [if_pos h2] at h; cases h
  refine ⟨by omega, fun c hc => ?_⟩
  have h3 := List.findIdx_eq_length.1 (Nat.le_antisymm List.findIdx_le_length (Nat.le_of_not_lt h2)) c hc
  simpa [checkP] using h3
def regK (al k : Nat) : List (Int × Nat) := (List.range 8).map fun j => if j < k then (0, al) else (0, 0)
theorem regK_zero (al : Nat) : regK al 0 = List.replicate 8 (0, 0) := rfl
theorem regK_all (al : Nat) : regK al 8 = List.replicate 8 (0, al) := rfl
theorem regK_succ (al k : Nat) : (regK al k).set k (0, al) = regK al (k + 1) := by
  unfold regK
  apply List.ext_getElem
  · simp
  · intro j h1 h2
    rw [List.getElem_set]
    simp only [List.getElem_map, List.getElem_range]
    by_cases e : k = j
    · subst e; rw [if_pos rfl, if_pos (by omega)]
    · rw [if_neg e]
      by_cases h3 : j < k
      · rw [if_pos h3, if_pos (by omega)]
      · rw [if_neg h3, if_neg (by omega)]
def newK (L : List (Int × Nat)) (d al k : Nat) : VS := ⟨L, d, 0, [], 0, 0, 0, regK al k⟩
namespace BoxR
variable {w w' : World} {g : Nat} {sh : Value} {s : VS}
theorem lt (h : BoxR w g sh s) : g < w.heap.size := (Array.getElem?_eq_some_iff.1 h).1
theorem below {B : Nat} (h : BoxR w g sh s) (hb : Below B w w') (hg : g < B) : BoxR w' g sh s := (hb.block g hg).trans h
theorem ext (h : BoxR w g sh s) (hb : Below w.heap.size w w') : BoxR w' g sh s := (hb.block g h.lt).trans h
theorem mod {S : Nat → Prop} (h : BoxR w g sh s) (hm : Mod S w w') (hs : ¬ S g) : BoxR w' g sh s := (hm.block g h.lt hs).trans h
theorem row_ (h : BoxR w g sh s) (sh' : Value) (s' : VS) : BoxR (w.setRow g (resA sh' s')) g sh' s' := setRow_heap w g _ _ _ _ h
end BoxR
section
variable {ops : Array Oper} {rest : List Oper} {o : Oper} {a : Act} {w : World} {Q : Exit → Act → World → Prop}
theorem wpList_stR (hg : o.guard = none) (x y : Operand) (ho : o.op = .store 50 x y) (g : Nat) (sh' : Value) (s' : VS) (hx : a.eval x = .pointer (some ⟨g, 0, none⟩)) (hy : a.eval y = .agg (resA sh' s')) (h1 : sh'.oneCell' = true) (sh : Value) (s : VS) (q : BoxR w g sh s)
    (h : wpList Tryd.prog ops Q rest (a.put o.dst undef) (w.setRow g (resA sh' s'))) : wpList Tryd.prog ops Q (o :: rest) a w :=
  wpList_store_row hg 50 x y ho g _ hx hy _ _ q (by rw [resA_size]; kernel_rfl) (by rw [resA_size, resA_size]) (resA_all _ _ h1) h
theorem mrow_all (X : MX) (sh : Value) (s : VS) (h0 : sh.oneCell' = true) (h1 : X.cmp.oneCell' = true) (h2 : X.cd.oneCell' = true) (h3 : X.mv.oneCell' = true) : (mRow X sh s).toArray.all (·.oneCell') = true := by
  refine Array.all_eq_true_iff_forall_mem.2 fun v hv => ?_
  have hv : v ∈ mRow X sh s := by simpa using hv
  unfold mRow mMid mEnd at hv
  rw [List.mem_append, List.mem_append, List.mem_append] at hv
  rcases hv with hv | hv | hv | hv
  · exact Array.all_eq_true_iff_forall_mem.1 (bdL_all s.L) v (by simpa using hv)
  · simp only [List.mem_cons, List.not_mem_nil, or_false] at hv
    rcases hv with rfl | rfl | rfl | rfl | rfl | rfl | rfl | rfl
    · rfl
    · rfl
    · exact h0
    · rfl
    · rfl
    · exact h1
    · exact h2
    · rfl
  · exact cv_one _ v hv
  · simp only [List.mem_cons, List.not_mem_nil, or_false] at hv
    rcases hv with rfl | rfl | rfl
    · exact h3
    · rfl
    · rfl
theorem wpList_stMach (hg : o.guard = none) (x y : Operand) (ho : o.op = .store 84 x y) (g : Nat) (X : MX) (s : VS) (hx : a.eval x = .pointer (some ⟨g, 0, none⟩)) (hy : a.eval y = .agg (mRow X (.slice none 0 0) s).toArray) (hR : s.R.length = 8) (h1 : X.cmp.oneCell' = true) (h2 : X.cd.oneCell' = true) (h3 : X.mv.oneCell' = true)
    (old : Array Value) (q : w.heap[g]? = some (.cells old 84 (0, 0))) (ho2 : old.size = 124)
    (h : wpList Tryd.prog ops Q rest (a.put o.dst undef) (w.setRow g (mRow X (.slice none 0 0) s).toArray)) : wpList Tryd.prog ops Q (o :: rest) a w :=
  wpList_store_row hg 84 x y ho g _ hx hy _ _ q (by rw [List.size_toArray, mRow_size hR]; kernel_rfl) (by rw [ho2, List.size_toArray, mRow_size hR]) (mrow_all _ _ _ rfl h1 h2 h3) h
end
/-- What is asked of what came. -/
structure RunIn (P : VP) (A : Option Addr) (bc : Nat) (Am : Option Addr) (bm : Nat) (L : List (Int × Nat)) (w : World) : Prop where
  code : Sl w bc A (kv P.code)
  moves : Is w bm Am P.mv
  ok : okK P.code
  len : P.code.length ≤ maxLen
  mvl : P.mv.length ≤ 100
  mv : ∀ x ∈ P.mv, -2147483648 ≤ x ∧ x ≤ 2147483647
  L48 : L.length ≤ 48
  okL : okC L
  al : P.al < 4294967296
  tab : CTab w
  hbc : bc < w.heap.size
  hbm : bm < w.heap.size
set_option maxHeartbeats 16000000 in
set_option maxRecDepth 20000 in
theorem Run_calls (comp : Nat → Int → Int → Int) (hcomp : Comp comp) (hcf : CompFit comp) (P : VP) (A : Option Addr) (cap bc : Nat) (Am : Option Addr) (capm bm : Nat) (L : List (Int × Nat)) (d : Nat) (w : World) (hin : RunIn P A bc Am bm L w) :
    Calls Tryd.prog 21 #[.slice A P.code.length cap, .agg (bdL L), .agg #[.int .u64 (d : Int)], .slice Am P.mv.length capm, .int .u32 (P.tk : Int), .int .u32 (P.al : Int)] w fun e w' => ∃ sh, e = .returned (.agg (resA sh (wholeV comp P L d))) ∧ RowS w' w.heap.size sh (wholeV comp P L d).sh ∧ Below w.heap.size w w' := by
  obtain ⟨F, hF⟩ : ∃ F, F = wholeV comp P L d := ⟨_, rfl⟩
  rw [← hF]
  have HF := Lib.hid hF
  clear hF
  have HI := Lib.hid hin
  have hL := hin.L48
  obtain ⟨W0, hW0⟩ : ∃ W0, W0 = ((w.alloc (.cells (bdL L) 44)).alloc (.cells #[.int .u64 (d : Int)] 27)).alloc (.cells (resA (.slice none 0 0) zS) 50) := ⟨_, rfl⟩
  have qb : BoxL W0 w.heap.size L := by rw [hW0]; exact ((BoxL.new_ w L).alloc _).alloc _
  have qd : Box W0 (w.heap.size + 1) (.int .u64 (d : Int)) 27 := by
    have h := (Box.new_ (w.alloc (.cells (bdL L) 44)) (.int .u64 (d : Int)) 27).alloc (.cells (resA (.slice none 0 0) zS) 50)
    rw [show (w.alloc (.cells (bdL L) 44)).heap.size = w.heap.size + 1 by simp] at h
    rw [hW0]; exact h
  have qr : BoxR W0 (w.heap.size + 2) (.slice none 0 0) zS := by
    have h : BoxR (((w.alloc (.cells (bdL L) 44)).alloc (.cells #[.int .u64 (d : Int)] 27)).alloc (.cells (resA (.slice none 0 0) zS) 50)) _ (.slice none 0 0) zS := heap_alloc_new _ _
    rw [show ((w.alloc (.cells (bdL L) 44)).alloc (.cells #[.int .u64 (d : Int)] 27)).heap.size = w.heap.size + 2 by simp] at h
    rw [hW0]; exact h
  have hb0 : Below w.heap.size w W0 := by rw [hW0]; exact below_alloc3 w _ _ _
  have hz0 : W0.heap.size = w.heap.size + 3 := by rw [hW0]; simp
  have hT0 := HI.out.tab.ext hb0
  have hc0 := Sl.ext HI.out.code hb0
  have hR := fun W hs hT => Right_calls A P.code P.code.length cap bc L.length P.mv.length W hs rfl HI.out.len HI.out.ok (by omega) (by omega) hT
  have hLen := fun W => Len_calls L W
  have eN : ((w.alloc (.cells (bdL L) 44)).alloc (.cells #[.int .u64 (d : Int)] 27)).heap.size = w.heap.size + 2 := by simp
  have HEN := Lib.hid eN
  have HW0 := Lib.hid hW0
  obtain ⟨ok, hokk⟩ : ∃ ok, ok = (checkV P.code L.length P.mv.length).2 := ⟨_, rfl⟩
  rw [← hokk] at hR
  have HOK := Lib.hid hokk
  obtain ⟨nc, hnc⟩ : ∃ nc, nc = P.code.length := ⟨_, rfl⟩
  obtain ⟨nm, hnm⟩ : ∃ nm, nm = P.mv.length := ⟨_, rfl⟩
  rw [← hnc, ← hnm] at hR ⊢
  have HNC := Lib.hid hnc
  have HNM := Lib.hid hnm
  clear hin eN hW0 hokk hnc hnm
  go_enter Tryd.func21, Tryd.ntmps21
  go_wp2_with (first | ((with_reducible refine at_al 50 12 ?_); refine wpList_alR rfl rfl (some 12) rfl (w.heap.size + 2) HEN.out ?_; rw [← HW0.out]) | ((with_reducible refine at_ld 44 7 ?_); refine wpList_ld rfl (.tmp 7) rfl w.heap.size rfl L qb ?_))
  refine (hLen _).mono ?_
  rintro e w1 ⟨rfl, h1⟩
  have qb := qb.ext h1
  have qd := qd.ext h1
  have qr := qr.ext h1
  have hb1 := hb0.trans (h1.mono hb0.size)
  have hT1 := hT0.ext h1
  have hc1 := Sl.ext hc0 h1
  clear hLen hb0 hT0 hc0
  go_wp2_with fail
  refine (hR w1 hc1 hT1).mono ?_
  rintro e w2 ⟨rfl, h2⟩
  have qb := qb.ext h2
  have qd := qd.ext h2
  have qr := qr.ext h2
  have hb2 := hb1.trans (h2.mono hb1.size)
  have hz2 : w.heap.size + 3 ≤ w2.heap.size := by have := h1.size; have := h2.size; omega
  have dc := qd.cell
  clear hR hb1 hT1 hc1 h1 h2 hz0 HW0 HEN
  cases ok with
  | false =>
    have hFe : F = { startV P L d with e := 2 } := by rw [HF.out]; unfold wholeV; rw [if_neg (by rw [← HOK.out]; decide)]
    go_wp2_with (first | ((with_reducible refine at_ld 44 7 ?_); refine wpList_ld rfl (.tmp 7) rfl w.heap.size rfl L qb ?_) | ((with_reducible refine at_bd 50 24 _ ?_); refine wpList_bdR2 rfl (.tmp 22) (.tmp 23) (.const (.int .i64 2)) L d rfl rfl rfl rfl ?_) | ((with_reducible refine at_st 50 12 24 ?_); refine wpList_stR rfl (.tmp 12) (.tmp 24) rfl (w.heap.size + 2) (.slice none 0 0) { zS with L := L, d := d, e := 2 } rfl rfl rfl (.slice none 0 0) zS qr ?_))
    have qr3 := qr.row_ (.slice none 0 0) { zS with L := L, d := d, e := 2 }
    have hb3 := below_setRow hb2 (w.heap.size + 2) (resA (.slice none 0 0) { zS with L := L, d := d, e := 2 }) (by omega)
    exact bodyPost_ret (results_cell_row (P := Tryd.prog) rfl _ _ (w.heap.size + 2) _ _ (0, 0) _ rfl qr3 Tryd.underlying50 rfl (by rw [resA_size]; kernel_rfl)) rfl ⟨.slice none 0 0, by rw [hFe]; rfl, by rw [hFe]; exact World.ownsRow_nil _ _ _ _, hb3⟩
  | true =>
    have hck := check_parts (HOK.out.symm)
    obtain ⟨X, hX⟩ : ∃ X : MX, X = ⟨.func (.func 24) #[] #[], .slice A nc cap, .slice Am nm capm, P.tk, P.al⟩ := ⟨_, rfl⟩
    have x1 : X.cmp = .func (.func 24) #[] #[] := by rw [hX]
    have x2 : X.cd = .slice A nc cap := by rw [hX]
    have x3 : X.mv = .slice Am nm capm := by rw [hX]
    have x4 : X.tk = P.tk := by rw [hX]
    have x5 : X.al = P.al := by rw [hX]
    have HX1 := Lib.hid x1
    have HX2 := Lib.hid x2
    have HX3 := Lib.hid x3
    have HX4 := Lib.hid x4
    have HX5 := Lib.hid x5
    have o1 : X.cmp.cells = #[X.cmp] := by rw [x1]; rfl
    have o2 : X.cd.cells = #[X.cd] := by rw [x2]; rfl
    have o3 : X.mv.cells = #[X.mv] := by rw [x3]; rfl
    have O1 := Lib.hid o1
    have O2 := Lib.hid o2
    have O3 := Lib.hid o3
    clear hX x1 x2 x3 x4 x5 o1 o2 o3
    have hN0 : (newM L d).R.length = 8 := rfl
    go_wp2_with (first | ((with_reducible refine at_ld 44 7 ?_); refine wpList_ld rfl (.tmp 7) rfl w.heap.size rfl L qb ?_) | ((with_reducible refine at_bd 50 27 _ ?_); refine wpList_bdR1 rfl (.tmp 25) (.tmp 26) L d rfl rfl rfl ?_) | ((with_reducible refine at_bd 84 32 _ ?_); refine wpList_bdM rfl (.tmp 27) (.func 24) (.tmp 28) (.tmp 29) (.tmp 30) (.tmp 31) L d X O1.out O2.out O3.out rfl rfl HX1.out.symm HX2.out.symm HX3.out.symm (by rw [HX4.out]; rfl) (by rw [HX5.out]; rfl) ?_) | ((with_reducible refine at_al 84 13 ?_); refine wpList_alM rfl rfl (some 13) rfl w2.heap.size rfl ?_) | ((with_reducible refine at_st 84 13 32 ?_); refine wpList_stMach rfl (.tmp 13) (.tmp 32) rfl w2.heap.size X (newM L d) rfl rfl hN0 (by rw [HX1.out]; rfl) (by rw [HX2.out]; rfl) (by rw [HX3.out]; rfl) _ (heap_alloc_new w2 _) (by rw [List.size_toArray, mRow_size rfl]) ?_; rw [made_row]))
    obtain ⟨b, hbe⟩ : ∃ b, b = w2.heap.size := ⟨_, rfl⟩
    have q3 : MB (w2.alloc (.cells (mRow X (.slice none 0 0) (newM L d)).toArray 84)) b X (.slice none 0 0) (newK L d P.al 0) := ⟨by rw [hbe]; exact heap_alloc_new w2 _, rfl⟩
    have hx3 := below_alloc1 w2 (.cells (mRow X (.slice none 0 0) (newM L d)).toArray 84)
    have qb := qb.ext hx3
    have qd := qd.ext hx3
    have qr := qr.ext hx3
    have hb3 := hb2.trans (hx3.mono hb2.size)
    rw [← hbe] at hz2 ⊢
    obtain ⟨wz, hwz⟩ : ∃ wz, wz = w2.alloc (.cells (mRow X (.slice none 0 0) (newM L d)).toArray 84) := ⟨_, rfl⟩
    rw [← hwz] at q3 qb qd qr hb3 ⊢
    clear hwz hbe hx3 hb2 dc
    go_loopw [14, 33] (fun _ c wr => ∃ k : Nat, k ≤ 8 ∧ c = .int .i64 k ∧ MB wr b X (.slice none 0 0) (newK L d P.al k) ∧ MM b wz wr ∧ Below w.heap.size w wr) (fun _ c _ => 8 - (intOf c).toNat)
    case atStart => exact ⟨0, Nat.zero_le _, rfl, q3, MM.refl_ _ _, hb3⟩
    case round =>
      clear q3 hb3
      obtain ⟨k, hk, rfl, q, hm, hb⟩ := hrel
      by_cases hlt : k < 8
      · have ek : (k : Int) < 8 := by omega
        have hO := open_calls b none b X (newK L d P.al k) 0 wr ⟨.slice none 0 0, q, World.ownsRow_nil _ _ _ _, rfl, by simp⟩
        rw [HX5.out] at hO
        go_wp2_with fail
        refine hO.mono ?_
        rintro e w4 ⟨rfl, h4⟩
        have q4 := q.ext h4
        have hm4 := hm.ext h4
        have hb4 := hb.trans (h4.mono hb.size)
        have c0 := q4.cRv hlt
        have c1 := q4.cRl hlt
        have f0 := q4.free (105 + k * 2)
        have f1 := q4.free (105 + k * 2 + 1)
        have q5 : MB ((w4.setCell ⟨b, 105 + k * 2, none⟩ (.int .i32 0)).setCell ⟨b, 105 + k * 2 + 1, none⟩ (.int .u32 (P.al : Int))) b X (.slice none 0 0) (newK L d P.al (k + 1)) := by
          have := q4.sR hlt (0, P.al)
          unfold VS.setR newK at this
          rw [regK_succ] at this
          exact this
        have hm5 := (hm4.cell (105 + k * 2) (.int .i32 0)).cell (105 + k * 2 + 1) (.int .u32 (P.al : Int))
        have hb5 := (hb4.setCell (p := ⟨b, 105 + k * 2, none⟩) (by dsimp only; omega) (.int .i32 0)).setCell (p := ⟨b, 105 + k * 2 + 1, none⟩) (by dsimp only; omega) (.int .u32 (P.al : Int))
        have Q5 := Lib.hid q5
        have hl4 := q4.lt
        clear hO q q4 q5 hm hm4 hb hb4
        go_wp2_with fail
        go_roundw
        case rel => exact ⟨k + 1, by omega, by go_num, Q5.out, hm5, hb5⟩
        case measure => simp [intOf]; omega
      · obtain rfl : k = 8 := by omega
        have hcode : Sl wr bc A (kv P.code) := HI.out.code.below hb HI.out.hbc
        have hmoves : Is wr bm Am P.mv := HI.out.moves.below hb HI.out.hbm
        have hbcb := HI.out.hbc
        have hbmb := HI.out.hbm
        have hXO : XOk X P wr b := ⟨HX1.out, ⟨A, cap, bc, by rw [HX2.out, HNC.out], hcode, by omega⟩, ⟨Am, capm, bm, by rw [HX3.out, HNM.out], hmoves, by omega⟩, HX4.out, HX5.out, hck.1, HI.out.mvl⟩
        have hPO : POk comp P L.length := ⟨hcf, HI.out.al, HI.out.mv, hck.1, fun c hc => ⟨HI.out.ok c hc, hck.2 c hc⟩⟩
        have hTO : TOk (startV P L d) L.length := ⟨⟨rfl, rfl, HI.out.okL, fun c hc => by rw [List.eq_of_mem_replicate hc]; exact ⟨⟨by show (-2147483648 : Int) ≤ 0; omega, by show (0 : Int) ≤ 2147483647; omega⟩, HI.out.al⟩, Nat.two_pow_pos _⟩, Nat.zero_le _, Nat.le_refl _, Nat.zero_le _⟩
        have hRun := run_calls comp hcomp P b none b L.length X (startV P L d) wr ⟨.slice none 0 0, q, World.ownsRow_nil _ _ _ _, rfl, by simp⟩ hL hPO hTO hXO (Nat.le_refl _)
        have hFe : F = endV L d (runV comp P 402 (startV P L d)) := by rw [HF.out]; unfold wholeV; rw [if_pos (by rw [← HOK.out])]
        rw [show 402 - (startV P L d).u = 402 from rfl] at hRun
        obtain ⟨S5, hS5⟩ : ∃ S5, S5 = runV comp P 402 (startV P L d) := ⟨_, rfl⟩
        rw [← hS5] at hRun hFe
        have HFE := Lib.hid hFe
        have qb := qb.mod hm (by omega)
        have qd := qd.mod hm (by omega)
        have qr := qr.mod hm (by omega)
        have hqb := q.lt
        clear hcode hmoves hXO hPO hTO hS5 hFe hck hm q
        go_wp2_with fail
        refine hRun.mono ?_
        rintro e w5 ⟨rfl, r', h5, h6⟩
        have qb := qb.below h6 (by omega)
        have qd := qd.below h6 (by omega)
        have qr := qr.below h6 (by omega)
        have hb5 := hb.trans (h6.mono (by omega))
        obtain ⟨sh5, q5, hS5, hr5, hrb5⟩ := h5
        have hone : sh5.oneCell' = true := by rcases hS5.2 with ⟨h, _⟩ | ⟨g, cp, cur, h, _⟩ <;> rw [h] <;> rfl
        have hS6 : RowS w5 w.heap.size sh5 S5.sh := owns_low hS5 (by omega)
        have c1 := q5.cE
        have hl5 := q5.lt
        have hz5 := hb5.size
        clear hRun hb h6
        by_cases he : S5.e = 0
        · have hFs : F = S5 := by rw [HFE.out]; unfold endV; rw [if_pos he]
          have ee : ((S5.e : Int) != 0) = false := by simp [he]
          have HE := Lib.hid he
          clear he
          go_wp2_with (first | ((with_reducible refine at_ld 50 54 ?_); refine wpList_ldR rfl (.tmp 54) rfl b rfl q5 ?_) | ((with_reducible refine at_st 50 12 55 ?_); refine wpList_stR rfl (.tmp 12) (.tmp 55) rfl (w.heap.size + 2) sh5 S5 rfl rfl hone (.slice none 0 0) zS qr ?_))
          have qr6 := qr.row_ sh5 S5
          have hb6 := below_setRow hb5 (w.heap.size + 2) (resA sh5 S5) (by omega)
          refine bodyPost_ret (results_cell_row (P := Tryd.prog) rfl _ _ (w.heap.size + 2) _ _ (0, 0) _ rfl qr6 Tryd.underlying50 rfl (by rw [resA_size]; kernel_rfl)) rfl ⟨sh5, by rw [hFs], by rw [hFs]; exact hS6.mod (S := fun i => i = w.heap.size + 2) (mod_setRow _ _ _) (fun k hk h => by have := (World.ownsRow.lt hS5 k hk).1; omega), hb6⟩
        · have hFs : F = { S5 with L := L, d := d, t := 0 } := by rw [HFE.out]; unfold endV; rw [if_neg he]
          have ee : ((S5.e : Int) != 0) = true := by simp; omega
          have dc := qd.cell
          have c97 := q5.cD
          clear he
          go_wp2_with fail
          refine wp_region_held_drew (S := fun w' => BoxL w' w.heap.size L ∧ Box w' (w.heap.size + 1) (.int .u64 (d : Int)) 27) (by kernel_rfl) ?_ (fun hHeld => ?_)
          · exact ⟨qb, qd⟩
          refine wpAnyH_take (i := 0) (by simp only [List.getElem?_toArray, List.getElem?_cons_zero]; rfl) (by kernel_rfl) (by kernel_rfl) (by kernel_rfl) (by exact fun _ _ _ h => h) (by exact yieldsIf_load_bd (by kernel_rfl) (.tmp 7) rfl w.heap.size rfl _ _ _ (fun w h => h.1)) hHeld ?_
          try simp only [Act.put, List.setIfInBounds_toArray, List.set_cons_zero, List.set_cons_succ]
          refine wpAnyH_take (i := 1) (v := ?zv1) (by simp only [List.getElem?_toArray, List.getElem?_cons_succ, List.getElem?_cons_zero]; rfl) (by kernel_rfl) (by kernel_rfl) (by kernel_rfl) (by exact fun _ _ _ h => h) (Or.inl ⟨by rfl, ?zy1⟩) hHeld ?_
          case zy1 => (intro w hSw; (try dsimp only at hSw); have hy0 := hSw.2.cell; clear hSw; go_simp; try (with_reducible rfl))
          try simp only [Act.put, List.setIfInBounds_toArray, List.set_cons_zero, List.set_cons_succ]
          refine wpAnyH_take (i := 2) (v := ?zv2) (by simp only [List.getElem?_toArray, List.getElem?_cons_succ, List.getElem?_cons_zero]; rfl) (by kernel_rfl) (by kernel_rfl) (by kernel_rfl) (by exact fun _ _ _ h => h) (Or.inl ⟨by rfl, ?zy2⟩) hHeld ?_
          case zy2 => (intro w hSw; (try dsimp only at hSw); have hy0 := hSw.2.cell; clear hSw; go_simp; try (with_reducible rfl))
          try simp only [Act.put, List.setIfInBounds_toArray, List.set_cons_zero, List.set_cons_succ]
          refine wpAnyH_take (i := 3) (v := ?zv3) (by simp only [List.getElem?_toArray, List.getElem?_cons_succ, List.getElem?_cons_zero]; rfl) (by kernel_rfl) (by kernel_rfl) (by kernel_rfl) (by exact fun _ _ _ h => h) (Or.inl ⟨by rfl, ?zy3⟩) hHeld ?_
          case zy3 => (intro w hSw; (try dsimp only at hSw); have hy0 := hSw.2.cell; clear hSw; go_simp; try (with_reducible rfl))
          try simp only [Act.put, List.setIfInBounds_toArray, List.set_cons_zero, List.set_cons_succ]
          refine wpAnyH_ready (rs := [4]) (by kernel_rfl) (by simp) ?_
          refine AllReadyH.cons (by simp only [List.getElem?_toArray, List.getElem?_cons_succ, List.getElem?_cons_zero]; rfl) (fun KK hKK => ?_) AllReadyH.nil
          rw [if_pos (by rfl)]
          refine wp_stM (.tmp 49) (.tmp 46) rfl b L rfl rfl q5 ?_
          have hm6 : MM b w5 (w5.drew.setCells b 0 (bdL L).toList) := (MM.dr (MM.refl_ b w5)).long (bdL L).toList
          have q6 : MB (w5.drew.setCells b 0 (bdL L).toList) b X sh5 { S5 with L := L } := MB.sL (w := w5.drew) q5 L
          have qb := qb.mod hm6 (by omega)
          have qd := qd.mod hm6 (by omega)
          have qr := qr.mod hm6 (by omega)
          have hl6 := q6.lt
          obtain ⟨w6, hw6⟩ : ∃ w6, w6 = w5.drew.setCells b 0 (bdL L).toList := ⟨_, rfl⟩
          rw [← hw6] at hm6 q6 qb qd qr hl6 ⊢
          clear hw6 c97
          have c97 := q6.cD
          have f97 := q6.free 97
          refine hKK.out _ _ ?_ (fun hHeld => ?_)
          · exact ⟨qb, qd⟩
          clear hKK KK
          try simp only [Act.put]
          refine wpAnyH_take (i := 5) (v := ?zv5) (by simp only [List.getElem?_toArray, List.getElem?_cons_succ, List.getElem?_cons_zero]; rfl) (by kernel_rfl) (by kernel_rfl) (by kernel_rfl) (by exact fun _ _ _ h => h) (Or.inl ⟨by rfl, ?zy5⟩) hHeld ?_
          case zy5 => (intro w hSw; (try dsimp only at hSw); have hy0 := hSw.2.cell; clear hSw; go_simp; try (with_reducible rfl))
          try simp only [Act.put, List.setIfInBounds_toArray, List.set_cons_zero, List.set_cons_succ]
          refine wpAnyH_take (i := 6) (v := ?zv6) (by simp only [List.getElem?_toArray, List.getElem?_cons_succ, List.getElem?_cons_zero]; rfl) (by kernel_rfl) (by kernel_rfl) (by kernel_rfl) (by exact fun _ _ _ h => h) (Or.inl ⟨by rfl, ?zy6⟩) hHeld ?_
          case zy6 => (intro w hSw; (try dsimp only at hSw); have hy0 := hSw.2.cell; clear hSw; go_simp; try (with_reducible rfl))
          try simp only [Act.put, List.setIfInBounds_toArray, List.set_cons_zero, List.set_cons_succ]
          refine wpAnyH_ready (rs := [7]) (by kernel_rfl) (by simp) ?_
          refine AllReadyH.cons (by simp only [List.getElem?_toArray, List.getElem?_cons_succ, List.getElem?_cons_zero]; rfl) (fun KK hKK => ?_) AllReadyH.nil
          go_simp
          have q7 := q6.sD d
          have hm7 := hm6.cell 97 (.int .u64 (d : Int))
          have qb := qb.mod ((MM.refl_ b _).cell 97 (.int .u64 (d : Int))) (by omega)
          have qd := qd.mod ((MM.refl_ b _).cell 97 (.int .u64 (d : Int))) (by omega)
          have qr := qr.mod ((MM.refl_ b _).cell 97 (.int .u64 (d : Int))) (by omega)
          have c98 := q7.cT
          have f98 := q7.free 98
          refine hKK.out _ _ ?_ (fun hHeld => ?_)
          · exact ⟨qb, qd⟩
          clear hKK KK
          try simp only [Act.put, List.setIfInBounds_toArray, List.set_cons_zero, List.set_cons_succ]
          refine wpAnyH_take (i := 8) (v := ?zv8) (by simp only [List.getElem?_toArray, List.getElem?_cons_succ, List.getElem?_cons_zero]; rfl) (by kernel_rfl) (by kernel_rfl) (by kernel_rfl) (by exact fun _ _ _ h => h) (Or.inl ⟨by rfl, ?zy8⟩) hHeld ?_
          case zy8 => (intro w hSw; (try dsimp only at hSw); have hy0 := hSw.2.cell; clear hSw; go_simp; try (with_reducible rfl))
          try simp only [Act.put, List.setIfInBounds_toArray, List.set_cons_zero, List.set_cons_succ]
          refine wpAnyH_take (i := 9) (v := ?zv9) (by simp only [List.getElem?_toArray, List.getElem?_cons_succ, List.getElem?_cons_zero]; rfl) (by kernel_rfl) (by kernel_rfl) (by kernel_rfl) (by exact fun _ _ _ h => h) (Or.inl ⟨by rfl, ?zy9⟩) hHeld ?_
          case zy9 => (intro w hSw; (try dsimp only at hSw); have hy0 := hSw.2.cell; clear hSw; go_simp; try (with_reducible rfl))
          try simp only [Act.put, List.setIfInBounds_toArray, List.set_cons_zero, List.set_cons_succ]
          refine wpAnyH_ready (rs := [10]) (by kernel_rfl) (by simp) ?_
          refine AllReadyH.cons (by simp only [List.getElem?_toArray, List.getElem?_cons_succ, List.getElem?_cons_zero]; rfl) (fun KK hKK => ?_) AllReadyH.nil
          go_simp
          have q8 := q7.sT 0
          have hm8 := hm7.cell 98 (.int .u64 0)
          have qb := qb.mod ((MM.refl_ b _).cell 98 (.int .u64 0)) (by omega)
          have qd := qd.mod ((MM.refl_ b _).cell 98 (.int .u64 0)) (by omega)
          have qr := qr.mod ((MM.refl_ b _).cell 98 (.int .u64 0)) (by omega)
          refine hKK.out _ _ ?_ (fun hHeld => ?_)
          · exact ⟨qb, qd⟩
          clear hKK KK
          try simp only [Act.put, List.setIfInBounds_toArray, List.set_cons_zero, List.set_cons_succ]
          refine wpAnyH_done (by kernel_rfl) ?_ _
          have hr8 : RowS ((w6.setCell ⟨b, 97, none⟩ (.int .u64 (d : Int))).setCell ⟨b, 98, none⟩ (.int .u64 0)) w.heap.size sh5 S5.sh := hS6.mod hm8 (fun k hk h => hrb5 (hr5.symm.trans (hk.trans (congrArg some h))))
          have hb8 : Below w.heap.size w ((w6.setCell ⟨b, 97, none⟩ (.int .u64 (d : Int))).setCell ⟨b, 98, none⟩ (.int .u64 0)) := hb5.trans (hm8.below (by omega) (fun i hi h => by omega))
          clear c97 f97 c98 f98 dc
          go_wp2_with (first | ((with_reducible refine at_ld 50 54 ?_); refine wpList_ldR rfl (.tmp 54) rfl b rfl q8 ?_) | ((with_reducible refine at_st 50 12 55 ?_); refine wpList_stR rfl (.tmp 12) (.tmp 55) rfl (w.heap.size + 2) sh5 { S5 with L := L, d := d, t := 0 } rfl rfl hone (.slice none 0 0) zS qr ?_))
          have qr9 := qr.row_ sh5 { S5 with L := L, d := d, t := 0 }
          have hb9 := below_setRow hb8 (w.heap.size + 2) (resA sh5 { S5 with L := L, d := d, t := 0 }) (by omega)
          refine bodyPost_ret (results_cell_row (P := Tryd.prog) rfl _ _ (w.heap.size + 2) _ _ (0, 0) _ rfl qr9 Tryd.underlying50 rfl (by rw [resA_size]; kernel_rfl)) rfl ⟨sh5, by first | rfl | rw [hFs], by first | (rw [hFs]; exact hr8.mod (S := fun i => i = w.heap.size + 2) (mod_setRow _ _ _) (fun k hk h => by have := (World.ownsRow.lt hS5 k hk).1; omega)) | exact hr8.mod (S := fun i => i = w.heap.size + 2) (mod_setRow _ _ _) (fun k hk h => by have := (World.ownsRow.lt hS5 k hk).1; omega), hb9⟩
end Go.Proofs.YtpgnihfjccpneaaDoor
/- What came of it, in a variable: what its fields read as; and the document's example. Conditions: the table of the operations lies. -/
namespace Go.Proofs.YtpgnihfjccpneaaDoor
open Go.RowKit

namespace BoxR
variable {w w' : World} {g : Nat} {sh : Value} {s : VS}
theorem at_ (h : BoxR w g sh s) {k : Nat} {v : Value} (hv : (resA sh s)[k]? = some v) : w.cell? ⟨g, k, none⟩ = some v := by
  rw [cell_of_row w g k _ _ _ h]
  exact hv
theorem cD (h : BoxR w g sh s) : w.cell? ⟨g, 97, none⟩ = some (.int .u64 (s.d : Int)) := h.at_ (resA_at _ _ (k := 0) rfl)
theorem cT (h : BoxR w g sh s) : w.cell? ⟨g, 98, none⟩ = some (.int .u64 (s.t : Int)) := h.at_ (resA_at _ _ (k := 1) rfl)
theorem cS (h : BoxR w g sh s) : w.cell? ⟨g, 99, none⟩ = some sh := h.at_ (resA_at _ _ (k := 2) rfl)
theorem cU (h : BoxR w g sh s) : w.cell? ⟨g, 100, none⟩ = some (.int .i64 (s.u : Int)) := h.at_ (resA_at _ _ (k := 3) rfl)
theorem cE (h : BoxR w g sh s) : w.cell? ⟨g, 101, none⟩ = some (.int .i64 (s.e : Int)) := h.at_ (resA_at _ _ (k := 4) rfl)
theorem rangeB (h : BoxR w g sh s) : w.rangeAt g 0 (bdL s.L).toList := fun j v hv => by
  rw [Nat.zero_add]
  refine h.at_ ?_
  unfold resA resL
  rw [List.getElem?_toArray, List.getElem?_append_left (List.getElem?_eq_some_iff.1 hv).1]
  exact hv
theorem rangeA (h : BoxR w g sh s) : w.rangeAt g 0 (resL sh s) := fun j v hv => by
  rw [Nat.zero_add]
  refine h.at_ ?_
  unfold resA
  rw [List.getElem?_toArray]
  exact hv
theorem new_ (w : World) (sh : Value) (s : VS) : BoxR (w.alloc (.cells (resA sh s) 50)) w.heap.size sh s := heap_alloc_new w _
theorem al (h : BoxR w g sh s) (o : Obj) : BoxR (w.alloc o) g sh s := h.ext (below_alloc1 _ _)
end BoxR
section
variable {ops : Array Oper} {rest : List Oper} {o : Oper} {a : Act} {w : World} {Q : Exit → Act → World → Prop} {sh : Value} {s : VS}
theorem wpList_ldRB (hgd : o.guard = none) (x : Operand) (ho : o.op = .load 44 x) (g : Nat) (hx : a.eval x = .pointer (some ⟨g, 0, none⟩)) (h : BoxR w g sh s)
    (k : wpList Tryd.prog ops Q rest (a.put o.dst (.agg (bdL s.L))) w) : wpList Tryd.prog ops Q (o :: rest) a w :=
  wpList_load_mid hgd _ x ho g 0 hx _ _ h.rangeB Tryd.underlying44 rfl (bd_sizeL _) (by rw [Array.toArray_toList]; exact k)
theorem wp_ldRB {K : Act → World → Prop} (x : Operand) (ho : o.op = .load 44 x) (g : Nat) (hx : a.eval x = .pointer (some ⟨g, 0, none⟩)) (h : BoxR w g sh s)
    (k : K (a.put o.dst (.agg (bdL s.L))) w) : o.wp Tryd.prog a w K Q :=
  wp_load_mid _ x ho g 0 hx _ _ h.rangeB Tryd.underlying44 rfl (bd_sizeL _) (by rw [Array.toArray_toList]; exact k)
theorem wpList_ldRA (hgd : o.guard = none) (x : Operand) (ho : o.op = .load 50 x) (g : Nat) (hx : a.eval x = .pointer (some ⟨g, 0, none⟩)) (h : BoxR w g sh s)
    (k : wpList Tryd.prog ops Q rest (a.put o.dst (.agg (resA sh s))) w) : wpList Tryd.prog ops Q (o :: rest) a w :=
  wpList_load_mid hgd _ x ho g 0 hx _ _ h.rangeA Tryd.underlying50 rfl (res_size _ _) k
theorem yieldsIf_ldRB {S : World → Prop} (hw : Region.wanted o (yielded ops a.tmps) = true) (x : Operand) (ho : o.op = .load 44 x) (g : Nat) (hx : a.eval x = .pointer (some ⟨g, 0, none⟩)) (hS : ∀ w, S w → BoxR w g sh s) : YieldsIf Tryd.prog ops S o (.agg (bdL s.L)) a := by
  have h := yieldsIf_load_mid (P := Tryd.prog) (S := S) hw _ x ho g 0 hx (bdL s.L).toList _ (fun w h => (hS w h).rangeB) Tryd.underlying44 rfl (bd_sizeL _)
  rw [Array.toArray_toList] at h
  exact h
theorem wpList_putR {N : Nat} (hg : o.guard = none) (x y : Operand) (ho : o.op = .store 50 x y) (hN : w.heap.size = N) (sh : Value) (s : VS) (h1 : sh.oneCell' = true) (hx : a.eval x = .pointer (some ⟨N, 0, none⟩)) (hy : a.eval y = .agg (resA sh s))
    (h : wpList Tryd.prog ops Q rest (a.put o.dst undef) (w.alloc (.cells (resA sh s) 50))) : wpList Tryd.prog ops Q (o :: rest) a (w.alloc (.cells (resA (.slice none 0 0) zS) 50)) := by
  subst hN
  refine wpList_stR hg x y ho w.heap.size sh s hx hy h1 (.slice none 0 0) zS (BoxR.new_ w _ _) ?_
  rw [made_row]
  exact h
end
theorem rowS_one {w : World} {B : Nat} {sh : Value} {l : List (Nat × Nat × Int)} (h : RowS w B sh l) : sh.oneCell' = true := by
  rcases h.2 with ⟨h, _⟩ | ⟨g, cp, cur, h, _⟩ <;> rw [h] <;> rfl
/-- The document's example. -/
def P0 : VP := ⟨[⟨2, 0, 0, 0, 0, 0⟩, ⟨1, 1, 0, 0, 1, 0⟩, ⟨6, 0, 0, 1, 0, 0⟩, ⟨3, 0, 0, 0, 1, 0⟩], [0], 1, 3⟩
theorem whole0 : (wholeV compN P0 [(7, 1), (1, 3)] 0).L = [(7, 1), (8, 1)] ∧ (wholeV compN P0 [(7, 1), (1, 3)] 0).t = 2 ∧ (wholeV compN P0 [(7, 1), (1, 3)] 0).u = 4 ∧ (wholeV compN P0 [(7, 1), (1, 3)] 0).e = 0 := by decide +kernel
theorem comp_fit : CompFit compN := fun op _ _ h0 h1 => compN_fit op h0 h1
theorem ok_cd {op a b c : Nat} {n : Int} {m : Nat} (h1 : op ≤ 255) (h2 : a ≤ 255) (h3 : b ≤ 255) (h4 : c ≤ 255) (h5 : -2147483648 ≤ n) (h6 : n ≤ 2147483647) (h7 : m ≤ 4294967295) : (Cd.mk op a b c n m).Ok := ⟨h1, h2, h3, h4, h5, h6, h7⟩
theorem sl_new (w : World) (vs : List Value) (t : TypeId) : Sl (w.alloc (.cells vs.toArray t)) w.heap.size (some ⟨w.heap.size, 0, none⟩) vs := fun _ => ⟨0, rfl, fun j u hu => by
  rw [Nat.zero_add, cell_of_row _ _ j _ _ _ (heap_alloc_new w (.cells vs.toArray t))]
  simpa using hu⟩
set_option maxHeartbeats 4000000 in
set_option maxRecDepth 20000 in
theorem Awake_calls (w : World) (hT : CTab w) : Calls Tryd.prog 12 #[] w fun e w' => e = .returned (.bool true) ∧ Below w.heap.size w w' := by
  have hN := New_in (some ⟨w.heap.size, 0, none⟩) [(7, 1), (1, 3)] 2 2 w.heap.size (w.alloc (.cells #[.int .i32 7, .int .u32 1, .int .i32 1, .int .u32 3] 38)) (sl_new w (cv [(7, 1), (1, 3)]) _) rfl (by omega)
  have hb0 := below_alloc1 w (.cells #[.int .i32 7, .int .u32 1, .int .i32 1, .int .u32 3] 38)
  have hT0 := hT.ext hb0
  obtain ⟨L0, hL0⟩ : ∃ L0, L0 = [((7 : Int), (1 : Nat)), (1, 3)] := ⟨_, rfl⟩
  rw [← hL0] at hN
  have HL0 := Lib.hid hL0
  clear hL0
  go_enter Tryd.func12, Tryd.ntmps12
  go_wp2_with fail
  refine hN.mono ?_
  rintro e w1 ⟨rfl, h1⟩
  have l1 := BoxL.new_ w1 L0
  have hb1 := (hb0.trans (h1.mono hb0.size)).alloc (Nat.le_trans hb0.size h1.size) (.cells (bdL L0) 44)
  have hT1 := (hT0.ext h1).ext (below_alloc1 _ (.cells (bdL L0) 44))
  obtain ⟨G, hG⟩ : ∃ G, G = w1.heap.size := ⟨_, rfl⟩
  rw [← hG] at l1
  have HG := Lib.hid hG.symm
  clear hN hT0 hb0 h1 hT hG
  go_wp2_with (first | ((with_reducible refine at_al 44 1 ?_); refine wpList_al rfl rfl (some 1) rfl G HG.out ?_) | ((with_reducible refine at_st 44 1 11 ?_); refine wpList_put rfl (.tmp 1) (.tmp 11) rfl HG.out L0 rfl rfl ?_) | ((with_reducible refine at_ld 44 1 ?_); refine wpList_ld rfl (.tmp 1) rfl G rfl L0 (BoxL.alloc l1 _) ?_))
  have z1 : (w1.alloc (.cells (bdL L0) 44)).heap.size = G + 1 := by rw [← HG.out]; simp
  have z2 : ((w1.alloc (.cells (bdL L0) 44)).alloc (.cells #[.int .u8 2, .int .u8 0, .int .u8 0, .int .u8 0, .int .i32 0, .int .u32 0, .int .u8 1, .int .u8 1, .int .u8 0, .int .u8 0, .int .i32 1, .int .u32 0, .int .u8 6, .int .u8 0, .int .u8 0, .int .u8 1, .int .i32 0, .int .u32 0, .int .u8 3, .int .u8 0, .int .u8 0, .int .u8 0, .int .i32 1, .int .u32 0] 60)).heap.size = G + 1 + 1 := by rw [← HG.out]; simp
  have s1 : Sl (((w1.alloc (.cells (bdL L0) 44)).alloc (.cells #[.int .u8 2, .int .u8 0, .int .u8 0, .int .u8 0, .int .i32 0, .int .u32 0, .int .u8 1, .int .u8 1, .int .u8 0, .int .u8 0, .int .i32 1, .int .u32 0, .int .u8 6, .int .u8 0, .int .u8 0, .int .u8 1, .int .i32 0, .int .u32 0, .int .u8 3, .int .u8 0, .int .u8 0, .int .u8 0, .int .i32 1, .int .u32 0] 60)).alloc (.cells #[.int .i32 0] 21)) (G + 1) (some ⟨G + 1, 0, none⟩) (kv P0.code) := by
    have h := (sl_new (w1.alloc (.cells (bdL L0) 44)) (kv P0.code) 60).alloc (.cells #[.int .i32 0] 21)
    rw [z1] at h
    exact h
  have s2 : Is (((w1.alloc (.cells (bdL L0) 44)).alloc (.cells #[.int .u8 2, .int .u8 0, .int .u8 0, .int .u8 0, .int .i32 0, .int .u32 0, .int .u8 1, .int .u8 1, .int .u8 0, .int .u8 0, .int .i32 1, .int .u32 0, .int .u8 6, .int .u8 0, .int .u8 0, .int .u8 1, .int .i32 0, .int .u32 0, .int .u8 3, .int .u8 0, .int .u8 0, .int .u8 0, .int .i32 1, .int .u32 0] 60)).alloc (.cells #[.int .i32 0] 21)) (G + 1 + 1) (some ⟨G + 1 + 1, 0, none⟩) P0.mv := by
    have h := sl_new ((w1.alloc (.cells (bdL L0) 44)).alloc (.cells #[.int .u8 2, .int .u8 0, .int .u8 0, .int .u8 0, .int .i32 0, .int .u32 0, .int .u8 1, .int .u8 1, .int .u8 0, .int .u8 0, .int .i32 1, .int .u32 0, .int .u8 6, .int .u8 0, .int .u8 0, .int .u8 1, .int .i32 0, .int .u32 0, .int .u8 3, .int .u8 0, .int .u8 0, .int .u8 0, .int .i32 1, .int .u32 0] 60)) (iv P0.mv) 21
    rw [z2] at h
    exact h
  have hb2 := (hb1.alloc hb1.size (.cells #[.int .u8 2, .int .u8 0, .int .u8 0, .int .u8 0, .int .i32 0, .int .u32 0, .int .u8 1, .int .u8 1, .int .u8 0, .int .u8 0, .int .i32 1, .int .u32 0, .int .u8 6, .int .u8 0, .int .u8 0, .int .u8 1, .int .i32 0, .int .u32 0, .int .u8 3, .int .u8 0, .int .u8 0, .int .u8 0, .int .i32 1, .int .u32 0] 60)).alloc (by simp; have := hb1.size; simp at this; omega) (.cells #[.int .i32 0] 21)
  have hT2 := (hT1.ext (below_alloc1 _ (.cells #[.int .u8 2, .int .u8 0, .int .u8 0, .int .u8 0, .int .i32 0, .int .u32 0, .int .u8 1, .int .u8 1, .int .u8 0, .int .u8 0, .int .i32 1, .int .u32 0, .int .u8 6, .int .u8 0, .int .u8 0, .int .u8 1, .int .i32 0, .int .u32 0, .int .u8 3, .int .u8 0, .int .u8 0, .int .u8 0, .int .i32 1, .int .u32 0] 60))).ext (below_alloc1 _ (.cells #[.int .i32 0] 21))
  have z3 : (((w1.alloc (.cells (bdL L0) 44)).alloc (.cells #[.int .u8 2, .int .u8 0, .int .u8 0, .int .u8 0, .int .i32 0, .int .u32 0, .int .u8 1, .int .u8 1, .int .u8 0, .int .u8 0, .int .i32 1, .int .u32 0, .int .u8 6, .int .u8 0, .int .u8 0, .int .u8 1, .int .i32 0, .int .u32 0, .int .u8 3, .int .u8 0, .int .u8 0, .int .u8 0, .int .i32 1, .int .u32 0] 60)).alloc (.cells #[.int .i32 0] 21)).heap.size = G + 3 := by rw [← HG.out]; simp
  obtain ⟨wz, hwz⟩ : ∃ wz, wz = ((w1.alloc (.cells (bdL L0) 44)).alloc (.cells #[.int .u8 2, .int .u8 0, .int .u8 0, .int .u8 0, .int .i32 0, .int .u32 0, .int .u8 1, .int .u8 1, .int .u8 0, .int .u8 0, .int .i32 1, .int .u32 0, .int .u8 6, .int .u8 0, .int .u8 0, .int .u8 1, .int .i32 0, .int .u32 0, .int .u8 3, .int .u8 0, .int .u8 0, .int .u8 0, .int .i32 1, .int .u32 0] 60)).alloc (.cells #[.int .i32 0] 21) := ⟨_, rfl⟩
  rw [HG.out]
  rw [← hwz] at s1 s2 hb2 hT2 z3 ⊢
  have hwl := whole0
  rw [← HL0.out] at hwl
  have hRn : Calls Tryd.prog 21 #[.slice (some ⟨G + 1, 0, none⟩) 4 4, .agg (bdL L0), .agg #[.int .u64 0], .slice (some ⟨G + 1 + 1, 0, none⟩) 1 1, .int .u32 1, .int .u32 3] wz fun e w' => ∃ sh, e = .returned (.agg (resA sh (wholeV compN P0 L0 0))) ∧ RowS w' wz.heap.size sh (wholeV compN P0 L0 0).sh ∧ Below wz.heap.size wz w' :=
    Run_calls compN comp_ok comp_fit P0 (some ⟨G + 1, 0, none⟩) 4 (G + 1) (some ⟨G + 1 + 1, 0, none⟩) 1 (G + 1 + 1) L0 0 wz ⟨s1, s2, by intro c hc; simp only [P0, List.mem_cons, List.not_mem_nil, or_false] at hc; rcases hc with rfl | rfl | rfl | rfl <;> exact ok_cd (by decide) (by decide) (by decide) (by decide) (by decide) (by decide) (by decide), by decide, by decide, by intro x hx; simp only [P0, List.mem_cons, List.not_mem_nil, or_false] at hx; rw [hx]; exact ⟨by decide, by decide⟩, by rw [HL0.out]; decide, by rw [HL0.out]; intro c hc; simp only [List.mem_cons, List.not_mem_nil, or_false] at hc; rcases hc with rfl | rfl <;> decide, by decide, hT2, by omega, by omega⟩
  obtain ⟨F, hF⟩ : ∃ F, F = wholeV compN P0 L0 0 := ⟨_, rfl⟩
  rw [← hF] at hRn hwl
  obtain ⟨f1, f2, f3, f4⟩ := hwl
  clear hwz s1 s2 hb1 hT1 hT2 z1 z2 hF l1
  refine hRn.mono ?_
  rintro e w2 ⟨sh, rfl, hS, h2⟩
  have hone := rowS_one hS
  have r1 := BoxR.new_ w2 sh F
  have hb3 := (hb2.trans (h2.mono hb2.size)).alloc (Nat.le_trans hb2.size h2.size) (.cells (resA sh F) 50)
  have cT := r1.cT
  have cU := r1.cU
  have cE := r1.cE
  rw [f2] at cT
  rw [f3] at cU
  rw [f4] at cE
  obtain ⟨K, hK⟩ : ∃ K, K = w2.heap.size := ⟨_, rfl⟩
  rw [← hK] at r1 cT cU cE
  have HK := Lib.hid hK.symm
  have hA := fun W => At_in F.L 1 W (by rw [f1]; decide) (by rw [f1]; decide)
  have e1 : (F.L[1]'(by rw [f1]; decide)) = (8, 1) := by simp [f1]
  rw [e1] at hA
  clear hRn hK hb2 h2 hS e1 f1 f2 f3 f4
  go_wp2_with (first | ((with_reducible refine at_al 50 3 ?_); refine wpList_alR rfl rfl (some 3) rfl K HK.out ?_) | ((with_reducible refine at_st 50 3 21 ?_); refine wpList_putR rfl (.tmp 3) (.tmp 21) rfl HK.out sh F hone rfl rfl ?_) | ((with_reducible refine at_ld 44 23 ?_); refine wpList_ldRB rfl (.tmp 23) rfl K rfl r1 ?_))
  refine (hA _).mono ?_
  rintro e w3 ⟨rfl, h3⟩
  have cT := (h3.cell (World.block_lt_of_cell? _ _ cT)).trans cT
  have cU := (h3.cell (World.block_lt_of_cell? _ _ cU)).trans cU
  have cE := (h3.cell (World.block_lt_of_cell? _ _ cE)).trans cE
  have lK := World.block_lt_of_cell? _ _ cT
  have hb4 := (hb3.trans (h3.mono hb3.size)).alloc (Nat.le_trans hb3.size h3.size) (.cells #[.int .i32 8, .int .u32 1] 38)
  dsimp only at lK
  clear hA r1 hb3 h3 HK
  go_wp2_with fail
  go_ret
  exact ⟨rfl, hb4⟩
end Go.Proofs.YtpgnihfjccpneaaDoor
/- The document's Compute is the program's. Conditions: the values fit. -/
namespace Go.Proofs.YtpgnihfjccpneaaDoor
open Go.RowKit

theorem low32 (z : Int) : wrap32 (IntKind.u64.wrap z % 4294967296) = wrap32 z := by
  rw [IntKind.wrap_u64]
  unfold wrap32
  omega
theorem low32b (z : Int) : wrap32 (IntKind.u64.wrap (wrap64 z) % 4294967296) = wrap32 z := by
  rw [low32]
  unfold wrap32 wrap64
  omega
theorem wrap32_in {z : Int} (h0 : -2147483648 ≤ z) (h1 : z ≤ 2147483647) : wrap32 z = z := by unfold wrap32; omega
theorem low32c (x p : Int) : wrap32 (IntKind.u64.wrap (IntKind.u64.wrap x * p) % 4294967296) = wrap32 (x * p) := by
  rw [← low32 (x * p)]
  congr 2
  rw [IntKind.wrap_u64, IntKind.wrap_u64, IntKind.wrap_u64, Int.mul_emod, Int.emod_emod_of_dvd _ (Int.dvd_refl _), ← Int.mul_emod]
theorem xor32 (x y : Int) : wrap32 (bits .or .i32 x y - bits .and .i32 x y) = bits .xor .i32 x y := by
  unfold bits
  show wrap32 (IntKind.i32.wrap ((BitVec.ofInt 32 x ||| BitVec.ofInt 32 y).toNat : Int) - IntKind.i32.wrap ((BitVec.ofInt 32 x &&& BitVec.ofInt 32 y).toNat : Int)) = IntKind.i32.wrap ((BitVec.ofInt 32 x ^^^ BitVec.ofInt 32 y).toNat : Int)
  generalize BitVec.ofInt 32 x = a
  generalize BitVec.ofInt 32 y = b
  have h0 : (a &&& b) &&& (a ^^^ b) = 0#32 := by
    ext i hi
    simp
    cases a[i] <;> cases b[i] <;> simp
  have h1 : (a &&& b) ||| (a ^^^ b) = a ||| b := by
    ext i hi
    simp
    cases a[i] <;> cases b[i] <;> simp
  have h2 := BitVec.add_eq_or_of_and_eq_zero (a &&& b) (a ^^^ b) h0
  rw [h1] at h2
  have h3 := congrArg BitVec.toNat h2
  rw [BitVec.toNat_add] at h3
  have l1 := (a ||| b).isLt
  have l2 := (a &&& b).isLt
  have l3 := (a ^^^ b).isLt
  rw [IntKind.wrap_i32, IntKind.wrap_i32, IntKind.wrap_i32]
  unfold wrap32
  omega
theorem RTruth_calls (d : Bool) (w : World) : Calls Tryd.prog 40 #[.bool d] w fun e w' => e = .returned (.int .i32 (if d = true then 1 else 0)) ∧ w' = w := by
  cases d with
  | true =>
    go_enter Tryd.func40, Tryd.ntmps40
    go_wp2_with fail
    go_ret
    exact ⟨rfl, rfl⟩
  | false =>
    go_enter Tryd.func40, Tryd.ntmps40
    go_wp2_with fail
    go_ret
    exact ⟨rfl, rfl⟩

set_option maxHeartbeats 4000000 in
set_option maxRecDepth 20000 in
theorem RComp6 (x y : Int) (w : World) (hx0 : -2147483648 ≤ x) (hx1 : x ≤ 2147483647) (hy0 : -2147483648 ≤ y) (hy1 : y ≤ 2147483647) : Calls Tryd.prog 25 #[.int .u8 6, .int .i32 x, .int .i32 y] w fun e w' => e = .returned (.int .i32 (wrap32 (x + y))) ∧ w' = w := by
  go_enter Tryd.func25, Tryd.ntmps25
  go_wp2_with fail
  go_ret
  refine ⟨?_, rfl⟩
  show Ending.returned (.int .i32 (wrap32 (IntKind.u64.wrap (x + y) % 4294967296))) = _
  rw [low32]
set_option maxHeartbeats 4000000 in
set_option maxRecDepth 20000 in
theorem RComp7 (x y : Int) (w : World) (hx0 : -2147483648 ≤ x) (hx1 : x ≤ 2147483647) (hy0 : -2147483648 ≤ y) (hy1 : y ≤ 2147483647) : Calls Tryd.prog 25 #[.int .u8 7, .int .i32 x, .int .i32 y] w fun e w' => e = .returned (.int .i32 (wrap32 (x - y))) ∧ w' = w := by
  go_enter Tryd.func25, Tryd.ntmps25
  go_wp2_with fail
  go_ret
  refine ⟨?_, rfl⟩
  show Ending.returned (.int .i32 (wrap32 (IntKind.u64.wrap (x - y) % 4294967296))) = _
  rw [low32]
set_option maxHeartbeats 4000000 in
set_option maxRecDepth 20000 in
theorem RComp8 (x y : Int) (w : World) (hx0 : -2147483648 ≤ x) (hx1 : x ≤ 2147483647) (hy0 : -2147483648 ≤ y) (hy1 : y ≤ 2147483647) : Calls Tryd.prog 25 #[.int .u8 8, .int .i32 x, .int .i32 y] w fun e w' => e = .returned (.int .i32 (wrap32 (x * y))) ∧ w' = w := by
  have h1 : x * y ≤ 2147483648 * 2147483648 := by
    have := Int.natAbs_mul x y
    have h2 : x.natAbs * y.natAbs ≤ 2147483648 * 2147483648 := Nat.mul_le_mul (by omega) (by omega)
    omega
  have h2 : -(2147483648 * 2147483648) ≤ x * y := by
    have := Int.natAbs_mul x y
    have h2 : x.natAbs * y.natAbs ≤ 2147483648 * 2147483648 := Nat.mul_le_mul (by omega) (by omega)
    omega
  have ez : IntKind.i64.wrap (x * y) = x * y := IntWalk.i64_in _ (by omega)
  clear h1 h2
  go_enter Tryd.func25, Tryd.ntmps25
  go_wp2_with fail
  go_ret
  refine ⟨?_, rfl⟩
  show Ending.returned (.int .i32 (wrap32 (IntKind.u64.wrap (x * y) % 4294967296))) = _
  rw [low32]
set_option maxHeartbeats 4000000 in
set_option maxRecDepth 20000 in
theorem RComp9 (x y : Int) (w : World) (hx0 : -2147483648 ≤ x) (hx1 : x ≤ 2147483647) (hy0 : -2147483648 ≤ y) (hy1 : y ≤ 2147483647) (hy : ¬ y = 0) : Calls Tryd.prog 25 #[.int .u8 9, .int .i32 x, .int .i32 y] w fun e w' => e = .returned (.int .i32 (wrap32 (x.tdiv y))) ∧ w' = w := by
  have e1 : (y == 0) = false := by rw [beq_eq_false_iff_ne]; exact hy
  go_enter Tryd.func25, Tryd.ntmps25
  go_wp2_with fail
  go_ret
  refine ⟨?_, rfl⟩
  show Ending.returned (.int .i32 (wrap32 (IntKind.u64.wrap (wrap64 (x.tdiv y)) % 4294967296))) = _
  rw [low32b]
set_option maxHeartbeats 4000000 in
set_option maxRecDepth 20000 in
theorem RComp10 (x y : Int) (w : World) (hx0 : -2147483648 ≤ x) (hx1 : x ≤ 2147483647) (hy0 : -2147483648 ≤ y) (hy1 : y ≤ 2147483647) (hy : ¬ y = 0) : Calls Tryd.prog 25 #[.int .u8 10, .int .i32 x, .int .i32 y] w fun e w' => e = .returned (.int .i32 (x.tmod y)) ∧ w' = w := by
  have e1 : (y == 0) = false := by rw [beq_eq_false_iff_ne]; exact hy
  go_enter Tryd.func25, Tryd.ntmps25
  go_wp2_with fail
  go_ret
  refine ⟨?_, rfl⟩
  show Ending.returned (.int .i32 (wrap32 (x.tmod y))) = _
  rw [wrap32_in (@tmod_fit x y hx0 hx1).1 (@tmod_fit x y hx0 hx1).2]
set_option maxRecDepth 20000 in
theorem RComp9z (x : Int) (w : World) : Calls Tryd.prog 25 #[.int .u8 9, .int .i32 x, .int .i32 0] w fun e w' => e = .returned (.int .i32 0) ∧ w' = w := by
  go_enter Tryd.func25, Tryd.ntmps25
  go_wp2_with fail
  go_ret
  exact ⟨rfl, rfl⟩
set_option maxRecDepth 20000 in
theorem RComp10z (x : Int) (w : World) : Calls Tryd.prog 25 #[.int .u8 10, .int .i32 x, .int .i32 0] w fun e w' => e = .returned (.int .i32 0) ∧ w' = w := by
  go_enter Tryd.func25, Tryd.ntmps25
  go_wp2_with fail
  go_ret
  exact ⟨rfl, rfl⟩
set_option maxRecDepth 20000 in
theorem RComp11 (x y : Int) (w : World) : Calls Tryd.prog 25 #[.int .u8 11, .int .i32 x, .int .i32 y] w fun e w' => e = .returned (.int .i32 (bits .and .i32 x y)) ∧ w' = w := by
  go_enter Tryd.func25, Tryd.ntmps25
  go_wp2_with fail
  go_ret
  exact ⟨rfl, rfl⟩
set_option maxRecDepth 20000 in
theorem RComp12 (x y : Int) (w : World) : Calls Tryd.prog 25 #[.int .u8 12, .int .i32 x, .int .i32 y] w fun e w' => e = .returned (.int .i32 (bits .or .i32 x y)) ∧ w' = w := by
  go_enter Tryd.func25, Tryd.ntmps25
  go_wp2_with fail
  go_ret
  exact ⟨rfl, rfl⟩
set_option maxHeartbeats 4000000 in
set_option maxRecDepth 20000 in
theorem RComp13 (x y : Int) (w : World) : Calls Tryd.prog 25 #[.int .u8 13, .int .i32 x, .int .i32 y] w fun e w' => e = .returned (.int .i32 (bits .xor .i32 x y)) ∧ w' = w := by
  go_enter Tryd.func25, Tryd.ntmps25
  go_wp2_with fail
  go_ret
  refine ⟨?_, rfl⟩
  show Ending.returned (.int .i32 (wrap32 (bits .or .i32 x y - bits .and .i32 x y))) = _
  rw [xor32]
set_option maxHeartbeats 4000000 in
set_option maxRecDepth 20000 in
theorem RComp14 (x y : Int) (w : World) (hx0 : -2147483648 ≤ x) (hx1 : x ≤ 2147483647) (hy0 : -2147483648 ≤ y) (hy1 : y ≤ 2147483647) : Calls Tryd.prog 25 #[.int .u8 14, .int .i32 x, .int .i32 y] w fun e w' => e = .returned (.int .i32 (wrap32 (x * 2 ^ (y % 32).toNat))) ∧ w' = w := by
  go_enter Tryd.func25, Tryd.ntmps25
  go_wp2_with fail
  go_ret
  refine ⟨?_, rfl⟩
  show Ending.returned (.int .i32 (wrap32 (IntKind.u64.wrap (IntKind.u64.wrap x * 2 ^ (y % 32).toNat) % 4294967296))) = _
  rw [low32c]
set_option maxHeartbeats 4000000 in
set_option maxRecDepth 20000 in
theorem RComp15 (x y : Int) (w : World) (hx0 : -2147483648 ≤ x) (hx1 : x ≤ 2147483647) (hy0 : -2147483648 ≤ y) (hy1 : y ≤ 2147483647) : Calls Tryd.prog 25 #[.int .u8 15, .int .i32 x, .int .i32 y] w fun e w' => e = .returned (.int .i32 (x / 2 ^ (y % 32).toNat)) ∧ w' = w := by
  go_enter Tryd.func25, Tryd.ntmps25
  go_wp2_with fail
  go_ret
  refine ⟨?_, rfl⟩
  show Ending.returned (.int .i32 (wrap32 (x / 2 ^ (y % 32).toNat))) = _
  rw [wrap32_in (@div_fit x _ hx0 hx1).1 (@div_fit x _ hx0 hx1).2]
set_option maxRecDepth 20000 in
theorem RComp16 (x y : Int) (w : World) (hx0 : -2147483648 ≤ x) (hx1 : x ≤ 2147483647) (hy0 : -2147483648 ≤ y) (hy1 : y ≤ 2147483647) : Calls Tryd.prog 25 #[.int .u8 16, .int .i32 x, .int .i32 y] w fun e w' => e = .returned (.int .i32 (if x < y then 1 else 0)) ∧ w' = w := by
  have ex : IntKind.i64.wrap x = x := IntWalk.i64_in _ (by omega)
  have ey : IntKind.i64.wrap y = y := IntWalk.i64_in _ (by omega)
  have hB := RTruth_calls (decide (x < y)) w
  rw [show (if x < y then (1 : Int) else 0) = (if (decide (x < y)) = true then 1 else 0) by simp]
  obtain ⟨v, hv⟩ : ∃ v : Int, v = (if (decide (x < y)) = true then 1 else 0) := ⟨_, rfl⟩
  rw [← hv] at hB ⊢
  clear hv
  go_enter Tryd.func25, Tryd.ntmps25
  go_wp2_with fail
  refine hB.mono ?_
  rintro e w1 ⟨rfl, rfl⟩
  go_wp2_with fail
  go_ret
  exact ⟨rfl, rfl⟩
set_option maxRecDepth 20000 in
theorem RComp17 (x y : Int) (w : World) (hx0 : -2147483648 ≤ x) (hx1 : x ≤ 2147483647) (hy0 : -2147483648 ≤ y) (hy1 : y ≤ 2147483647) : Calls Tryd.prog 25 #[.int .u8 17, .int .i32 x, .int .i32 y] w fun e w' => e = .returned (.int .i32 (if x = y then 1 else 0)) ∧ w' = w := by
  have ex : IntKind.i64.wrap x = x := IntWalk.i64_in _ (by omega)
  have ey : IntKind.i64.wrap y = y := IntWalk.i64_in _ (by omega)
  have hB := RTruth_calls (x == y) w
  rw [show (if x = y then (1 : Int) else 0) = (if (x == y) = true then 1 else 0) by simp]
  obtain ⟨v, hv⟩ : ∃ v : Int, v = (if (x == y) = true then 1 else 0) := ⟨_, rfl⟩
  rw [← hv] at hB ⊢
  clear hv
  go_enter Tryd.func25, Tryd.ntmps25
  go_wp2_with fail
  refine hB.mono ?_
  rintro e w1 ⟨rfl, rfl⟩
  go_wp2_with fail
  go_ret
  exact ⟨rfl, rfl⟩
set_option maxRecDepth 20000 in
theorem RCompOut (op : Nat) (h : op < 6 ∨ 17 < op) (x y : Int) (w : World) : Calls Tryd.prog 25 #[.int .u8 (op : Int), .int .i32 x, .int .i32 y] w fun e w' => e = .returned (.int .i32 0) ∧ w' = w := by
  have f6 : ((op : Int) == 6) = false := by rw [beq_eq_false_iff_ne]; omega
  have f7 : ((op : Int) == 7) = false := by rw [beq_eq_false_iff_ne]; omega
  have f8 : ((op : Int) == 8) = false := by rw [beq_eq_false_iff_ne]; omega
  have f9 : ((op : Int) == 9) = false := by rw [beq_eq_false_iff_ne]; omega
  have f10 : ((op : Int) == 10) = false := by rw [beq_eq_false_iff_ne]; omega
  have f11 : ((op : Int) == 11) = false := by rw [beq_eq_false_iff_ne]; omega
  have f12 : ((op : Int) == 12) = false := by rw [beq_eq_false_iff_ne]; omega
  have f13 : ((op : Int) == 13) = false := by rw [beq_eq_false_iff_ne]; omega
  have f14 : ((op : Int) == 14) = false := by rw [beq_eq_false_iff_ne]; omega
  have f15 : ((op : Int) == 15) = false := by rw [beq_eq_false_iff_ne]; omega
  have f16 : ((op : Int) == 16) = false := by rw [beq_eq_false_iff_ne]; omega
  have f17 : ((op : Int) == 17) = false := by rw [beq_eq_false_iff_ne]; omega
  go_enter Tryd.func25, Tryd.ntmps25
  go_wp2_with fail
  go_ret
  exact ⟨rfl, rfl⟩
theorem RComp_calls (op : Nat) (x y : Int) (w : World) (hx0 : -2147483648 ≤ x) (hx1 : x ≤ 2147483647) (hy0 : -2147483648 ≤ y) (hy1 : y ≤ 2147483647) : Calls Tryd.prog 25 #[.int .u8 (op : Int), .int .i32 x, .int .i32 y] w fun e w' => e = .returned (.int .i32 (compN op x y)) ∧ w' = w := by
  by_cases hi : op < 6 ∨ 17 < op
  · rw [show compN op x y = 0 by unfold compN; repeat' rw [if_neg (by omega)]]
    exact RCompOut op hi x y w
  · obtain ⟨k, hk, rfl⟩ : ∃ k, k < 12 ∧ op = k + 6 := ⟨op - 6, by omega, by omega⟩
    rcases k with _ | _ | _ | _ | _ | _ | _ | _ | _ | _ | _ | _ | k
    · exact RComp6 x y w hx0 hx1 hy0 hy1
    · exact RComp7 x y w hx0 hx1 hy0 hy1
    · exact RComp8 x y w hx0 hx1 hy0 hy1
    · by_cases hy : y = 0
      · subst hy; exact RComp9z x w
      · rw [show compN (0 + 1 + 1 + 1 + 6) x y = wrap32 (x.tdiv y) by simp [compN, hy]]; exact RComp9 x y w hx0 hx1 hy0 hy1 hy
    · by_cases hy : y = 0
      · subst hy; exact RComp10z x w
      · rw [show compN (0 + 1 + 1 + 1 + 1 + 6) x y = x.tmod y by simp [compN, hy]]; exact RComp10 x y w hx0 hx1 hy0 hy1 hy
    · exact RComp11 x y w
    · exact RComp12 x y w
    · exact RComp13 x y w
    · exact RComp14 x y w hx0 hx1 hy0 hy1
    · exact RComp15 x y w hx0 hx1 hy0 hy1
    · exact RComp16 x y w hx0 hx1 hy0 hy1
    · exact RComp17 x y w hx0 hx1 hy0 hy1
    · omega
end Go.Proofs.YtpgnihfjccpneaaDoor
/- VmComputes: the walk. Conditions: the numbers fit; the table lies. -/
namespace Go.Proofs.YtpgnihfjccpneaaDoor
open Go.RowKit

set_option maxRecDepth 20000 in
theorem VmComputes_walk (op : Nat) (x y : Int) (w : World) (hT : CTab w) (hop : op ≤ 255) (hx : -2147483648 ≤ x ∧ x ≤ 2147483647) (hy : -2147483648 ≤ y ∧ y ≤ 2147483647) :
    Calls Tryd.prog 4 #[.int .u8 (op : Int), .int .i32 x, .int .i32 y] w fun e w' => e = .returned (.bool true) ∧ Below w.heap.size w w' := by
  have hC := fun W => (comp_ok op x y W hop hx.1 hx.2 hy.1 hy.2).1
  have hR := fun W => RComp_calls op x y W hx.1 hx.2 hy.1 hy.2
  obtain ⟨v, hv⟩ : ∃ v, v = compN op x y := ⟨_, rfl⟩
  rw [← hv] at hC
  simp only [← hv] at hR
  have e1 : (v == v) = true := by simp
  clear hv
  go_enter Tryd.func4, Tryd.ntmps4
  go_wp2_with fail
  refine (Awake_calls _ hT).mono ?_
  rintro e w1 ⟨rfl, hb⟩
  go_wp2_with fail
  refine (hC _).mono ?_
  rintro e w2 ⟨rfl, rfl⟩
  go_wp2_with fail
  refine (hR _).mono ?_
  rintro e w3 ⟨rfl, rfl⟩
  go_wp2_with fail
  go_ret
  exact ⟨rfl, hb⟩
end Go.Proofs.YtpgnihfjccpneaaDoor
/- How an argument that came in reads, in the words of this seat's walks. No condition. -/
namespace Go.Proofs.YtpgnihfjccpneaaDoor
open Go.ChangeShapes Go.WideShapes Go.ChangeAt Go.RowKit

theorem own : ownKnob Tryd.prog.godebug = none := by kernel_rfl
theorem laidOut : laidOutB Tryd.prog = true := by kernel_rfl
end Go.Proofs.YtpgnihfjccpneaaDoor
/- How a list of instructions, and an instruction, that came in read, in the words of this seat's walks; a world in which the tables lie. No condition. -/
namespace Go.Proofs.YtpgnihfjccpneaaDoor
open Go.ChangeShapes Go.WideShapes Go.ChangeAt Go.RowKit Go.Deep

theorem kcode_cells : Tryd.prog.cellsOf 60 = 6 := by kernel_rfl
theorem kcode_under : ∃ f0  f1  f2  f3  f4  f5 : Field, Tryd.prog.underlying 60 = some (.struct #[f0, f1, f2, f3, f4, f5]) ∧ oneCellFields Tryd.prog #[f0, f1, f2, f3, f4, f5] = true ∧ f0.type = 5 ∧ f1.type = 5 ∧ f2.type = 5 ∧ f3.type = 5 ∧ f4.type = 21 ∧ f5.type = 35 :=
  ⟨_, _, _, _, _, _, Tryd.underlying60, by kernel_rfl, rfl, rfl, rfl, rfl, rfl, rfl⟩
set_option maxRecDepth 100000 in
theorem trod_code {H : Type} {enc : TypeId × Value → H} {W : World} {b0 fuel : Nat} {spare : Nat → Bool} {held : Bool} {cs : List Value} {x : DataW H × List MemPlace} (hlen : cs.length = 6) (ht : DataW.trod enc Tryd.prog W b0 spare held fuel 60 cs = some x) :
    ∃ y : Cd, cs = (cdA y).toList ∧ y.Ok := by
  obtain ⟨f0, f1, f2, f3, f4, f5, hu, hone, h0, h1, h2, h3, h4, h5⟩ := kcode_under
  obtain ⟨ys, n', _, _, _, hyl, hf⟩ := DataW.trod_struct hu ht
  match cs, hlen with
  | [v0, v1, v2, v3, v4, v5], _ =>
    match ys, hyl with
    | [y0, y1, y2, y3, y4, y5], _ =>
      obtain ⟨o0, k0⟩ := hone_of hone 0 f0 rfl
      obtain ⟨o1, k1⟩ := hone_of hone 1 f1 rfl
      obtain ⟨o2, k2⟩ := hone_of hone 2 f2 rfl
      obtain ⟨o3, k3⟩ := hone_of hone 3 f3 rfl
      obtain ⟨o4, k4⟩ := hone_of hone 4 f4 rfl
      obtain ⟨o5, k5⟩ := hone_of hone 5 f5 rfl
      have g0 := hf 0 f0 rfl
      have g1 := hf 1 f1 rfl
      have g2 := hf 2 f2 rfl
      have g3 := hf 3 f3 rfl
      have g4 := hf 4 f4 rfl
      have g5 := hf 5 f5 rfl
      rw [o0, k0, h0] at g0
      rw [o1, k1, h1] at g1
      rw [o2, k2, h2] at g2
      rw [o3, k3, h3] at g3
      rw [o4, k4, h4] at g4
      rw [o5, k5, h5] at g5
      simp only [List.drop_zero, List.drop_succ_cons, List.take_succ_cons, List.take_zero, List.getElem?_cons_zero, List.getElem?_cons_succ] at g0 g1 g2 g3 g4 g5
      obtain ⟨a0, e0, -, w0⟩ := DataW.trod_int Tryd.underlying5 g0
      injection e0 with e0
      have c0 := bounds_u8 w0
      obtain ⟨a1, e1, -, w1⟩ := DataW.trod_int Tryd.underlying5 g1
      injection e1 with e1
      have c1 := bounds_u8 w1
      obtain ⟨a2, e2, -, w2⟩ := DataW.trod_int Tryd.underlying5 g2
      injection e2 with e2
      have c2 := bounds_u8 w2
      obtain ⟨a3, e3, -, w3⟩ := DataW.trod_int Tryd.underlying5 g3
      injection e3 with e3
      have c3 := bounds_u8 w3
      obtain ⟨a4, e4, -, w4⟩ := DataW.trod_int Tryd.underlying21 g4
      injection e4 with e4
      have c4 := bounds_i32 w4
      obtain ⟨a5, e5, -, w5⟩ := DataW.trod_int Tryd.underlying35 g5
      injection e5 with e5
      have c5 := bounds_u32 w5
      refine ⟨⟨a0.toNat, a1.toNat, a2.toNat, a3.toNat, a4, a5.toNat⟩, ?_, by simp only; omega, by simp only; omega, by simp only; omega, by simp only; omega, by simp only; omega, by simp only; omega, by simp only; omega⟩
      simp only [cdA]
      rw [e0, e1, e2, e3, e4, e5, Int.toNat_of_nonneg c0.1, Int.toNat_of_nonneg c1.1, Int.toNat_of_nonneg c2.1, Int.toNat_of_nonneg c3.1, Int.toNat_of_nonneg c5.1]
theorem klist_of {α : Type} {n : Nat} {P : Nat → α → Prop} (h : ∀ i, i < n → ∃ x, P i x) : ∃ l : List α, l.length = n ∧ ∀ i (hi : i < l.length), P i l[i] := by
  induction n with
  | zero => exact ⟨[], rfl, fun i hi => by simp at hi⟩
  | succ n ih =>
    obtain ⟨l, hl, hp⟩ := ih (fun i hi => h i (by omega))
    obtain ⟨x, hx⟩ := h n (by omega)
    refine ⟨l ++ [x], by simp [hl], fun i hi => ?_⟩
    by_cases hin : i < l.length
    · rw [List.getElem_append_left hin]; exact hp i hin
    · have : i = n := by simp at hi; omega
      subst this
      rw [List.getElem_append_right (by omega)]
      simpa using hx
set_option maxRecDepth 100000 in
theorem open_codes {H : Type} {enc : TypeId × Value → H} {W : World} {base b0 : Nat} {spare : Nat → Bool} {held : Bool} {r : Reach} {v : Value} {d : DataW H} {p : List MemPlace} (hv : Value.okWide Tryd.prog W r base 22 v) (h : DataW.Trod enc Tryd.prog W b0 spare held 22 v d p) :
    ∃ A n c b L, v = .slice A n c ∧ L.length = n ∧ n ≤ maxLen ∧ n ≤ c ∧ okK L ∧ Sl W b A (kv L) := by
  obtain ⟨a, len, cap, rfl⟩ := okWide_slice Tryd.underlying22 hv
  obtain ⟨fuel, hf⟩ := h
  rcases open_slice Tryd.underlying22 hf with ⟨hcs, _⟩ | ⟨x, l, c, m, n, D, Pl, hcs, _, hl, hm, hmm, _, hel⟩
  · simp [Value.cells] at hcs
    obtain ⟨rfl, rfl, rfl⟩ := hcs
    exact ⟨none, 0, 0, 0, [], rfl, rfl, by simp [maxLen], Nat.le_refl _, fun c hc => (by cases hc), Sl.nil_ _ _ _⟩
  · simp [Value.cells] at hcs
    obtain ⟨rfl, rfl, rfl⟩ := hcs
    have hlm : len ≤ m := by rw [hmm]; split <;> omega
    rw [kcode_cells] at hel
    obtain ⟨xs, hxl, hxs⟩ := klist_of (n := len) (P := fun i (y : Cd) => y.Ok ∧ ∀ r, r < 6 → W.cell? (x.add (i * 6 + r)) = (cdA y).toList[r]?) (fun i hi => by
      obtain ⟨cs', hc, ht⟩ := hel i (by omega)
      obtain ⟨_, hcl, hat⟩ := World.cells?_some hc
      obtain ⟨y, hy, hyin⟩ := trod_code hcl ht
      refine ⟨y, hyin, fun r hr => ?_⟩
      have a0 := hat r (by omega)
      rw [Go.Deep.add_add, hy] at a0
      exact a0)
    have hok : okK xs := fun y hy => by
      obtain ⟨i, hi, rfl⟩ := List.getElem_of_mem hy
      exact (hxs i hi).1
    by_cases h0 : len = 0
    · have hx0 : xs = [] := List.eq_nil_of_length_eq_zero (by omega)
      subst hx0
      exact ⟨_, _, _, 0, [], rfl, hxl, by omega, hl, hok, Sl.nil_ _ _ _⟩
    · obtain ⟨bb, off, spot⟩ := x
      have hc0 := (hxs 0 (by omega)).2 0 (by omega)
      have hspot : spot = none := by
        rw [show (cdA (xs[0]'(by omega))).toList[0]? = some (.int .u8 ((xs[0]'(by omega)).op : Int)) from rfl] at hc0
        simpa [Addr.add] using World.cell?_spot hc0
      subst hspot
      refine ⟨_, _, _, bb, xs, rfl, hxl, by omega, hl, hok, fun _ => ⟨off, rfl, fun j u hu => ?_⟩⟩
      have hj := (List.getElem?_eq_some_iff.1 hu).1
      rw [kv_length] at hj
      have h1 := (hxs (j / 6) (by omega)).2 (j % 6) (by omega)
      rw [Addr.add_lit] at h1
      have h2 := kv_get (l := xs) (i := j / 6) (by omega) (r := j % 6) (by omega)
      rw [show j / 6 * 6 + j % 6 = j by omega] at h1 h2
      rw [h1, ← h2]
      exact hu
set_option maxRecDepth 100000 in
/-- An instruction by value. -/
theorem open_code {H : Type} {enc : TypeId × Value → H} {W : World} {base b0 : Nat} {spare : Nat → Bool} {held : Bool} {r : Reach} {v : Value} {d : DataW H} {p : List MemPlace} (hv : Value.okWide Tryd.prog W r base 60 v) (h : DataW.Trod enc Tryd.prog W b0 spare held 60 v d p) :
    ∃ (op a b cc : Nat) (n : Int) (m : Nat), v = .agg #[.int .u8 (op : Int), .int .u8 (a : Int), .int .u8 (b : Int), .int .u8 (cc : Int), .int .i32 n, .int .u32 (m : Int)] ∧ (Cd.mk op a b cc n m).Ok := by
  obtain ⟨f0, f1, f2, f3, f4, f5, hu, -⟩ := kcode_under
  obtain ⟨cs, rfl, hsz⟩ := okWide_struct hu hv
  obtain ⟨fuel, hf⟩ := h
  obtain ⟨y, hy, hyin⟩ := trod_code (by simpa [Value.cells] using hsz.trans kcode_cells) hf
  have h2 : cs = cdA y := by simpa [Value.cells] using hy
  exact ⟨y.op, y.a, y.b, y.c, y.n, y.m, by rw [h2]; rfl, hyin⟩
/-- The table that the walks want. -/
theorem tab_of_laid {W : World} (h : laidMet Tryd.prog [("hoodwink/code.shapes", Rows.laid_hoodwink_code_shapes)] W) : CTab W := ctab_of_reads (Lib.laidMet.reads h (by simp))
/-- A row of numbers, laid. -/
noncomputable def layVals (zs : List Value) : Obj → Obj
  | .cells _ t frozen => .cells zs.toArray t frozen
  | o => o
/-- A world in which the tables lie as they are laid. -/
noncomputable def laidWorld (os : Os) : World :=
  { World.holding Tryd.prog os ⟨#[], #[], []⟩ with heap := (World.holding Tryd.prog os ⟨#[], #[], []⟩).heap.modify 0 (layVals (shapeT.flatMap fun r => [.string ⟨r.1.toArray⟩, .int .u8 (r.2.1 : Int), .int .u8 (r.2.2 : Int)])) }
end Go.Proofs.YtpgnihfjccpneaaDoor
