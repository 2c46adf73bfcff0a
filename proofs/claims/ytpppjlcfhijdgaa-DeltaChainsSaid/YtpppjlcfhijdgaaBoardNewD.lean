/- New, Cells; when two boards are the same to Go. Conditions: those said. -/
import Derived.Test.YtpppjlcfhijdgaaBoardSeeD
import Derived.Test.YtpppjlcfhijdgaaCells
import Derived.Test.YtpppjlcfhijdgaaGate
namespace Go.Proofs.Ytpppjlcfhijdgaa
open Go.RowKit

theorem bd_info : (Try.prog.info? 32).map (fun i => (i.zero, i.size, i.bytes)) = some (some (.agg (bdA (fun _ => 0) (fun _ => 0) 0)), 97, 392) := by kernel_rfl
theorem foldl_one (A : Array Value) (v : Value) (k : Nat) : Array.foldl (fun (cs : Array Value) (x : Value × Nat) => cs.setIfInBounds x.snd x.fst) A #[(v, k)] 0 1 = A.setIfInBounds k v := by simp
theorem bd_built0 : Try.prog.built 32 [] = some (bdA (fun _ => 0) (fun _ => 0) 0) := by
  unfold Program.built
  obtain ⟨i, hi, hz, _, _⟩ := info_parts bd_info
  rw [hi, Try.underlying32]
  simp only []
  rw [hz]
  rw [show (List.mapM (fun f => Option.map (fun (i : TypeInfo) => (Field.offset f, i.size)) (Try.prog.info? f.type)) _ : Option (List (Nat × Nat))) = some [(0, 96), (96, 1)] by kernel_rfl]
  simp [Instr.fill]
  rfl
theorem bd_built1 (n : Nat) : Try.prog.built 32 [(1, .int .i64 (n : Int))] = some (bdA (fun _ => 0) (fun _ => 0) n) := by
  unfold Program.built
  obtain ⟨i, hi, hz, _, _⟩ := info_parts bd_info
  rw [hi, Try.underlying32]
  simp only []
  rw [hz]
  rw [show (List.mapM (fun f => Option.map (fun (i : TypeInfo) => (Field.offset f, i.size)) (Try.prog.info? f.type)) _ : Option (List (Nat × Nat))) = some [(0, 96), (96, 1)] by kernel_rfl]
  simp [Instr.fill]
  refine ⟨⟨rfl, by show 97 ≤ (bdA _ _ 0).size; rw [bdA_size]; omega⟩, ?_⟩
  show Array.foldl (fun cs x => cs.setIfInBounds x.snd x.fst) (bdA (fun _ => 0) (fun _ => 0) 0) #[(Value.int .i64 (n : Int), 96)] 0 1 = _
  rw [foldl_one]
  refine bdA_ext (by simp [bdA_size]) (fun i hi => ?_) (fun i hi => ?_) ?_
  · rw [Array.getElem?_setIfInBounds, if_neg (by omega), bdA_val hi]
  · rw [Array.getElem?_setIfInBounds, if_neg (by omega), bdA_lab hi]
  · rw [Array.getElem?_setIfInBounds, if_pos rfl, if_pos (by rw [bdA_size]; omega)]
theorem wpList_build_bd0 {ops : Array Oper} {rest : List Oper} {o : Oper} {a : Act} {w : World} {Q : Exit → Act → World → Prop} (hgd : o.guard = none)
    (ho : o.op = .build 32 #[]) (h : wpList Try.prog ops Q rest (a.put o.dst (.agg (bdA (fun _ => 0) (fun _ => 0) 0))) w) : wpList Try.prog ops Q (o :: rest) a w := by
  have e : Try.prog.built 32 ((#[] : Array (Nat × Operand)).map fun (i, x) => (i, a.eval x)).toList = some (bdA (fun _ => 0) (fun _ => 0) 0) := by
    rw [← bd_built0]
    simp
  exact wpList_build hgd _ _ ho (by rw [e]; rfl) (by rw [e]; exact h)
theorem wpList_build_bd1 {ops : Array Oper} {rest : List Oper} {o : Oper} {a : Act} {w : World} {Q : Exit → Act → World → Prop} (hgd : o.guard = none) (s : Operand) (n : Nat)
    (ho : o.op = .build 32 #[(1, s)]) (hs : a.eval s = .int .i64 (n : Int)) (h : wpList Try.prog ops Q rest (a.put o.dst (.agg (bdA (fun _ => 0) (fun _ => 0) n))) w) : wpList Try.prog ops Q (o :: rest) a w := by
  have e : Try.prog.built 32 ((#[(1, s)] : Array (Nat × Operand)).map fun (i, x) => (i, a.eval x)).toList = some (bdA (fun _ => 0) (fun _ => 0) n) := by
    rw [← bd_built1 n]
    simp [hs]
  exact wpList_build hgd _ _ ho (by rw [e]; rfl) (by rw [e]; exact h)
/-- The builtin copy of cells into a new board's. -/
theorem cells_size : (Try.prog.info? 29).map (·.size) = some 2 := by kernel_rfl
theorem bd_filled {L : List (Int × Nat)} (hL : L.length ≤ 48) : ((bdA (fun _ => 0) (fun _ => 0) L.length).toList.take 0 ++ cv L ++ (bdA (fun _ => 0) (fun _ => 0) L.length).toList.drop (0 + (cv L).length)).toArray = bdL L := by
  have hs := bdA_size (fun _ => 0) (fun _ => 0) L.length
  refine bdA_ext ?_ (fun i hi => ?_) (fun i hi => ?_) ?_
  · simp [hs]; omega
  · simp only [List.take_zero, List.nil_append, Nat.zero_add, List.getElem?_toArray, cv_length]
    by_cases h : i < L.length
    · rw [List.getElem?_append_left (by simp; omega), cv_val h, bdF_in h]
    · rw [List.getElem?_append_right (by simp; omega), List.getElem?_drop, cv_length, show L.length * 2 + (i * 2 - L.length * 2) = i * 2 by omega, Array.getElem?_toList, bdA_val hi, bdF_out (by omega)]
  · simp only [List.take_zero, List.nil_append, Nat.zero_add, List.getElem?_toArray, cv_length]
    by_cases h : i < L.length
    · rw [List.getElem?_append_left (by simp; omega), cv_lab h, bdG_in h]
    · rw [List.getElem?_append_right (by simp; omega), List.getElem?_drop, cv_length, show L.length * 2 + (i * 2 + 1 - L.length * 2) = i * 2 + 1 by omega, Array.getElem?_toList, bdA_lab hi, bdG_out (by omega)]
  · simp only [List.take_zero, List.nil_append, Nat.zero_add, List.getElem?_toArray, cv_length]
    rw [List.getElem?_append_right (by simp; omega), List.getElem?_drop, cv_length, show L.length * 2 + (96 - L.length * 2) = 96 by omega, Array.getElem?_toList, bdA_len]
theorem wpList_copy_bd {ops : Array Oper} {rest : List Oper} {o : Oper} {a : Act} {w : World} {Q : Exit → Act → World → Prop} (hgd : o.guard = none) (d s : Operand)
    (ho : o.op = .call { callee := .builtin .copy, args := #[d, s], argTypes := #[22, 22] }) (g : Nat) (hd : a.eval d = .slice (some ⟨g, 0, none⟩) 48 48)
    (A : Option Addr) (L : List (Int × Nat)) (n c b : Nat) (hs : a.eval s = .slice A n c) (hn : L.length = n) (h48 : n ≤ 48) (hS : Sl w b A (cv L)) (q : BoxB w g (fun _ => 0) (fun _ => 0) n)
    (h : wpList Try.prog ops Q rest (a.put o.dst (.int .i64 (n : Int))) (w.setRow g (bdL L))) : wpList Try.prog ops Q (o :: rest) a w := by
  subst hn
  refine wpList_plain hgd fun K hK => ?_
  have hfc : (Builtin.firstCells 2 L.length (.slice A L.length c)).run Try.prog w = .ok (cv L).toArray w := by
    rcases A with _ | ad
    · have h0 := Sl.none_len hS rfl rfl
      rw [cv_length] at h0
      have hL : L = [] := List.eq_nil_of_length_eq_zero (by omega)
      subst hL
      rfl
    · refine run_firstCells_some w 2 L.length ad L.length c (cv L) (by simp) fun j v hv => ?_
      obtain ⟨off, e, hc⟩ := hS (by rintro h0; rw [h0] at hv; simp at hv)
      injection e with e
      subst e
      rw [Addr.add_lit]
      exact hc j v hv
  have hst := run_storeCells_at Try.prog g 0 _ (cv L) 0 _ w q (by rw [bdA_size]; simp; omega) (cv_one L)
  rw [show 0 + 0 = 0 from rfl, bd_filled h48] at hst
  cases hq : Try.prog.info? 29 with
  | none => have := cells_size; rw [hq] at this; cases this
  | some i =>
    have hi : i.size = 2 := by have := cells_size; rw [hq] at this; simpa using this
    have hrun : (Builtin.copy_ #[22, 22] o.type #[.slice (some ⟨g, 0, none⟩) 48 48, .slice A L.length c]).run Try.prog w = .ok (goInt L.length) (w.setRow g (bdL L)) := by
      simp [Builtin.copy_, run_underlying Try.underlying22, Builtin.lenOf, sizeOf, typeInfo, hq, hi, show Nat.min L.length 48 = L.length from Nat.min_eq_left h48, hfc, hst]
    unfold Oper.wp
    simp [execOp, ho, resolve, invoke, builtin, hd, hs, hrun, Result.andThen]
    exact hK _ _ h
set_option maxHeartbeats 4000000 in
set_option maxRecDepth 20000 in
theorem New_in (A : Option Addr) (L : List (Int × Nat)) (n c b : Nat) (w : World) (hs : Sl w b A (cv L)) (hn : L.length = n) (h48 : n ≤ 48) :
    Calls Try.prog 10 #[.slice A n c] w fun e w' => e = .returned (.tuple #[.agg (bdL L), .int .i64 0]) ∧ Below w.heap.size w w' := by
  subst hn
  have q0 := (BoxB.new_ w (fun _ => 0) (fun _ => 0) 0).alloc (.cells (bdA (fun _ => 0) (fun _ => 0) 0) 32)
  have q1 := BoxB.new_ (w.alloc (.cells (bdA (fun _ => 0) (fun _ => 0) 0) 32)) (fun _ => 0) (fun _ => 0) 0
  rw [show (w.alloc (.cells (bdA (fun _ => 0) (fun _ => 0) 0) 32)).heap.size = w.heap.size + 1 by simp] at q1
  have hb := below_alloc2 w (.cells (bdA (fun _ => 0) (fun _ => 0) 0) 32) (.cells (bdA (fun _ => 0) (fun _ => 0) 0) 32)
  have r0 := q0.orow (b' := w.heap.size + 1) (by omega) (bdA (fun _ => 0) (fun _ => 0) L.length)
  have r1 := q1.row_ (fun _ => 0) (fun _ => 0) L.length
  have hb1 := below_setRow hb (w.heap.size + 1) (bdA (fun _ => 0) (fun _ => 0) L.length) (by omega)
  have hs1 := Sl.ext hs hb1
  have s0 := r0.orow (b' := w.heap.size + 1) (by omega) (bdL L)
  have s1 := r1.row_ (bdF L) (bdG L) L.length
  have hb2 := below_setRow hb1 (w.heap.size + 1) (bdL L) (by omega)
  have ei : decide ((48 : Int) < (L.length : Int)) = false := by simp; omega
  go_enter Try.func10, Try.ntmps10
  go_wp2_with (first | ((with_reducible refine at_al 32 2 ?_); refine wpList_alloc_bd rfl rfl (some 2) rfl w.heap.size (by simp) ?_) | ((with_reducible refine at_al 32 4 ?_); refine wpList_alloc_bd rfl rfl (some 4) rfl (w.heap.size + 1) (by simp) ?_) | ((with_reducible refine at_bd 32 11 _ ?_); refine wpList_build_bd1 rfl (.tmp 10) L.length rfl rfl ?_) | ((with_reducible refine at_st 32 4 11 ?_); refine wpList_store_bd rfl (.tmp 4) (.tmp 11) rfl (w.heap.size + 1) _ _ _ rfl rfl _ _ _ q1 ?_) | ((with_reducible refine at_ca 15 _ ?_); refine wpList_copy_bd rfl (.tmp 13) (.tmp 14) rfl (w.heap.size + 1) rfl A L L.length c b rfl rfl h48 hs1 r1 ?_) | ((with_reducible refine at_ld 32 4 ?_); refine wpList_load_bd rfl (.tmp 4) rfl (w.heap.size + 1) rfl _ _ _ s1 ?_) | ((with_reducible refine at_st 32 2 16 ?_); refine wpList_store_bd rfl (.tmp 2) (.tmp 16) rfl w.heap.size _ _ _ rfl rfl _ _ _ s0 ?_))
  exact bodyPost_ret (wp_result_bd _ _ _ rfl _ _ w.heap.size _ _ _ rfl (s0.row_ _ _ _)) rfl ⟨rfl, below_setRow hb2 _ _ (by omega)⟩
end Go.Proofs.Ytpppjlcfhijdgaa
