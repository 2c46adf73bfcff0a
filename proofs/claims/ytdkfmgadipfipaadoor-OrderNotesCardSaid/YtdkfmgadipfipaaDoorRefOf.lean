/- The reference's Of. Condition: the word fits. -/
import Derived.Test.YtdkfmgadipfipaaDoorRefAcks
namespace Go.Proofs.YtdkfmgadipfipaaDoor
open Go.RowKit

theorem ra_info : (Tryd.prog.info? 37).map (fun i => (i.zero, i.size, i.bytes)) = some (some (.agg (raF 0 (fun _ => false))), 33, 34) := by kernel_rfl
theorem ra_built (x : Nat) : Tryd.prog.built 37 [(0, .int .u16 (x : Int))] = some (raF x (fun _ => false)) := by
  unfold Program.built
  obtain ⟨i, hi, hz, _, _⟩ := info_parts ra_info
  rw [hi, Tryd.underlying37]
  simp only []
  rw [hz]
  rw [show (List.mapM (fun f => Option.map (fun (i : TypeInfo) => (Field.offset f, i.size)) (Tryd.prog.info? f.type)) _ : Option (List (Nat × Nat))) = some [(0, 1), (1, 32)] by kernel_rfl]
  simp [Instr.fill]
  refine ⟨⟨rfl, by show 1 ≤ (raF 0 _).size; rw [raF_size]; omega⟩, ?_⟩
  show Array.foldl (fun cs x => cs.setIfInBounds x.snd x.fst) (raF 0 fun _ => false) #[(Value.int .u16 (x : Int), 0)] 0 1 = _
  simp [raF]
theorem wpList_build_ra {ops : Array Oper} {rest : List Oper} {o : Oper} {a : Act} {w : World} {Q : Exit → Act → World → Prop} (hgd : o.guard = none) (s : Operand) (x : Nat)
    (ho : o.op = .build 37 #[(0, s)]) (hs : a.eval s = .int .u16 (x : Int)) (h : wpList Tryd.prog ops Q rest (a.put o.dst (.agg (raF x (fun _ => false)))) w) : wpList Tryd.prog ops Q (o :: rest) a w := by
  have e : Tryd.prog.built 37 ((#[(0, s)] : Array (Nat × Operand)).map fun (i, x) => (i, a.eval x)).toList = some (raF x (fun _ => false)) := by
    rw [← ra_built x]
    simp [hs]
  exact wpList_build hgd _ _ ho (by rw [e]; rfl) (by rw [e]; exact h)

set_option maxHeartbeats 4000000 in
set_option maxRecDepth 20000 in
theorem RefOf_calls (x y : Nat) (w : World) (hy : y < 4294967296) :
    Calls Tryd.prog 13 #[.int .u16 x, .int .u32 y] w fun e w' => e = .returned (.agg (raF x y.testBit)) ∧ Below w.heap.size w w' := by
  have q0 := (BoxR.new_ w 0 (fun _ => false)).alloc (.cells (raF 0 (fun _ => false)) 37)
  have q1 := BoxR.new_ (w.alloc (.cells (raF 0 (fun _ => false)) 37)) 0 (fun _ => false)
  rw [show (w.alloc (.cells (raF 0 (fun _ => false)) 37)).heap.size = w.heap.size + 1 by simp] at q1
  have hb := below_alloc2 w (.cells (raF 0 (fun _ => false)) 37) (.cells (raF 0 (fun _ => false)) 37)
  have hb := below_setRow hb (w.heap.size + 1) (raF x (fun _ => false)) (by omega)
  have hst := q1.store x (fun _ => false)
  have q0 := q0.orow (g' := w.heap.size + 1) (by omega) (raF x (fun _ => false))
  have q1 := q1.row_ x (fun _ => false)
  rw [raF_lit0] at q0 q1 hb hst
  go_enter Tryd.func13, Tryd.ntmps13
  go_wp2_with (refine wpList_build_ra rfl (.tmp 7) x rfl rfl ?_)
  clear hst
  go_loopw [9] (fun k wr => ∃ j : Nat, j ≤ 32 ∧ k = .int .i64 j ∧ BoxR wr w.heap.size 0 (fun _ => false) ∧ BoxR wr (w.heap.size + 1) x (fun i => decide (i < j) && y.testBit i) ∧ Below w.heap.size w wr) (fun k _ => 32 - (intOf k).toNat)
  case atStart => exact ⟨0, Nat.zero_le _, rfl, q0, q1.congr (fun i _ => by simp), hb⟩
  case round =>
    obtain ⟨j, hj, rfl, r0, r1, hb⟩ := hrel
    clear q0 q1
    by_cases hlt : j < 32
    · have hc := r1.ck hlt
      have hf := r1.fr (1 + j)
      have e1 : (j : Int) < 32 := by omega
      go_wp2_with fail
      have hb2 : ((y : Int) / 2 ^ j).tmod 2 = (((y / 2 ^ j) % 2 : Nat) : Int) := by
        rw [Int.tmod_eq_emod_of_nonneg (Int.ediv_nonneg (by omega) (Int.pow_nonneg (by omega)))]
        simp
      have hb3 : (((y : Int) / 2 ^ j).tmod 2 == 1) = y.testBit j := by
        rw [hb2, Nat.testBit_eq_decide_div_mod_eq, Bool.eq_iff_iff]
        simp only [beq_iff_eq, decide_eq_true_eq]
        omega
      refine ⟨⟨j + 1, by omega, by go_num, r0.other (by simp) _, ?_, hb.setCell (by simp) _⟩, by simp [intOf]; omega⟩
      rw [hb3]
      refine (r1.setk hlt _).congr fun i hi => ?_
      by_cases e : i = j
      · subst e; simp
      · simp only [if_neg e]
        congr 1
        rw [decide_eq_decide]
        omega
    · obtain rfl : j = 32 := by omega
      have r1 := r1.congr (f' := y.testBit) (fun i hi => by simp [hi])
      go_wp2_with (refine wpList_load_row rfl 37 (.tmp 5) rfl (w.heap.size + 1) rfl _ _ _ _ r1 Tryd.underlying37 rfl (ra_size _ _) ?_)
      rw [r0.store]
      simp only [Result.andThen_ok]
      have r2 := r0.row_ x y.testBit
      have hb2 := below_setRow hb w.heap.size (raF x y.testBit) (Nat.le_refl _)
      go_wp2_with fail
      refine bodyPost_ret (results_cell_row (P := Tryd.prog) rfl _ _ w.heap.size _ _ (0, 0) _ rfl r2 Tryd.underlying37 rfl (ra_size _ _)) rfl ?_
      exact ⟨rfl, hb2⟩
end Go.Proofs.YtdkfmgadipfipaaDoor
