/- Put: another board with a cell set. Conditions: a board has 48 cells at most. -/
import Derived.Test.YtpppjlcfhijdgaaBoardAtD
import Derived.Great.Walk
namespace Go.Proofs.Ytpppjlcfhijdgaa
open Go.RowKit

theorem wpList_alloc_bd {ops : Array Oper} {rest : List Oper} {o : Oper} {a : Act} {w : World} {Q : Exit → Act → World → Prop} (hg : o.guard = none) (ho : o.op = .alloc 32)
    (dst : Option Tmp) (hdst : o.dst = dst) (N : Nat) (hN : w.heap.size = N)
    (h : wpList Try.prog ops Q rest (a.put dst (.pointer (some ⟨N, 0, none⟩))) (w.alloc (.cells (bdA (fun _ => 0) (fun _ => 0) 0) 32))) : wpList Try.prog ops Q (o :: rest) a w := by
  subst hN
  refine Great.wpList_allocTo hg dst hdst _ _ ?_ h
  unfold execOp
  simp only [ho, Instr.alloc, newVar, newRow, run_newObj_alloc, Sem.run_bind, Sem.run_pure, Result.andThen_ok, bd_zero, Value.cells]
theorem wpList_store_bd {ops : Array Oper} {rest : List Oper} {o : Oper} {a : Act} {w : World} {Q : Exit → Act → World → Prop} (hg : o.guard = none) (x y : Operand) (ho : o.op = .store 32 x y)
    (b : Nat) (f' : Nat → Int) (g' : Nat → Nat) (n' : Nat) (hx : a.eval x = .pointer (some ⟨b, 0, none⟩)) (hy : a.eval y = .agg (bdA f' g' n')) (f : Nat → Int) (g : Nat → Nat) (n : Nat) (q : BoxB w b f g n)
    (h : wpList Try.prog ops Q rest (a.put o.dst undef) (w.setRow b (bdA f' g' n'))) : wpList Try.prog ops Q (o :: rest) a w :=
  wpList_plain hg fun _ hK => wp_store_row 32 x y ho b _ hx hy _ _ q (bd_size _ _ _) (by rw [bdA_size, bdA_size]) (bdA_all _ _ _) (hK _ _ h)
theorem wp_result_bd (fn : Func) (p t : Tmp) (h : fn.results = #[.cell p 32, .tmp t]) (tmps : Array Value) (w : World) (b : Nat) (f : Nat → Int) (g : Nat → Nat) (n : Nat) (hp : tmps.getD p undef = .pointer (some ⟨b, 0, none⟩)) (q : BoxB w b f g n) :
    (results fn tmps).run Try.prog w = .ok (.tuple #[.agg (bdA f g n), tmps.getD t undef]) w :=
  results_ct (P := Try.prog) h tmps w b _ _ (0, 0) _ hp q Try.underlying32 rfl (bd_size _ _ _)
set_option maxHeartbeats 2000000 in
set_option maxRecDepth 20000 in
theorem bPut_out (f : Nat → Int) (g : Nat → Nat) (n : Nat) (i : Int) (x : Int) (y : Nat) (w : World) (hi : ¬(0 ≤ i ∧ i < (n : Int))) :
    Calls Try.prog 32 #[.agg (bdA f g n), .int .i64 i, .agg #[.int .i32 x, .int .u32 (y : Int)]] w fun e w' => e = .returned (.tuple #[.agg (bdA f g n), .int .i64 7]) ∧ Below w.heap.size w w' := by
  have q0 := ((BoxB.new_ w f g n).alloc (.cells #[.int .i32 x, .int .u32 (y : Int)] 29)).alloc (.cells (bdA (fun _ => 0) (fun _ => 0) 0) 32)
  have q2 := BoxB.new_ ((w.alloc (.cells (bdA f g n) 32)).alloc (.cells #[.int .i32 x, .int .u32 (y : Int)] 29)) (fun _ => 0) (fun _ => 0) 0
  rw [show ((w.alloc (.cells (bdA f g n) 32)).alloc (.cells #[.int .i32 x, .int .u32 (y : Int)] 29)).heap.size = w.heap.size + 2 by simp] at q2
  have hb := below_alloc3 w (.cells (bdA f g n) 32) (.cells #[.int .i32 x, .int .u32 (y : Int)] 29) (.cells (bdA (fun _ => 0) (fun _ => 0) 0) 32)
  have hH := fun W => bHas_calls f g n i W
  rw [show decide (0 ≤ i ∧ i < (n : Int)) = false by simpa using hi] at hH
  go_enter Try.func32, Try.ntmps32
  go_wp2_with (first | refine wpList_alloc_bd rfl rfl _ rfl (w.heap.size + 2) (by simp) ?_ | refine wpList_load_bd rfl (.tmp 3) rfl w.heap.size rfl _ _ _ q0 ?_)
  refine (hH _).mono ?_
  rintro e w1 ⟨rfl, hb2⟩
  have q0 := q0.ext hb2
  have q2 := q2.ext hb2
  have hb := hb.trans (hb2.mono hb.size)
  clear hb2 hH
  go_wp2_with (first | refine wpList_load_bd rfl (.tmp 3) rfl w.heap.size rfl _ _ _ q0 ?_ | refine wpList_store_bd rfl (.tmp 6) (.tmp 12) rfl (w.heap.size + 2) _ _ _ rfl rfl _ _ _ q2 ?_)
  exact bodyPost_ret (wp_result_bd _ _ _ rfl _ _ (w.heap.size + 2) _ _ _ rfl (q2.row_ f g n)) rfl ⟨rfl, below_setRow hb _ _ (by omega)⟩
set_option maxHeartbeats 2000000 in
set_option maxRecDepth 20000 in
theorem bPut_in (f : Nat → Int) (g : Nat → Nat) (n i : Nat) (x : Int) (y : Nat) (w : World) (hi : i < n) (hn : n ≤ 48) :
    Calls Try.prog 32 #[.agg (bdA f g n), .int .i64 i, .agg #[.int .i32 x, .int .u32 (y : Int)]] w fun e w' => e = .returned (.tuple #[.agg (bdA (fun j => if j = i then x else f j) (fun j => if j = i then y else g j) n), .int .i64 0]) ∧ Below w.heap.size w w' := by
  have q0 := ((BoxB.new_ w f g n).alloc (.cells #[.int .i32 x, .int .u32 (y : Int)] 29)).alloc (.cells (bdA (fun _ => 0) (fun _ => 0) 0) 32)
  have q1 := (BoxC.new_ (w.alloc (.cells (bdA f g n) 32)) x y).alloc (.cells (bdA (fun _ => 0) (fun _ => 0) 0) 32)
  rw [show (w.alloc (.cells (bdA f g n) 32)).heap.size = w.heap.size + 1 by simp] at q1
  have q2 := BoxB.new_ ((w.alloc (.cells (bdA f g n) 32)).alloc (.cells #[.int .i32 x, .int .u32 (y : Int)] 29)) (fun _ => 0) (fun _ => 0) 0
  rw [show ((w.alloc (.cells (bdA f g n) 32)).alloc (.cells #[.int .i32 x, .int .u32 (y : Int)] 29)).heap.size = w.heap.size + 2 by simp] at q2
  have hb := below_alloc3 w (.cells (bdA f g n) 32) (.cells #[.int .i32 x, .int .u32 (y : Int)] 29) (.cells (bdA (fun _ => 0) (fun _ => 0) 0) 32)
  have hH := fun W => bHas_calls f g n (i : Int) W
  rw [show decide (0 ≤ (i : Int) ∧ (i : Int) < (n : Int)) = true by simp; omega] at hH
  have ei : (i : Int) < 48 := by omega
  go_enter Try.func32, Try.ntmps32
  go_wp2_with (first | refine wpList_alloc_bd rfl rfl _ rfl (w.heap.size + 2) (by simp) ?_ | refine wpList_load_bd rfl (.tmp 3) rfl w.heap.size rfl _ _ _ q0 ?_)
  refine (hH _).mono ?_
  rintro e w1 ⟨rfl, hb2⟩
  have q0 := q0.ext hb2
  have q1 := q1.ext hb2
  have q2 := q2.ext hb2
  have hb := hb.trans (hb2.mono hb.size)
  have a0 := q0.cv (i := i) (by omega)
  have a1 := q0.cl (i := i) (by omega)
  have b0 := q1.c0
  have b1 := q1.c1
  have f0 := q0.fr (i * 2)
  have f1 := q0.fr (i * 2 + 1)
  have p0 := (q0.setVal (k := i) (by omega) x).setLab (k := i) (by omega) y
  have p2 := (q2.other (p := ⟨w.heap.size, i * 2, none⟩) (by simp) (.int .i32 x)).other (p := ⟨w.heap.size, i * 2 + 1, none⟩) (by simp) (.int .u32 (y : Int))
  clear hb2 hH
  go_wp2_with (first | refine wpList_load_bd rfl (.tmp 3) rfl w.heap.size rfl _ _ _ p0 ?_ | refine wpList_store_bd rfl (.tmp 6) (.tmp 17) rfl (w.heap.size + 2) _ _ _ rfl rfl _ _ _ p2 ?_)
  exact bodyPost_ret (wp_result_bd _ _ _ rfl _ _ (w.heap.size + 2) _ _ _ rfl (p2.row_ _ _ n)) rfl ⟨rfl, below_setRow ((hb.setCell (by simp) _).setCell (by simp) _) _ _ (by omega)⟩
end Go.Proofs.Ytpppjlcfhijdgaa
