/- Loads of what came of it, and tests of boards, where a guard stands ahead of them. No condition. -/
import Derived.Test.YtpgnihfjccpneaaDoorVmFuelN
namespace Go.Proofs.YtpgnihfjccpneaaDoor
open Go.RowKit

section
variable {ops : Array Oper} {rest : List Oper} {o : Oper} {a : Act} {w : World} {Q : Exit → Act → World → Prop} {sh : Value} {s : VS}
theorem wpList_ldRBw (hw : Region.wanted o (yielded ops a.tmps) = true) (x : Operand) (ho : o.op = .load 44 x) (g : Nat) (hx : a.eval x = .pointer (some ⟨g, 0, none⟩)) (h : BoxR w g sh s)
    (k : wpList Tryd.prog ops Q rest (a.put o.dst (.agg (bdL s.L))) w) : wpList Tryd.prog ops Q (o :: rest) a w :=
  BigFrame.wpList_want hw fun _ hK => wp_ldRB x ho g hx h (hK _ _ k)
theorem wpList_ldRAw (hw : Region.wanted o (yielded ops a.tmps) = true) (x : Operand) (ho : o.op = .load 50 x) (g : Nat) (hx : a.eval x = .pointer (some ⟨g, 0, none⟩)) (h : BoxR w g sh s)
    (k : wpList Tryd.prog ops Q rest (a.put o.dst (.agg (resA sh s))) w) : wpList Tryd.prog ops Q (o :: rest) a w :=
  BigFrame.wpList_want hw fun _ hK => wp_load_mid _ x ho g 0 hx _ _ h.rangeA Tryd.underlying50 rfl (res_size _ _) (hK _ _ k)
theorem wpList_neq_bd (hw : Region.wanted o (yielded ops a.tmps) = true) (x y : Operand) (ho : o.op = .binOp .neq 44 x y 44)
    (L M : List (Int × Nat)) (hx : a.eval x = .agg (bdL L)) (hy : a.eval y = .agg (bdL M)) (hL : L.length ≤ 48) (d : Bool) (hd : d = decide (L = M))
    (h : wpList Tryd.prog ops Q rest (a.put o.dst (.bool (!d))) w) : wpList Tryd.prog ops Q (o :: rest) a w :=
  BigFrame.wpList_want hw fun K hK => by
    have e : d = true ↔ bdA (bdF L) (bdG L) L.length = bdA (bdF M) (bdG M) M.length := by
      rw [hd, decide_eq_true_iff]
      exact (bdL_inj hL).symm
    unfold Oper.wp
    simp only [execOp, ho, hx, hy, bdL, Sem.run_bind, eq_guard, Result.andThen_ok, run_neq_bd w _ _ _ _ _ _ d e, Sem.run_pure]
    exact hK _ _ h
end
/-- What a call of Run wants, of a program, moves and cells that were just laid. -/
theorem runIn_new {w : World} {P : VP} {L : List (Int × Nat)} {g1 g2 : Nat} (hc : Sl w g1 (some ⟨g1, 0, none⟩) (kv P.code)) (hm : Is w g2 (some ⟨g2, 0, none⟩) P.mv) (hok : okK P.code) (hl : P.code.length ≤ 96) (hml : P.mv.length ≤ 100) (hmv : ∀ x ∈ P.mv, -2147483648 ≤ x ∧ x ≤ 2147483647) (hL : L.length ≤ 48) (hoL : okC L) (hal : P.al < 4294967296) (hT : CTab w) (h1 : g1 < w.heap.size) (h2 : g2 < w.heap.size) :
    RunIn P (some ⟨g1, 0, none⟩) g1 (some ⟨g2, 0, none⟩) g2 L w := ⟨hc, hm, hok, by simp only [maxLen]; omega, hml, hmv, hL, hoL, hal, hT, h1, h2⟩
theorem kv_new (w : World) (l : List Cd) (o : Obj) (t : TypeId) : Sl ((w.alloc (.cells (kv l).toArray t)).alloc o) w.heap.size (some ⟨w.heap.size, 0, none⟩) (kv l) := (sl_new w (kv l) t).alloc o
theorem iv_new (w : World) (l : List Int) (o : Obj) (t : TypeId) : Is ((w.alloc o).alloc (.cells (iv l).toArray t)) (w.heap.size + 1) (some ⟨w.heap.size + 1, 0, none⟩) l := by
  have h := sl_new (w.alloc o) (iv l) t
  rw [show (w.alloc o).heap.size = w.heap.size + 1 by simp] at h
  exact h
end Go.Proofs.YtpgnihfjccpneaaDoor
