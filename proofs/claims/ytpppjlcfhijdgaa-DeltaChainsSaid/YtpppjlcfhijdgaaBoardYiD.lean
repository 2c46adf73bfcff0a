/- Loads and tests of whole boards, as steps of a region that draws its order. Conditions: those said. -/
import Derived.Test.YtpppjlcfhijdgaaBoardLsD
namespace Go.Proofs.Ytpppjlcfhijdgaa
open Go.RowKit

theorem yieldsIf_ld {ops : Array Oper} {S : World → Prop} {op : Oper} {a : Act} (hw : Region.wanted op (yielded ops a.tmps) = true) (x : Operand) (ho : op.op = .load 32 x)
    (b : Nat) (hx : a.eval x = .pointer (some ⟨b, 0, none⟩)) (L : List (Int × Nat)) (hS : ∀ w, S w → BoxL w b L) : YieldsIf Try.prog ops S op (.agg (bdL L)) a :=
  yieldsIf_load_bd hw x ho b hx _ _ _ hS
theorem yieldsIf_eql {ops : Array Oper} {S : World → Prop} {op : Oper} {a : Act} (hw : Region.wanted op (yielded ops a.tmps) = true) (x y : Operand) (ho : op.op = .binOp .eql 32 x y 32)
    (L M : List (Int × Nat)) (hx : a.eval x = .agg (bdL L)) (hy : a.eval y = .agg (bdL M)) (hL : L.length ≤ 48) (d : Bool) (hd : d = decide (L = M)) : YieldsIf Try.prog ops S op (.bool d) a :=
  .inl ⟨hw, fun w _ => by
    have e : d = true ↔ bdA (bdF L) (bdG L) L.length = bdA (bdF M) (bdG M) M.length := by
      rw [hd, decide_eq_true_iff]
      exact (bdL_inj hL).symm
    unfold execOp
    simp only [ho, hx, hy, bdL, Sem.run_bind, eq_guard, Result.andThen_ok, run_eql_bd w _ _ _ _ _ _ d e, Sem.run_pure]⟩
theorem yieldsIf_neq {ops : Array Oper} {S : World → Prop} {op : Oper} {a : Act} (hw : Region.wanted op (yielded ops a.tmps) = true) (x y : Operand) (ho : op.op = .binOp .neq 32 x y 32)
    (L M : List (Int × Nat)) (hx : a.eval x = .agg (bdL L)) (hy : a.eval y = .agg (bdL M)) (hL : L.length ≤ 48) (d : Bool) (hd : d = decide (L = M)) : YieldsIf Try.prog ops S op (.bool (!d)) a :=
  .inl ⟨hw, fun w _ => by
    have e : d = true ↔ bdA (bdF L) (bdG L) L.length = bdA (bdF M) (bdG M) M.length := by
      rw [hd, decide_eq_true_iff]
      exact (bdL_inj hL).symm
    unfold execOp
    simp only [ho, hx, hy, bdL, Sem.run_bind, eq_guard, Result.andThen_ok, run_neq_bd w _ _ _ _ _ _ d e, Sem.run_pure]⟩
end Go.Proofs.Ytpppjlcfhijdgaa
