/- Steps of a region that draws its order, each by one closed fact. Conditions: those said. -/
import Derived.Test.YtglmciklegifaaaDoorVmAll
import Derived.Test.YtglmciklegifaaaDoorCodeLV
import Derived.Test.YtglmciklegifaaaDoorBoardL
import Derived.BigRegion
import Derived.Deep.MidRow
import Derived.Deep.RegionHeld3
namespace Go.Proofs.YtglmciklegifaaaDoor
open Go.RowKit

section
variable {ops : Array Oper} {S : World → Prop} {op : Oper} {a : Act}
theorem yk (v : Value) (hw : Region.wanted op (yielded ops a.tmps) = true) (h : ∀ w, (execOp a.eval op).run Tryd.prog w = .ok (.value v) w) : YieldsIf Tryd.prog ops S op v a := .inl ⟨hw, fun w _ => h w⟩
theorem yk_no (hw : Region.wanted op (yielded ops a.tmps) = false) : YieldsIf Tryd.prog ops S op undef a := .inr ⟨hw, rfl⟩
theorem yk_eq (hw : Region.wanted op (yielded ops a.tmps) = true) (k : IntKind) (T : TypeId) (x y : Operand) (R : TypeId) (ho : op.op = .binOp .eql T x y R)
    (n m : Int) (hx : a.eval x = .int k n) (hy : a.eval y = .int k m) (d : Bool) (hd : (n == m) = d) : YieldsIf Tryd.prog ops S op (.bool d) a :=
  .inl ⟨hw, fun w _ => by
    unfold execOp
    simp only [ho, hx, hy]
    go_simp⟩
theorem yk_ne (hw : Region.wanted op (yielded ops a.tmps) = true) (k : IntKind) (T : TypeId) (x y : Operand) (R : TypeId) (ho : op.op = .binOp .neq T x y R)
    (n m : Int) (hx : a.eval x = .int k n) (hy : a.eval y = .int k m) (d : Bool) (hd : (n != m) = d) : YieldsIf Tryd.prog ops S op (.bool d) a :=
  .inl ⟨hw, fun w _ => by
    unfold execOp
    simp only [ho, hx, hy]
    go_simp⟩
theorem yk_ldI (hw : Region.wanted op (yielded ops a.tmps) = true) (x : Operand) (ho : op.op = .load 3 x) (p : Addr) (v : Value) (hx : a.eval x = .pointer (some p)) (hS : ∀ w, S w → w.cell? p = some v) : YieldsIf Tryd.prog ops S op v a :=
  .inl ⟨hw, fun w h => by
    have hc := hS w h
    unfold execOp
    simp only [ho, hx]
    go_simp⟩
theorem yk_ldM (hw : Region.wanted op (yielded ops a.tmps) = true) (x : Operand) (ho : op.op = .load 65 x) (p : Addr) (v : Value) (hx : a.eval x = .pointer (some p)) (hS : ∀ w, S w → w.cell? p = some v) : YieldsIf Tryd.prog ops S op v a :=
  .inl ⟨hw, fun w h => by
    have hc := hS w h
    unfold execOp
    simp only [ho, hx]
    go_simp⟩
theorem wp_callF {o : Oper} {w : World} {K : Act → World → Prop} {Q : Exit → Act → World → Prop} (f : FuncId) (args : Array Value) (hrun : (execOp a.eval o).run Tryd.prog w = .ok (.enter f args) w)
    (hc : Calls Tryd.prog f args w fun e w' => ∃ v, e = .returned v ∧ K (a.put o.dst v) w') : o.wp Tryd.prog a w K Q := by
  unfold Oper.wp
  rw [hrun, Oper.upon_enter]
  refine hc.mono fun e w'' hh => ?_
  obtain ⟨v, rfl, hk⟩ := hh
  exact hk
end
theorem sl_same {a a' : World} {p : Addr} {v : Value} (h : Below a.heap.size a a') (hc : a.cell? p = some v) : a'.cell? p = some v :=
  (h.cell (World.block_lt_of_cell? a p hc)).trans hc
theorem below_undrew2 {B : Nat} {w w' : World} (h : Below B w.drew w') : Below B w w' := ⟨h.os, h.tape, h.output, h.size, h.block⟩
theorem sl_at {w : World} {b off k : Nat} {xs : List Value} {u : Value} (h : Sl w b (some ⟨b, off, none⟩) xs) (hu : xs[k]? = some u) : w.cell? ⟨b, off + k, none⟩ = some u := by
  obtain ⟨o, e, hc⟩ := h (by rintro rfl; simp at hu)
  injection e with e
  injection e with _ e
  rw [e]
  exact hc k u hu
end Go.Proofs.YtglmciklegifaaaDoor
