/- Gates: each lets an arm of a walk be tried at one operation alone (by 'with_reducible refine'); it says nothing by itself. No condition. -/
import Derived.Test.YtglmciklegifaaaDoorBase
namespace Go.Proofs.YtglmciklegifaaaDoor
open Go.RowKit

section
variable {P : Program} {ops : Array Oper} {rest : List Oper} {a : Act} {w : World} {Q : Exit → Act → World → Prop} {d : Option Tmp} {ty : TypeId} {pos : String} {af : Array Edge} {g : Option (Nat × Bool)}
theorem at_ld (T : TypeId) (s : Tmp) (h : wpList P ops Q (Oper.mk d (.load T (.tmp s)) ty pos af g :: rest) a w) : wpList P ops Q (Oper.mk d (.load T (.tmp s)) ty pos af g :: rest) a w := h
theorem at_st (T : TypeId) (x y : Tmp) (h : wpList P ops Q (Oper.mk d (.store T (.tmp x) (.tmp y)) ty pos af g :: rest) a w) : wpList P ops Q (Oper.mk d (.store T (.tmp x) (.tmp y)) ty pos af g :: rest) a w := h
theorem at_al (T : TypeId) (k : Tmp) (h : wpList P ops Q (Oper.mk (some k) (.alloc T) ty pos af g :: rest) a w) : wpList P ops Q (Oper.mk (some k) (.alloc T) ty pos af g :: rest) a w := h
theorem at_bd (T : TypeId) (k : Tmp) (ps : Array (Nat × Operand)) (h : wpList P ops Q (Oper.mk (some k) (.build T ps) ty pos af g :: rest) a w) : wpList P ops Q (Oper.mk (some k) (.build T ps) ty pos af g :: rest) a w := h
theorem at_ca (k : Tmp) (c : Call) (h : wpList P ops Q (Oper.mk (some k) (.call c) ty pos af g :: rest) a w) : wpList P ops Q (Oper.mk (some k) (.call c) ty pos af g :: rest) a w := h
theorem at_bi (k : Tmp) (b : BinOp) (T U : TypeId) (x y : Operand) (h : wpList P ops Q (Oper.mk (some k) (.binOp b T x y U) ty pos af g :: rest) a w) : wpList P ops Q (Oper.mk (some k) (.binOp b T x y U) ty pos af g :: rest) a w := h
end
end Go.Proofs.YtglmciklegifaaaDoor
