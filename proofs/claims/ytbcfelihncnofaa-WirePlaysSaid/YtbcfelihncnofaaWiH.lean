/- Plain facts on what waits; results of a Take as the laws read them. Conditions: those said. -/
import Derived.Test.YtbcfelihncnofaaWiW
import Derived.Test.YtbcfelihncnofaaRefCut
namespace Go.Proofs.Ytbcfelihncnofaa
open Go.RowKit
set_option linter.unusedVariables false

theorem putsN_none (ls : List (List UInt8)) (k : Nat) (hk : k ≤ ls.length) : putsN ls [] k = (ls.take k).map (·, 1) := by
  induction k with
  | zero => simp [putsN]
  | succ k ih =>
    rw [putsN_next, ih (by omega), List.take_succ_eq_append_getElem (by omega), List.map_append, List.getD_eq_getElem?_getD, List.getElem?_eq_getElem (by omega)]
    rfl
theorem nowK_append (a b : List (List UInt8 × Int)) : nowK (a ++ b) = nowK a ++ nowK b := by simp [nowK]
theorem laterK_append (a b : List (List UInt8 × Int)) : laterK (a ++ b) = laterK a ++ laterK b := by simp [laterK]
theorem nowK_ones (ls : List (List UInt8)) : nowK (ls.map (·, 1)) = ls := by
  induction ls with
  | nil => rfl
  | cons x l ih =>
    rw [List.map_cons, show ((x, (1 : Int)) :: l.map (·, (1 : Int))) = [(x, 1)] ++ l.map (·, 1) from rfl, nowK_append, ih]
    rfl
theorem laterK_ones (ls : List (List UInt8)) : laterK (ls.map (·, 1)) = [] := by
  induction ls with
  | nil => rfl
  | cons x l ih =>
    rw [List.map_cons, show ((x, (1 : Int)) :: l.map (·, (1 : Int))) = [(x, 1)] ++ l.map (·, 1) from rfl, laterK_append, ih]
    rfl
theorem res_sl {w : World} {B D n : Nat} {vo : Value} {us : List Value} {ls : List (List UInt8)} (h : RowS w B vo us) (hi : RowsIn w D us ls) (hn : ls.length = n) : ∃ A c b, vo = .slice A n c ∧ n ≤ c ∧ SlT 46 w b A us ∧ BssT w us ls := by
  have hl : us.length = n := hi.1.trans hn
  obtain ⟨A, c, b, hv, hc, -, -, hs, -⟩ := SlT.of_own h
  exact ⟨A, c, b, by rw [hv, hl], by omega, hs, hi.bssT⟩
end Go.Proofs.Ytbcfelihncnofaa
