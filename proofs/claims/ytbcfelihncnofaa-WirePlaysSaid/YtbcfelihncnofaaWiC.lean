/- What slices.Clone answers of bytes. Condition: the length fits. -/
import Derived.Test.YtbcfelihncnofaaWiP
import Derived.Lib.SliceRun
namespace Go.Proofs.Ytbcfelihncnofaa
open Go.RowKit
set_option linter.unusedVariables false

set_option maxHeartbeats 4000000 in
set_option maxRecDepth 20000 in
theorem Clone_calls (A : Option Addr) (l : List UInt8) (n c b : Nat) (w : World) (hs : Bs w b A l) (hl : l.length = n) (hm : n ≤ 140737488355328) :
    Calls Try.prog 29 #[.slice A n c] w fun e w' => ∃ v, e = .returned v ∧ Row w' w.heap.size v l ∧ Below w.heap.size w w' := by
  have hlen := Sl.none_len (m := n) hs (by simp [hl])
  have q23 : ∀ (w : World) (a : Option Addr) (n c n' c' : Nat), (binOp .eql 46 (.slice a n c) (.slice none n' c')).run Try.prog w = .ok (.bool a.isNone) w := fun w a n c n' c' => Lib.run_eql_slice_nil w _ _ a n c n' c' Try.underlying46
  have HN := Lib.hid hl
  cases A with
  | none =>
    have h0 : n = 0 := by have := hlen rfl; omega
    have hL : l = [] := List.eq_nil_of_length_eq_zero (by omega)
    subst hL
    subst h0
    clear hlen hs hl hm
    go_enter Try.func29, Try.ntmps29
    go_wp2_with fail
    go_ret
    exact ⟨.slice none 0 0, rfl, Row.nil_ _ _, Below.refl _ _⟩
  | some p =>
    have ha := below_alloc1 w (.cells #[] 5)
    have hs1 := Sl.ext hs ha
    have ho1 : Row (w.alloc (.cells #[] 5)) w.heap.size (.slice (some ⟨w.heap.size, 0, none⟩) 0 0) [] :=
      World.ownsRow_made w (e := 5) (size := 1) #[] 0 (Nat.le_refl _) (by simp [maxLen]) rfl
    clear hlen hs hl
    go_enter Try.func29, Try.ntmps29
    go_wp2_with (at_builtin; refine wpList_app (w.alloc (.cells #[] 5)) rfl (.tmp 5) (.tmp 6) rfl w.heap.size _ _ rfl ho1 b (some p) n c l rfl hs1 HN.out (by simpa using hm) (by simp) ?_; intro v2 w2 hrow2 hmod2 _)
    go_ret
    refine ⟨v2, rfl, by simpa using hrow2, ha.trans (hmod2.below ha.size (fun i hi e => ?_))⟩
    have e2 : some w.heap.size = some i := e
    injection e2 with e2
    omega
end Go.Proofs.Ytbcfelihncnofaa
