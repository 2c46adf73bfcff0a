/- Parse of any bytes: as said plainly. Conditions: the lengths fit. -/
import Derived.Test.YtbkimknfhpbcfaaFrX
namespace Go.Proofs.Ytbkimknfhpbcfaa
open Go.RowKit

theorem Open_fiveZ (A : Option Addr) (l : List UInt8) (k n c b : Nat) (hn : l.length = k + 4) (hm : n = k + 4) (hc : n ≤ c) (h2 : k ≤ 140737488355000) (heq : opensB l k = false) (W : World) (hs : Bs W b A l) :
    Calls Try.prog 47 #[.agg (tabTo 256), .slice A n c] W fun e w' => e = .returned (.tuple #[.slice none 0 0, .int .i64 ((5 : Nat) : Int)]) ∧ Below W.heap.size W w' := by
  subst hm
  exact Open_bad A l k c b W hs hn hc h2 heq
theorem Parse_any (A : Option Addr) (l : List UInt8) (n c b : Nat) (w : World) (hs : Bs w b A l) (hn : l.length = n) (hc : n ≤ c) (h2 : n ≤ 1000000) (R : Fr × Nat) (hR : R = parseF l) :
    Calls Try.prog 15 #[.slice A n c] w fun e w' => ∃ A' c' b', e = .returned (.tuple #[.agg (R.1.cells A' c'), .int .i64 (R.2 : Int)]) ∧ Bs w' b' A' R.1.data ∧ w.heap.size ≤ b' ∧ Below w.heap.size w w' := by
  by_cases h4 : n < 4
  · have e : R = (zFr, 2) := by rw [hR]; unfold parseF; rw [if_pos (by omega)]
    rw [e]
    refine (Parse_no A l n c b 2 w (by decide) (fun W _ => Open_short A n c W h4) hs).mono fun e w' h => ?_
    exact ⟨none, 0, w.heap.size, h.1, Sl.nil_ _ _ _, Nat.le_refl _, h.2⟩
  · obtain ⟨k, hk⟩ : ∃ k, n = k + 4 := ⟨n - 4, by omega⟩
    cases hop : opensB l k with
    | false =>
      have e : R = (zFr, 5) := by rw [hR]; unfold parseF; rw [if_neg (by omega), show l.length - 4 = k by omega, hop, if_pos rfl]
      rw [e]
      refine (Parse_no A l n c b 5 w (by decide) (fun W h => Open_fiveZ A l k n c b (by omega) hk hc (by omega) hop W h) hs).mono fun e w' h => ?_
      exact ⟨none, 0, w.heap.size, h.1, Sl.nil_ _ _ _, Nat.le_refl _, h.2⟩
    | true =>
      have e : R = if (gotF (l.take k)).right then ((gotF (l.take k)).f, 0) else (zFr, 2) := by
        rw [hR]; unfold parseF; rw [if_neg (by omega), show l.length - 4 = k by omega, hop, if_neg (by simp)]
      subst hk
      exact Parse_yes A l k c b w hs hn hc (by omega) hop _ rfl R.1 R.2 (by rw [e]; split <;> rfl) (by rw [e]; split <;> rfl)
end Go.Proofs.Ytbkimknfhpbcfaa
