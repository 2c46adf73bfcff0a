/- What stays when a whole row is written; the places and cells of what was touched. Conditions: those said. -/
import Derived.Test.YtpppjlcfhijdgaaDBoard
import Derived.Test.YtpppjlcfhijdgaaBoardRefD
import Derived.Test.YtpppjlcfhijdgaaBoardYiD
import Derived.Deep.DeepCutAuto
namespace Go.Proofs.Ytpppjlcfhijdgaa
open Go.RowKit

theorem sl_row_ne {w : World} {b g : Nat} {A : Option Addr} {xs : List Value} (h : Sl w b A xs) (hne : xs ≠ [] → b ≠ g) (cs : Array Value) : Sl (w.setRow g cs) b A xs := fun hx => (h.keep fun _ => setRow_other w g b cs (hne hx)) hx
theorem mod_setRow (w : World) (g : Nat) (cs : Array Value) : Mod (fun i => i = g) w (w.setRow g cs) := ⟨rfl, rfl, rfl, by simp, fun i _ hn => setRow_other w g i cs hn⟩
theorem own_row_ne {w : World} {B n sz g : Nat} {e : TypeId} {v : Value} {xs : List Value} (h : w.ownsRow B e sz v n xs) (hne : ∀ k, v.ownBlock = some k → k ≠ g) (cs : Array Value) : (w.setRow g cs).ownsRow B e sz v n xs := owns_mod h (mod_setRow w g cs) hne
theorem bd_row {w : World} {b t h : Nat} {vp vc : Value} (q : BoxD w b t h vp vc) (t' h' : Nat) (vp' vc' : Value) : BoxD (w.setRow b #[.int .u32 (t' : Int), .int .u32 (h' : Int), vp', vc']) b t' h' vp' vc' := setRow_heap w b _ _ _ _ q
theorem wp_al {o : Oper} {a : Act} {w : World} {K : Act → World → Prop} {Q : Exit → Act → World → Prop} (ho : o.op = .alloc 32) (h : K (a.put o.dst (.pointer (some ⟨w.heap.size, 0, none⟩))) (w.alloc (.cells (bdL []) 32))) : o.wp Try.prog a w K Q := by
  unfold Oper.wp execOp
  simp only [ho, Instr.alloc, newVar, newRow, run_newObj_alloc, Sem.run_bind, Sem.run_pure, Result.andThen_ok, bd_zero, Value.cells]
  exact h
theorem cellsTo_ok {V : List (Int × Nat)} (h : okC V) (t n : Nat) : okC (cellsTo V t n) := fun c hc => by
  obtain ⟨i, _, rfl⟩ := List.mem_map.1 hc
  rcases Nat.lt_or_ge i V.length with hi | hi
  · rw [show V.getD i (0, 0) = V[i] by simp [List.getD, hi]]
    exact okC_get h hi
  · rw [show V.getD i (0, 0) = (0, 0) by simp [List.getD, List.getElem?_eq_none hi]]
    exact ⟨⟨by omega, by omega⟩, by omega⟩
theorem placesB_get {t n i : Nat} (hn : n ≤ 48) (hi : i < (placesB t n).length) : ((placesB t n)[i]).toNat = (placesTo t n)[i]'(by simpa using hi) := by
  have h1 := placesTo_lt (List.getElem_mem (by simpa using hi : i < (placesTo t n).length))
  simp only [placesB, List.getElem_map]
  simp [UInt8.toNat_ofNat']; omega
theorem placesB_lt {t n i : Nat} (hn : n ≤ 48) (hi : i < (placesB t n).length) : ((placesB t n)[i]).toNat < n := by
  rw [placesB_get hn hi]
  exact placesTo_lt (List.getElem_mem _)
theorem placesB_all {n i : Nat} (hn : n ≤ 48) (hi : i < (placesB 281474976710655 n).length) : ((placesB 281474976710655 n)[i]).toNat = i := by
  rw [placesB_get hn hi]
  simp [placesTo_all hn]
end Go.Proofs.Ytpppjlcfhijdgaa
