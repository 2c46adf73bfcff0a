/- How a list of bools that came in reads, in the words of this seat's walks. No condition. -/
import Derived.Test.YtgkflgnlodhelaaOpenP
namespace Go.Proofs.Ytgkflgnlodhelaa
open Go.ChangeShapes Go.WideShapes Go.ChangeAt Go.RowKit Go.Deep

/-- Bools as values. -/
def bls (l : List Bool) : List Value := l.map Value.bool
theorem bls_length (l : List Bool) : (bls l).length = l.length := by simp [bls]
theorem bool_cells : Try.prog.cellsOf 4 = 1 := by kernel_rfl
theorem open_bools {H : Type} {enc : TypeId × Value → H} {W : World} {base b0 : Nat} {spare : Nat → Bool} {held : Bool} {r : Reach} {v : Value} {d : DataW H} {p : List MemPlace} (hv : Value.okWide Try.prog W r base 43 v) (h : DataW.Trod enc Try.prog W b0 spare held 43 v d p) :
    ∃ A n c b xs, v = .slice A n c ∧ xs.length = n ∧ n ≤ maxLen ∧ Sl W b A (bls xs) := by
  obtain ⟨a, len, cap, rfl⟩ := okWide_slice Try.underlying43 hv
  obtain ⟨fuel, hf⟩ := h
  rcases open_slice Try.underlying43 hf with ⟨hcs, _⟩ | ⟨x, l, c, m, n, D, Pl, hcs, _, hl, hm, hmm, _, hel⟩
  · simp [Value.cells] at hcs
    obtain ⟨rfl, rfl, rfl⟩ := hcs
    exact ⟨none, 0, 0, 0, [], rfl, rfl, by simp [maxLen], Sl.nil_ _ _ _⟩
  · simp [Value.cells] at hcs
    obtain ⟨rfl, rfl, rfl⟩ := hcs
    have hlm : len ≤ m := by rw [hmm]; split <;> omega
    rw [bool_cells] at hel
    obtain ⟨xs, hxl, hxs⟩ := list_of (n := len) (P := fun i (y : Bool) => W.cell? (x.add i) = some (.bool y)) (fun i hi => by
      obtain ⟨cs', hc, ht⟩ := hel i (by omega)
      obtain ⟨_, hcl, hat⟩ := World.cells?_some hc
      obtain ⟨y, hy, _⟩ := DataW.trod_bool Try.underlying4 ht
      refine ⟨y, ?_⟩
      have := hat 0 (by omega)
      rw [Go.Deep.add_add, Nat.mul_one, Nat.add_zero, hy] at this
      exact this)
    by_cases h0 : len = 0
    · have hx0 : xs = [] := List.eq_nil_of_length_eq_zero (by omega)
      subst hx0
      exact ⟨_, _, _, 0, [], rfl, hxl, by omega, Sl.nil_ _ _ _⟩
    · obtain ⟨bb, off, spot⟩ := x
      have hc0 := hxs 0 (by omega)
      have hspot : spot = none := by simpa [Addr.add] using World.cell?_spot hc0
      subst hspot
      refine ⟨_, _, _, bb, xs, rfl, hxl, by omega, fun _ => ⟨off, rfl, fun j u hu => ?_⟩⟩
      have hj := (List.getElem?_eq_some_iff.1 hu).1
      rw [bls_length] at hj
      have h1 := hxs j hj
      rw [Addr.add_lit] at h1
      rw [h1, ← hu]
      simp [bls, hj]
end Go.Proofs.Ytgkflgnlodhelaa
