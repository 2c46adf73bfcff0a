/- How a list of pieces that came in reads, in the words of this seat's walks. No condition. -/
import Derived.Test.YtgkflgnlodhelaaOpen
import Derived.Test.YtgkflgnlodhelaaClipP
import Derived.Deep.Slices
import Derived.Deep.Fields
namespace Go.Proofs.Ytgkflgnlodhelaa
open Go.ChangeShapes Go.WideShapes Go.ChangeAt Go.RowKit Go.Deep

theorem piece_cells : Try.prog.cellsOf 36 = 3 := by kernel_rfl
theorem piece_under : ∃ f0 f1 f2 : Field, Try.prog.underlying 36 = some (.struct #[f0, f1, f2]) ∧ oneCellFields Try.prog #[f0, f1, f2] = true ∧ f0.type = 4 ∧ f1.type = 4 ∧ f2.type = 25 := by
  exact ⟨_, _, _, Try.underlying36, by kernel_rfl, rfl, rfl, rfl⟩

theorem trod_bytesP {H : Type} {enc : TypeId × Value → H} {W : World} {b0 fuel : Nat} {spare : Nat → Bool} {held : Bool} {v : Value} {x : DataW H × List MemPlace} (hf : DataW.trod enc Try.prog W b0 spare held fuel 25 [v] = some x) :
    ∃ A n c b l, v = .slice A n c ∧ l.length = n ∧ n ≤ maxLen ∧ Bs W b A l := by
  rcases open_ints Try.underlying25 Try.underlying5 (by kernel_rfl) hf with ⟨hcs, _⟩ | ⟨x, l, c, zs, hcs, _, hl, hm, hz, _, hcell, hwz⟩
  · injection hcs with hcs
    exact ⟨none, 0, 0, 0, [], hcs, rfl, by simp [maxLen], Sl.nil_ _ _ _⟩
  · injection hcs with hcs
    obtain ⟨b, l', hl', hs⟩ := ints_bs (by rw [hz]; split <;> omega) hcell hwz
    exact ⟨_, _, _, b, l', hcs, hl', by omega, hs⟩

theorem trod_piece {H : Type} {enc : TypeId × Value → H} {W : World} {b0 fuel : Nat} {spare : Nat → Bool} {held : Bool} {cs : List Value} {x : DataW H × List MemPlace} (hlen : cs.length = 3) (ht : DataW.trod enc Try.prog W b0 spare held fuel 36 cs = some x) :
    ∃ y : PV, cs = y.cells ∧ PV.In W y := by
  obtain ⟨f0, f1, f2, hu, hone, h0, h1, h2⟩ := piece_under
  obtain ⟨ys, n', _, _, _, hyl, hf⟩ := DataW.trod_struct hu ht
  match cs, hlen with
  | [v0, v1, v2], _ =>
    match ys, hyl with
    | [y0, y1, y2], _ =>
      obtain ⟨o0, k0⟩ := hone_of hone 0 f0 rfl
      obtain ⟨o1, k1⟩ := hone_of hone 1 f1 rfl
      obtain ⟨o2, k2⟩ := hone_of hone 2 f2 rfl
      have g0 := hf 0 f0 rfl
      have g1 := hf 1 f1 rfl
      have g2 := hf 2 f2 rfl
      rw [o0, k0, h0] at g0
      rw [o1, k1, h1] at g1
      rw [o2, k2, h2] at g2
      simp only [List.drop_zero, List.drop_succ_cons, List.take_succ_cons, List.take_zero, List.getElem?_cons_zero, List.getElem?_cons_succ] at g0 g1 g2
      obtain ⟨a0, e0, _⟩ := DataW.trod_bool Try.underlying4 g0
      obtain ⟨a1, e1, _⟩ := DataW.trod_bool Try.underlying4 g1
      obtain ⟨A, n, c, b, l, e2, hl, hm, hs⟩ := trod_bytesP g2
      injection e0 with e0
      injection e1 with e1
      refine ⟨⟨⟨a0, a1, l⟩, A, c, b⟩, ?_, hs, by simp only; omega⟩
      simp only [PV.cells]
      rw [e0, e1, e2, hl]

theorem list_of {α : Type} {n : Nat} {P : Nat → α → Prop} (h : ∀ i, i < n → ∃ x, P i x) : ∃ l : List α, l.length = n ∧ ∀ i (hi : i < l.length), P i l[i] := by
  induction n with
  | zero => exact ⟨[], rfl, fun i hi => by simp at hi⟩
  | succ n ih =>
    obtain ⟨l, hl, hp⟩ := ih (fun i hi => h i (by omega))
    obtain ⟨x, hx⟩ := h n (by omega)
    refine ⟨l ++ [x], by simp [hl], fun i hi => ?_⟩
    by_cases hin : i < l.length
    · rw [List.getElem_append_left hin]; exact hp i hin
    · have : i = n := by simp at hi; omega
      subst this
      rw [List.getElem_append_right (by omega)]
      simpa using hx

theorem open_pieces {H : Type} {enc : TypeId × Value → H} {W : World} {base b0 : Nat} {spare : Nat → Bool} {held : Bool} {r : Reach} {v : Value} {d : DataW H} {p : List MemPlace} (hv : Value.okWide Try.prog W r base 23 v) (h : DataW.Trod enc Try.prog W b0 spare held 23 v d p) :
    ∃ A n c b xs, v = .slice A n c ∧ xs.length = n ∧ n ≤ maxLen ∧ PcsIn W b A xs := by
  obtain ⟨a, len, cap, rfl⟩ := okWide_slice Try.underlying23 hv
  obtain ⟨fuel, hf⟩ := h
  rcases open_slice Try.underlying23 hf with ⟨hcs, _⟩ | ⟨x, l, c, m, n, D, Pl, hcs, _, hl, hm, hmm, _, hel⟩
  · simp [Value.cells] at hcs
    obtain ⟨rfl, rfl, rfl⟩ := hcs
    exact ⟨none, 0, 0, 0, [], rfl, rfl, by simp [maxLen], ⟨Sl.nil_ _ _ _, by simp⟩⟩
  · simp [Value.cells] at hcs
    obtain ⟨rfl, rfl, rfl⟩ := hcs
    have hlm : len ≤ m := by rw [hmm]; split <;> omega
    rw [piece_cells] at hel
    obtain ⟨xs, hxl, hxs⟩ := list_of (n := len) (P := fun i y => PV.In W y ∧ ∀ j, j < 3 → W.cell? (x.add (i * 3 + j)) = y.cells[j]?) (fun i hi => by
      obtain ⟨cs', hc, ht⟩ := hel i (by omega)
      obtain ⟨_, hcl, hat⟩ := World.cells?_some hc
      obtain ⟨y, hy, hyin⟩ := trod_piece hcl ht
      refine ⟨y, hyin, fun j hj => ?_⟩
      rw [← Go.Deep.add_add, hat j hj, hy])
    by_cases h0 : len = 0
    · have hx0 : xs = [] := List.eq_nil_of_length_eq_zero (by omega)
      subst hx0
      exact ⟨_, _, _, 0, [], rfl, hxl, by omega, ⟨Sl.nil_ _ _ _, by simp⟩⟩
    · obtain ⟨bb, off, spot⟩ := x
      have hc0 := (hxs 0 (by omega)).2 0 (by omega)
      have hspot : spot = none := by
        have : W.cell? ((⟨bb, off, spot⟩ : Addr).add (0 * 3 + 0)) = some (.bool xs[0].p.first) := hc0
        simpa [Addr.add] using World.cell?_spot this
      subst hspot
      refine ⟨_, _, _, bb, xs, rfl, hxl, by omega, ⟨fun _ => ⟨off, rfl, fun j u hu => ?_⟩, fun y hy => ?_⟩⟩
      · have hj := (List.getElem?_eq_some_iff.1 hu).1
        rw [pvs_length] at hj
        have h1 := (hxs (j / 3) (by omega)).2 (j % 3) (by omega)
        have h2 := pvs_at xs (j / 3) (by omega) (j % 3) (by omega)
        have e : j / 3 * 3 + j % 3 = j := by omega
        rw [e] at h1 h2
        rw [Addr.add_lit] at h1
        rw [h1, ← h2]
        exact hu
      · obtain ⟨i, hi, rfl⟩ := List.getElem_of_mem hy
        exact (hxs i hi).1
end Go.Proofs.Ytgkflgnlodhelaa
