/- How a list of lists of bytes that came in reads, in the words of this seat's walks. No condition. -/
import Derived.Test.YtbcfelihncnofaaOpen
import Derived.Test.YtbcfelihncnofaaRefJoin
import Derived.Deep.Slices
namespace Go.Proofs.Ytbcfelihncnofaa
open Go.ChangeShapes Go.WideShapes Go.ChangeAt Go.RowKit Go.Deep

theorem trod_bytesB {H : Type} {enc : TypeId × Value → H} {W : World} {b0 fuel : Nat} {spare : Nat → Bool} {held : Bool} {v : Value} {x : DataW H × List MemPlace} (hf : DataW.trod enc Try.prog W b0 spare held fuel 46 [v] = some x) :
    ∃ A n c b l, v = .slice A n c ∧ l.length = n ∧ n ≤ maxLen ∧ Bs W b A l := by
  rcases open_ints Try.underlying46 Try.underlying5 (by kernel_rfl) hf with ⟨hcs, _⟩ | ⟨x, l, c, zs, hcs, _, hl, hm, hz, _, hcell, hwz⟩
  · injection hcs with hcs
    exact ⟨none, 0, 0, 0, [], hcs, rfl, by simp [maxLen], Sl.nil_ _ _ _⟩
  · injection hcs with hcs
    obtain ⟨b, l', hl', hs⟩ := ints_bs (by rw [hz]; split <;> omega) hcell hwz
    exact ⟨_, _, _, b, l', hcs, hl', by omega, hs⟩

theorem open_byteses {H : Type} {enc : TypeId × Value → H} {W : World} {base b0 : Nat} {spare : Nat → Bool} {held : Bool} {r : Reach} {v : Value} {d : DataW H} {p : List MemPlace} (hv : Value.okWide Try.prog W r base 31 v) (h : DataW.Trod enc Try.prog W b0 spare held 31 v d p) :
    ∃ A n c b ls vs, v = .slice A n c ∧ List.length ls = n ∧ n ≤ maxLen ∧ Sl W b A vs ∧ Bss W vs ls ∧ ∀ l ∈ ls, l.length ≤ maxLen := by
  obtain ⟨a, len, cap, rfl⟩ := okWide_slice Try.underlying31 hv
  obtain ⟨fuel, hf⟩ := h
  rcases open_slice1 Try.underlying31 (by kernel_rfl) hf with ⟨hcs, _⟩ | ⟨x, l, c, m, n, V, D, Pl, hcs, _, hl, hm, hmm, _, hel⟩
  · simp [Value.cells] at hcs
    obtain ⟨rfl, rfl, rfl⟩ := hcs
    exact ⟨none, 0, 0, 0, [], [], rfl, rfl, by simp [maxLen], Sl.nil_ _ _ _, Bss.nil_ _, by simp⟩
  · simp [Value.cells] at hcs
    obtain ⟨rfl, rfl, rfl⟩ := hcs
    have hlm : len ≤ m := by rw [hmm]; split <;> omega
    obtain ⟨L, hL⟩ := choose_lt (α := List UInt8) (n := len) (p := fun i y => y.length ≤ maxLen ∧ ∃ A c b, V i = .slice A y.length c ∧ Bs W b A y) (fun i hi => by
      obtain ⟨_, ht⟩ := hel i (by omega)
      obtain ⟨A, n, c, b, y, e, hy, hn, hs⟩ := trod_bytesB ht
      exact ⟨y, by omega, A, c, b, by rw [e, hy], hs⟩)
    by_cases h0 : len = 0
    · subst h0
      exact ⟨_, _, _, 0, [], [], rfl, rfl, by simp [maxLen], Sl.nil_ _ _ _, Bss.nil_ _, by simp⟩
    · obtain ⟨bb, off, spot⟩ := x
      have hc0 := (hel 0 (by omega)).1
      have hspot : spot = none := by simpa [Addr.add] using World.cell?_spot hc0
      subst hspot
      refine ⟨_, _, _, bb, (List.range len).map L, (List.range len).map V, rfl, by simp, by omega, fun _ => ⟨off, rfl, fun j u hu => ?_⟩, ⟨by simp, fun i l hi => ?_⟩, fun y hy => ?_⟩
      · have hj : j < len := by
          have := (List.getElem?_eq_some_iff.1 hu).1
          simpa using this
        have h1 := (hel j (by omega)).1
        rw [Addr.add_lit] at h1
        rw [h1]
        rw [List.getElem?_map, List.getElem?_range hj] at hu
        exact hu
      · have hj : i < len := by
          have := (List.getElem?_eq_some_iff.1 hi).1
          simpa using this
        rw [List.getElem?_map, List.getElem?_range hj] at hi
        injection hi with hi
        subst hi
        obtain ⟨_, A, c, b, h1, h2⟩ := hL i hj
        exact ⟨A, c, b, by rw [List.getElem?_map, List.getElem?_range hj]; exact congrArg some h1, h2⟩
      · obtain ⟨i, hi, rfl⟩ := List.mem_map.1 hy
        exact (hL i (List.mem_range.1 hi)).1
end Go.Proofs.Ytbcfelihncnofaa
