/- Lists of int32 that came in, in the words of the board's walks. No condition. -/
import Derived.Test.YtpppjlcfhijdgaaOpen0
import Derived.Test.YtpppjlcfhijdgaaAppend
namespace Go.Proofs.Ytpppjlcfhijdgaa
open Go.ChangeShapes Go.WideShapes Go.ChangeAt Go.RowKit

/-- Numbers as values. -/
def iv (l : List Int) : List Value := l.map fun x => .int .i32 x
@[simp] theorem iv_length (l : List Int) : (iv l).length = l.length := by simp [iv]
theorem iv_get {l : List Int} {k : Nat} (h : k < l.length) : (iv l)[k]? = some (.int .i32 l[k]) := by simp [iv, h]
theorem ints_iv {w : World} {x : Addr} {len : Nat} {zs : List Int} (hz : len ≤ zs.length) (hc : ∀ i, i < zs.length → w.cell? (x.add i) = some (.int .i32 (zs.getD i 0))) : ∃ b, Sl w b (some x) (iv (zs.take len)) := by
  refine ⟨x.block, fun hne => ?_⟩
  have h0 : 0 < zs.length := by
    rcases Nat.eq_zero_or_pos len with h | h
    · subst h; simp [iv] at hne
    · omega
  obtain ⟨bb, off, spot⟩ := x
  have hspot : spot = none := by simpa [Addr.add] using World.cell?_spot (hc 0 h0)
  subst hspot
  refine ⟨off, rfl, fun j u hu => ?_⟩
  have hj : j < len := by
    have := (List.getElem?_eq_some_iff.1 hu).1
    simp [iv] at this
    omega
  have hjz : j < zs.length := by omega
  have h1 := hc j hjz
  rw [Addr.add_lit] at h1
  rw [h1]
  have hm : zs.getD j 0 = zs[j] := by simp [List.getD, hjz]
  have h2 : (iv (zs.take len))[j]? = some (.int .i32 zs[j]) := by
    simp [iv, hj, hjz]
  rw [h2] at hu
  injection hu with hu
  rw [← hu, hm]
set_option maxRecDepth 100000 in
theorem open_i32v {H : Type} {enc : TypeId × Value → H} {W : World} {base b0 : Nat} {spare : Nat → Bool} {held : Bool} {r : Reach} {v : Value} {d : DataW H} {p : List MemPlace} (hv : Value.okWide Try.prog W r base 69 v) (h : DataW.Trod enc Try.prog W b0 spare held 69 v d p) :
    ∃ A n c b l, v = .slice A n c ∧ l.length = n ∧ n ≤ maxLen ∧ (∀ x ∈ l, -2147483648 ≤ x ∧ x ≤ 2147483647) ∧ Sl W b A (iv l) := by
  obtain ⟨a, len, cap, rfl⟩ := okWide_slice Try.underlying69 hv
  obtain ⟨fuel, hf⟩ := h
  rcases open_ints Try.underlying69 Try.underlying21 (by kernel_rfl) hf with ⟨hcs, _⟩ | ⟨x, l, c, zs, hcs, _, hl, hm, hz, _, hcell, hwz⟩
  · simp [Value.cells] at hcs
    obtain ⟨rfl, rfl, rfl⟩ := hcs
    exact ⟨none, 0, 0, 0, [], rfl, rfl, by simp [maxLen], fun x hx => (by cases hx), Sl.nil_ _ _ _⟩
  · simp [Value.cells] at hcs
    obtain ⟨rfl, rfl, rfl⟩ := hcs
    have hlz : len ≤ zs.length := by rw [hz]; split <;> omega
    obtain ⟨b, hs⟩ := ints_iv hlz hcell
    exact ⟨_, _, _, b, zs.take len, rfl, by simp; omega, by omega, fun x hx => bounds_i32 (hwz x (List.mem_of_mem_take hx)), hs⟩
end Go.Proofs.Ytpppjlcfhijdgaa
