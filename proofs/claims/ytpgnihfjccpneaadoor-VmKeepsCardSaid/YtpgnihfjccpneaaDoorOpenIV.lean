/- How a list of int32 that came in reads, in the words of this seat's walks. No condition. -/
import Derived.Test.YtpgnihfjccpneaaDoorVmX
import Derived.Deep.Slices
namespace Go.Proofs.YtpgnihfjccpneaaDoor
open Go.ChangeShapes Go.WideShapes Go.ChangeAt Go.RowKit Go.Deep

theorem ints_is {w : World} {x : Addr} {len : Nat} {zs : List Int} (hz : len ≤ zs.length) (hc : ∀ i, i < zs.length → w.cell? (x.add i) = some (.int .i32 (zs.getD i 0))) :
    Is w x.block (some x) (zs.take len) := by
  refine fun hne => ?_
  have h0 : 0 < zs.length := by
    rcases Nat.eq_zero_or_pos len with h | h
    · subst h; simp at hne
    · omega
  obtain ⟨bb, off, spot⟩ := x
  have hspot : spot = none := by simpa [Addr.add] using World.cell?_spot (hc 0 h0)
  subst hspot
  refine ⟨off, rfl, fun j u hu => ?_⟩
  have hj : j < len := by
    have := (List.getElem?_eq_some_iff.1 hu).1
    simp [iv] at this
    omega
  have hjz : j < zs.length := by omega
  have h1 := hc j hjz
  rw [Addr.add_lit] at h1
  rw [h1]
  have hm : zs.getD j 0 = zs[j] := by simp [List.getD, hjz]
  have h2 : (iv (zs.take len))[j]? = some (.int .i32 zs[j]) := by
    simp [iv, hj, hjz]
  rw [h2] at hu
  injection hu with hu
  rw [← hu, hm]
set_option maxRecDepth 100000 in
theorem open_i32s {H : Type} {enc : TypeId × Value → H} {W : World} {base b0 : Nat} {spare : Nat → Bool} {held : Bool} {r : Reach} {v : Value} {d : DataW H} {p : List MemPlace} (hv : Value.okWide Tryd.prog W r base 24 v) (h : DataW.Trod enc Tryd.prog W b0 spare held 24 v d p) :
    ∃ A n c b l, v = .slice A n c ∧ l.length = n ∧ n ≤ maxLen ∧ n ≤ c ∧ (∀ x ∈ l, -2147483648 ≤ x ∧ x ≤ 2147483647) ∧ Is W b A l := by
  obtain ⟨a, len, cap, rfl⟩ := okWide_slice Tryd.underlying24 hv
  obtain ⟨fuel, hf⟩ := h
  rcases open_ints Tryd.underlying24 Tryd.underlying21 (by kernel_rfl) hf with ⟨hcs, _⟩ | ⟨x, l, c, zs, hcs, _, hl, hm, hz, _, hcell, hwf⟩
  · simp [Value.cells] at hcs
    obtain ⟨rfl, rfl, rfl⟩ := hcs
    exact ⟨none, 0, 0, 0, [], rfl, rfl, by simp [maxLen], Nat.le_refl _, (fun _ h => by cases h), Sl.nil_ _ _ _⟩
  · simp [Value.cells] at hcs
    obtain ⟨rfl, rfl, rfl⟩ := hcs
    have hlz : len ≤ zs.length := by rw [hz]; split <;> omega
    exact ⟨_, _, _, x.block, zs.take len, rfl, by rw [List.length_take]; omega, by omega, hl, fun y hy => bounds_i32 (hwf y (List.mem_of_mem_take hy)), ints_is hlz hcell⟩
end Go.Proofs.YtpgnihfjccpneaaDoor
