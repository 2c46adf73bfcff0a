/- How a list of uint32 that came in reads, in the words of this seat's walks; how long it may be. No condition. -/
import Derived.Test.YtinkngjbfhkhnaaDoorZRuX
import Derived.Test.YtinkngjbfhkhnaaDoorZRuBase08
import Derived.Deep.Slices
import Derived.SizedLaws
namespace Go.Proofs.YtinkngjbfhkhnaaDoor
open Go.ChangeShapes Go.WideShapes Go.ChangeAt Go.RowKit Go.Deep

theorem nats_is {w : World} {x : Addr} {len : Nat} {zs : List Int} (hz : len ≤ zs.length) (hc : ∀ i, i < zs.length → w.cell? (x.add i) = some (.int .u32 (zs.getD i 0))) (h0 : ∀ z ∈ zs, 0 ≤ z) :
    Sl w x.block (some x) (ms ((zs.take len).map Int.toNat)) := by
  refine fun hne => ?_
  have h1 : 0 < zs.length := by
    rcases Nat.eq_zero_or_pos len with h | h
    · subst h; simp [ms] at hne
    · omega
  obtain ⟨bb, off, spot⟩ := x
  have hspot : spot = none := by simpa [Addr.add] using World.cell?_spot (hc 0 h1)
  subst hspot
  refine ⟨off, rfl, fun j u hu => ?_⟩
  have hj : j < len := by
    have := (List.getElem?_eq_some_iff.1 hu).1
    simp [ms] at this
    omega
  have hjz : j < zs.length := by omega
  have h1 := hc j hjz
  rw [Addr.add_lit] at h1
  rw [h1]
  have hm : zs.getD j 0 = zs[j] := by simp [List.getD, hjz]
  have hp := h0 _ (List.getElem_mem hjz)
  have h2 : (ms ((zs.take len).map Int.toNat))[j]? = some (.int .u32 zs[j]) := by
    simp [ms, hj, hjz, Int.toNat_of_nonneg hp]
  rw [h2] at hu
  injection hu with hu
  rw [← hu, hm]
set_option maxRecDepth 100000 in
theorem open_u32s {H : Type} {enc : TypeId × Value → H} {W : World} {base b0 : Nat} {spare : Nat → Bool} {held : Bool} {r : Reach} {v : Value} {d : DataW H} {p : List MemPlace} (hv : Value.okWide Tryd.prog W r base 60 v) (h : DataW.Trod enc Tryd.prog W b0 spare held 60 v d p) :
    ∃ A n c b l, v = .slice A n c ∧ l.length = n ∧ n ≤ maxLen ∧ n ≤ c ∧ (∀ x ∈ l, x ≤ 4294967295) ∧ Sl W b A (ms l) ∧ (n = 0 ∨ ∃ el sp, d = .slice el sp ∧ el.length = n) := by
  obtain ⟨a, len, cap, rfl⟩ := okWide_slice Tryd.underlying60 hv
  obtain ⟨fuel, hf⟩ := h
  rcases open_ints Tryd.underlying60 Tryd.underlying22 (by kernel_rfl) hf with ⟨hcs, _⟩ | ⟨x, l, c, zs, hcs, _, hl, hm, hz, hd, hcell, hwf⟩
  · simp [Value.cells] at hcs
    obtain ⟨rfl, rfl, rfl⟩ := hcs
    exact ⟨none, 0, 0, 0, [], rfl, rfl, by simp [maxLen], Nat.le_refl _, (fun _ h => by cases h), Sl.nil_ _ _ _, Or.inl rfl⟩
  · simp [Value.cells] at hcs
    obtain ⟨rfl, rfl, rfl⟩ := hcs
    have hlz : len ≤ zs.length := by rw [hz]; split <;> omega
    have hb : ∀ z ∈ zs, 0 ≤ z ∧ z ≤ 4294967295 := fun z hz => bounds_u32 (hwf z hz)
    injection hd with hd _
    refine ⟨_, _, _, x.block, (zs.take len).map Int.toNat, rfl, by rw [List.length_map, List.length_take]; omega, by omega, hl, fun y hy => ?_, nats_is hlz hcell (fun z hz => (hb z hz).1), Or.inr ⟨_, _, hd, by simp [lits]; omega⟩⟩
    obtain ⟨z, hz, rfl⟩ := List.mem_map.1 hy
    have := hb z (List.mem_of_mem_take hz)
    omega
/-- As long as may be: what of words may come in. -/
theorem sized_u32 {H : Type} {ts : List TypeId} {ds : List (DataW H)} (h : (DataW.weightsEach Tryd.prog ts ds).all (· ≤ reachBytes) = true) {j n : Nat} {d : DataW H} (ht : ts[j]? = some 60) (hd : ds[j]? = some d) (hs : n = 0 ∨ ∃ el sp, d = .slice el sp ∧ el.length = n) : n * 4 ≤ 140737488351232 := by
  rcases hs with rfl | ⟨el, sp, rfl, rfl⟩
  · decide
  · have h1 := sized_slice h ht hd Tryd.underlying60
    rw [show Tryd.prog.bytesOf 22 = 4 by kernel_rfl] at h1
    simp only [reachBytes] at h1
    omega
end Go.Proofs.YtinkngjbfhkhnaaDoor
