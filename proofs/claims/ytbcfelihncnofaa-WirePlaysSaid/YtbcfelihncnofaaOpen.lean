/- How bytes that came in read, in the words of this seat's walks. No condition. -/
import Derived.Test.YtbcfelihncnofaaOpen0
namespace Go.Proofs.Ytbcfelihncnofaa
open Go.ChangeShapes Go.WideShapes Go.ChangeAt Go.RowKit

theorem ints_bs {w : World} {x : Addr} {len : Nat} {zs : List Int} (hz : len ≤ zs.length) (hc : ∀ i, i < zs.length → w.cell? (x.add i) = some (.int .u8 (zs.getD i 0))) (hw : ∀ n ∈ zs, (Lit.int .u8 n).wf = true) :
    ∃ b l, l.length = len ∧ Bs w b (some x) l := by
  refine ⟨x.block, (zs.take len).map fun z => UInt8.ofNat z.toNat, by simp; omega, fun hne => ?_⟩
  have h0 : 0 < zs.length := by
    rcases Nat.eq_zero_or_pos len with h | h
    · subst h; simp at hne
    · omega
  obtain ⟨bb, off, spot⟩ := x
  have hspot : spot = none := by simpa [Addr.add] using World.cell?_spot (hc 0 h0)
  subst hspot
  refine ⟨off, rfl, fun j u hu => ?_⟩
  have hj : j < len := by
    have := (List.getElem?_eq_some_iff.1 hu).1
    simp [bv] at this
    omega
  have hjz : j < zs.length := by omega
  have h1 := hc j hjz
  rw [Addr.add_lit] at h1
  rw [h1]
  have hm : zs.getD j 0 = zs[j] := by simp [List.getD, hjz]
  have hb := bounds_u8 (hw zs[j] (List.getElem_mem hjz))
  have h2 : (bv ((zs.take len).map fun z => UInt8.ofNat z.toNat))[j]? = some (.int .u8 ((UInt8.ofNat zs[j].toNat).toNat : Int)) := by
    simp [bv, hj, hjz]
  rw [h2] at hu
  injection hu with hu
  rw [← hu, hm, u8_ofNat]
  congr 2
  omega

set_option maxRecDepth 100000 in
theorem open_bytes {H : Type} {enc : TypeId × Value → H} {W : World} {base b0 : Nat} {spare : Nat → Bool} {held : Bool} {r : Reach} {v : Value} {d : DataW H} {p : List MemPlace} (hv : Value.okWide Try.prog W r base 46 v) (h : DataW.Trod enc Try.prog W b0 spare held 46 v d p) :
    ∃ A n c b l, v = .slice A n c ∧ l.length = n ∧ n ≤ maxLen ∧ Bs W b A l := by
  obtain ⟨a, len, cap, rfl⟩ := okWide_slice Try.underlying46 hv
  obtain ⟨fuel, hf⟩ := h
  rcases open_ints Try.underlying46 Try.underlying5 (by kernel_rfl) hf with ⟨hcs, _⟩ | ⟨x, l, c, zs, hcs, _, hl, hm, hz, _, hcell, hwz⟩
  · simp [Value.cells] at hcs
    obtain ⟨rfl, rfl, rfl⟩ := hcs
    exact ⟨none, 0, 0, 0, [], rfl, rfl, by simp [maxLen], Sl.nil_ _ _ _⟩
  · simp [Value.cells] at hcs
    obtain ⟨rfl, rfl, rfl⟩ := hcs
    obtain ⟨b, l', hl', hs⟩ := ints_bs (by rw [hz]; split <;> omega) hcell hwz
    exact ⟨_, _, _, b, l', rfl, hl', by omega, hs⟩
end Go.Proofs.Ytbcfelihncnofaa
