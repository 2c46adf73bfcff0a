/- How a list of uint16 that came in reads, in the words of this seat's walks. No condition. -/
import Derived.Test.YtlheoepmhpmfaaaOpen0
namespace Go.Proofs.Ytlheoepmhpmfaaa
open Go.ChangeShapes Go.WideShapes Go.ChangeAt Go.RowKit

/-- Numbers of 16 bits as values. -/
def us (l : List Nat) : List Value := l.map fun (x : Nat) => Value.int .u16 (x : Int)
@[simp] theorem us_length (l : List Nat) : (us l).length = l.length := by simp [us]
theorem us_get? {l : List Nat} {k x : Nat} (h : l[k]? = some x) : (us l)[k]? = some (.int .u16 (x : Int)) := by simp [us, h]
theorem ints_us {w : World} {x : Addr} {len : Nat} {zs : List Int} (hz : len ≤ zs.length) (hc : ∀ i, i < zs.length → w.cell? (x.add i) = some (.int .u16 (zs.getD i 0))) (hw : ∀ n ∈ zs, (Lit.int .u16 n).wf = true) :
    ∃ b l, l.length = len ∧ Sl w b (some x) (us l) ∧ ∀ y ∈ l, y < 65536 := by
  refine ⟨x.block, (zs.take len).map Int.toNat, by simp; omega, fun hne => ?_, fun y hy => ?_⟩
  · have h0 : 0 < zs.length := by
      rcases Nat.eq_zero_or_pos len with h | h
      · subst h; simp [us] at hne
      · omega
    obtain ⟨bb, off, spot⟩ := x
    have hspot : spot = none := by simpa [Addr.add] using World.cell?_spot (hc 0 h0)
    subst hspot
    refine ⟨off, rfl, fun j u hu => ?_⟩
    have hj : j < len := by
      have := (List.getElem?_eq_some_iff.1 hu).1
      simp [us] at this
      omega
    have hjz : j < zs.length := by omega
    have h1 := hc j hjz
    rw [Addr.add_lit] at h1
    rw [h1]
    have hm : zs.getD j 0 = zs[j] := by simp [List.getD, hjz]
    have hb := bounds_u16 (hw zs[j] (List.getElem_mem hjz))
    have h2 : (us ((zs.take len).map Int.toNat))[j]? = some (.int .u16 ((zs[j].toNat : Nat) : Int)) := by
      simp [us, hj, hjz]
    rw [h2] at hu
    injection hu with hu
    rw [← hu, hm]
    congr 2
    omega
  · obtain ⟨z, hz1, rfl⟩ := List.mem_map.1 hy
    have hb := bounds_u16 (hw z (List.mem_of_mem_take hz1))
    omega
theorem open_u16s {H : Type} {enc : TypeId × Value → H} {W : World} {base b0 : Nat} {spare : Nat → Bool} {held : Bool} {r : Reach} {v : Value} {d : DataW H} {p : List MemPlace} (hv : Value.okWide Try.prog W r base 56 v) (h : DataW.Trod enc Try.prog W b0 spare held 56 v d p) :
    ∃ A n c b l, v = .slice A n c ∧ l.length = n ∧ n ≤ maxLen ∧ (∀ y ∈ l, y < 65536) ∧ Sl W b A (us l) := by
  obtain ⟨a, len, cap, rfl⟩ := okWide_slice Try.underlying56 hv
  obtain ⟨fuel, hf⟩ := h
  rcases open_ints Try.underlying56 Try.underlying22 (by kernel_rfl) hf with ⟨hcs, _⟩ | ⟨x, l, c, zs, hcs, _, hl, hm, hz, _, hcell, hwz⟩
  · simp [Value.cells] at hcs
    obtain ⟨rfl, rfl, rfl⟩ := hcs
    exact ⟨none, 0, 0, 0, [], rfl, rfl, by simp [maxLen], by simp, Sl.nil_ _ _ _⟩
  · simp [Value.cells] at hcs
    obtain ⟨rfl, rfl, rfl⟩ := hcs
    obtain ⟨b, l', hl', hs, hb⟩ := ints_us (by rw [hz]; split <;> omega) hcell hwz
    exact ⟨_, _, _, b, l', rfl, hl', by omega, hb, hs⟩
end Go.Proofs.Ytlheoepmhpmfaaa
