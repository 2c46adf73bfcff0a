/- What of a sealed text is opened, in plain words. No condition. -/
import Derived.Test.YtgpedkdebifooaaDoorRefSealed
namespace Go.Proofs.YtgpedkdebifooaaDoor

theorem opensB_iff {l : List UInt8} {k : Nat} (h : l.length = k + 4) : opensB l k = true ↔ crc 4294967295 l = crcBits 32 4294967295 := by
  have h1 := opens_val h
  have h2 := opens_iff (p := l.take k) (t := l.drop k) (by simp; omega)
  rw [List.take_append_drop] at h2
  rw [← h2, ← h1]
  simp only [beq_iff_eq]
  omega
theorem sealed_rest (p : List UInt8) : crc 4294967295 (sealedL p) = crcBits 32 4294967295 := by
  have h2 := opens_iff (p := p) (t := low (sumN p) 4) (by simp)
  have hv := valN_low (sumN p) 4
  have hl := sumN_lt p
  rw [Nat.mod_eq_of_lt (by omega)] at hv
  exact h2.1 hv
/-- What is sealed and turned by some of 32 bits in a row opens just if none was turned. -/
theorem opens_turned {p m : List UInt8} {j d : Nat} (hl : m.length = p.length + 4) (hj : j ≤ 8 * (p.length + 4)) (hd : d < 2 ^ 32) (hx : valN (sealedL p) ^^^ valN m = 2 ^ j * d) : opensB m p.length = decide (d = 0) := by
  rw [Bool.eq_iff_iff, opensB_iff hl, decide_eq_true_eq]
  exact opens_burst (sealed_rest p) (by simp [hl]) (by simpa using hj) hd hx
theorem sealed_opens (p : List UInt8) : opensB (sealedL p) p.length = true := (opensB_iff (by simp)).2 (sealed_rest p)
theorem sealed_take (p : List UInt8) : (sealedL p).take p.length = p := by simp [sealedL]
theorem opens_turnAt {p : List UInt8} {i : Nat} {t : UInt8} (hi : i < p.length + 4) : opensB (turnAt (sealedL p) i t) p.length = decide (t = 0) := by
  rw [opens_turned (d := t.toNat) (j := 8 * i) (by simp) (by omega) (by have := t.toNat_lt; omega) (valN_turnAt_burst _ _ _ (by simpa using hi))]
  rw [decide_eq_decide]
  exact ⟨fun h => UInt8.toNat_inj.1 h, fun h => by rw [h]; rfl⟩
theorem turnAt_zero (l : List UInt8) (i : Nat) : turnAt l i 0 = l := by
  unfold turnAt
  rw [UInt8.xor_zero]
  by_cases h : i < l.length
  · rw [List.getD_eq_getElem?_getD, List.getElem?_eq_getElem h]
    simp
  · exact List.set_eq_of_length_le (by omega)
theorem opens_spoilt {p : List UInt8} {j mask : Nat} (hj : j ≤ 8 * (p.length + 4)) (hm : mask < 2 ^ 32) : opensB (turned (sealedL p) j mask 32) p.length = decide (turned (sealedL p) j mask 32 = sealedL p) := by
  obtain ⟨d, hd, hx⟩ := valN_turned_burst (sealedL p) j mask (by simpa using hj) hm
  rw [opens_turned (by simp) hj hd hx, decide_eq_decide]
  constructor
  · intro h
    subst h
    exact valN_inj (by simp) (xor_nought (by rw [Nat.xor_comm, hx, Nat.mul_zero]))
  · intro h
    rw [h, Nat.xor_self] at hx
    rcases Nat.mul_eq_zero.1 hx.symm with h2 | h2
    · exact absurd h2 (Nat.pos_iff_ne_zero.1 (Nat.two_pow_pos j))
    · exact h2
theorem sum_turnAt {p : List UInt8} {i : Nat} {t : UInt8} (hi : i < p.length) : sumN p = sumN (turnAt p i t) ↔ t = 0 := by
  constructor
  · intro h
    have h2 := crc_burst (s := 4294967295) (l := p) (m := turnAt p i t) (j := 8 * i) (d := t.toNat) (by simp) (by omega) (by have := t.toNat_lt; omega) (valN_turnAt_burst _ _ _ hi) (sumN_inj.1 h)
    exact UInt8.toNat_inj.1 h2
  · intro h
    rw [h, turnAt_zero]
end Go.Proofs.YtgpedkdebifooaaDoor
