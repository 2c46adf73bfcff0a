/- Sums of lists of cells that differ in one value, or in one label. Conditions: the cells fit. -/
import Derived.Test.YtemhglcdcpobpaaBoardSum
namespace Go.Proofs.Ytemhglcdcpobpaa
open Go.RowKit

theorem crc_state {s t : Nat} (hs : s < 2 ^ 32) (ht : t < 2 ^ 32) {l : List UInt8} (h : crc s l = crc t l) : s = t := by
  rw [crc_val, crc_val, crcBits_xor, crcBits_xor _ t] at h
  have h2 := congrArg (· ^^^ crcBits (8 * l.length) (valN l)) h
  simp only [Nat.xor_assoc, Nat.xor_self, Nat.xor_zero] at h2
  refine xor_nought (crcBits_nought (8 * l.length) (Nat.xor_lt_two_pow hs ht) ?_)
  rw [crcBits_xor, h2, Nat.xor_self]
theorem crc_mid {s a b : Nat} (hs : s < 2 ^ 32) (ha : a < 2 ^ 32) (hb : b < 2 ^ 32) {p q : List UInt8} (h : crc s (p ++ (low a 4 ++ q)) = crc s (p ++ (low b 4 ++ q))) : a = b := by
  rw [crc_append, crc_append, crc_append, crc_append] at h
  have hc := crc_lt (s := s) p hs
  have h1 := crc_state (crc_lt _ hc) (crc_lt _ hc) h
  rw [crc_low ha, crc_low hb, crcBits_xor, crcBits_xor _ _ b] at h1
  have h2 := congrArg (crcBits 32 (crc s p) ^^^ ·) h1
  simp only [← Nat.xor_assoc, Nat.xor_self, Nat.zero_xor] at h2
  refine xor_nought (crcBits_nought 32 (Nat.xor_lt_two_pow ha hb) ?_)
  rw [crcBits_xor, h2, Nat.xor_self]
theorem uN_inj {x y : Int} (hx : -2147483648 ≤ x ∧ x ≤ 2147483647) (hy : -2147483648 ≤ y ∧ y ≤ 2147483647) (h : uN x = uN y) : x = y := by
  unfold uN at h
  omega
theorem set_parts {M : List (Int × Nat)} {k : Nat} (hk : k < M.length) (c : Int × Nat) : M.set k c = M.take k ++ c :: M.drop (k + 1) := by
  rw [List.set_eq_take_append_cons_drop, if_pos hk]
theorem cellsB_set {M : List (Int × Nat)} {k : Nat} (hk : k < M.length) (c : Int × Nat) : cellsB (M.set k c) = cellsB (M.take k) ++ (cellB c ++ cellsB (M.drop (k + 1))) := by
  rw [set_parts hk]
  simp [cellsB]
theorem labsB_set {M : List (Int × Nat)} {k : Nat} (hk : k < M.length) (c : Int × Nat) : labsB (M.set k c) = labsB (M.take k) ++ (labB c ++ labsB (M.drop (k + 1))) := by
  rw [set_parts hk]
  simp [labsB]
theorem set_same {M : List (Int × Nat)} {k : Nat} (hk : k < M.length) : M.set k (M[k].1, M[k].2) = M := List.set_getElem_self hk
theorem hash_val {M : List (Int × Nat)} {k : Nat} (hk : k < M.length) (hok : okC M) {v : Int} (hv : -2147483648 ≤ v ∧ v ≤ 2147483647) : hashL M = hashL (M.set k (v, M[k].2)) ↔ v = M[k].1 := by
  constructor
  · intro h
    have h1 := sumN_inj.1 h
    rw [cellsB_set hk] at h1
    conv at h1 => lhs; rw [← set_same hk, cellsB_set hk]
    simp only [cellB, List.append_assoc] at h1
    have := crc_mid (by omega) (by have := uN_lt M[k].1; omega) (by have := uN_lt v; omega) h1
    exact (uN_inj (okC_get hok hk).1 hv this).symm
  · intro h
    rw [h, set_same hk]
theorem hash_lab {M : List (Int × Nat)} {k : Nat} (hk : k < M.length) (hok : okC M) {s : Nat} (hs : s < 4294967296) : hashL M = hashL (M.set k (M[k].1, s)) ↔ s = M[k].2 := by
  constructor
  · intro h
    have h1 := sumN_inj.1 h
    rw [cellsB_set hk] at h1
    conv at h1 => lhs; rw [← set_same hk, cellsB_set hk]
    simp only [cellB, List.append_assoc] at h1
    rw [← List.append_assoc, ← List.append_assoc (cellsB (M.take k)) (low (uN M[k].1) 4)] at h1
    exact (crc_mid (by omega) (by have := (okC_get hok hk).2; omega) (by omega) h1).symm
  · intro h
    rw [h, set_same hk]
theorem labs_val {M : List (Int × Nat)} {k : Nat} (hk : k < M.length) (v : Int) : labsL (M.set k (v, M[k].2)) = labsL M := by
  unfold labsL
  rw [labsB_set hk]
  conv => rhs; rw [← set_same hk, labsB_set hk]
  rfl
theorem labs_lab {M : List (Int × Nat)} {k : Nat} (hk : k < M.length) (hok : okC M) {s : Nat} (hs : s < 4294967296) : labsL M = labsL (M.set k (M[k].1, s)) ↔ s = M[k].2 := by
  constructor
  · intro h
    have h1 := sumN_inj.1 h
    rw [labsB_set hk] at h1
    conv at h1 => lhs; rw [← set_same hk, labsB_set hk]
    simp only [labB] at h1
    exact (crc_mid (by omega) (by have := (okC_get hok hk).2; omega) (by omega) h1).symm
  · intro h
    rw [h, set_same hk]
end Go.Proofs.Ytemhglcdcpobpaa
