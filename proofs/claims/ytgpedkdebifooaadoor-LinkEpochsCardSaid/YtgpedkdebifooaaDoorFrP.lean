/- What is read of a frame's own bytes is the frame. Conditions: the numbers fit. -/
import Derived.Test.YtgpedkdebifooaaDoorFrC
namespace Go.Proofs.YtgpedkdebifooaaDoor
open Go.RowKit

theorem rdN_low (k n : Nat) (r : List UInt8) (bad : Bool) (hn : n < 256 ^ k) : rdN k (low n k ++ r) bad = (n, r, bad) := by
  unfold rdN
  rw [if_pos (by simp), List.take_left' (by simp), List.drop_left' (by simp), valN_low, Nat.mod_eq_of_lt hn]
theorem num_small {n : Nat} (h : n < 128) : num n = [UInt8.ofNat n] := by unfold num; rw [numF_small _ _ h]
theorem rdBlob_small {d : List UInt8} (h : d.length ≤ 64) : rdBlob (num d.length ++ d) 64 = some (d, []) := by
  have h1 : (UInt8.ofNat d.length).toNat = d.length := by simp; omega
  have h2 : rd 0 (num d.length ++ d) = some (d.length, 1) := by
    rw [num_small (by omega)]
    show rd 0 (UInt8.ofNat d.length :: d) = _
    unfold rd
    rw [if_pos (by rw [h1]; omega), if_neg (by omega), h1]
  unfold rdBlob
  rw [h2]
  simp only
  have h3 : (num d.length ++ d).drop 1 = d := by rw [num_small (by omega)]; rfl
  rw [h3, if_pos ⟨h, Nat.le_refl _⟩, List.take_length, List.drop_length]
theorem Fr.right_len {f : Fr} (h : f.right = true) : f.data.length ≤ 64 := by
  unfold Fr.right at h
  split at h
  · simp only [Bool.and_eq_true, decide_eq_true_eq] at h
    omega
  · simpa using h
theorem marks_bits (f : Fr) : decide (f.marks % 2 = 1) = f.first ∧ decide (f.marks / 2 % 2 = 1) = f.last ∧ decide (f.marks / 4 % 2 = 1) = f.alone := by
  obtain ⟨e, s, n, b, fi, la, al, d⟩ := f
  unfold Fr.marks
  cases fi <;> cases la <;> cases al <;> simp
theorem gotF_raw (f : Fr) (ho : f.Ok) (hr : f.right = true) : gotF f.raw = ⟨f, 86, f.marks, [], false⟩ := by
  have hl := Fr.right_len hr
  have hm := f.marks_lt
  have e : f.raw = low 86 1 ++ (low f.epoch 2 ++ (low f.seq 2 ++ (low f.next 2 ++ (low f.bits 4 ++ (low f.marks 1 ++ (num f.data.length ++ f.data)))))) := by simp [Fr.raw]
  have h0 := rdN_low 1 86 (low f.epoch 2 ++ (low f.seq 2 ++ (low f.next 2 ++ (low f.bits 4 ++ (low f.marks 1 ++ (num f.data.length ++ f.data)))))) false (by decide)
  have h1 := rdN_low 2 f.epoch (low f.seq 2 ++ (low f.next 2 ++ (low f.bits 4 ++ (low f.marks 1 ++ (num f.data.length ++ f.data))))) false ho.e
  have h2 := rdN_low 2 f.seq (low f.next 2 ++ (low f.bits 4 ++ (low f.marks 1 ++ (num f.data.length ++ f.data)))) false ho.s
  have h3 := rdN_low 2 f.next (low f.bits 4 ++ (low f.marks 1 ++ (num f.data.length ++ f.data))) false ho.n
  have h4 := rdN_low 4 f.bits (low f.marks 1 ++ (num f.data.length ++ f.data)) false ho.b
  have h5 := rdN_low 1 f.marks (num f.data.length ++ f.data) false (by omega)
  have h6 : rdB 64 (num f.data.length ++ f.data) false = (f.data, [], false) := by unfold rdB; rw [rdBlob_small hl]
  obtain ⟨m1, m2, m3⟩ := marks_bits f
  unfold gotF
  rw [e]
  simp only [h0, h1, h2, h3, h4, h5, h6, m1, m2, m3]
theorem got_right (f : Fr) (hr : f.right = true) : Got.right ⟨f, 86, f.marks, [], false⟩ = true := by simp [Got.right, hr]
/-- A frame's own bytes come back. -/
theorem Parse_own (f : Fr) (A : Option Addr) (n c b : Nat) (w : World) (ho : f.Ok) (hr : f.right = true) (hs : Bs w b A (sealedL f.raw)) (hn : (sealedL f.raw).length = n) (hc : n ≤ c) :
    Calls Tryd.prog 31 #[.slice A n c] w fun e w' => ∃ A' c' b', e = .returned (.tuple #[.agg (f.cells A' c'), .int .i64 0]) ∧ Bs w' b' A' f.data ∧ w.heap.size ≤ b' ∧ Below w.heap.size w w' := by
  rw [sealedL_length] at hn
  subst hn
  have hl : f.raw.length ≤ 1000 := by
    have h1 := numF_length 10 f.data.length
    have h2 := Fr.right_len hr
    unfold Fr.raw num
    simp
    omega
  have hg := gotF_raw f ho hr
  refine Parse_yes A (sealedL f.raw) f.raw.length c b w hs (by rw [sealedL_length]) hc (by omega) (sealed_opens _) ⟨f, 86, f.marks, [], false⟩ (by rw [sealed_take]; exact hg) f 0 ?_ ?_
  · rw [got_right f hr]; rfl
  · rw [got_right f hr]; rfl
theorem raw_length (f : Fr) (hr : f.right = true) : (sealedL f.raw).length = 17 + f.data.length := by
  have h2 := Fr.right_len hr
  rw [sealedL_length]
  unfold Fr.raw
  rw [num_small (by omega)]
  simp
  omega
end Go.Proofs.YtgpedkdebifooaaDoor
