/- The reference's Parse, plainly, is the program's. No condition: plain lemmas. -/
import Derived.Test.YtbkimknfhpbcfaaFrV
namespace Go.Proofs.Ytbkimknfhpbcfaa
open Go.RowKit

/-- What the reference takes bytes for. -/
def candF (l : List UInt8) : Fr :=
  ⟨valN ((l.drop 1).take 2), valN ((l.drop 3).take 2), valN ((l.drop 5).take 2), valN ((l.drop 7).take 4), decide ((l.getD 11 0).toNat % 2 = 1), decide ((l.getD 11 0).toNat / 2 % 2 = 1), decide ((l.getD 11 0).toNat / 4 % 2 = 1), ((l.drop 13).take (l.length - 4 - 13)).take 1000⟩
def rparseF (l : List UInt8) : Fr × Nat :=
  if l.length < 4 then (zFr, 2) else if opensB l (l.length - 4) = false then (zFr, 5) else if l.length < 17 then (zFr, 2) else if (candF l).right = true ∧ sealedL (candF l).raw = l then (candF l, 0) else (zFr, 2)
theorem candF_ok (l : List UInt8) : (candF l).Ok := by
  have h : ∀ (m k : Nat), valN ((l.drop m).take k) < 256 ^ k := fun m k => by
    have h1 := valN_lt ((l.drop m).take k)
    have h2 : ((l.drop m).take k).length ≤ k := by rw [List.length_take]; omega
    exact Nat.lt_of_lt_of_le h1 (Nat.pow_le_pow_right (by omega) h2)
  exact ⟨h 1 2, h 3 2, h 5 2, h 7 4⟩
theorem valN_lowlt (n k : Nat) (h : n < 256 ^ k) : valN (low n k) = n := by rw [valN_low, Nat.mod_eq_of_lt h]
theorem candF_sealed (f : Fr) (ho : f.Ok) (hr : f.right = true) : candF (sealedL f.raw) = f := by
  have hd := Fr.right_len hr
  have hm := f.marks_lt
  obtain ⟨S, hS⟩ : ∃ S, S = low (sumN f.raw) 4 := ⟨_, rfl⟩
  have hSl : S.length = 4 := by rw [hS]; simp
  have e : sealedL f.raw = low 86 1 ++ (low f.epoch 2 ++ (low f.seq 2 ++ (low f.next 2 ++ (low f.bits 4 ++ (low f.marks 1 ++ (num f.data.length ++ (f.data ++ S))))))) := by
    unfold sealedL
    rw [← hS]
    simp [Fr.raw]
  have hn : (num f.data.length).length = 1 := by rw [num_small (by omega)]; rfl
  have hlen := raw_length f hr
  obtain ⟨l, hl⟩ : ∃ l, l = sealedL f.raw := ⟨_, rfl⟩
  rw [← hl] at e hlen ⊢
  have d1 : l.drop 1 = low f.epoch 2 ++ (low f.seq 2 ++ (low f.next 2 ++ (low f.bits 4 ++ (low f.marks 1 ++ (num f.data.length ++ (f.data ++ S)))))) := by rw [e]; exact List.drop_left' (by simp)
  have d3 : l.drop 3 = low f.seq 2 ++ (low f.next 2 ++ (low f.bits 4 ++ (low f.marks 1 ++ (num f.data.length ++ (f.data ++ S))))) := by
    rw [show 3 = 1 + 2 from rfl, ← List.drop_drop, d1]; exact List.drop_left' (by simp)
  have d5 : l.drop 5 = low f.next 2 ++ (low f.bits 4 ++ (low f.marks 1 ++ (num f.data.length ++ (f.data ++ S)))) := by
    rw [show 5 = 3 + 2 from rfl, ← List.drop_drop, d3]; exact List.drop_left' (by simp)
  have d7 : l.drop 7 = low f.bits 4 ++ (low f.marks 1 ++ (num f.data.length ++ (f.data ++ S))) := by
    rw [show 7 = 5 + 2 from rfl, ← List.drop_drop, d5]; exact List.drop_left' (by simp)
  have d11 : l.drop 11 = low f.marks 1 ++ (num f.data.length ++ (f.data ++ S)) := by
    rw [show 11 = 7 + 4 from rfl, ← List.drop_drop, d7]; exact List.drop_left' (by simp)
  have d12 : l.drop 12 = num f.data.length ++ (f.data ++ S) := by
    rw [show 12 = 11 + 1 from rfl, ← List.drop_drop, d11]; exact List.drop_left' (by simp)
  have d13 : l.drop 13 = f.data ++ S := by
    rw [show 13 = 12 + 1 from rfl, ← List.drop_drop, d12]; exact List.drop_left' hn
  have x11 : (l.getD 11 0).toNat = f.marks := by
    have h1 : l[11]? = some (UInt8.ofNat f.marks) := by
      have h2 : (l.drop 11)[0]? = some (UInt8.ofNat f.marks) := by rw [d11, low_one]; rfl
      rwa [List.getElem?_drop] at h2
    rw [List.getD_eq_getElem?_getD, h1]
    simp
    omega
  obtain ⟨m1, m2, m3⟩ := marks_bits f
  unfold candF
  rw [d1, d3, d5, d7, d13, x11, List.take_left' (by simp), List.take_left' (by simp), List.take_left' (by simp), List.take_left' (by simp), valN_lowlt _ _ ho.e, valN_lowlt _ _ ho.s, valN_lowlt _ _ ho.n, valN_lowlt _ _ ho.b, m1, m2, m3, hlen,
    List.take_left' (by omega), List.take_of_length_le (by omega)]
theorem rparse_eq (l : List UInt8) : rparseF l = parseF l := by
  by_cases h : ∃ f, parseF l = (f, 0)
  · obtain ⟨f, hf⟩ := h
    rw [hf]
    obtain ⟨ho, hr, e⟩ := (parseF_iff l f).1 hf
    have hc : candF l = f := by rw [e]; exact candF_sealed f ho hr
    have hlen := raw_length f hr
    rw [← e] at hlen
    have hop : opensB l (l.length - 4) = true := by
      have h1 := sealed_opens f.raw
      have h2 := sealedL_length f.raw
      rw [← e] at h1 h2
      rw [show l.length - 4 = f.raw.length by omega]
      exact h1
    unfold rparseF
    rw [if_neg (by omega), hop, if_neg (by simp), if_neg (by omega), hc, if_pos ⟨hr, e.symm⟩]
  · have hno : ¬ ((candF l).right = true ∧ sealedL (candF l).raw = l) := fun hh => h ⟨candF l, (parseF_iff l _).2 ⟨candF_ok l, hh.1, hh.2.symm⟩⟩
    unfold rparseF
    rw [if_neg hno]
    have hp : parseF l = if l.length < 4 then (zFr, 2) else if opensB l (l.length - 4) = false then (zFr, 5) else (zFr, 2) := by
      unfold parseF at h ⊢
      split
      · rfl
      · split
        · rfl
        · split
          · rename_i h1 h2 h3
            rw [if_neg h1, if_neg h2, if_pos h3] at h
            exact absurd ⟨_, rfl⟩ h
          · rfl
    rw [hp]
    split
    · rfl
    · split
      · rfl
      · split <;> rfl
end Go.Proofs.Ytbkimknfhpbcfaa
