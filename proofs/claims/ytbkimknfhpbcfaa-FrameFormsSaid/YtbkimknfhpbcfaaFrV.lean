/- What is read as a frame that may be is that frame's own bytes. No condition: plain lemmas. -/
import Derived.Test.YtbkimknfhpbcfaaFrP
namespace Go.Proofs.Ytbkimknfhpbcfaa
open Go.RowKit

theorem low_cons (n k : Nat) : low n (k + 1) = UInt8.ofNat n :: low (n / 256) k := by
  simp only [low, List.range_succ_eq_map, List.map_cons, List.map_map, Nat.pow_zero, Nat.div_one, List.cons.injEq, true_and]
  apply List.map_congr_left
  intro i _
  simp only [Function.comp, Nat.pow_succ]
  rw [Nat.div_div_eq_div_mul, Nat.mul_comm (256 ^ i)]
theorem low_valN (l : List UInt8) : low (valN l) l.length = l := by
  induction l with
  | nil => rfl
  | cons x l ih =>
    have hx := x.toNat_lt
    rw [List.length_cons, low_cons, valN_cons, show (256 * valN l + x.toNat) / 256 = valN l by omega, ih]
    congr 1
    apply UInt8.toNat_inj.1
    rw [UInt8.toNat_ofNat']
    omega
theorem low_take (l : List UInt8) (k : Nat) (h : k ≤ l.length) : low (valN (l.take k)) k = l.take k := by
  have h1 := low_valN (l.take k)
  rwa [List.length_take, Nat.min_eq_left h] at h1

theorem rd_inv (f : Nat) : ∀ (i : Nat) (l : List UInt8) (v k : Nat), i + f = 9 → rd i l = some (v, k) → numF (f + 1) v ++ l.drop k = l ∧ (0 < i → 0 < v) ∧ k ≤ l.length := by
  induction f with
  | zero =>
    intro i l v k hi h
    obtain rfl : i = 9 := by omega
    cases l with
    | nil => cases h
    | cons x t =>
      rw [rd] at h
      by_cases hx : x.toNat < 128
      · rw [if_pos hx] at h
        by_cases hc : (0 < 9 ∧ x.toNat = 0) ∨ (9 = 9 ∧ 1 < x.toNat)
        · rw [if_pos hc] at h; cases h
        · rw [if_neg hc] at h
          injection h with h
          injection h with h1 h2
          subst h1; subst h2
          refine ⟨?_, fun _ => by omega, by simp⟩
          rw [numF_small _ _ hx]
          simp
      · rw [if_neg hx, if_pos rfl] at h; cases h
  | succ f ih =>
    intro i l v k hi h
    cases l with
    | nil => cases h
    | cons x t =>
      have hx8 := x.toNat_lt
      rw [rd] at h
      by_cases hx : x.toNat < 128
      · rw [if_pos hx] at h
        by_cases hc : (0 < i ∧ x.toNat = 0) ∨ (i = 9 ∧ 1 < x.toNat)
        · rw [if_pos hc] at h; cases h
        · rw [if_neg hc] at h
          injection h with h
          injection h with h1 h2
          subst h1; subst h2
          refine ⟨?_, fun h0 => by omega, by simp⟩
          rw [numF_small _ _ hx]
          simp
      · rw [if_neg hx, if_neg (by omega)] at h
        obtain ⟨⟨v', k'⟩, hr, he⟩ := Option.map_eq_some_iff.1 h
        simp only [Prod.mk.injEq] at he
        obtain ⟨e1, e2⟩ := he
        obtain ⟨h1, h2, h3⟩ := ih (i + 1) t v' k' (by omega) hr
        have hv' := h2 (by omega)
        subst e1; subst e2
        refine ⟨?_, fun _ => by omega, by simp; omega⟩
        rw [numF_big _ _ (by omega), show (x.toNat % 128 + 128 * v') / 128 = v' by omega, List.drop_succ_cons, List.cons_append, h1]
        congr 1
        apply UInt8.toNat_inj.1
        rw [UInt8.toNat_ofNat']
        omega

theorem rdBlob_inv {l x r : List UInt8} {most : Nat} (h : rdBlob l most = some (x, r)) : num x.length ++ x ++ r = l ∧ x.length ≤ most := by
  unfold rdBlob at h
  split at h
  · rename_i v k hr
    obtain ⟨h1, _, _⟩ := rd_inv 9 0 l v k rfl hr
    split at h
    · rename_i hc
      injection h with h
      injection h with e1 e2
      subst e1; subst e2
      have hl : ((l.drop k).take v).length = v := by rw [List.length_take]; exact Nat.min_eq_left hc.2
      rw [hl, List.append_assoc, List.take_append_drop]
      exact ⟨h1, hc.1⟩
    · cases h
  · cases h

theorem rdN_inv {k n : Nat} {l l' : List UInt8} {bad : Bool} (h : rdN k l bad = (n, l', false)) : bad = false ∧ l = low n k ++ l' := by
  unfold rdN at h
  split at h
  · rename_i hk
    injection h with h1 h
    injection h with h2 h3
    refine ⟨h3, ?_⟩
    rw [← h1, ← h2, low_take l k hk, List.take_append_drop]
  · injection h with _ h
    injection h with _ h
    cases h
theorem rdB_inv {most : Nat} {l x l' : List UInt8} {bad : Bool} (h : rdB most l bad = (x, l', false)) : bad = false ∧ l = num x.length ++ x ++ l' ∧ x.length ≤ most := by
  unfold rdB at h
  cases hb : rdBlob l most with
  | none =>
    rw [hb] at h
    injection h with _ h
    injection h with _ h
    cases h
  | some y =>
    obtain ⟨x2, r2⟩ := y
    rw [hb] at h
    injection h with h1 h
    injection h with h2 h3
    subst h1
    subst h2
    obtain ⟨e1, e2⟩ := rdBlob_inv hb
    exact ⟨h3, e1.symm, e2⟩
theorem got_inv (p : List UInt8) (h : (gotF p).right = true) : p = (gotF p).f.raw ∧ (gotF p).f.Ok ∧ (gotF p).f.right = true := by
  obtain ⟨n0, l0, b0, y0⟩ : ∃ n l b, rdN 1 p false = (n, l, b) := ⟨_, _, _, rfl⟩
  obtain ⟨n1, l1, b1, y1⟩ : ∃ n l b, rdN 2 l0 b0 = (n, l, b) := ⟨_, _, _, rfl⟩
  obtain ⟨n2, l2, b2, y2⟩ : ∃ n l b, rdN 2 l1 b1 = (n, l, b) := ⟨_, _, _, rfl⟩
  obtain ⟨n3, l3, b3, y3⟩ : ∃ n l b, rdN 2 l2 b2 = (n, l, b) := ⟨_, _, _, rfl⟩
  obtain ⟨n4, l4, b4, y4⟩ : ∃ n l b, rdN 4 l3 b3 = (n, l, b) := ⟨_, _, _, rfl⟩
  obtain ⟨n5, l5, b5, y5⟩ : ∃ n l b, rdN 1 l4 b4 = (n, l, b) := ⟨_, _, _, rfl⟩
  obtain ⟨d, l6, b6, y6⟩ : ∃ n l b, rdB 64 l5 b5 = (n, l, b) := ⟨_, _, _, rfl⟩
  have hG : gotF p = ⟨⟨n1, n2, n3, n4, decide (n5 % 2 = 1), decide (n5 / 2 % 2 = 1), decide (n5 / 4 % 2 = 1), d⟩, n0, n5, l6, b6⟩ := by
    unfold gotF
    simp only [y0, y1, y2, y3, y4, y5, y6]
  have z1 := rdN_lt 2 l0 b0
  have z2 := rdN_lt 2 l1 b1
  have z3 := rdN_lt 2 l2 b2
  have z4 := rdN_lt 4 l3 b3
  rw [y1] at z1
  rw [y2] at z2
  rw [y3] at z3
  rw [y4] at z4
  rw [hG] at h ⊢
  simp only [Got.right, Bool.and_eq_true, decide_eq_true_eq] at h
  obtain ⟨⟨⟨⟨rfl, rfl⟩, rfl⟩, hm⟩, hr⟩ := h
  obtain ⟨rfl, e6, hd⟩ := rdB_inv y6
  obtain ⟨rfl, e5⟩ := rdN_inv y5
  obtain ⟨rfl, e4⟩ := rdN_inv y4
  obtain ⟨rfl, e3⟩ := rdN_inv y3
  obtain ⟨rfl, e2⟩ := rdN_inv y2
  obtain ⟨rfl, e1⟩ := rdN_inv y1
  obtain ⟨-, e0⟩ := rdN_inv y0
  refine ⟨?_, ⟨z1, z2, z3, z4⟩, hr⟩
  simp only [Fr.raw]
  rw [← hm]
  rw [e0, e1, e2, e3, e4, e5, e6]
  simp
/-- Any bytes: read as a frame just if they are a frame's own. -/
theorem parseF_iff (l : List UInt8) (f : Fr) : parseF l = (f, 0) ↔ f.Ok ∧ f.right = true ∧ l = sealedL f.raw := by
  unfold parseF
  constructor
  · intro h
    split at h
    · injection h with _ h; cases h
    · split at h
      · injection h with _ h; cases h
      · split at h
        · rename_i h4 h5 h6
          injection h with h _
          obtain ⟨e1, e2, e3⟩ := got_inv _ h6
          rw [h] at e1 e2 e3
          refine ⟨e2, e3, ?_⟩
          have h5' : opensB l (l.length - 4) = true := by simpa using h5
          unfold opensB at h5'
          have e4 := of_decide_eq_true h5'
          unfold sealedL
          rw [← e1, ← e4, List.take_append_drop]
        · injection h with _ h; cases h
  · rintro ⟨ho, hr, rfl⟩
    have hl := sealedL_length f.raw
    rw [if_neg (by omega), hl, show f.raw.length + 4 - 4 = f.raw.length by omega, sealed_opens, if_neg (by simp), sealed_take, gotF_raw f ho hr, if_pos (got_right f hr)]
end Go.Proofs.Ytbkimknfhpbcfaa
