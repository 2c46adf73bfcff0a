/- An eye's reads as functions of what is left. Conditions: as those of the reads. -/
import Derived.Test.YtgpedkdebifooaaDoorEyeNum
namespace Go.Proofs.YtgpedkdebifooaaDoor
open Go.RowKit

/-- Off the front, k bytes: their value, what is left, and whether it is wrong. -/
def rdN (k : Nat) (l : List UInt8) (bad : Bool) : Nat × List UInt8 × Bool := if k ≤ l.length then (valN (l.take k), l.drop k, bad) else (0, [], true)
theorem rdN_lt (k : Nat) (l : List UInt8) (bad : Bool) : (rdN k l bad).1 < 256 ^ k := by
  unfold rdN
  split
  · rename_i h
    have := valN_lt (l.take k)
    rwa [List.length_take, Nat.min_eq_left h] at this
  · exact Nat.pow_pos (by decide)
def rdB (most : Nat) (l : List UInt8) (bad : Bool) : List UInt8 × List UInt8 × Bool := match rdBlob l most with | some (x, r) => (x, r, bad) | none => ([], [], true)
theorem rdN_of {g b k : Nat} {l : List UInt8} {bad : Bool} {K : IntKind} {w w' : World} {e : Ending} (h : ReadN g b k l bad K w e w') :
    e = .returned (.int K ((rdN k l bad).1 : Int)) ∧ EyeAt w' g b (rdN k l bad).2.1 (rdN k l bad).2.2 ∧ Mod (fun i => i = g) w w' := by
  by_cases hk : k ≤ l.length
  · unfold rdN
    rw [if_pos hk]
    exact h.1 hk
  · unfold rdN
    rw [if_neg hk]
    exact h.2 (by omega)
theorem rdN_nil {k n : Nat} {l l' : List UInt8} {bad bad' : Bool} (h : rdN k l bad = (n, l', bad')) (hl : l = []) : l' = [] := by
  subst hl
  unfold rdN at h
  split at h
  · injection h with _ h; injection h with h _; rw [← h]; simp
  · injection h with _ h; injection h with h _; exact h.symm
theorem rdB_nil {most : Nat} {l x l' : List UInt8} {bad bad' : Bool} (h : rdB most l bad = (x, l', bad')) (hl : l = []) : x = [] := by
  subst hl
  have e : rdBlob [] most = none := rfl
  unfold rdB at h
  rw [e] at h
  injection h with h _
  exact h.symm
theorem EyeByte_f (g b : Nat) (l : List UInt8) (bad : Bool) (w : World) (he : EyeAt w g b l bad) :
    Calls Tryd.prog 60 #[.pointer (some ⟨g, 0, none⟩)] w fun e w' => ∃ n l' bad', e = .returned (.int .u8 (n : Nat)) ∧ rdN 1 l bad = (n, l', bad') ∧ n < 256 ∧ EyeAt w' g b l' bad' ∧ Mod (fun i => i = g) w w' :=
  (EyeByte_calls g b l bad w he).mono fun e w' h => by
    obtain ⟨h1, h2, h3⟩ := rdN_of h
    exact ⟨_, _, _, h1, rfl, rdN_lt 1 l bad, h2, h3⟩
theorem EyeHalf_f (g b : Nat) (l : List UInt8) (bad : Bool) (w : World) (he : EyeAt w g b l bad) :
    Calls Tryd.prog 61 #[.pointer (some ⟨g, 0, none⟩)] w fun e w' => ∃ n l' bad', e = .returned (.int .u16 (n : Nat)) ∧ rdN 2 l bad = (n, l', bad') ∧ n < 65536 ∧ EyeAt w' g b l' bad' ∧ Mod (fun i => i = g) w w' :=
  (EyeHalf_calls g b l bad w he).mono fun e w' h => by
    obtain ⟨h1, h2, h3⟩ := rdN_of h
    exact ⟨_, _, _, h1, rfl, rdN_lt 2 l bad, h2, h3⟩
theorem EyeWord_f (g b : Nat) (l : List UInt8) (bad : Bool) (w : World) (he : EyeAt w g b l bad) :
    Calls Tryd.prog 62 #[.pointer (some ⟨g, 0, none⟩)] w fun e w' => ∃ n l' bad', e = .returned (.int .u32 (n : Nat)) ∧ rdN 4 l bad = (n, l', bad') ∧ n < 4294967296 ∧ EyeAt w' g b l' bad' ∧ Mod (fun i => i = g) w w' :=
  (EyeWord_calls g b l bad w he).mono fun e w' h => by
    obtain ⟨h1, h2, h3⟩ := rdN_of h
    exact ⟨_, _, _, h1, rfl, rdN_lt 4 l bad, h2, h3⟩
theorem EyeBlob_f (g b : Nat) (l : List UInt8) (bad : Bool) (most : Nat) (w : World) (he : EyeAt w g b l bad) (hm : most ≤ 9223372036854775807) :
    Calls Tryd.prog 63 #[.pointer (some ⟨g, 0, none⟩), .int .i64 most] w fun e w' => ∃ A x l' bad', e = .returned (.slice A x.length x.length) ∧ rdB most l bad = (x, l', bad') ∧ x.length ≤ most ∧ Bs w' b A x ∧ EyeAt w' g b l' bad' ∧ Mod (fun i => i = g) w w' :=
  (EyeBlob_calls g b l bad most w he hm).mono fun e w' h => by
    obtain ⟨h1, h2, h3⟩ := h
    unfold rdB
    cases hb : rdBlob l most with
    | none =>
      obtain ⟨A, e1, e2⟩ := h3 hb
      exact ⟨A, [], [], true, e1, rfl, by simp, Sl.nil_ _ _ _, e2, h1⟩
    | some y =>
      obtain ⟨x, r⟩ := y
      obtain ⟨A, e1, e2, e3⟩ := h2 x r hb
      refine ⟨A, x, r, bad, e1, rfl, ?_, e2, e3, h1⟩
      unfold rdBlob at hb
      split at hb
      · rename_i v k hv
        split at hb
        · rename_i hc
          injection hb with hb
          injection hb with hb _
          rw [← hb, List.length_take]
          omega
        · cases hb
      · cases hb
end Go.Proofs.YtgpedkdebifooaaDoor
