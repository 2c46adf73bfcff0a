/- The reference's Num: a number in as few bytes as may be, seven bits each. Condition: it fits 64 bits. -/
import Derived.Test.YtdmjkgafnnjkkaaDoorRefLow
namespace Go.Proofs.YtdmjkgafnnjkkaaDoor
open Go.RowKit

/-- A number in as few bytes as may be, seven bits each. -/
def numF : Nat → Nat → List UInt8
  | 0, _ => []
  | f + 1, n => if n < 128 then [UInt8.ofNat n] else UInt8.ofNat (n % 128 + 128) :: numF f (n / 128)
def num (n : Nat) : List UInt8 := numF 10 n
theorem numF_length (f n : Nat) : (numF f n).length ≤ f := by
  induction f generalizing n with
  | zero => simp [numF]
  | succ f ih =>
    rw [numF]
    split
    · simp
    · simp only [List.length_cons]; have := ih (n / 128); omega
theorem numF_big (f n : Nat) (h : 128 ≤ n) : numF (f + 1) n = UInt8.ofNat (n % 128 + 128) :: numF f (n / 128) := by rw [numF, if_neg (by omega)]
theorem numF_small (f n : Nat) (h : n < 128) : numF (f + 1) n = [UInt8.ofNat n] := by rw [numF, if_pos h]

theorem Row.lit1 (w : World) (q : UInt8) (x : Int) (hx : x = (q.toNat : Int)) : Row (w.alloc (.cells #[.int .u8 x] 5)) w.heap.size (.slice (some ⟨w.heap.size, 0, none⟩) 1 1) [q] := by
  subst hx
  exact World.ownsRow_lit w #[.int .u8 (q.toNat : Int)] 1 (Nat.le_refl _) (by simp [maxLen]) rfl

set_option maxHeartbeats 400000 in
set_option maxRecDepth 20000 in
theorem Num_fuel (f : Nat) : ∀ (n : Nat) (w : World), n < 128 ^ (f + 1) → n ≤ 18446744073709551615 → f ≤ 100 →
    Calls Tryd.prog 42 #[.int .u64 n] w fun e w' => ∃ v, e = .returned v ∧ Row w' w.heap.size v (numF (f + 1) n) ∧ Below w.heap.size w w' := by
  have small : ∀ (f n : Nat) (w : World), n < 128 →
    Calls Tryd.prog 42 #[.int .u64 n] w fun e w' => ∃ v, e = .returned v ∧ Row w' w.heap.size v (numF (f + 1) n) ∧ Below w.heap.size w w' := by
    intro f n w h
    go_enter Tryd.func42, Tryd.ntmps42
    go_wp2_with fail
    go_ret
    refine ⟨_, rfl, (Row.lit1 w (UInt8.ofNat n) n (by rw [u8_ofNat]; omega)).cast (numF_small f n h).symm, (Below.refl _ _).alloc (Nat.le_refl _) _⟩
  induction f with
  | zero =>
    intro n w hf hn _
    exact small 0 n w (by simpa using hf)
  | succ f ih =>
    intro n w hf hn h100
    by_cases hs : n < 128
    · exact small (f + 1) n w hs
    · have hd : n / 128 < 128 ^ (f + 1) := by
        rw [Nat.pow_succ] at hf
        exact Nat.div_lt_of_lt_mul (by rw [Nat.mul_comm]; exact hf)
      have ex : ((n % 128 + 128 : Nat) : Int) = ((UInt8.ofNat (n % 128 + 128)).toNat : Int) := by rw [u8_ofNat]; omega
      have HX := Lib.hid ex
      have HD := Lib.hid hd
      clear ex hd hf
      go_enter Tryd.func42, Tryd.ntmps42
      go_wp2_with fail
      refine (ih (n / 128) _ HD.out (by omega) (by omega)).mono ?_
      rintro e w1 ⟨v, rfl, hrow, hb⟩
      obtain ⟨A, c, b, rfl, _, _, _, _, hsl, _⟩ := hrow.sl
      have r1 := (Row.lit1 w (UInt8.ofNat (n % 128 + 128)) _ HX.out).ext hb
      obtain ⟨A1, c1, b1, hv1, _, _, _, _, hsl1, _⟩ := r1.sl
      injection hv1 with hA1 hn1 hc1
      subst hA1
      subst hc1
      clear hn1
      have R := numF_length (f + 1) (n / 128)
      obtain ⟨tl, htl⟩ : ∃ tl, tl = numF (f + 1) (n / 128) := ⟨_, rfl⟩
      rw [← htl] at hrow hsl R
      rw [← htl]
      have HT := Lib.hid htl
      clear htl
      have hbs : w.heap.size + 1 ≤ w1.heap.size := by have := hb.size; simpa using this
      go_wp2_with fail
      have hbss := Bss.cons (w := w1) (n := 1) (c := 1) hsl1 rfl (Bss.cons (n := tl.length) (c := c) hsl rfl (Bss.nil_ w1))
      refine (Join_calls _ _ _ 2 2 _ _ (Sl.cells_new w1 _ _) (hbss.ext ((Below.refl _ _).alloc (Nat.le_refl _) _)) rfl (by simp [maxLen]) (by simp; omega)).mono ?_
      rintro e w2 ⟨v2, rfl, hrow2, hb2⟩
      clear hbss hsl hsl1 r1 hrow R ih small hn h100
      have HS := Lib.hid hs
      clear hs
      go_wp2_with fail
      go_ret
      have hb3 : Below w.heap.size w w1 := ((Below.refl _ _).alloc (Nat.le_refl _) _).trans (hb.mono (by simp))
      refine ⟨_, rfl, (hrow2.low (by simp; omega)).cast (by rw [numF_big _ _ (by have := HS.out; omega), ← HT.out]; simp), (hb3.alloc (by omega) _).trans (hb2.mono (by simp; omega))⟩

theorem Num_calls (n : Nat) (w : World) (hn : n ≤ 18446744073709551615) :
    Calls Tryd.prog 42 #[.int .u64 n] w fun e w' => ∃ v, e = .returned v ∧ Row w' w.heap.size v (num n) ∧ Below w.heap.size w w' :=
  Num_fuel 9 n w (by simp; omega) hn (by omega)
end Go.Proofs.YtdmjkgafnnjkkaaDoor
