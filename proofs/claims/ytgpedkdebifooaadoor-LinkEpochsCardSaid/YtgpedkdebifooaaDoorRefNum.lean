/- The reference's Num: a number in as few bytes as may be, seven bits each. Condition: it fits 64 bits. -/
import Derived.Test.YtgpedkdebifooaaDoorRefLow
namespace Go.Proofs.YtgpedkdebifooaaDoor
open Go.RowKit

/-- A number in as few bytes as may be, seven bits each. -/
def numF : Nat → Nat → List UInt8
  | 0, _ => []
  | f + 1, n => if n < 128 then [UInt8.ofNat n] else UInt8.ofNat (n % 128 + 128) :: numF f (n / 128)
def num (n : Nat) : List UInt8 := numF 10 n
theorem numF_length (f n : Nat) : (numF f n).length ≤ f := by
  induction f generalizing n with
  | zero => simp [numF]
  | succ f ih =>
    rw [numF]
    split
    · simp
    · simp only [List.length_cons]; have := ih (n / 128); omega
theorem numF_big (f n : Nat) (h : 128 ≤ n) : numF (f + 1) n = UInt8.ofNat (n % 128 + 128) :: numF f (n / 128) := by rw [numF, if_neg (by omega)]
theorem numF_small (f n : Nat) (h : n < 128) : numF (f + 1) n = [UInt8.ofNat n] := by rw [numF, if_pos h]

theorem Row.lit1 (w : World) (q : UInt8) (x : Int) (hx : x = (q.toNat : Int)) : Row (w.alloc (.cells #[.int .u8 x] 5)) w.heap.size (.slice (some ⟨w.heap.size, 0, none⟩) 1 1) [q] := by
  subst hx
  exact World.ownsRow_lit w #[.int .u8 (q.toNat : Int)] 1 (Nat.le_refl _) (by simp [maxLen]) rfl


end Go.Proofs.YtgpedkdebifooaaDoor
