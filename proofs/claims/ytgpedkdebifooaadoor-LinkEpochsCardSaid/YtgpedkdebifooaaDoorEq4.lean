/- '==' on tails of sums: byte by byte. No condition. -/
import Derived.Test.YtgpedkdebifooaaDoorRows
import Derived.Test.YtgpedkdebifooaaDoorBase
namespace Go.Proofs.YtgpedkdebifooaaDoor
open Go.RowKit

theorem run_part_u8 (w : World) (xs : Array Value) (i : Nat) (v : Value) (h : xs[i]? = some v) : (part 5 xs i).run Tryd.prog w = .ok v w := by
  have h2 : (isAgg 5).run Tryd.prog w = .ok false w := by kernel_rfl
  simp [part, h2, h]
theorem run_eq4' (D : Nat) (w : World) (a b c d a' b' c' d' : Int) :
    (Op.equalIn (D + 1 + 1) 155 (.agg #[.int .u8 a, .int .u8 b, .int .u8 c, .int .u8 d]) (.agg #[.int .u8 a', .int .u8 b', .int .u8 c', .int .u8 d'])).run Tryd.prog w = .ok (a == a' && (b == b' && (c == c' && d == d'))) w := by
  have h : (sizeOf 5).run Tryd.prog w = .ok 1 w := by kernel_rfl
  have hu : Tryd.prog.underlying 155 = some (.array 4 5) := by kernel_rfl
  have he : ∀ x y : Int, (Op.equalIn (D + 1) 5 (.int .u8 x) (.int .u8 y)).run Tryd.prog w = .ok (x == y) w := fun x y => run_equalIn_int w D _ .u8 _ x y Tryd.underlying5
  have p0 := run_part_u8 w #[.int .u8 a, .int .u8 b, .int .u8 c, .int .u8 d] 0 (.int .u8 a) rfl
  have p1 := run_part_u8 w #[.int .u8 a, .int .u8 b, .int .u8 c, .int .u8 d] 1 (.int .u8 b) rfl
  have p2 := run_part_u8 w #[.int .u8 a, .int .u8 b, .int .u8 c, .int .u8 d] 2 (.int .u8 c) rfl
  have p3 := run_part_u8 w #[.int .u8 a, .int .u8 b, .int .u8 c, .int .u8 d] 3 (.int .u8 d) rfl
  have q0 := run_part_u8 w #[.int .u8 a', .int .u8 b', .int .u8 c', .int .u8 d'] 0 (.int .u8 a') rfl
  have q1 := run_part_u8 w #[.int .u8 a', .int .u8 b', .int .u8 c', .int .u8 d'] 1 (.int .u8 b') rfl
  have q2 := run_part_u8 w #[.int .u8 a', .int .u8 b', .int .u8 c', .int .u8 d'] 2 (.int .u8 c') rfl
  have q3 := run_part_u8 w #[.int .u8 a', .int .u8 b', .int .u8 c', .int .u8 d'] 3 (.int .u8 d') rfl
  rw [Op.equalIn]
  simp only [Sem.run_bind, run_underlying hu, Result.andThen_ok, h]
  simp only [Std.Legacy.Range.forIn_eq_forIn_range', Std.Legacy.Range.size, List.range', Nat.sub_zero, Nat.reduceAdd, Nat.reduceSub, Nat.reduceDiv, List.forIn_cons, List.forIn_nil, Sem.run_bind, Nat.mul_one, p0, q0, Result.andThen_ok, he]
  cases h0 : (a == a') <;> cases h1 : (b == b') <;> cases h2 : (c == c') <;> cases h3 : (d == d') <;> simp [Result.andThen, p1, p2, p3, q1, q2, q3, he, h1, h2, h3]
theorem run_eq4 (w : World) (a b c d a' b' c' d' : Int) :
    (Op.equalIn 10000 155 (.agg #[.int .u8 a, .int .u8 b, .int .u8 c, .int .u8 d]) (.agg #[.int .u8 a', .int .u8 b', .int .u8 c', .int .u8 d'])).run Tryd.prog w = .ok (a == a' && (b == b' && (c == c' && d == d'))) w :=
  run_eq4' 9998 w a b c d a' b' c' d'
end Go.Proofs.YtgpedkdebifooaaDoor
