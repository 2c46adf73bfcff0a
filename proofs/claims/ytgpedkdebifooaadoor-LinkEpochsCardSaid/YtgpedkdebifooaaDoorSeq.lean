/- (Seq).To, Add, Less: the plain numbers that go round. Conditions: the numbers fit 16 bits. -/
import Derived.Test.YtgpedkdebifooaaDoorRows
import Derived.Test.YtgpedkdebifooaaDoorBox
import Derived.Test.YtgpedkdebifooaaDoorRound
namespace Go.Proofs.YtgpedkdebifooaaDoor
open Go.RowKit

theorem wrap_i16' (n : Int) : IntKind.i16.wrap n = (n + 32768) % 65536 - 32768 := by
  simp [IntKind.wrap, IntKind.bits, IntKind.signed]
  split <;> omega
theorem to_wrap {a b : Nat} (ha : a < 65536) (hb : b < 65536) : IntKind.u16.wrap ((b : Int) - (a : Int)) = (((b + 65536 - a) % 65536 : Nat) : Int) := by
  rw [IntKind.wrap_u16]; omega
theorem to_wrap2 {a b : Nat} (_ha : a < 65536) (_hb : b < 65536) : IntKind.i16.wrap (((b + 65536 - a) % 65536 : Nat) : Int) = toI a b := by
  rw [wrap_i16']
  unfold toI
  split <;> omega
set_option maxHeartbeats 1000000 in
set_option maxRecDepth 20000 in
theorem To_calls (a b : Nat) (w : World) (ha : a < 65536) (hb : b < 65536) :
    Calls Tryd.prog 70 #[.int .u16 a, .int .u16 b] w fun e w' => e = .returned (.int .i64 (toI a b)) ∧ w' = w := by
  have h1 := to_wrap ha hb
  have h2 := to_wrap2 ha hb
  have hl := toI_bounds a b
  obtain ⟨D, hD⟩ : ∃ D, D = (b + 65536 - a) % 65536 := ⟨_, rfl⟩
  obtain ⟨r, hr⟩ : ∃ r, r = toI a b := ⟨_, rfl⟩
  rw [← hD] at h1 h2
  rw [← hr] at h2 hl
  rw [← hr]
  clear hD hr
  obtain ⟨hl1, hl2⟩ := hl
  go_enter Tryd.func70, Tryd.ntmps70
  go_wp2_with fail
  go_ret
  exact ⟨rfl, rfl⟩
set_option maxHeartbeats 1000000 in
set_option maxRecDepth 20000 in
theorem Add_calls (a : Nat) (n : Int) (r : Nat) (w : World) (hr : (r : Int) = ((a : Int) + n) % 65536) :
    Calls Tryd.prog 68 #[.int .u16 a, .int .i64 n] w fun e w' => e = .returned (.int .u16 r) ∧ w' = w := by
  have h1 : IntKind.u16.wrap ((a : Int) + IntKind.u16.wrap n) = (r : Int) := by
    rw [IntKind.wrap_u16, IntKind.wrap_u16, hr]; omega
  have H := Lib.hid h1
  clear h1 hr
  go_enter Tryd.func68, Tryd.ntmps68
  go_wp2_with fail
  go_ret
  exact ⟨by rw [← H.out]; rfl, rfl⟩
end Go.Proofs.YtgpedkdebifooaaDoor
