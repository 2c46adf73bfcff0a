/- DiceSplits: for every state the Go text returns true: of dice that are split the one begins with what the next two numbers are, the other one goes on behind them. No condition. -/
import Derived.Test.YthjaodacakohkaaSplit
namespace Go.Proofs.Ythjaodacakohkaa
open Go.RowKit

set_option maxHeartbeats 1000000 in
set_option maxRecDepth 20000 in
theorem DiceSplits_walk (s : Nat) (w : World) (_h : s ≤ 18446744073709551615) :
    Calls Try.prog 6 #[.int .u64 s] w fun e w' => e = .returned (.bool true) ∧ Below w.heap.size w w' := by
  have hS := Split_calls s
  have hc := RefNext_calls s
  have hd := RefNext_calls (goN s)
  have lx := nextN_lt s
  have ly := nextN_lt (goN s)
  have hm : IntKind.u64.wrap (((nextN s : Nat) : Int) * 4294967296) = ((nextN s : Nat) : Int) * 4294967296 := by
    rw [IntKind.wrap_u64]; omega
  have ha : IntKind.u64.wrap (((nextN s : Nat) : Int) * 4294967296 + ((nextN (goN s) : Nat) : Int)) = ((nextN s : Nat) : Int) * 4294967296 + ((nextN (goN s) : Nat) : Int) := by
    rw [IntKind.wrap_u64]; omega
  have hq : (((nextN s * 4294967296 + nextN (goN s) : Nat) : Int) == ((nextN s : Nat) : Int) * 4294967296 + ((nextN (goN s) : Nat) : Int)) = true := by
    simp only [beq_iff_eq]; omega
  obtain ⟨z, hz⟩ : ∃ z, z = nextN s * 4294967296 + nextN (goN s) := ⟨_, rfl⟩
  obtain ⟨x, hx⟩ : ∃ x, x = nextN s := ⟨_, rfl⟩
  obtain ⟨y, hy⟩ : ∃ y, y = nextN (goN s) := ⟨_, rfl⟩
  obtain ⟨h, hh⟩ : ∃ h, h = goN (goN s) := ⟨_, rfl⟩
  rw [← hz, ← hh] at hS
  rw [← hz] at hq
  rw [← hy, ← hh] at hd
  rw [← hy] at ly ha hq
  rw [← hx] at lx hm ha hq
  obtain ⟨g, hg⟩ : ∃ g, g = goN s := ⟨_, rfl⟩
  rw [← hx, ← hg] at hc
  rw [← hg] at hd
  clear hx hy hh hg hz
  go_enter Try.func6, Try.ntmps6
  go_wp2_with fail
  refine (awake_calls _).mono ?_
  rintro e w1 ⟨rfl, hb⟩
  go_wp2_with fail
  have m0 := Box.new_ w1 (.int .u64 (s : Int)) 26
  have mb := hb.alloc hb.size (.cells #[.int .u64 (s : Int)] 26)
  have mg := hb.size
  clear hb
  refine (hS _).mono ?_
  rintro e w2 ⟨rfl, hb⟩
  have k0 := m0.ext hb
  have kb := mb.trans (hb.mono mb.size)
  have kl := k0.lt
  clear hS hb m0 mb
  go_wp2_with fail
  have q0 := (k0.alloc (.cells #[.int .u64 (z : Int)] 26)).alloc (.cells #[.int .u64 (h : Int)] 26)
  have q1 := (Box.new_ w2 (.int .u64 (z : Int)) 26).alloc (.cells #[.int .u64 (h : Int)] 26)
  have q2 := Box.new_ (w2.alloc (.cells #[.int .u64 (z : Int)] 26)) (.int .u64 (h : Int)) 26
  rw [show (w2.alloc (.cells #[.int .u64 (z : Int)] 26)).heap.size = w2.heap.size + 1 by simp] at q2
  have qb := kb.trans ((below_alloc2 w2 (.cells #[.int .u64 (z : Int)] 26) (.cells #[.int .u64 (h : Int)] 26)).mono kb.size)
  obtain ⟨W, hW⟩ : ∃ W, W = (w2.alloc (.cells #[.int .u64 (z : Int)] 26)).alloc (.cells #[.int .u64 (h : Int)] 26) := ⟨_, rfl⟩
  rw [← hW] at q0 q1 q2 qb ⊢
  have c0 := q0.cell
  have c1 := q1.cell
  have c2 := q2.cell
  clear hW k0 kb kl q0 q1 q2
  refine (hc _).mono ?_
  rintro e w3 ⟨rfl, rfl⟩
  go_wp2_with fail
  refine (hd _).mono ?_
  rintro e w3 ⟨rfl, rfl⟩
  clear hc hd
  go_wp2_with fail
  go_ret
  exact ⟨rfl, qb⟩
end Go.Proofs.Ythjaodacakohkaa
