/- (Dice).Split and Skip: the plain numbers; nothing that was there turns. Condition: Skip's number fits 64 bits. -/
import Derived.Test.YthjaodacakohkaaDiceAwake
namespace Go.Proofs.Ythjaodacakohkaa
open Go.RowKit

set_option maxHeartbeats 1000000 in
set_option maxRecDepth 20000 in
theorem Skip_calls (s : Nat) (n : Int) (w : World) (h0 : -9223372036854775808 ≤ n) (h1 : n ≤ 9223372036854775807) :
    Calls Try.prog 19 #[diceV s, .int .i64 n] w fun e w' => e = .returned (diceV (goesN s n.toNat)) ∧ Below w.heap.size w w' := by
  go_enter Try.func19, Try.ntmps19
  go_wp2_with fail
  all_goals
    refine bodyPost_ret (results_cell_row (P := Try.prog) rfl _ _ (w.heap.size + 1) _ _ (0, 0) _ rfl (heap_alloc2_new w _ _) Try.underlying26 rfl (by kernel_rfl)) rfl ⟨?_, below_alloc2 _ _ _⟩
    refine congrArg (fun z => Ending.returned (.agg #[.int .u64 z])) ?_
    simp only [IntKind.wrap_u64]
    unfold goesN strideN two64
    omega

set_option maxHeartbeats 1000000 in
set_option maxRecDepth 20000 in
theorem Split_calls (s : Nat) (w : World) :
    Calls Try.prog 20 #[diceV s] w fun e w' => e = .returned (.tuple #[diceV (nextN s * 4294967296 + nextN (goN s)), diceV (goN (goN s))]) ∧ Below w.heap.size w w' := by
  have hc := Next_calls s
  have hd := Next_calls (goN s)
  have lx := nextN_lt s
  have ly := nextN_lt (goN s)
  have hor : bits .or .u64 (((nextN s : Nat) : Int) * 4294967296) ((nextN (goN s) : Nat) : Int) = ((nextN s * 4294967296 + nextN (goN s) : Nat) : Int) := by
    rw [show (((nextN s : Nat) : Int) * 4294967296) = ((nextN s * 4294967296 : Nat) : Int) by omega, u64_or_nat _ _ (by omega) (by omega)]
    have := Nat.two_pow_add_eq_or_of_lt (i := 32) (show nextN (goN s) < 2 ^ 32 by omega) (nextN s)
    rw [Nat.mul_comm, show (4294967296 : Nat) = 2 ^ 32 from rfl, this]
  obtain ⟨x, hx⟩ : ∃ x, x = nextN s := ⟨_, rfl⟩
  obtain ⟨y, hy⟩ : ∃ y, y = nextN (goN s) := ⟨_, rfl⟩
  obtain ⟨h, hh⟩ : ∃ h, h = goN (goN s) := ⟨_, rfl⟩
  rw [← hy, ← hh] at hd
  rw [← hy] at hor ly
  rw [← hh, ← hy]
  obtain ⟨g, hg⟩ : ∃ g, g = goN s := ⟨_, rfl⟩
  rw [← hx, ← hg] at hc
  rw [← hg] at hd
  rw [← hx] at hor lx ⊢
  clear hx hy hh hg
  go_enter Try.func20, Try.ntmps20
  go_wp2_with fail
  have k0 : Box (((w.alloc (.cells #[.int .u64 (s : Int)] 26)).alloc (.cells #[.int .u64 0] 26)).alloc (.cells #[.int .u64 0] 26)) w.heap.size (.int .u64 (s : Int)) 26 := ((Box.new_ w _ _).alloc _).alloc _
  have k1 : Box (((w.alloc (.cells #[.int .u64 (s : Int)] 26)).alloc (.cells #[.int .u64 0] 26)).alloc (.cells #[.int .u64 0] 26)) (w.heap.size + 1) (.int .u64 0) 26 := by
    have := (Box.new_ (w.alloc (.cells #[.int .u64 (s : Int)] 26)) (.int .u64 0) 26).alloc (.cells #[.int .u64 0] 26)
    simpa using this
  have k2 : Box (((w.alloc (.cells #[.int .u64 (s : Int)] 26)).alloc (.cells #[.int .u64 0] 26)).alloc (.cells #[.int .u64 0] 26)) (w.heap.size + 1 + 1) (.int .u64 0) 26 := by
    have := Box.new_ ((w.alloc (.cells #[.int .u64 (s : Int)] 26)).alloc (.cells #[.int .u64 0] 26)) (.int .u64 0) 26
    simpa using this
  have kb := below_alloc3 w (.cells #[.int .u64 (s : Int)] 26) (.cells #[.int .u64 0] 26) (.cells #[.int .u64 0] 26)
  refine (hc _).mono ?_
  rintro e w1 ⟨rfl, hb⟩
  have m0 := k0.ext hb
  have m1 := k1.ext hb
  have m2 := k2.ext hb
  have mb := kb.trans (hb.mono kb.size)
  have mc := m0.cell
  have mf := m0.frozen
  clear hc hb k0 k1 k2 kb
  go_wp2_with fail
  have q0 := m0.set_ (.int .u64 (g : Int))
  have q1 := m1.other (p := ⟨w.heap.size, 0, none⟩) (by simp) (.int .u64 (g : Int))
  have q2 := m2.other (p := ⟨w.heap.size, 0, none⟩) (by simp; omega) (.int .u64 (g : Int))
  have qb := mb.setCell (p := ⟨w.heap.size, 0, none⟩) (Nat.le_refl _) (.int .u64 (g : Int))
  obtain ⟨W, hW⟩ : ∃ W, W = w1.setCell ⟨w.heap.size, 0, none⟩ (.int .u64 (g : Int)) := ⟨_, rfl⟩
  rw [← hW] at q0 q1 q2 qb ⊢
  have qc := q0.cell
  clear hW m0 m1 m2 mb mc mf
  go_wp2_with fail
  refine (hd _).mono ?_
  rintro e w2 ⟨rfl, hb⟩
  have m0 := q0.ext hb
  have m1 := q1.ext hb
  have m2 := q2.ext hb
  have mb := qb.trans (hb.mono qb.size)
  have mc := m0.cell
  have mf := m0.frozen
  clear hd hb q0 q1 q2 qb qc
  go_wp2_with fail
  have q0 := m0.set_ (.int .u64 (h : Int))
  have q1 := m1.other (p := ⟨w.heap.size, 0, none⟩) (by simp) (.int .u64 (h : Int))
  have q2 := m2.other (p := ⟨w.heap.size, 0, none⟩) (by simp; omega) (.int .u64 (h : Int))
  have qb := mb.setCell (p := ⟨w.heap.size, 0, none⟩) (Nat.le_refl _) (.int .u64 (h : Int))
  obtain ⟨V, hV⟩ : ∃ V, V = w2.setCell ⟨w.heap.size, 0, none⟩ (.int .u64 (h : Int)) := ⟨_, rfl⟩
  rw [← hV] at q0 q1 q2 qb ⊢
  have qc := q0.cell
  have c1 := q1.cell
  have c2 := q2.cell
  have f1 := q1.frozen
  have f2 := q2.frozen
  clear hV m0 m1 m2 mb mc mf
  go_region
  go_wp2_with fail
  have e1 := ((q1.set_ (.int .u64 ((x * 4294967296 + y : Nat) : Int))).other (p := ⟨w.heap.size + 1 + 1, 0, none⟩) (by simp) (.int .u64 (h : Int))).drew
  have e2 := ((q2.other (p := ⟨w.heap.size + 1, 0, none⟩) (by simp) (.int .u64 ((x * 4294967296 + y : Nat) : Int))).set_ (.int .u64 (h : Int))).drew
  refine bodyPost_ret (results_cc (P := Try.prog) rfl _ _ (w.heap.size + 1) (w.heap.size + 1 + 1) _ _ _ _ (0, 0) (0, 0) _ _ rfl e1 Try.underlying26 rfl (by kernel_rfl) rfl e2 Try.underlying26 rfl (by kernel_rfl)) rfl ⟨rfl, ?_⟩
  exact below_drew ((qb.setCell (by simp) _).setCell (by simp; omega) _)
end Go.Proofs.Ythjaodacakohkaa
