/- (Acks).Note of the next number, and all of Note. Conditions: the numbers fit; the library's table lies as it lays it. -/
import Derived.Test.YtdkfmgadipfipaaDoorNote2
namespace Go.Proofs.YtdkfmgadipfipaaDoor
open Go.RowKit

theorem flip32 {y : Nat} (h : y < 4294967296) : bits .xor .u32 (if IntKind.u32.signed = true then -1 else IntKind.u32.max) (y : Int) = ((4294967295 - y : Nat) : Int) := by
  have hx : 4294967295 - y = 4294967295 ^^^ y := by
    apply Nat.eq_of_testBit_eq
    intro i
    have h1 := Nat.testBit_two_pow_sub_succ (n := 32) (x := y) h i
    have h2 : (4294967295 : Nat).testBit i = decide (i < 32) := Nat.testBit_two_pow_sub_one 32 i
    rw [Nat.testBit_xor, h2, show 4294967295 - y = 2 ^ 32 - (y + 1) by omega, h1]
    by_cases hi : i < 32
    · simp [hi]
    · have h3 : y.testBit i = false := Nat.testBit_lt_two_pow (Nat.lt_of_lt_of_le h (Nat.pow_le_pow_right (n := 2) (by omega) (show 32 ≤ i by omega)))
      simp [hi, h3]
  rw [if_neg (by decide), show IntKind.u32.max = ((4294967295 : Nat) : Int) from rfl, u32_xor_nat _ _ (by omega) (by omega), hx]
theorem shr32 {y c : Nat} (hy : y < 4294967296) (hc : c ≤ 32) : Op.shift .shr .u32 (y : Int) .i64 (1 + (c : Int)) = pure (.int .u32 ((y / 2 ^ (1 + c) : Nat) : Int)) := by
  rw [shift_shr_any _ _ _ _ (by omega)]
  have h1 : min (1 + (c : Int)).toNat IntKind.u32.bits = min (1 + c) 32 := by
    rw [show (1 + (c : Int)).toNat = 1 + c by omega]; rfl
  rw [h1]
  by_cases h : 1 + c ≤ 32
  · rw [Nat.min_eq_left h]; simp
  · have hc2 : c = 32 := by omega
    subst hc2
    have h2 : y / 2 ^ 33 = 0 := Nat.div_eq_of_lt (by omega)
    have h3 : (y : Int) / 4294967296 = 0 := by omega
    simp [h2, h3]
set_option maxHeartbeats 4000000 in
set_option maxRecDepth 20000 in
theorem Note_next (x y x' y' : Nat) (w : World) (hTab : Tab w) (hx : x < 65536) (hy : y < 4294967296) (h : noteN x y x = some (x', y')) :
    Calls Tryd.prog 16 #[acksV x y, .int .u16 x] w fun e w' => e = .returned (.tuple #[acksV x' y', .bool true]) ∧ Below w.heap.size w w' := by
  have hH := Has_calls x y x
  have hT := To_calls x x
  rw [toI_self x hx] at hT
  rw [hasN_next x y hx] at hH
  have hcl := come_le y hy
  have hcase : x' = (x + 1 + come y) % 65536 ∧ y' = y / 2 ^ (1 + come y) := by
    unfold noteN at h
    rw [hasN_next x y hx, toI_self x hx] at h
    simp at h
    exact ⟨h.1.symm, h.2.symm⟩
  obtain ⟨hx', hy'⟩ := hcase
  have hfl := flip32 hy
  have hZ := Tz_calls (4294967295 - y) (by omega)
  rw [show Lib.ctz 32 (4294967295 - y) = come y from rfl] at hZ
  obtain ⟨z, hz⟩ : ∃ z, z = 4294967295 - y := ⟨_, rfl⟩
  obtain ⟨c, hc⟩ : ∃ c, c = come y := ⟨_, rfl⟩
  rw [← hz] at hfl hZ
  rw [← hc] at hZ hcl hx' hy'
  have hA := Add_calls x (1 + (c : Int)) x'
  have hA2 : (x' : Int) = ((x : Int) + (1 + (c : Int))) % 65536 := by rw [hx']; omega
  have HA := Lib.hid hA2
  have HY := Lib.hid hy'
  have hsh := shr32 (y := y) (c := c) hy hcl
  rw [← hy'] at hsh
  have hZl : z < 4294967296 := by omega
  clear h hx' hy' hc hA2 hz
  have k0 := (Box2.new_ w (.int .u16 (x : Int)) (.int .u32 (y : Int))).alloc (.cells #[.int .u16 0, .int .u32 0] 34)
  have k1 := Box2.new_ (w.alloc (.cells #[.int .u16 (x : Int), .int .u32 (y : Int)] 34)) (.int .u16 0) (.int .u32 0)
  rw [show (w.alloc (.cells #[.int .u16 (x : Int), .int .u32 (y : Int)] 34)).heap.size = w.heap.size + 1 by simp] at k1
  have kb := below_alloc2 w (.cells #[.int .u16 (x : Int), .int .u32 (y : Int)] 34) (.cells #[.int .u16 0, .int .u32 0] 34)
  go_enter Tryd.func16, Tryd.ntmps16
  go_wp2_with fail
  refine (hH _ hx hy hx).mono ?_
  rintro e w1 ⟨rfl, hb⟩
  have m0 := k0.ext hb
  have m1 := k1.ext hb
  have mb := kb.trans (hb.mono kb.size)
  have mt := Tab.ext hTab mb
  have a0 := m0.c0
  have a1 := m0.c1
  clear hH hb k0 k1 kb
  go_wp2_with fail
  refine (hT _ hx hx).mono ?_
  rintro e w2 ⟨rfl, rfl⟩
  go_wp2_with fail
  refine (hZ _ mt).mono ?_
  rintro e w3 ⟨rfl, rfl⟩
  have f0 := m0.f 0
  have f1 := m0.f 1
  have HT := Lib.hid mt
  clear hT hZ mt
  go_wp2_with fail
  refine (hA _ HA.out).mono ?_
  rintro e w4 ⟨rfl, rfl⟩
  clear hA hfl
  have b0 := m1.c0
  have b1 := m1.c1
  have g0 := m1.f 0
  have g1 := m1.f 1
  go_wp2_with fail
  have M0 := m1.other (p := ⟨w.heap.size, 0, none⟩) (by simp) (.int .u16 (x' : Int))
  have M1 := M0.other (p := ⟨w.heap.size, 1, none⟩) (by simp) (.int .u32 (y' : Int))
  have qb := (mb.setCell (p := ⟨w.heap.size, 0, none⟩) (Nat.le_refl _) (.int .u16 (x' : Int))).setCell (p := ⟨w.heap.size, 1, none⟩) (Nat.le_refl _) (.int .u32 (y' : Int))
  have hE := (M1.set0 (.int .u16 (x' : Int))).set1 (.int .u32 (y' : Int))
  refine bodyPost_ret (results_ct (P := Tryd.prog) rfl _ _ (w.heap.size + 1) _ _ (0, 0) _ rfl hE Tryd.underlying34 rfl (by kernel_rfl)) rfl ⟨rfl, ?_⟩
  exact (qb.setCell (by simp) _).setCell (by simp) _
/-- Note, whatever is noted. -/
theorem Note_calls (x y s : Nat) (w : World) (hTab : Tab w) (hx : x < 65536) (hy : y < 4294967296) (hs : s < 65536) :
    Calls Tryd.prog 16 #[acksV x y, .int .u16 s] w fun e w' => e = .returned (noteV x y (noteN x y s)) ∧ Below w.heap.size w w' := by
  cases h : noteN x y s with
  | none => exact Note_none x y s w hx hy hs h
  | some p =>
    obtain ⟨x', y'⟩ := p
    by_cases h0 : toI x s = 0
    · have he : x = s := (toI_zero hx hs).1 h0
      subst he
      exact Note_next x y x' y' w hTab hx hy h
    · exact Note_bit x y s x' y' w hx hy hs h h0
end Go.Proofs.YtdkfmgadipfipaaDoor
