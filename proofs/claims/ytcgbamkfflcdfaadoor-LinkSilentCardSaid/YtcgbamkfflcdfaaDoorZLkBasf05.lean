/- Parts of one proof, in their order. -/
import Derived.Test.YtcgbamkfflcdfaaDoorZLkBasf04
import Derived.BigRegion
import Derived.Outline
import Derived.Deep.RegionWith
/- (Acks).Note: the plain word. Conditions: the numbers fit; the library's table lies as it lays it. -/
namespace Go.Proofs.YtcgbamkfflcdfaaDoor
open Go.RowKit

/-- A variable of two cells. -/
def Box2 (w : World) (g : Nat) (a b : Value) : Prop := w.heap[g]? = some (.cells #[a, b] 45 (0, 0))
namespace Box2
variable {w w' : World} {g : Nat} {a b : Value}
theorem new_ (w : World) (a b : Value) : Box2 (w.alloc (.cells #[a, b] 45)) w.heap.size a b := heap_alloc_new w _
theorem lt (h : Box2 w g a b) : g < w.heap.size := (Array.getElem?_eq_some_iff.1 h).1
theorem c0 (h : Box2 w g a b) : w.cell? ⟨g, 0, none⟩ = some a := by rw [cell_of_row w g 0 _ _ _ h]; rfl
theorem c1 (h : Box2 w g a b) : w.cell? ⟨g, 1, none⟩ = some b := by rw [cell_of_row w g 1 _ _ _ h]; rfl
theorem f (h : Box2 w g a b) (j : Nat) : w.frozen? ⟨g, j, none⟩ = false := frozen_of_row w g j _ _ h
theorem ext (h : Box2 w g a b) (hb : Below w.heap.size w w') : Box2 w' g a b := (hb.block g h.lt).trans h
theorem alloc (h : Box2 w g a b) (o : Obj) : Box2 (w.alloc o) g a b := (Below.heap_alloc w o g h.lt).trans h
theorem set0 (h : Box2 w g a b) (u : Value) : Box2 (w.setCell ⟨g, 0, none⟩ u) g u b := heap_setCell_same w g 0 _ _ u h
theorem set1 (h : Box2 w g a b) (u : Value) : Box2 (w.setCell ⟨g, 1, none⟩ u) g a u := heap_setCell_same w g 1 _ _ u h
theorem other (h : Box2 w g a b) {p : Addr} (hp : g ≠ p.block) (u : Value) : Box2 (w.setCell p u) g a b := (heap_setCell_other w p g u hp).trans h
theorem drew (h : Box2 w g a b) : Box2 w.drew g a b := h
end Box2
theorem Tab.ext {w w' : World} (h : Tab w) (hb : Below w.heap.size w w') : Tab w' := fun j hj => by
  have h1 := h j hj
  exact (hb.cell (World.block_lt_of_cell? w _ h1)).trans h1
/-- What Note answers. -/
def noteV (x y : Nat) : Option (Nat × Nat) → Value
  | none => .tuple #[acksV x y, .bool false]
  | some (a, b) => .tuple #[acksV a b, .bool true]
set_option maxHeartbeats 4000000 in
set_option maxRecDepth 20000 in
theorem Note_none (x y s : Nat) (w : World) (hx : x < 65536) (hy : y < 4294967296) (hs : s < 65536) (h : noteN x y s = none) :
    Calls Tryd.prog 72 #[acksV x y, .int .u16 s] w fun e w' => e = .returned (.tuple #[acksV x y, .bool false]) ∧ Below w.heap.size w w' := by
  have hH := Has_calls x y s
  have hT := To_calls x s
  have hbt := toI_bounds x s
  have hcase : hasN x y s = true ∨ (hasN x y s = false ∧ 32 < toI x s) := by
    unfold noteN at h
    split at h
    · rename_i h1
      cases hh : hasN x y s
      · right
        exact ⟨rfl, by rcases h1 with h2 | h2; rw [hh] at h2; cases h2; exact h2⟩
      · left; rfl
    · split at h <;> cases h
  clear h
  have k0 := (Box2.new_ w (.int .u16 (x : Int)) (.int .u32 (y : Int))).alloc (.cells #[.int .u16 0, .int .u32 0] 45)
  have k1 := Box2.new_ (w.alloc (.cells #[.int .u16 (x : Int), .int .u32 (y : Int)] 45)) (.int .u16 0) (.int .u32 0)
  rw [show (w.alloc (.cells #[.int .u16 (x : Int), .int .u32 (y : Int)] 45)).heap.size = w.heap.size + 1 by simp] at k1
  have kb := below_alloc2 w (.cells #[.int .u16 (x : Int), .int .u32 (y : Int)] 45) (.cells #[.int .u16 0, .int .u32 0] 45)
  rcases hcase with hc | ⟨hc, hgt⟩
  · rw [hc] at hH
    clear hc hT hbt
    go_enter Tryd.func72, Tryd.ntmps72
    go_wp2_with fail
    refine (hH _ hx hy hs).mono ?_
    rintro e w1 ⟨rfl, hb⟩
    have m0 := k0.ext hb
    have m1 := k1.ext hb
    have mb := kb.trans (hb.mono kb.size)
    have a0 := m0.c0
    have a1 := m0.c1
    have b0 := m1.c0
    have b1 := m1.c1
    have f0 := m1.f 0
    have f1 := m1.f 1
    clear hH hb k0 k1 kb
    go_wp2_with fail
    have hE := (m1.set0 (.int .u16 (x : Int))).set1 (.int .u32 (y : Int))
    refine bodyPost_ret (results_ct (P := Tryd.prog) rfl _ _ (w.heap.size + 1) _ _ (0, 0) _ rfl hE Tryd.underlying45 rfl (by kernel_rfl)) rfl ⟨rfl, ?_⟩
    exact (mb.setCell (by simp) _).setCell (by simp) _
  · rw [hc] at hH
    obtain ⟨r, hr⟩ : ∃ r, r = toI x s := ⟨_, rfl⟩
    rw [← hr] at hT hbt hgt
    obtain ⟨hb1, hb2⟩ := hbt
    clear hc hr
    go_enter Tryd.func72, Tryd.ntmps72
    go_wp2_with fail
    refine (hH _ hx hy hs).mono ?_
    rintro e w1 ⟨rfl, hb⟩
    have m0 := k0.ext hb
    have m1 := k1.ext hb
    have mb := kb.trans (hb.mono kb.size)
    have a0 := m0.c0
    have a1 := m0.c1
    have b0 := m1.c0
    have b1 := m1.c1
    have f0 := m1.f 0
    have f1 := m1.f 1
    clear hH hb k0 k1 kb
    go_wp2_with fail
    refine (hT _ hx hs).mono ?_
    rintro e w2 ⟨rfl, rfl⟩
    go_wp2_with fail
    have hE := (m1.set0 (.int .u16 (x : Int))).set1 (.int .u32 (y : Int))
    refine bodyPost_ret (results_ct (P := Tryd.prog) rfl _ _ (w.heap.size + 1) _ _ (0, 0) _ rfl hE Tryd.underlying45 rfl (by kernel_rfl)) rfl ⟨rfl, ?_⟩
    exact (mb.setCell (by simp) _).setCell (by simp) _
end Go.Proofs.YtcgbamkfflcdfaaDoor
/- (Acks).Note where the number is new: one that is further on, and the next one. Conditions: the numbers fit; the library's table lies as it lays it. -/
namespace Go.Proofs.YtcgbamkfflcdfaaDoor
open Go.RowKit

set_option maxHeartbeats 4000000 in
set_option maxRecDepth 20000 in
theorem Note_bit (x y s x' y' : Nat) (w : World) (hx : x < 65536) (hy : y < 4294967296) (hs : s < 65536) (h : noteN x y s = some (x', y')) (hne : toI x s ≠ 0) :
    Calls Tryd.prog 72 #[acksV x y, .int .u16 s] w fun e w' => e = .returned (.tuple #[acksV x' y', .bool true]) ∧ Below w.heap.size w w' := by
  have hH := Has_calls x y s
  have hT := To_calls x s
  have hB := bit_calls x y s
  have hbt := toI_bounds x s
  have hcase : hasN x y s = false ∧ toI x s ≤ 32 ∧ 0 < toI x s ∧ x' = x ∧ y' = y ||| bitN x s := by
    unfold noteN at h
    split at h
    · cases h
    · rename_i h1
      have hge : ¬ toI x s < 0 := fun h2 => h1 (.inl (has_neg h2))
      injection h with h
      injection h with h2 h3
      refine ⟨by cases hh : hasN x y s; rfl; exact absurd (.inl hh) h1, by omega, by omega, h2.symm, ?_⟩
      rw [← h3]
      unfold bitN
      rw [if_pos ⟨by omega, by omega⟩]
  obtain ⟨hc, hle, hgt, rfl, hy'⟩ := hcase
  have hl := bitN_lt x' s
  have hor : bits .or .u32 (y : Int) ((bitN x' s : Nat) : Int) = ((y' : Nat) : Int) := by rw [hy']; exact u32_or_nat y _ (by omega) (by omega)
  have hsx : ((s : Int) != (x' : Int)) = true := by
    simp only [bne_iff_ne, ne_eq]
    intro he
    exact hne ((toI_zero hx hs).2 (by omega))
  obtain ⟨t, ht⟩ : ∃ t, t = bitN x' s := ⟨_, rfl⟩
  obtain ⟨r, hr⟩ : ∃ r, r = toI x' s := ⟨_, rfl⟩
  rw [← ht] at hB hor
  rw [← hr] at hT hbt hle
  rw [hc] at hH
  obtain ⟨hb1, hb2⟩ := hbt
  clear h hne hgt hc hr ht hy' hl
  have k0 := (Box2.new_ w (.int .u16 (x' : Int)) (.int .u32 (y : Int))).alloc (.cells #[.int .u16 0, .int .u32 0] 45)
  have k1 := Box2.new_ (w.alloc (.cells #[.int .u16 (x' : Int), .int .u32 (y : Int)] 45)) (.int .u16 0) (.int .u32 0)
  rw [show (w.alloc (.cells #[.int .u16 (x' : Int), .int .u32 (y : Int)] 45)).heap.size = w.heap.size + 1 by simp] at k1
  have kb := below_alloc2 w (.cells #[.int .u16 (x' : Int), .int .u32 (y : Int)] 45) (.cells #[.int .u16 0, .int .u32 0] 45)
  go_enter Tryd.func72, Tryd.ntmps72
  go_wp2_with fail
  refine (hH _ hx hy hs).mono ?_
  rintro e w1 ⟨rfl, hb⟩
  have m0 := k0.ext hb
  have m1 := k1.ext hb
  have mb := kb.trans (hb.mono kb.size)
  have a0 := m0.c0
  have a1 := m0.c1
  clear hH hb k0 k1 kb
  go_wp2_with fail
  refine (hT _ hx hs).mono ?_
  rintro e w2 ⟨rfl, rfl⟩
  go_wp2_with fail
  have f1 := m0.f 1
  have n0 := m0.lt
  have hB' : ∀ W : World, W.heap = w2.heap → W.os = w2.os → W.tape = w2.tape → W.output = w2.output → Calls Tryd.prog 71 #[acksV x' y, .int .u16 s] W fun e w' => e = .returned (.int .u32 (t : Nat)) ∧ w'.cell? ⟨w.heap.size, 0, none⟩ = some (.int .u16 (x' : Int)) ∧ w'.cell? ⟨w.heap.size, 1, none⟩ = some (.int .u32 (y : Int)) ∧ w'.frozen? ⟨w.heap.size, 1, none⟩ = false ∧ Box2 w' w.heap.size (.int .u16 (x' : Int)) (.int .u32 (y : Int)) ∧ Box2 w' (w.heap.size + 1) (.int .u16 0) (.int .u32 0) ∧ Below w.heap.size w w' := by
    intro W h1 h2 h3 h4
    refine (hB W hx hs).mono ?_
    rintro e w' ⟨he, hb⟩
    have p0 : Box2 W w.heap.size (.int .u16 (x' : Int)) (.int .u32 (y : Int)) := by unfold Box2; rw [h1]; exact m0
    have p1 : Box2 W (w.heap.size + 1) (.int .u16 0) (.int .u32 0) := by unfold Box2; rw [h1]; exact m1
    have pb : Below w.heap.size w W := ⟨h2.trans mb.os, h3.trans mb.tape, h4.trans mb.output, by rw [h1]; exact mb.size, fun k hk => by rw [h1]; exact mb.block k hk⟩
    have q0 := p0.ext hb
    exact ⟨he, q0.c0, q0.c1, q0.f 1, q0, p1.ext hb, pb.trans (hb.mono pb.size)⟩
  go_region_with (go_at_call 71; refine (hB' w2.drew rfl rfl rfl rfl).mono ?_; rintro e w3 ⟨rfl, g0, g1, gf, G0, G1, gb⟩)
  all_goals
    have q0 := G0.set1 (.int .u32 (y' : Int))
    have q1 := G1.other (p := ⟨w.heap.size, 1, none⟩) (by simp) (.int .u32 (y' : Int))
    have qb := gb.setCell (p := ⟨w.heap.size, 1, none⟩) (Nat.le_refl _) (.int .u32 (y' : Int))
    have r0 := q0.c0
    have r1 := q0.c1
    have s0 := q1.c0
    have s1 := q1.c1
    have t0 := q1.f 0
    have t1 := q1.f 1
    clear g0 g1 gf G0 G1 gb hB' m0 m1 mb a0 a1 f1 n0
    go_wp2_with fail
    have hE := (q1.set0 (.int .u16 (x' : Int))).set1 (.int .u32 (y' : Int))
    refine bodyPost_ret (results_ct (P := Tryd.prog) rfl _ _ (w.heap.size + 1) _ _ (0, 0) _ rfl hE Tryd.underlying45 rfl (by kernel_rfl)) rfl ⟨rfl, ?_⟩
    exact (qb.setCell (by simp) _).setCell (by simp) _
end Go.Proofs.YtcgbamkfflcdfaaDoor
/- (Acks).Note of the next number, and all of Note. Conditions: the numbers fit; the library's table lies as it lays it. -/
namespace Go.Proofs.YtcgbamkfflcdfaaDoor
open Go.RowKit

theorem flip32 {y : Nat} (h : y < 4294967296) : bits .xor .u32 (if IntKind.u32.signed = true then -1 else IntKind.u32.max) (y : Int) = ((4294967295 - y : Nat) : Int) := by
  have hx : 4294967295 - y = 4294967295 ^^^ y := by
    apply Nat.eq_of_testBit_eq
    intro i
    have h1 := Nat.testBit_two_pow_sub_succ (n := 32) (x := y) h i
    have h2 : (4294967295 : Nat).testBit i = decide (i < 32) := Nat.testBit_two_pow_sub_one 32 i
    rw [Nat.testBit_xor, h2, show 4294967295 - y = 2 ^ 32 - (y + 1) by omega, h1]
    by_cases hi : i < 32
    · simp [hi]
    · have h3 : y.testBit i = false := Nat.testBit_lt_two_pow (Nat.lt_of_lt_of_le h (Nat.pow_le_pow_right (n := 2) (by omega) (show 32 ≤ i by omega)))
      simp [hi, h3]
  rw [if_neg (by decide), show IntKind.u32.max = ((4294967295 : Nat) : Int) from rfl, u32_xor_nat _ _ (by omega) (by omega), hx]
theorem shr32 {y c : Nat} (hy : y < 4294967296) (hc : c ≤ 32) : Op.shift .shr .u32 (y : Int) .i64 (1 + (c : Int)) = pure (.int .u32 ((y / 2 ^ (1 + c) : Nat) : Int)) := by
  rw [shift_shr_any _ _ _ _ (by omega)]
  have h1 : min (1 + (c : Int)).toNat IntKind.u32.bits = min (1 + c) 32 := by
    rw [show (1 + (c : Int)).toNat = 1 + c by omega]; rfl
  rw [h1]
  by_cases h : 1 + c ≤ 32
  · rw [Nat.min_eq_left h]; simp
  · have hc2 : c = 32 := by omega
    subst hc2
    have h2 : y / 2 ^ 33 = 0 := Nat.div_eq_of_lt (by omega)
    have h3 : (y : Int) / 4294967296 = 0 := by omega
    simp [h2, h3]
set_option maxHeartbeats 4000000 in
set_option maxRecDepth 20000 in
theorem Note_next (x y x' y' : Nat) (w : World) (hTab : Tab w) (hx : x < 65536) (hy : y < 4294967296) (h : noteN x y x = some (x', y')) :
    Calls Tryd.prog 72 #[acksV x y, .int .u16 x] w fun e w' => e = .returned (.tuple #[acksV x' y', .bool true]) ∧ Below w.heap.size w w' := by
  have hH := Has_calls x y x
  have hT := To_calls x x
  rw [toI_self x hx] at hT
  rw [hasN_next x y hx] at hH
  have hcl := come_le y hy
  have hcase : x' = (x + 1 + come y) % 65536 ∧ y' = y / 2 ^ (1 + come y) := by
    unfold noteN at h
    rw [hasN_next x y hx, toI_self x hx] at h
    simp at h
    exact ⟨h.1.symm, h.2.symm⟩
  obtain ⟨hx', hy'⟩ := hcase
  have hfl := flip32 hy
  have hZ := Tz_calls (4294967295 - y) (by omega)
  rw [show Lib.ctz 32 (4294967295 - y) = come y from rfl] at hZ
  obtain ⟨z, hz⟩ : ∃ z, z = 4294967295 - y := ⟨_, rfl⟩
  obtain ⟨c, hc⟩ : ∃ c, c = come y := ⟨_, rfl⟩
  rw [← hz] at hfl hZ
  rw [← hc] at hZ hcl hx' hy'
  have hA := Add_calls x (1 + (c : Int)) x'
  have hA2 : (x' : Int) = ((x : Int) + (1 + (c : Int))) % 65536 := by rw [hx']; omega
  have HA := Lib.hid hA2
  have HY := Lib.hid hy'
  have hsh := shr32 (y := y) (c := c) hy hcl
  rw [← hy'] at hsh
  have hZl : z < 4294967296 := by omega
  clear h hx' hy' hc hA2 hz
  have k0 := (Box2.new_ w (.int .u16 (x : Int)) (.int .u32 (y : Int))).alloc (.cells #[.int .u16 0, .int .u32 0] 45)
  have k1 := Box2.new_ (w.alloc (.cells #[.int .u16 (x : Int), .int .u32 (y : Int)] 45)) (.int .u16 0) (.int .u32 0)
  rw [show (w.alloc (.cells #[.int .u16 (x : Int), .int .u32 (y : Int)] 45)).heap.size = w.heap.size + 1 by simp] at k1
  have kb := below_alloc2 w (.cells #[.int .u16 (x : Int), .int .u32 (y : Int)] 45) (.cells #[.int .u16 0, .int .u32 0] 45)
  go_enter Tryd.func72, Tryd.ntmps72
  go_wp2_with fail
  refine (hH _ hx hy hx).mono ?_
  rintro e w1 ⟨rfl, hb⟩
  have m0 := k0.ext hb
  have m1 := k1.ext hb
  have mb := kb.trans (hb.mono kb.size)
  have mt := Tab.ext hTab mb
  have a0 := m0.c0
  have a1 := m0.c1
  clear hH hb k0 k1 kb
  go_wp2_with fail
  refine (hT _ hx hx).mono ?_
  rintro e w2 ⟨rfl, rfl⟩
  go_wp2_with fail
  refine (hZ _ mt).mono ?_
  rintro e w3 ⟨rfl, rfl⟩
  have f0 := m0.f 0
  have f1 := m0.f 1
  have HT := Lib.hid mt
  clear hT hZ mt
  go_wp2_with fail
  refine (hA _ HA.out).mono ?_
  rintro e w4 ⟨rfl, rfl⟩
  clear hA hfl
  have b0 := m1.c0
  have b1 := m1.c1
  have g0 := m1.f 0
  have g1 := m1.f 1
  go_wp2_with fail
  have M0 := m1.other (p := ⟨w.heap.size, 0, none⟩) (by simp) (.int .u16 (x' : Int))
  have M1 := M0.other (p := ⟨w.heap.size, 1, none⟩) (by simp) (.int .u32 (y' : Int))
  have qb := (mb.setCell (p := ⟨w.heap.size, 0, none⟩) (Nat.le_refl _) (.int .u16 (x' : Int))).setCell (p := ⟨w.heap.size, 1, none⟩) (Nat.le_refl _) (.int .u32 (y' : Int))
  have hE := (M1.set0 (.int .u16 (x' : Int))).set1 (.int .u32 (y' : Int))
  refine bodyPost_ret (results_ct (P := Tryd.prog) rfl _ _ (w.heap.size + 1) _ _ (0, 0) _ rfl hE Tryd.underlying45 rfl (by kernel_rfl)) rfl ⟨rfl, ?_⟩
  exact (qb.setCell (by simp) _).setCell (by simp) _
/-- Note, whatever is noted. -/
theorem Note_calls (x y s : Nat) (w : World) (hTab : Tab w) (hx : x < 65536) (hy : y < 4294967296) (hs : s < 65536) :
    Calls Tryd.prog 72 #[acksV x y, .int .u16 s] w fun e w' => e = .returned (noteV x y (noteN x y s)) ∧ Below w.heap.size w w' := by
  cases h : noteN x y s with
  | none => exact Note_none x y s w hx hy hs h
  | some p =>
    obtain ⟨x', y'⟩ := p
    by_cases h0 : toI x s = 0
    · have he : x = s := (toI_zero hx hs).1 h0
      subst he
      exact Note_next x y x' y' w hTab hx hy h
    · exact Note_bit x y s x' y' w hx hy hs h h0
end Go.Proofs.YtcgbamkfflcdfaaDoor
/- What comes in order: what a link holds of it, plainly, and how it lies. No condition: plain lemmas. -/
namespace Go.Proofs.YtcgbamkfflcdfaaDoor
open Go.RowKit
set_option linter.unusedVariables false

/-- What came ahead of its turn, the basket; the messages told, the last error. -/
structure Kp where
  E : Nat → Option Pc
  k : Bk
  out : List (List UInt8)
  err : Nat
def pcz : Pc := ⟨false, false, []⟩
def putK (s : Kp) (t : Nat) : Kp :=
  ⟨fun u => if u = t then none else s.E u, (putB s.k ((s.E t).getD pcz)).1, if (putB s.k ((s.E t).getD pcz)).2.2.1 then s.out ++ [(putB s.k ((s.E t).getD pcz)).2.1] else s.out, if (putB s.k ((s.E t).getD pcz)).2.2.2 = 0 then s.err else (putB s.k ((s.E t).getD pcz)).2.2.2⟩
/-- m of them, one behind the other, from number t on. -/
def drainK (s : Kp) (t : Nat) : Nat → Kp
  | 0 => s
  | m + 1 => putK (drainK s t m) ((t + m) % 65536)
/-- How many numbers lie ahead. -/
def aheadN (x y : Nat) : Nat := (y + 65536 - x) % 65536
theorem ahead_end {x y j : Nat} (hx : x < 65536) (hy : y < 65536) (hj : j ≤ aheadN x y) : (x + j) % 65536 = y ↔ j = aheadN x y := by
  unfold aheadN at hj ⊢
  omega
theorem putB_held {k : Bk} {x : Pc} (h : k.held.length ≤ 1024) : (putB k x).1.held.length ≤ 1024 := by
  unfold putB
  split
  · exact h
  · split
    · simp
    · rename_i h2
      have h3 := refuse_ok (k := k) (x := x) (by simpa using h2)
      split
      · simp
      · simp only [List.length_append]; omega
theorem putB_whole {k : Bk} {x : Pc} (h : (putB k x).2.2.1 = true) : (putB k x).1.held = [] := by
  unfold putB at h ⊢
  split
  · rename_i h1; rw [if_pos h1] at h; cases h
  · rename_i h1
    rw [if_neg h1] at h
    split
    · rfl
    · rename_i h2
      rw [if_neg h2] at h
      split
      · rfl
      · rename_i h3; rw [if_neg h3] at h; cases h
theorem putB_err (k : Bk) (x : Pc) : (putB k x).2.2.2 ≤ 4 := by
  have h := refuse_le k x
  unfold putB
  split
  · simp
  · split
    · exact h
    · split <;> simp
def PV.val (x : PV) : Value := .agg #[.bool x.p.first, .bool x.p.last, .slice x.A x.p.data.length x.c]
abbrev EP := Nat → Option PV
def valE (E : EP) : EF := fun t => (E t).map PV.val
def plE (E : EP) : Nat → Option Pc := fun t => (E t).map PV.p
theorem pz_in (w : World) : PV.In w pz := ⟨Sl.nil_ _ _ _, by simp [pz, maxLen]⟩
theorem PV.In.mod {w w' : World} {x : PV} (h : PV.In w x) {S : Nat → Prop} (hm : Mod S w w') (hs : x.p.data ≠ [] → ¬ S x.b) : PV.In w' x := ⟨Bs.modne h.1 hm hs, h.2⟩
theorem row_notmap {w : World} {B n sz : Nat} {e : TypeId} {v : Value} {xs : List Value} (hr : w.ownsRow B e sz v n xs) {bm : Nat} (hm : ∃ es clock, w.heap[bm]? = some (.map es clock)) : v.ownBlock ≠ some bm := by
  obtain ⟨es, cl, hm⟩ := hm
  intro hv
  rcases hr.2 with ⟨rfl, _⟩ | ⟨g', cap, cur, rfl, _, hh, _⟩
  · simp [Value.ownBlock] at hv
  · have : g' = bm := by simpa [Value.ownBlock] using hv
    subst this
    rw [hh] at hm
    cases hm
/-- A keep's round: how all of it lies. -/
structure KS (C : PV → Prop) (w wr : World) (B g : Nat) (P : BP) (vh0 : Value) (n ba cn cb : Nat) (E : EP) (s : Kp) (vh vo : Value) (us : List Value) : Prop where
  kin : KIn P wr B g vh s.k
  mp : Mp wr P.bm n (valE E)
  hE : plE E = s.E
  at_ : ∀ i, vh.ownBlock = some i → vh0.ownBlock = some i ∨ w.heap.size ≤ i
  pcs : ∀ t x, E t = some x → PV.In wr x ∧ (x.p.data ≠ [] → x.b < w.heap.size ∧ ¬ x.b = g ∧ ¬ x.b = P.bm ∧ vh.ownBlock ≠ some x.b)
  cs : ∀ t x, E t = some x → C x
  rs : RowS wr w.heap.size vo us
  ins : RowsIn wr B us s.out
  apt : ∀ u ∈ us, ∀ i, u.ownBlock = some i → vh.ownBlock ≠ some i
  ib : ∀ u ∈ us, ∀ i, u.ownBlock = some i → vh0.ownBlock = some i ∨ w.heap.size ≤ i
  mod : Mod (fun i => i = g ∨ i = P.bm ∨ vh0.ownBlock = some i) w wr
  box : Box2 wr ba (.int .u16 (cn : Int)) (.int .u32 (cb : Int))
  hk : s.k.held.length ≤ 1024
  hB : B ≤ w.heap.size
  hg : g < w.heap.size
  hm : P.bm < w.heap.size
namespace KS
variable {C : PV → Prop} {w wr wr' : World} {B g : Nat} {P : BP} {vh0 : Value} {n ba cn cb : Nat} {E : EP} {s : Kp} {vh vo : Value} {us : List Value}
theorem size (h : KS C w wr B g P vh0 n ba cn cb E s vh vo us) : w.heap.size ≤ wr.heap.size := h.mod.size
theorem ext (h : KS C w wr B g P vh0 n ba cn cb E s vh vo us) (hb : Below wr.heap.size wr wr') : KS C w wr' B g P vh0 n ba cn cb E s vh vo us :=
  ⟨h.kin.ext hb, h.mp.ext hb, h.hE, h.at_, fun t x hx => ⟨(h.pcs t x hx).1.ext hb, (h.pcs t x hx).2⟩, h.cs, h.rs.ext hb, h.ins.ext hb, h.apt, h.ib, h.mod.trans (Mod.of_below hb) (fun i _ h => h) (fun i hi h9 => absurd hi (by have := h.size; omega)), h.box.ext hb, h.hk, h.hB, h.hg, h.hm⟩
theorem gm (h : KS C w wr B g P vh0 n ba cn cb E s vh vo us) : ¬ g = P.bm := fun e => by
  obtain ⟨es, cl, hm⟩ := h.mp.isMap
  have h1 := h.kin.box
  unfold BoxK LkB at h1
  rw [← e, h1] at hm
  cases hm
theorem piece (h : KS C w wr B g P vh0 n ba cn cb E s vh vo us) (t : Nat) : PV.In wr ((E t).getD pz) ∧ ((E t).getD pz).p = (s.E t).getD pcz ∧ ((E t).map PV.val).getD pcZ = ((E t).getD pz).val ∧ (((E t).getD pz).p.data ≠ [] → ((E t).getD pz).b ≠ g) := by
  have h1 : PV.In wr ((E t).getD pz) ∧ (((E t).getD pz).p.data ≠ [] → ((E t).getD pz).b ≠ g) := by
    cases hx : E t with
    | none => exact ⟨pz_in wr, fun h => absurd rfl h⟩
    | some x => exact ⟨(h.pcs t x hx).1, fun h0 => ((h.pcs t x hx).2 h0).2.1⟩
  refine ⟨h1.1, ?_, ?_, h1.2⟩
  · rw [← h.hE]
    unfold plE
    cases E t <;> rfl
  · cases E t <;> rfl
/-- Behind the basket's Put. -/
theorem put (h : KS C w wr B g P vh0 n ba cn cb E s vh vo us) {x : Pc} {v2 : Value} (hk : KIn P wr' B g v2 (putB s.k x).1) (hm : Mod (fun i => i = g ∨ vh.ownBlock = some i) wr wr') (hat : v2.ownBlock = vh.ownBlock ∨ v2.ownBlock = none ∨ ∃ j, v2.ownBlock = some j ∧ wr.heap.size ≤ j) :
    KS C w wr' B g P vh0 n ba cn cb E { s with k := (putB s.k x).1 } v2 vo us := by
  have hmap := h.mp.isMap
  have hne : ∀ {i : Nat}, i < wr.heap.size → vh.ownBlock ≠ some i → v2.ownBlock ≠ some i := fun {i} hi h1 h2 => by
    rcases hat with h3 | h3 | ⟨j, h3, h4⟩
    · exact h1 (h3 ▸ h2)
    · rw [h3] at h2; cases h2
    · rw [h3] at h2; injection h2 with h2; omega
  refine ⟨hk, h.mp.mod hm ?_, h.hE, fun i hi => ?_, fun t y hy => ?_, h.cs, h.rs.mod hm ?_, ⟨h.ins.1, fun i l hl => ?_⟩, fun u hu i hi => ?_, h.ib, h.mod.trans hm (fun i _ h => h) (fun i hi h9 => ?_), ?_, putB_held h.hk, h.hB, h.hg, h.hm⟩
  · rintro (h1 | h1)
    · exact h.gm h1.symm
    · exact row_notmap h.kin.row hmap h1
  · rcases hat with h3 | h3 | ⟨j, h3, h4⟩
    · exact h.at_ i (h3 ▸ hi)
    · rw [h3] at hi; cases hi
    · rw [h3] at hi; injection hi with hi; exact .inr (by have := h.size; omega)
  · obtain ⟨h1, h2⟩ := h.pcs t y hy
    refine ⟨h1.mod hm fun h0 => ?_, fun h0 => ⟨(h2 h0).1, (h2 h0).2.1, (h2 h0).2.2.1, hne (Nat.lt_of_lt_of_le (h2 h0).1 h.size) (h2 h0).2.2.2⟩⟩
    rintro (h3 | h3)
    · exact (h2 h0).2.1 h3
    · exact (h2 h0).2.2.2 h3
  · rintro k hk (h1 | h1)
    · exact row_apart h.rs h.kin.box (by decide) (h1 ▸ hk)
    · exact own_apartS h.rs h.kin.row (by decide) hk h1
  · obtain ⟨u, h1, h2⟩ := h.ins.2 i l hl
    refine ⟨u, h1, h2.mod hm ?_⟩
    rintro k hk (h3 | h3)
    · exact row_apart h2 h.kin.box (by decide) (h3 ▸ hk)
    · exact h.apt u (List.mem_of_getElem? h1) k hk h3
  · refine hne ?_ (h.apt u hu i hi)
    obtain ⟨j, hj, hju⟩ := List.getElem_of_mem hu
    have hjl : j < s.out.length := by rw [← h.ins.1]; exact hj
    obtain ⟨u', h1, h2⟩ := h.ins.2 j s.out[j] (List.getElem?_eq_getElem hjl)
    rw [List.getElem?_eq_getElem hj] at h1
    injection h1 with h1
    rw [hju] at h1
    subst h1
    exact (World.ownsRow.lt h2 i hi).2
  · rcases h9 with h9 | h9
    · exact .inl h9
    · rcases h.at_ i h9 with h8 | h8
      · exact .inr (.inr h8)
      · omega
  · refine (hm.block ba h.box.lt ?_).trans h.box
    rintro (h1 | h1)
    · have h2 := h.box
      have h3 := h.kin.box
      unfold Box2 at h2
      unfold BoxK LkB at h3
      rw [h1, h3] at h2
      injection h2 with h2
      injection h2 with _ h2 _
      exact absurd h2 (by decide)
    · exact row_apart h.kin.row h.box (by decide) h1
/-- Behind the map's delete. -/
theorem del (h : KS C w wr B g P vh0 n ba cn cb E s vh vo us) {t : Nat} (hp : Mp wr' P.bm n (updE (valE E) t none)) (hm : Mod (fun i => i = P.bm) wr wr') :
    KS C w wr' B g P vh0 n ba cn cb (fun u => if u = t then none else E u) { s with E := fun u => if u = t then none else s.E u } vh vo us := by
  have hmap := h.mp.isMap
  have e1 : updE (valE E) t none = valE (fun u => if u = t then none else E u) := by
    funext u
    unfold updE valE
    by_cases e : u = t <;> simp [e]
  refine ⟨⟨h.kin.box.mod hm h.gm, h.kin.row.mod hm (fun k hk hh => row_notmap h.kin.row hmap (hh ▸ hk)), h.kin.none_⟩, e1 ▸ hp, ?_, h.at_, fun u x hx => ?_, fun u x hx => ?_, h.rs.mod hm (fun k hk hh => row_notmap h.rs hmap (hh ▸ hk)), ⟨h.ins.1, fun i l hl => ?_⟩, h.apt, h.ib, h.mod.trans hm (fun i _ h => h) (fun i hi h9 => .inr (.inl h9)), (hm.block ba h.box.lt ?_).trans h.box, h.hk, h.hB, h.hg, h.hm⟩
  · have h1 := h.hE
    funext u
    unfold plE
    have h2 := congrFun h1 u
    unfold plE at h2
    by_cases e : u = t
    · simp [e]
    · simp only [if_neg e]; exact h2
  · by_cases e : u = t
    · simp [e] at hx
    · simp only [if_neg e] at hx
      obtain ⟨h1, h2⟩ := h.pcs u x hx
      exact ⟨h1.mod hm (fun h0 => (h2 h0).2.2.1), h2⟩
  · by_cases e : u = t
    · simp [e] at hx
    · simp only [if_neg e] at hx
      exact h.cs u x hx
  · obtain ⟨u, h1, h2⟩ := h.ins.2 i l hl
    exact ⟨u, h1, h2.mod hm (fun k hk hh => row_notmap h2 hmap (hh ▸ hk))⟩
  · intro e
    obtain ⟨es, cl, hm2⟩ := hmap
    have h2 := h.box
    unfold Box2 at h2
    rw [e, hm2] at h2
    cases h2
/-- Behind the append of a message. -/
theorem app (h : KS C w wr B g P vh0 n ba cn cb E s vh vo us) {u vo' : Value} {l : List UInt8} (hu : Row wr B u l) (ha : ∀ i, u.ownBlock = some i → vh.ownBlock ≠ some i) (hib : ∀ i, u.ownBlock = some i → vh0.ownBlock = some i ∨ w.heap.size ≤ i) (hr : RowS wr' w.heap.size vo' (us ++ [u])) (hm : Mod (fun i => vo.ownBlock = some i) wr wr') :
    KS C w wr' B g P vh0 n ba cn cb E { s with out := s.out ++ [l] } vh vo' (us ++ [u]) := by
  have hlt : ∀ i, vo.ownBlock = some i → w.heap.size ≤ i := fun i hi => (World.ownsRow.lt h.rs i hi).1
  refine ⟨⟨h.kin.box.mod hm (row_apart h.rs h.kin.box (by decide)), h.kin.row.mod hm (fun k hk hh => own_apartS h.kin.row h.rs (by decide) hk hh), h.kin.none_⟩, h.mp.mod hm (row_notmap h.rs h.mp.isMap), h.hE, h.at_, fun t x hx => ⟨(h.pcs t x hx).1.mod hm (fun h0 hh => ?_), (h.pcs t x hx).2⟩, h.cs, hr, (h.ins.mod h.rs hm).snoc (hu.mod hm fun k hk hh => own_apartS hu h.rs (by decide) hk hh), fun y hy i hi => ?_, fun y hy i hi => ?_, h.mod.trans hm (fun i _ h => h) (fun i hi h9 => absurd hi (by have := hlt i h9; omega)), (hm.block ba h.box.lt (row_apart h.rs h.box (by decide))).trans h.box, h.hk, h.hB, h.hg, h.hm⟩
  · have h1 := hlt _ hh
    have h2 := ((h.pcs t x hx).2 h0).1
    omega
  · rcases List.mem_append.1 hy with hy | hy
    · exact h.apt y hy i hi
    · rw [List.mem_singleton] at hy
      exact ha i (hy ▸ hi)
  · rcases List.mem_append.1 hy with hy | hy
    · exact h.ib y hy i hi
    · rw [List.mem_singleton] at hy
      exact hib i (hy ▸ hi)
theorem err (h : KS C w wr B g P vh0 n ba cn cb E s vh vo us) (m : Nat) : KS C w wr B g P vh0 n ba cn cb E { s with err := m } vh vo us :=
  ⟨h.kin, h.mp, h.hE, h.at_, h.pcs, h.cs, h.rs, h.ins, h.apt, h.ib, h.mod, h.box, h.hk, h.hB, h.hg, h.hm⟩
/-- How it begins: the number is noted, the piece is kept. -/
theorem start {w1 w2 w3 : World} {L : Lk} {vw vf : Value} {bm cn' cb' t : Nat} {k : Bk} {y : PV} (hk : KIn ⟨L, vw, vf, bm⟩ w B g vh k) (hmp : Mp w bm n (valE E)) (hpc : ∀ t x, E t = some x → PV.In w x ∧ (x.p.data ≠ [] → ¬ x.b = g ∧ ¬ x.b = bm ∧ vh.ownBlock ≠ some x.b)) (hC : ∀ t x, E t = some x → C x) (hCy : C y) (hy : PV.In w y ∧ (y.p.data ≠ [] → ¬ y.b = g ∧ ¬ y.b = bm ∧ vh.ownBlock ≠ some y.b)) (hkl : k.held.length ≤ 1024) (hB : B ≤ w.heap.size)
    (hb1 : Below w.heap.size w w1) (hbox : Box2 w1 ba (.int .u16 (cn' : Int)) (.int .u32 (cb' : Int))) (hba : w.heap.size ≤ ba)
    (h2 : w2 = (w1.setCell ⟨g, 4, none⟩ (.int .u16 (cn' : Int))).setCell ⟨g, 5, none⟩ (.int .u32 (cb' : Int))) (hmp3 : Mp w3 bm (n + 1) (updE (valE E) t (some y.val))) (hm3 : Mod (fun i => i = bm) w2 w3) :
    KS C w w3 B g ⟨{ L with cn := cn', cb := cb' }, vw, vf, bm⟩ vh (n + 1) ba cn' cb' (fun u => if u = t then some y else E u) ⟨plE fun u => if u = t then some y else E u, k, [], 0⟩ vh (.slice none 0 0) [] := by
  have hgl := hk.box.lt
  have hmap := hmp.isMap
  have hml := hmp.lt
  have hm2 : Mod (fun i => i = g) w1 w2 := by
    rw [h2]
    exact (Mod.setCell w1 ⟨g, 4, none⟩ _).trans (Mod.setCell _ ⟨g, 5, none⟩ _) (fun _ _ h => h) (fun _ _ h => h)
  have hgm : ¬ g = bm := fun e => by
    obtain ⟨es, cl, hm⟩ := hmap
    have h1 := hk.box
    unfold BoxK LkB at h1
    simp only at h1
    rw [← e, h1] at hm
    cases hm
  have hM : Mod (fun i => i = g ∨ i = bm) w w3 := ((Mod.of_below hb1).trans hm2 (S := fun i => i = g ∨ i = bm) (fun i hi h => absurd hi (by omega)) (fun i _ h => .inl h)).trans hm3 (fun i _ h => h) (fun i _ h => .inr h)
  have hbox2 : LkB w2 g bm { { L with cn := cn', cb := cb' } with lv := k.leaving } vw vf vh := by
    rw [h2]
    exact heap_setCell_same _ g 5 _ _ _ (heap_setCell_same w1 g 4 _ _ _ (hk.box.ext hb1))
  have hin : ∀ x, (PV.In w x ∧ (x.p.data ≠ [] → ¬ x.b = g ∧ ¬ x.b = bm ∧ vh.ownBlock ≠ some x.b)) → PV.In w3 x ∧ (x.p.data ≠ [] → x.b < w.heap.size ∧ ¬ x.b = g ∧ ¬ x.b = bm ∧ vh.ownBlock ≠ some x.b) := fun x hx => ⟨hx.1.mod hM (fun h0 h9 => by
    rcases h9 with h9 | h9
    · exact (hx.2 h0).1 h9
    · exact (hx.2 h0).2.1 h9), fun h0 => ⟨Bs.lt hx.1.1 h0, hx.2 h0⟩⟩
  refine ⟨⟨LkB.mod hbox2 hm3 hgm, hk.row.mod hM (fun k2 h8 h9 => ?_), hk.none_⟩, ?_, rfl, fun i hi => .inl hi, fun u x hx => ?_, fun u x hx => ?_, RowS.nil_ _ _, RowsIn.nil_ _ _, fun u hu => (by cases hu), fun u hu => (by cases hu), hM.mono (fun i _ h => by rcases h with h | h; exact .inl h; exact .inr (.inl h)), ?_, hkl, hB, hgl, hml⟩
  · rcases h9 with h9 | h9
    · exact row_apart hk.row hk.box (by decide) (h9 ▸ h8)
    · exact row_notmap hk.row hmap (h9 ▸ h8)
  · have e1 : updE (valE E) t (some y.val) = valE (fun u => if u = t then some y else E u) := by
      funext u
      unfold updE valE
      by_cases e : u = t <;> simp [e]
    rw [← e1]
    exact hmp3
  · by_cases e : u = t
    · simp only [if_pos e] at hx
      injection hx with hx
      subst hx
      exact hin _ hy
    · simp only [if_neg e] at hx
      exact hin _ (hpc u x hx)
  · by_cases e : u = t
    · simp only [if_pos e] at hx
      injection hx with hx
      exact hx ▸ hCy
    · simp only [if_neg e] at hx
      exact hC u x hx
  · have hbl := hbox.lt
    refine (hm3.block ba (Nat.lt_of_lt_of_le hbl hm2.size) (by omega)).trans ((hm2.block ba hbl (by omega)).trans hbox)
end KS
end Go.Proofs.YtcgbamkfflcdfaaDoor
/- keep of a link. Conditions: those said. -/
namespace Go.Proofs.YtcgbamkfflcdfaaDoor
open Go.RowKit
set_option linter.unusedVariables false

/-- What keep leaves, and tells. -/
structure KpO (C : PV → Prop) (w w' : World) (B g : Nat) (P : BP) (vh : Value) (n cn cb : Nat) (s : Kp) (vo : Value) : Prop where
  out : ∃ vh' E' us ba, KS C w w' B g P vh n ba cn cb E' s vh' vo us
section
variable {ops : Array Oper} {S : World → Prop} {op o : Oper} {a : Act} {w : World} {K : Act → World → Prop} {Q : Exit → Act → World → Prop}
theorem yk_ldM (hw : Region.wanted op (yielded ops a.tmps) = true) (x : Operand) (ho : op.op = .load 81 x) (p : Addr) (v : Value) (hx : a.eval x = .pointer (some p)) (hS : ∀ w, S w → w.cell? p = some v) : YieldsIf Tryd.prog ops S op v a :=
  .inl ⟨hw, fun w h => by
    have hc := hS w h
    unfold execOp
    simp only [ho, hx]
    go_simp⟩
theorem wp_alA (ho : o.op = .alloc 45) (h : K (a.put o.dst (.pointer (some ⟨w.heap.size, 0, none⟩))) (w.alloc (.cells #[.int .u16 0, .int .u32 0] 45))) : o.wp Tryd.prog a w K Q := by
  have hz : (zeroValue 45).run Tryd.prog w = .ok (.agg #[.int .u16 0, .int .u32 0]) w := by kernel_rfl
  unfold Oper.wp execOp
  simp only [ho, Instr.alloc, newVar, newRow, run_newObj_alloc, Sem.run_bind, Sem.run_pure, Result.andThen_ok, hz, Value.cells]
  exact h
theorem wp_callF (f : FuncId) (args : Array Value) (hrun : (execOp a.eval o).run Tryd.prog w = .ok (.enter f args) w)
    (hc : Calls Tryd.prog f args w fun e w' => ∃ v, e = .returned v ∧ K (a.put o.dst v) w') : o.wp Tryd.prog a w K Q := by
  unfold Oper.wp
  rw [hrun, Oper.upon_enter]
  refine hc.mono fun e w'' hh => ?_
  obtain ⟨v, rfl, hk⟩ := hh
  exact hk
theorem mod_setRow (w : World) (g : Nat) (cs : Array Value) : Mod (fun i => i = g) w (w.setRow g cs) := ⟨rfl, rfl, rfl, by simp [World.setRow], fun k _ hk => setRow_other w g k cs hk⟩
theorem wp_stA (x y : Operand) (ho : o.op = .store 45 x y) (b : Nat) (u v u0 v0 : Value) (hx : a.eval x = .pointer (some ⟨b, 0, none⟩)) (hy : a.eval y = .agg #[u, v]) (hb : Box2 w b u0 v0) (hu : u.oneCell' = true) (hv : v.oneCell' = true)
    (h : K (a.put o.dst undef) (w.setRow b #[u, v])) : o.wp Tryd.prog a w K Q :=
  wp_store_row 45 x y ho b #[u, v] hx hy _ _ hb (by kernel_rfl) rfl (by simp [hu, hv]) h
end
set_option maxHeartbeats 16000000 in
set_option maxRecDepth 40000 in
theorem keep_none (C : PV → Prop) (B g bm : Nat) (L : Lk) (vw vf vh : Value) (n : Nat) (E : EP) (k : Bk) (f : Fr) (Af : Option Addr) (cf bf0 : Nat) (w : World) (hT : Tab w) (hk : KIn ⟨L, vw, vf, bm⟩ w B g vh k) (hmp : Mp w bm n (valE E)) (hpc : ∀ t x, E t = some x → PV.In w x ∧ (x.p.data ≠ [] → ¬ x.b = g ∧ ¬ x.b = bm ∧ vh.ownBlock ≠ some x.b)) (hC : ∀ t x, E t = some x → C x) (hCy : C ⟨⟨f.first, f.last, f.data⟩, Af, cf, bf0⟩) (hy : PV.In w ⟨⟨f.first, f.last, f.data⟩, Af, cf, bf0⟩ ∧ (f.data ≠ [] → ¬ bf0 = g ∧ ¬ bf0 = bm ∧ vh.ownBlock ≠ some bf0)) (hkl : k.held.length ≤ 1024) (hB : B ≤ w.heap.size) (hn : n ≤ 1000000) (hcn : L.cn < 65536) (hcb : L.cb < 4294967296) (hs : f.seq < 65536) (hnote : noteN L.cn L.cb f.seq = none) :
    Calls Tryd.prog 40 #[.pointer (some ⟨g, 0, none⟩), .agg (f.cells Af cf)] w fun e w' => e = .returned (.tuple #[.slice none 0 0, .int .i64 0]) ∧ Below w.heap.size w w' := by
  have hN := fun W hTW => Note_calls L.cn L.cb f.seq W hTW hcn hcb hs
  rw [hnote] at hN
  have hbx := below_alloc1 w (.cells (f.cells Af cf) 47)
  obtain ⟨bf, hbf⟩ : ∃ bf, bf = w.heap.size := ⟨_, rfl⟩
  have z : FrX (w.alloc (.cells (f.cells Af cf) 47)) bf f Af cf := by rw [hbf]; exact heap_alloc_new w _
  have q0 : LkB w g bm { L with lv := k.leaving } vw vf vh := hk.box
  have q : LkB (w.alloc (.cells (f.cells Af cf) 47)) g bm { L with lv := k.leaving } vw vf vh := q0.ext hbx
  have hgl := q0.lt
  have hTz := Tab.ext hT hbx
  obtain ⟨cn, hcn0⟩ : ∃ cn, cn = L.cn := ⟨_, rfl⟩
  have HC0 := Lib.hid hcn0
  clear hcn0
  have c4 := q.c4
  have hap := hk.box.apart hk.row
  clear hk hmp hpc hy hkl hap hC hCy
  go_enter Tryd.func40, Tryd.ntmps40
  go_wp2_with fail
  rw [← hbf]
  obtain ⟨wz, hwz⟩ : ∃ wz, wz = w.alloc (.cells (f.cells Af cf) 47) := ⟨_, rfl⟩
  rw [← hwz] at hbx z q hTz ⊢
  have hbfw : w.heap.size ≤ bf := by omega
  clear hwz hbf c4
  refine wp_region_E (fun j => false) (fun w9 => LkB w9 g bm { L with lv := k.leaving } vw vf vh ∧ FrX w9 bf f Af cf) (by kernel_rfl) ?_ (fun hHeld => ?_)
  · exact (by exact ⟨q, z⟩)
  obtain ⟨wd5', hwd⟩ : ∃ wd5', wd5' = World.drew wz := ⟨_, rfl⟩
  have h9 : Below wz.heap.size wz wd5' := by rw [hwd]; exact below_drew (Below.refl _ _)
  rw [← hwd] at hHeld ⊢
  clear hwd
  replace q := q.ext h9
  replace z := z.ext h9
  replace hbx := hbx.trans (h9.mono hbx.size)
  replace hTz := Tab.ext hTz h9
  clear h9
  refine wpAnyE_take (i := 0) (by simp only [List.getElem?_toArray]; rfl) (by kernel_rfl) (by kernel_rfl) (by kernel_rfl) (by kernel_rfl) (by kernel_rfl) (by exact fun _ _ _ h => h) (by exact yk (.pointer (some ⟨g, 0, none⟩)) (by kernel_rfl) (fun _ => by kernel_rfl)) hHeld ?_
  refine wpAnyE_take (i := 1) (by simp only [List.getElem?_toArray]; rfl) (by kernel_rfl) (by kernel_rfl) (by kernel_rfl) (by kernel_rfl) (by kernel_rfl) (by exact fun _ _ _ h => h) (by exact yk (.pointer (some ⟨g, 0, none⟩)) (by kernel_rfl) (fun _ => by kernel_rfl)) hHeld ?_
  refine wpAnyE_take (i := 2) (by simp only [List.getElem?_toArray]; rfl) (by kernel_rfl) (by kernel_rfl) (by kernel_rfl) (by kernel_rfl) (by kernel_rfl) (by exact fun _ _ _ h => h) (by exact yk (.pointer (some ⟨g, 4, none⟩)) (by kernel_rfl) (fun _ => by kernel_rfl)) hHeld ?_
  refine wpAnyE_take (i := 3) (by simp only [List.getElem?_toArray]; rfl) (by kernel_rfl) (by kernel_rfl) (by kernel_rfl) (by kernel_rfl) (by kernel_rfl) (by exact fun _ _ _ h => h) (by exact yk_ldA (by kernel_rfl) (.tmp 22) rfl g (.int .u16 (L.cn : Int)) (.int .u32 (L.cb : Int)) (by kernel_rfl) (fun w hh => ⟨hh.1.c4, hh.1.c5⟩)) hHeld ?_
  refine wpAnyE_take (i := 4) (by simp only [List.getElem?_toArray]; rfl) (by kernel_rfl) (by kernel_rfl) (by kernel_rfl) (by kernel_rfl) (by kernel_rfl) (by exact fun _ _ _ h => h) (by exact yk (.pointer (some ⟨bf, 1, none⟩)) (by kernel_rfl) (fun _ => by kernel_rfl)) hHeld ?_
  refine wpAnyE_take (i := 5) (by simp only [List.getElem?_toArray]; rfl) (by kernel_rfl) (by kernel_rfl) (by kernel_rfl) (by kernel_rfl) (by kernel_rfl) (by exact fun _ _ _ h => h) (by exact yk_ldQ (by kernel_rfl) (.tmp 24) rfl ⟨bf, 1, none⟩ (.int .u16 (f.seq : Int)) (by kernel_rfl) (fun w hh => hh.2.c1)) hHeld ?_
  try simp only [Act.put, List.setIfInBounds_toArray, List.set_cons_zero, List.set_cons_succ]
  refine wpAnyE_ready (rs := [6, 10]) (by kernel_rfl) (by simp) ?_
  refine EachE.cons (by rfl) (by simp only [List.getElem?_toArray]; rfl) (fun KK hKK => ?_) (EachE.cons (by rfl) (by simp only [List.getElem?_toArray]; rfl) (fun KK hKK => ?_) EachE.nil)
  ·
   rw [if_pos (by kernel_rfl)]
   refine wp_callF 72 #[.agg #[.int .u16 (L.cn : Int), .int .u32 (L.cb : Int)], .int .u16 (f.seq : Int)] (by kernel_rfl) ?_
   refine (hN _ hTz).mono ?_
   rintro e w6' ⟨rfl, h9⟩
   refine ⟨_, rfl, ?_⟩
   rw [show noteV L.cn L.cb (none) = .tuple #[.agg #[.int .u16 (L.cn : Int), .int .u32 (L.cb : Int)], .bool false] from rfl]
   replace q := q.ext h9
   replace z := z.ext h9
   replace hbx := hbx.trans (h9.mono hbx.size)
   clear h9
   refine hKK.out _ _ ?_ (fun hHeld => ?_)
   · exact (by exact ⟨q, z⟩)
   clear hKK KK
   refine wpAnyE_take (i := 7) (by simp only [List.getElem?_toArray]; rfl) (by kernel_rfl) (by kernel_rfl) (by kernel_rfl) (by kernel_rfl) (by kernel_rfl) (by exact fun _ _ _ h => h) (by exact yk (.tuple #[.agg #[.int .u16 (L.cn : Int), .int .u32 (L.cb : Int)], .bool false]) (by kernel_rfl) (fun _ => by kernel_rfl)) hHeld ?_
   refine wpAnyE_take (i := 8) (by simp only [List.getElem?_toArray]; rfl) (by kernel_rfl) (by kernel_rfl) (by kernel_rfl) (by kernel_rfl) (by kernel_rfl) (by exact fun _ _ _ h => h) (by exact yk (.agg #[.int .u16 (L.cn : Int), .int .u32 (L.cb : Int)]) (by kernel_rfl) (fun _ => by kernel_rfl)) hHeld ?_
   refine wpAnyE_take (i := 9) (by simp only [List.getElem?_toArray]; rfl) (by kernel_rfl) (by kernel_rfl) (by kernel_rfl) (by kernel_rfl) (by kernel_rfl) (by exact fun _ _ _ h => h) (by exact yk (.bool false) (by kernel_rfl) (fun _ => by kernel_rfl)) hHeld ?_
   try simp only [Act.put, List.setIfInBounds_toArray, List.set_cons_zero, List.set_cons_succ]
   refine wpAnyE_ready (rs := [10]) (by kernel_rfl) (by simp) ?_
   refine EachE.cons (by rfl) (by simp only [List.getElem?_toArray]; rfl) (fun KK hKK => ?_) EachE.nil
   rw [if_pos (by kernel_rfl)]
   refine wp_alA rfl ?_
   have y := Box2.new_ w6' (.int .u16 0) (.int .u32 0)
   obtain ⟨ba, hba⟩ : ∃ ba, ba = w6'.heap.size := ⟨_, rfl⟩
   have hbaw : w.heap.size ≤ ba := by have := hbx.size; omega
   have hbf9 : ¬ bf = ba := by have := z.lt; omega
   have hgb9 : ¬ g = ba := by have := q.lt; omega
   have h9 := below_alloc1 w6' (.cells #[.int .u16 0, .int .u32 0] 45)
   obtain ⟨w7', e⟩ : ∃ w7', w7' = World.alloc w6' (.cells #[.int .u16 0, .int .u32 0] 45) := ⟨_, rfl⟩
   rw [← hba] at y ⊢
   rw [← e] at y h9 ⊢
   clear e hba
   replace q := q.ext h9
   replace z := z.ext h9
   replace hbx := hbx.trans (h9.mono hbx.size)
   clear h9
   refine hKK.out _ _ ?_ (fun hHeld => ?_)
   · exact (by exact ⟨q, z⟩)
   clear hKK KK
   try simp only [Act.put, List.setIfInBounds_toArray, List.set_cons_zero, List.set_cons_succ]
   refine wpAnyE_ready (rs := [11]) (by kernel_rfl) (by simp) ?_
   refine EachE.cons (by rfl) (by simp only [List.getElem?_toArray]; rfl) (fun KK hKK => ?_) EachE.nil
   rw [if_pos (by kernel_rfl)]
   refine wp_stA (.tmp 7) (.tmp 27) rfl ba (.int .u16 (L.cn : Int)) (.int .u32 (L.cb : Int)) (.int .u16 0) (.int .u32 0) (by kernel_rfl) (by kernel_rfl) y rfl rfl ?_
   have y2 : Box2 (World.setRow w7' ba #[.int .u16 (L.cn : Int), .int .u32 (L.cb : Int)]) ba (.int .u16 (L.cn : Int)) (.int .u32 (L.cb : Int)) := setRow_heap w7' ba _ #[.int .u16 (L.cn : Int), .int .u32 (L.cb : Int)] _ _ y
   have hb2 := below_setRow hbx ba #[.int .u16 (L.cn : Int), .int .u32 (L.cb : Int)] hbaw
   have hm9 : Mod (fun i => i = ba) w7' (World.setRow w7' ba #[.int .u16 (L.cn : Int), .int .u32 (L.cb : Int)]) := mod_setRow w7' ba #[.int .u16 (L.cn : Int), .int .u32 (L.cb : Int)]
   have q2 := q.mod hm9 hgb9
   have z2 := z.mod hm9 hbf9
   obtain ⟨w8', e⟩ : ∃ w8', w8' = World.setRow w7' ba #[.int .u16 (L.cn : Int), .int .u32 (L.cb : Int)] := ⟨_, rfl⟩
   rw [← e] at y2 hb2 q2 z2 ⊢
   clear e hm9 y hbx q z
   refine hKK.out _ _ ?_ (fun hHeld => ?_)
   · exact (by exact ⟨q2, z2⟩)
   clear hKK KK
   refine wpAnyE_take (i := 12) (by simp only [List.getElem?_toArray]; rfl) (by kernel_rfl) (by kernel_rfl) (by kernel_rfl) (by kernel_rfl) (by kernel_rfl) (by exact fun _ _ _ h => h) (by exact yk (.bool false) (by kernel_rfl) (fun _ => by kernel_rfl)) hHeld ?_
   refine wpAnyE_done (by kernel_rfl) ?_ _
   clear hN
   go_wp2_with fail
   go_ret2
   exact ⟨rfl, hb2⟩
  ·
   rw [if_pos (by kernel_rfl)]
   refine wp_alA rfl ?_
   have y := Box2.new_ wd5' (.int .u16 0) (.int .u32 0)
   obtain ⟨ba, hba⟩ : ∃ ba, ba = wd5'.heap.size := ⟨_, rfl⟩
   have hbaw : w.heap.size ≤ ba := by have := hbx.size; omega
   have hbf9 : ¬ bf = ba := by have := z.lt; omega
   have hgb9 : ¬ g = ba := by have := q.lt; omega
   have h9 := below_alloc1 wd5' (.cells #[.int .u16 0, .int .u32 0] 45)
   obtain ⟨w9', e⟩ : ∃ w9', w9' = World.alloc wd5' (.cells #[.int .u16 0, .int .u32 0] 45) := ⟨_, rfl⟩
   rw [← hba] at y ⊢
   rw [← e] at y h9 ⊢
   clear e hba
   replace q := q.ext h9
   replace z := z.ext h9
   replace hbx := hbx.trans (h9.mono hbx.size)
   replace hTz := Tab.ext hTz h9
   clear h9
   refine hKK.out _ _ ?_ (fun hHeld => ?_)
   · exact (by exact ⟨q, z⟩)
   clear hKK KK
   try simp only [Act.put, List.setIfInBounds_toArray, List.set_cons_zero, List.set_cons_succ]
   refine wpAnyE_ready (rs := [6]) (by kernel_rfl) (by simp) ?_
   refine EachE.cons (by rfl) (by simp only [List.getElem?_toArray]; rfl) (fun KK hKK => ?_) EachE.nil
   rw [if_pos (by kernel_rfl)]
   refine wp_callF 72 #[.agg #[.int .u16 (L.cn : Int), .int .u32 (L.cb : Int)], .int .u16 (f.seq : Int)] (by kernel_rfl) ?_
   refine (hN _ hTz).mono ?_
   rintro e w10' ⟨rfl, h9⟩
   refine ⟨_, rfl, ?_⟩
   rw [show noteV L.cn L.cb (none) = .tuple #[.agg #[.int .u16 (L.cn : Int), .int .u32 (L.cb : Int)], .bool false] from rfl]
   replace q := q.ext h9
   replace z := z.ext h9
   replace hbx := hbx.trans (h9.mono hbx.size)
   replace y := y.ext h9
   clear h9
   refine hKK.out _ _ ?_ (fun hHeld => ?_)
   · exact (by exact ⟨q, z⟩)
   clear hKK KK
   refine wpAnyE_take (i := 7) (by simp only [List.getElem?_toArray]; rfl) (by kernel_rfl) (by kernel_rfl) (by kernel_rfl) (by kernel_rfl) (by kernel_rfl) (by exact fun _ _ _ h => h) (by exact yk (.tuple #[.agg #[.int .u16 (L.cn : Int), .int .u32 (L.cb : Int)], .bool false]) (by kernel_rfl) (fun _ => by kernel_rfl)) hHeld ?_
   refine wpAnyE_take (i := 8) (by simp only [List.getElem?_toArray]; rfl) (by kernel_rfl) (by kernel_rfl) (by kernel_rfl) (by kernel_rfl) (by kernel_rfl) (by exact fun _ _ _ h => h) (by exact yk (.agg #[.int .u16 (L.cn : Int), .int .u32 (L.cb : Int)]) (by kernel_rfl) (fun _ => by kernel_rfl)) hHeld ?_
   refine wpAnyE_take (i := 9) (by simp only [List.getElem?_toArray]; rfl) (by kernel_rfl) (by kernel_rfl) (by kernel_rfl) (by kernel_rfl) (by kernel_rfl) (by exact fun _ _ _ h => h) (by exact yk (.bool false) (by kernel_rfl) (fun _ => by kernel_rfl)) hHeld ?_
   try simp only [Act.put, List.setIfInBounds_toArray, List.set_cons_zero, List.set_cons_succ]
   refine wpAnyE_ready (rs := [11]) (by kernel_rfl) (by simp) ?_
   refine EachE.cons (by rfl) (by simp only [List.getElem?_toArray]; rfl) (fun KK hKK => ?_) EachE.nil
   rw [if_pos (by kernel_rfl)]
   refine wp_stA (.tmp 7) (.tmp 27) rfl ba (.int .u16 (L.cn : Int)) (.int .u32 (L.cb : Int)) (.int .u16 0) (.int .u32 0) (by kernel_rfl) (by kernel_rfl) y rfl rfl ?_
   have y2 : Box2 (World.setRow w10' ba #[.int .u16 (L.cn : Int), .int .u32 (L.cb : Int)]) ba (.int .u16 (L.cn : Int)) (.int .u32 (L.cb : Int)) := setRow_heap w10' ba _ #[.int .u16 (L.cn : Int), .int .u32 (L.cb : Int)] _ _ y
   have hb2 := below_setRow hbx ba #[.int .u16 (L.cn : Int), .int .u32 (L.cb : Int)] hbaw
   have hm9 : Mod (fun i => i = ba) w10' (World.setRow w10' ba #[.int .u16 (L.cn : Int), .int .u32 (L.cb : Int)]) := mod_setRow w10' ba #[.int .u16 (L.cn : Int), .int .u32 (L.cb : Int)]
   have q2 := q.mod hm9 hgb9
   have z2 := z.mod hm9 hbf9
   obtain ⟨w11', e⟩ : ∃ w11', w11' = World.setRow w10' ba #[.int .u16 (L.cn : Int), .int .u32 (L.cb : Int)] := ⟨_, rfl⟩
   rw [← e] at y2 hb2 q2 z2 ⊢
   clear e hm9 y hbx q z
   refine hKK.out _ _ ?_ (fun hHeld => ?_)
   · exact (by exact ⟨q2, z2⟩)
   clear hKK KK
   refine wpAnyE_take (i := 12) (by simp only [List.getElem?_toArray]; rfl) (by kernel_rfl) (by kernel_rfl) (by kernel_rfl) (by kernel_rfl) (by kernel_rfl) (by exact fun _ _ _ h => h) (by exact yk (.bool false) (by kernel_rfl) (fun _ => by kernel_rfl)) hHeld ?_
   refine wpAnyE_done (by kernel_rfl) ?_ _
   clear hN
   go_wp2_with fail
   go_ret2
   exact ⟨rfl, hb2⟩
set_option maxHeartbeats 16000000 in
set_option maxRecDepth 40000 in
theorem keep_some (C : PV → Prop) (B g bm : Nat) (L : Lk) (vw vf vh : Value) (n : Nat) (E : EP) (k : Bk) (f : Fr) (Af : Option Addr) (cf bf0 : Nat) (cn' cb' : Nat) (w : World) (hT : Tab w) (hk : KIn ⟨L, vw, vf, bm⟩ w B g vh k) (hmp : Mp w bm n (valE E)) (hpc : ∀ t x, E t = some x → PV.In w x ∧ (x.p.data ≠ [] → ¬ x.b = g ∧ ¬ x.b = bm ∧ vh.ownBlock ≠ some x.b)) (hC : ∀ t x, E t = some x → C x) (hCy : C ⟨⟨f.first, f.last, f.data⟩, Af, cf, bf0⟩) (hy : PV.In w ⟨⟨f.first, f.last, f.data⟩, Af, cf, bf0⟩ ∧ (f.data ≠ [] → ¬ bf0 = g ∧ ¬ bf0 = bm ∧ vh.ownBlock ≠ some bf0)) (hkl : k.held.length ≤ 1024) (hB : B ≤ w.heap.size) (hn : n ≤ 1000000) (hcn : L.cn < 65536) (hcb : L.cb < 4294967296) (hs : f.seq < 65536) (hnote : noteN L.cn L.cb f.seq = some (cn', cb')) :
    Calls Tryd.prog 40 #[.pointer (some ⟨g, 0, none⟩), .agg (f.cells Af cf)] w fun e w' => ∃ vo, e = .returned (.tuple #[vo, .int .i64 ((drainK ⟨plE (fun u => if u = f.seq then some ⟨⟨f.first, f.last, f.data⟩, Af, cf, bf0⟩ else E u), k, [], 0⟩ L.cn (aheadN L.cn cn')).err : Int)]) ∧ KpO C w w' B g ⟨{ L with cn := cn', cb := cb' }, vw, vf, bm⟩ vh (n + 1) cn' cb' (drainK ⟨plE (fun u => if u = f.seq then some ⟨⟨f.first, f.last, f.data⟩, Af, cf, bf0⟩ else E u), k, [], 0⟩ L.cn (aheadN L.cn cn')) vo := by
  have hN := fun W hTW => Note_calls L.cn L.cb f.seq W hTW hcn hcb hs
  rw [hnote] at hN
  have hbx := below_alloc1 w (.cells (f.cells Af cf) 47)
  obtain ⟨bf, hbf⟩ : ∃ bf, bf = w.heap.size := ⟨_, rfl⟩
  have z : FrX (w.alloc (.cells (f.cells Af cf) 47)) bf f Af cf := by rw [hbf]; exact heap_alloc_new w _
  have q0 : LkB w g bm { L with lv := k.leaving } vw vf vh := hk.box
  have q : LkB (w.alloc (.cells (f.cells Af cf) 47)) g bm { L with lv := k.leaving } vw vf vh := q0.ext hbx
  have hgl := q0.lt
  have hTz := Tab.ext hT hbx
  obtain ⟨cn, hcn0⟩ : ∃ cn, cn = L.cn := ⟨_, rfl⟩
  have HC0 := Lib.hid hcn0
  clear hcn0
  have c4 := q.c4
  have hap := hk.box.apart hk.row
  obtain ⟨hcn2, hcb2⟩ := noteN_lt hcn hcb hnote
  have hmap := hmp.isMap
  have hml := hmp.lt
  have HK := Lib.hid hk
  have HMP := Lib.hid hmp
  have HPC := Lib.hid hpc
  have HY := Lib.hid hy
  have HC := Lib.hid hC
  have HCY := Lib.hid hCy
  clear hk hmp hpc hy hap hnote hC hCy
  obtain ⟨s0, hs0⟩ : ∃ s0 : Kp, s0 = ⟨plE (fun u => if u = f.seq then some ⟨⟨f.first, f.last, f.data⟩, Af, cf, bf0⟩ else E u), k, [], 0⟩ := ⟨_, rfl⟩
  obtain ⟨d, hd⟩ : ∃ d, d = aheadN L.cn cn' := ⟨_, rfl⟩
  obtain ⟨P, hP⟩ : ∃ P : BP, P = ⟨{ L with cn := cn', cb := cb' }, vw, vf, bm⟩ := ⟨_, rfl⟩
  rw [← hs0, ← hd, ← hP, ← HC0.out]
  have HS0 := Lib.hid hs0
  have HP := Lib.hid hP
  have HD := Lib.hid hd
  clear hs0 hd hP
  go_enter Tryd.func40, Tryd.ntmps40
  go_wp2_with fail
  rw [← hbf]
  obtain ⟨wz, hwz⟩ : ∃ wz, wz = w.alloc (.cells (f.cells Af cf) 47) := ⟨_, rfl⟩
  rw [← hwz] at hbx z q hTz ⊢
  have hbfw : w.heap.size ≤ bf := by omega
  clear hwz hbf c4
  refine wp_region_E (fun j => false) (fun w9 => LkB w9 g bm { L with lv := k.leaving } vw vf vh ∧ FrX w9 bf f Af cf) (by kernel_rfl) ?_ (fun hHeld => ?_)
  · exact (by exact ⟨q, z⟩)
  obtain ⟨wd12', hwd⟩ : ∃ wd12', wd12' = World.drew wz := ⟨_, rfl⟩
  have h9 : Below wz.heap.size wz wd12' := by rw [hwd]; exact below_drew (Below.refl _ _)
  rw [← hwd] at hHeld ⊢
  clear hwd
  replace q := q.ext h9
  replace z := z.ext h9
  replace hbx := hbx.trans (h9.mono hbx.size)
  replace hTz := Tab.ext hTz h9
  clear h9
  refine wpAnyE_take (i := 0) (by simp only [List.getElem?_toArray]; rfl) (by kernel_rfl) (by kernel_rfl) (by kernel_rfl) (by kernel_rfl) (by kernel_rfl) (by exact fun _ _ _ h => h) (by exact yk (.pointer (some ⟨g, 0, none⟩)) (by kernel_rfl) (fun _ => by kernel_rfl)) hHeld ?_
  refine wpAnyE_take (i := 1) (by simp only [List.getElem?_toArray]; rfl) (by kernel_rfl) (by kernel_rfl) (by kernel_rfl) (by kernel_rfl) (by kernel_rfl) (by exact fun _ _ _ h => h) (by exact yk (.pointer (some ⟨g, 0, none⟩)) (by kernel_rfl) (fun _ => by kernel_rfl)) hHeld ?_
  refine wpAnyE_take (i := 2) (by simp only [List.getElem?_toArray]; rfl) (by kernel_rfl) (by kernel_rfl) (by kernel_rfl) (by kernel_rfl) (by kernel_rfl) (by exact fun _ _ _ h => h) (by exact yk (.pointer (some ⟨g, 4, none⟩)) (by kernel_rfl) (fun _ => by kernel_rfl)) hHeld ?_
  refine wpAnyE_take (i := 3) (by simp only [List.getElem?_toArray]; rfl) (by kernel_rfl) (by kernel_rfl) (by kernel_rfl) (by kernel_rfl) (by kernel_rfl) (by exact fun _ _ _ h => h) (by exact yk_ldA (by kernel_rfl) (.tmp 22) rfl g (.int .u16 (L.cn : Int)) (.int .u32 (L.cb : Int)) (by kernel_rfl) (fun w hh => ⟨hh.1.c4, hh.1.c5⟩)) hHeld ?_
  refine wpAnyE_take (i := 4) (by simp only [List.getElem?_toArray]; rfl) (by kernel_rfl) (by kernel_rfl) (by kernel_rfl) (by kernel_rfl) (by kernel_rfl) (by exact fun _ _ _ h => h) (by exact yk (.pointer (some ⟨bf, 1, none⟩)) (by kernel_rfl) (fun _ => by kernel_rfl)) hHeld ?_
  refine wpAnyE_take (i := 5) (by simp only [List.getElem?_toArray]; rfl) (by kernel_rfl) (by kernel_rfl) (by kernel_rfl) (by kernel_rfl) (by kernel_rfl) (by exact fun _ _ _ h => h) (by exact yk_ldQ (by kernel_rfl) (.tmp 24) rfl ⟨bf, 1, none⟩ (.int .u16 (f.seq : Int)) (by kernel_rfl) (fun w hh => hh.2.c1)) hHeld ?_
  try simp only [Act.put, List.setIfInBounds_toArray, List.set_cons_zero, List.set_cons_succ]
  refine wpAnyE_ready (rs := [6, 10]) (by kernel_rfl) (by simp) ?_
  refine EachE.cons (by rfl) (by simp only [List.getElem?_toArray]; rfl) (fun KK hKK => ?_) (EachE.cons (by rfl) (by simp only [List.getElem?_toArray]; rfl) (fun KK hKK => ?_) EachE.nil)
  ·
   rw [if_pos (by kernel_rfl)]
   refine wp_callF 72 #[.agg #[.int .u16 (L.cn : Int), .int .u32 (L.cb : Int)], .int .u16 (f.seq : Int)] (by kernel_rfl) ?_
   refine (hN _ hTz).mono ?_
   rintro e w13' ⟨rfl, h9⟩
   refine ⟨_, rfl, ?_⟩
   rw [show noteV L.cn L.cb (some (cn', cb')) = .tuple #[.agg #[.int .u16 (cn' : Int), .int .u32 (cb' : Int)], .bool true] from rfl]
   replace q := q.ext h9
   replace z := z.ext h9
   replace hbx := hbx.trans (h9.mono hbx.size)
   clear h9
   refine hKK.out _ _ ?_ (fun hHeld => ?_)
   · exact (by exact ⟨q, z⟩)
   clear hKK KK
   refine wpAnyE_take (i := 7) (by simp only [List.getElem?_toArray]; rfl) (by kernel_rfl) (by kernel_rfl) (by kernel_rfl) (by kernel_rfl) (by kernel_rfl) (by exact fun _ _ _ h => h) (by exact yk (.tuple #[.agg #[.int .u16 (cn' : Int), .int .u32 (cb' : Int)], .bool true]) (by kernel_rfl) (fun _ => by kernel_rfl)) hHeld ?_
   refine wpAnyE_take (i := 8) (by simp only [List.getElem?_toArray]; rfl) (by kernel_rfl) (by kernel_rfl) (by kernel_rfl) (by kernel_rfl) (by kernel_rfl) (by exact fun _ _ _ h => h) (by exact yk (.agg #[.int .u16 (cn' : Int), .int .u32 (cb' : Int)]) (by kernel_rfl) (fun _ => by kernel_rfl)) hHeld ?_
   refine wpAnyE_take (i := 9) (by simp only [List.getElem?_toArray]; rfl) (by kernel_rfl) (by kernel_rfl) (by kernel_rfl) (by kernel_rfl) (by kernel_rfl) (by exact fun _ _ _ h => h) (by exact yk (.bool true) (by kernel_rfl) (fun _ => by kernel_rfl)) hHeld ?_
   try simp only [Act.put, List.setIfInBounds_toArray, List.set_cons_zero, List.set_cons_succ]
   refine wpAnyE_ready (rs := [10]) (by kernel_rfl) (by simp) ?_
   refine EachE.cons (by rfl) (by simp only [List.getElem?_toArray]; rfl) (fun KK hKK => ?_) EachE.nil
   rw [if_pos (by kernel_rfl)]
   refine wp_alA rfl ?_
   have y := Box2.new_ w13' (.int .u16 0) (.int .u32 0)
   obtain ⟨ba, hba⟩ : ∃ ba, ba = w13'.heap.size := ⟨_, rfl⟩
   have hbaw : w.heap.size ≤ ba := by have := hbx.size; omega
   have hbf9 : ¬ bf = ba := by have := z.lt; omega
   have hgb9 : ¬ g = ba := by have := q.lt; omega
   have h9 := below_alloc1 w13' (.cells #[.int .u16 0, .int .u32 0] 45)
   obtain ⟨w14', e⟩ : ∃ w14', w14' = World.alloc w13' (.cells #[.int .u16 0, .int .u32 0] 45) := ⟨_, rfl⟩
   rw [← hba] at y ⊢
   rw [← e] at y h9 ⊢
   clear e hba
   replace q := q.ext h9
   replace z := z.ext h9
   replace hbx := hbx.trans (h9.mono hbx.size)
   clear h9
   refine hKK.out _ _ ?_ (fun hHeld => ?_)
   · exact (by exact ⟨q, z⟩)
   clear hKK KK
   try simp only [Act.put, List.setIfInBounds_toArray, List.set_cons_zero, List.set_cons_succ]
   refine wpAnyE_ready (rs := [11]) (by kernel_rfl) (by simp) ?_
   refine EachE.cons (by rfl) (by simp only [List.getElem?_toArray]; rfl) (fun KK hKK => ?_) EachE.nil
   rw [if_pos (by kernel_rfl)]
   refine wp_stA (.tmp 7) (.tmp 27) rfl ba (.int .u16 (cn' : Int)) (.int .u32 (cb' : Int)) (.int .u16 0) (.int .u32 0) (by kernel_rfl) (by kernel_rfl) y rfl rfl ?_
   have y2 : Box2 (World.setRow w14' ba #[.int .u16 (cn' : Int), .int .u32 (cb' : Int)]) ba (.int .u16 (cn' : Int)) (.int .u32 (cb' : Int)) := setRow_heap w14' ba _ #[.int .u16 (cn' : Int), .int .u32 (cb' : Int)] _ _ y
   have hb2 := below_setRow hbx ba #[.int .u16 (cn' : Int), .int .u32 (cb' : Int)] hbaw
   have hm9 : Mod (fun i => i = ba) w14' (World.setRow w14' ba #[.int .u16 (cn' : Int), .int .u32 (cb' : Int)]) := mod_setRow w14' ba #[.int .u16 (cn' : Int), .int .u32 (cb' : Int)]
   have q2 := q.mod hm9 hgb9
   have z2 := z.mod hm9 hbf9
   obtain ⟨w15', e⟩ : ∃ w15', w15' = World.setRow w14' ba #[.int .u16 (cn' : Int), .int .u32 (cb' : Int)] := ⟨_, rfl⟩
   rw [← e] at y2 hb2 q2 z2 ⊢
   clear e hm9 y hbx q z
   refine hKK.out _ _ ?_ (fun hHeld => ?_)
   · exact (by exact ⟨q2, z2⟩)
   clear hKK KK
   refine wpAnyE_take (i := 12) (by simp only [List.getElem?_toArray]; rfl) (by kernel_rfl) (by kernel_rfl) (by kernel_rfl) (by kernel_rfl) (by kernel_rfl) (by exact fun _ _ _ h => h) (by exact yk (.bool true) (by kernel_rfl) (fun _ => by kernel_rfl)) hHeld ?_
   refine wpAnyE_done (by kernel_rfl) ?_ _
   clear hN hTz hT
   have d4 := q2.c4
   have d5 := q2.c5
   have z4 := q2.fz 4
   have z5 := q2.fz 5
   have p0 := y2.c0
   have p1 := y2.c1
   have q3 : LkB ((World.setCell w15' ⟨g, 4, none⟩ (.int .u16 (cn' : Int))).setCell ⟨g, 5, none⟩ (.int .u32 (cb' : Int))) g bm { { L with cn := cn', cb := cb' } with lv := k.leaving } vw vf vh := heap_setCell_same _ g 5 _ _ _ (heap_setCell_same w15' g 4 _ _ _ q2)
   have hm4 : Mod (fun i => i = g) w15' ((World.setCell w15' ⟨g, 4, none⟩ (.int .u16 (cn' : Int))).setCell ⟨g, 5, none⟩ (.int .u32 (cb' : Int))) := (Mod.setCell w15' ⟨g, 4, none⟩ _).trans (Mod.setCell _ ⟨g, 5, none⟩ _) (fun _ _ h => h) (fun _ _ h => h)
   have z3 := z2.mod hm4 (by omega)
   have hmp3 := (HMP.out.ext hb2).mod hm4 (fun e => by have e : bm = g := e; have h1 := HK.out.box; unfold BoxK LkB at h1; simp only at h1; obtain ⟨es, cl, h2⟩ := hmap; rw [e, h1] at h2; cases h2)
   have Q3 := Lib.hid q3
   have Z3 := Lib.hid z3
   have M3 := Lib.hid hmp3
   clear q3 z3 hmp3 hm4 q2 z2
   go_wp2_with fail
   obtain ⟨w3, hw3⟩ : ∃ w3, w3 = (World.setCell w15' ⟨g, 4, none⟩ (.int .u16 (cn' : Int))).setCell ⟨g, 5, none⟩ (.int .u32 (cb' : Int)) := ⟨_, rfl⟩
   have q3 := Q3.out
   have z3 := Z3.out
   have hmp3 := M3.out
   clear Q3 Z3 M3
   rw [← hw3] at q3 z3 hmp3 ⊢
   have HW3 := Lib.hid hw3
   clear hw3 d4 d5 z4 z5 p0 p1
   refine wp_region_E (fun j => j == 13) (fun w9 => LkB w9 g bm { { L with cn := cn', cb := cb' } with lv := k.leaving } vw vf vh ∧ FrX w9 bf f Af cf) (by kernel_rfl) ?_ (fun hHeld => ?_)
   · exact (by exact ⟨q3, z3⟩)
   obtain ⟨wd16', hwd⟩ : ∃ wd16', wd16' = World.drew w3 := ⟨_, rfl⟩
   have h9 : Below w3.heap.size w3 wd16' := by rw [hwd]; exact below_drew (Below.refl _ _)
   rw [← hwd] at hHeld ⊢
   clear hwd
   replace q3 := q3.ext h9
   replace z3 := z3.ext h9
   replace hmp3 := hmp3.ext h9
   have H9 := Lib.hid h9
   clear h9
   refine wpAnyE_take (i := 0) (by simp only [List.getElem?_toArray]; rfl) (by kernel_rfl) (by kernel_rfl) (by kernel_rfl) (by kernel_rfl) (by kernel_rfl) (by exact fun _ _ _ h => h) (by exact yk (.pointer (some ⟨g, 0, none⟩)) (by kernel_rfl) (fun _ => by kernel_rfl)) hHeld ?_
   refine wpAnyE_take (i := 1) (by simp only [List.getElem?_toArray]; rfl) (by kernel_rfl) (by kernel_rfl) (by kernel_rfl) (by kernel_rfl) (by kernel_rfl) (by exact fun _ _ _ h => h) (by exact yk (.pointer (some ⟨g, 0, none⟩)) (by kernel_rfl) (fun _ => by kernel_rfl)) hHeld ?_
   refine wpAnyE_take (i := 2) (by simp only [List.getElem?_toArray]; rfl) (by kernel_rfl) (by kernel_rfl) (by kernel_rfl) (by kernel_rfl) (by kernel_rfl) (by exact fun _ _ _ h => h) (by exact yk (.pointer (some ⟨g, 6, none⟩)) (by kernel_rfl) (fun _ => by kernel_rfl)) hHeld ?_
   refine wpAnyE_take (i := 3) (by simp only [List.getElem?_toArray]; rfl) (by kernel_rfl) (by kernel_rfl) (by kernel_rfl) (by kernel_rfl) (by kernel_rfl) (by exact fun _ _ _ h => h) (by exact yk_ldM (by kernel_rfl) (.tmp 37) rfl ⟨g, 6, none⟩ (.map (some bm)) (by kernel_rfl) (fun w hh => hh.1.c6)) hHeld ?_
   refine wpAnyE_take (i := 4) (by simp only [List.getElem?_toArray]; rfl) (by kernel_rfl) (by kernel_rfl) (by kernel_rfl) (by kernel_rfl) (by kernel_rfl) (by exact fun _ _ _ h => h) (by exact yk (.pointer (some ⟨bf, 1, none⟩)) (by kernel_rfl) (fun _ => by kernel_rfl)) hHeld ?_
   refine wpAnyE_take (i := 5) (by simp only [List.getElem?_toArray]; rfl) (by kernel_rfl) (by kernel_rfl) (by kernel_rfl) (by kernel_rfl) (by kernel_rfl) (by exact fun _ _ _ h => h) (by exact yk_ldQ (by kernel_rfl) (.tmp 39) rfl ⟨bf, 1, none⟩ (.int .u16 (f.seq : Int)) (by kernel_rfl) (fun w hh => hh.2.c1)) hHeld ?_
   refine wpAnyE_take (i := 6) (by simp only [List.getElem?_toArray]; rfl) (by kernel_rfl) (by kernel_rfl) (by kernel_rfl) (by kernel_rfl) (by kernel_rfl) (by exact fun _ _ _ h => h) (by exact yk (.pointer (some ⟨bf, 4, none⟩)) (by kernel_rfl) (fun _ => by kernel_rfl)) hHeld ?_
   refine wpAnyE_take (i := 7) (by simp only [List.getElem?_toArray]; rfl) (by kernel_rfl) (by kernel_rfl) (by kernel_rfl) (by kernel_rfl) (by kernel_rfl) (by exact fun _ _ _ h => h) (by exact yk_ldBo (by kernel_rfl) (.tmp 41) rfl ⟨bf, 4, none⟩ (.bool f.first) (by kernel_rfl) (fun w hh => hh.2.c4)) hHeld ?_
   refine wpAnyE_take (i := 8) (by simp only [List.getElem?_toArray]; rfl) (by kernel_rfl) (by kernel_rfl) (by kernel_rfl) (by kernel_rfl) (by kernel_rfl) (by exact fun _ _ _ h => h) (by exact yk (.pointer (some ⟨bf, 5, none⟩)) (by kernel_rfl) (fun _ => by kernel_rfl)) hHeld ?_
   refine wpAnyE_take (i := 9) (by simp only [List.getElem?_toArray]; rfl) (by kernel_rfl) (by kernel_rfl) (by kernel_rfl) (by kernel_rfl) (by kernel_rfl) (by exact fun _ _ _ h => h) (by exact yk_ldBo (by kernel_rfl) (.tmp 43) rfl ⟨bf, 5, none⟩ (.bool f.last) (by kernel_rfl) (fun w hh => hh.2.c5)) hHeld ?_
   refine wpAnyE_take (i := 10) (by simp only [List.getElem?_toArray]; rfl) (by kernel_rfl) (by kernel_rfl) (by kernel_rfl) (by kernel_rfl) (by kernel_rfl) (by exact fun _ _ _ h => h) (by exact yk (.pointer (some ⟨bf, 7, none⟩)) (by kernel_rfl) (fun _ => by kernel_rfl)) hHeld ?_
   refine wpAnyE_take (i := 11) (by simp only [List.getElem?_toArray]; rfl) (by kernel_rfl) (by kernel_rfl) (by kernel_rfl) (by kernel_rfl) (by kernel_rfl) (by exact fun _ _ _ h => h) (by exact yk_ldBy (by kernel_rfl) (.tmp 45) rfl ⟨bf, 7, none⟩ (.slice Af f.data.length cf) (by kernel_rfl) (fun w hh => hh.2.c7)) hHeld ?_
   refine wpAnyE_take (i := 12) (by simp only [List.getElem?_toArray]; rfl) (by kernel_rfl) (by kernel_rfl) (by kernel_rfl) (by kernel_rfl) (by kernel_rfl) (by exact fun _ _ _ h => h) (by exact yk (.agg #[.bool f.first, .bool f.last, .slice Af f.data.length cf]) (by kernel_rfl) (fun _ => by kernel_rfl)) hHeld ?_
   try simp only [Act.put, List.setIfInBounds_toArray, List.set_cons_zero, List.set_cons_succ]
   refine wpAnyE_ready (rs := [13]) (by kernel_rfl) (by simp) ?_
   refine EachE.last (by rfl) (by simp only [List.getElem?_toArray]; rfl) (fun KK hKK => ?_)
   rw [if_pos (by kernel_rfl)]
   refine wp_mapUp (.tmp 38) (.tmp 40) (.tmp 47) rfl bm n (valE E) f.seq _ (by kernel_rfl) (by kernel_rfl) rfl hmp3 (by simp only [maxLen]; omega) hs ?_
   intro w5 hmp5 hm5 hsz5
   refine hKK.out _ _ ?_
   clear hKK KK
   refine wpAnyE_done (by kernel_rfl) ?_ _
   have hks := KS.start (w3 := w5) HK.out HMP.out HPC.out HC.out HCY.out HY.out hkl hB hb2 y2 hbaw HW3.out hmp5 ((Mod.of_below H9.out).mono (fun i hi h => absurd hi (by omega)) |>.trans hm5 (S := fun i => i = bm) (fun _ _ h => h) (fun _ _ h => h))
   rw [← HS0.out, ← HP.out] at hks
   obtain ⟨E1, hE1⟩ : ∃ E1 : EP, E1 = fun u => if u = f.seq then some ⟨⟨f.first, f.last, f.data⟩, Af, cf, bf0⟩ else E u := ⟨_, rfl⟩
   rw [← hE1] at hks
   have HS := Lib.hid (show s0.err = 0 by rw [HS0.out])
   have hcl : cn < 65536 := by have := HC0.out; omega
   clear hm5 hsz5 hE1 hmp5 hmp3 q3 z3 hb2 y2 H9 HW3 HK HMP HPC HY HC HCY HS0
   have HKS := Lib.hid hks
   clear hks
   go_wp2_with fail
   rw [← HC0.out]
   go_loopw [6, 9, 10] (fun tu vo er wr => ∃ (j : Nat) (E : EP) (vh' : Value) (us : List Value) (s : Kp), j ≤ d ∧ tu = .int .u16 (((cn + j) % 65536 : Nat) : Int) ∧ er = .int .i64 (s.err : Int) ∧ Hid (s = drainK s0 cn j) ∧ us.length ≤ j ∧ KS C w wr B g P vh (n + 1) ba cn' cb' E s vh' vo us) (fun tu _ _ _ => aheadN (intOf tu).toNat cn')
   case atStart => exact ⟨0, E1, vh, [], s0, Nat.zero_le _, by rw [Nat.add_zero, Nat.mod_eq_of_lt hcl], by rw [HS.out]; rfl, Lib.hid rfl, Nat.le_refl _, HKS.out⟩
   case round =>
     obtain ⟨j, E2, vh2, us, s, hj, rfl, rfl, hsj, hul, hks⟩ := hrel
     clear HKS
     have p0 := hks.box.c0
     have hd65 : d < 65536 := by rw [HD.out]; unfold aheadN; omega
     have hend := ahead_end (x := cn) (y := cn') (j := j) hcl hcn2 (by rw [← HC0.out] at HD; rw [← HD.out]; exact hj)
     rw [← HC0.out] at HD
     rw [← HD.out] at hend
     obtain ⟨T, hTT⟩ : ∃ T, T = (cn + j) % 65536 := ⟨_, rfl⟩
     have hT65 : T < 65536 := by omega
     rw [← hTT] at hend ⊢
     have HTT := Lib.hid hTT
     have HEND := Lib.hid hend
     clear hTT hend
     by_cases hjd : j = d
     · have hTe : T = cn' := HEND.out.2 hjd
       subst hTe
       subst hjd
       obtain ⟨Ao, co, bo, hvo, -⟩ := ownsP_sl hks.rs
       obtain ⟨m, hm⟩ : ∃ m, m = us.length := ⟨_, rfl⟩
       rw [← hm] at hvo
       subst hvo
       clear hm
       have HKS := Lib.hid hks
       clear hks
       go_wp2_with fail
       go_ret2
       exact ⟨_, by rw [← hsj.out]; rfl, ⟨vh2, E2, us, ba, by rw [← hsj.out]; exact HKS.out⟩⟩
     · have hTe : ¬ T = cn' := fun e => hjd (HEND.out.1 e)
       have hTne : ((T : Int) != (cn' : Int)) = true := by simp; omega
       have hjl : j < d := by omega
       obtain ⟨hin, hpp, hval, hbg⟩ := hks.piece T
       obtain ⟨x, hx⟩ : ∃ x, x = (E2 T).getD pz := ⟨_, rfl⟩
       rw [← hx] at hin hpp hval hbg
       have hnx : drainK s0 cn (j + 1) = putK s T := by show putK (drainK s0 cn j) ((cn + j) % 65536) = _; rw [← hsj.out, ← HTT.out]
       have HNX := Lib.hid hnx
       have hpk : putK s T = ⟨fun u => if u = T then none else s.E u, (putB s.k x.p).1, if (putB s.k x.p).2.2.1 then s.out ++ [(putB s.k x.p).2.1] else s.out, if (putB s.k x.p).2.2.2 = 0 then s.err else (putB s.k x.p).2.2.2⟩ := by rw [hpp]; rfl
       have hwh := putB_whole (k := s.k) (x := x.p)
       have her := putB_err s.k x.p
       have hPut := fun W hk hs => Put2_calls P B g vh2 s.k x.p x.A x.c x.b W hk hks.hk hs hbg hin.2
       have HPK := Lib.hid hpk
       have HWH := Lib.hid hwh
       have HER := Lib.hid her
       clear hnx hpk hwh her hx hpp hbg
       go_wp2_with fail
       refine wp_region_E (fun j => false) (fun w9 => w9.cell? ⟨g, 6, none⟩ = some (.map (some P.bm)) ∧ Mp w9 P.bm (n + 1) (valE E2)) (by kernel_rfl) ?_ (fun hHeld => ?_)
       · exact (by exact ⟨LkB.c6 hks.kin.box, hks.mp⟩)
       obtain ⟨wd17', hwd⟩ : ∃ wd17', wd17' = World.drew wr := ⟨_, rfl⟩
       have h9 : Below wr.heap.size wr wd17' := by rw [hwd]; exact below_drew (Below.refl _ _)
       rw [← hwd] at hHeld ⊢
       clear hwd
       replace hks := hks.ext h9
       replace hin := hin.ext h9
       clear h9
       refine wpAnyE_take (i := 0) (by simp only [List.getElem?_toArray]; rfl) (by kernel_rfl) (by kernel_rfl) (by kernel_rfl) (by kernel_rfl) (by kernel_rfl) (by exact fun _ _ _ h => h) (by exact yk (.pointer (some ⟨g, 0, none⟩)) (by kernel_rfl) (fun _ => by kernel_rfl)) hHeld ?_
       refine wpAnyE_take (i := 1) (by simp only [List.getElem?_toArray]; rfl) (by kernel_rfl) (by kernel_rfl) (by kernel_rfl) (by kernel_rfl) (by kernel_rfl) (by exact fun _ _ _ h => h) (by exact yk (.pointer (some ⟨g, 0, none⟩)) (by kernel_rfl) (fun _ => by kernel_rfl)) hHeld ?_
       refine wpAnyE_take (i := 2) (by simp only [List.getElem?_toArray]; rfl) (by kernel_rfl) (by kernel_rfl) (by kernel_rfl) (by kernel_rfl) (by kernel_rfl) (by exact fun _ _ _ h => h) (by exact yk (.pointer (some ⟨g, 7, none⟩)) (by kernel_rfl) (fun _ => by kernel_rfl)) hHeld ?_
       refine wpAnyE_take (i := 3) (by simp only [List.getElem?_toArray]; rfl) (by kernel_rfl) (by kernel_rfl) (by kernel_rfl) (by kernel_rfl) (by kernel_rfl) (by exact fun _ _ _ h => h) (by exact yk (.pointer (some ⟨g, 0, none⟩)) (by kernel_rfl) (fun _ => by kernel_rfl)) hHeld ?_
       refine wpAnyE_take (i := 4) (by simp only [List.getElem?_toArray]; rfl) (by kernel_rfl) (by kernel_rfl) (by kernel_rfl) (by kernel_rfl) (by kernel_rfl) (by exact fun _ _ _ h => h) (by exact yk (.pointer (some ⟨g, 0, none⟩)) (by kernel_rfl) (fun _ => by kernel_rfl)) hHeld ?_
       refine wpAnyE_take (i := 5) (by simp only [List.getElem?_toArray]; rfl) (by kernel_rfl) (by kernel_rfl) (by kernel_rfl) (by kernel_rfl) (by kernel_rfl) (by exact fun _ _ _ h => h) (by exact yk (.pointer (some ⟨g, 6, none⟩)) (by kernel_rfl) (fun _ => by kernel_rfl)) hHeld ?_
       refine wpAnyE_take (i := 6) (by simp only [List.getElem?_toArray]; rfl) (by kernel_rfl) (by kernel_rfl) (by kernel_rfl) (by kernel_rfl) (by kernel_rfl) (by exact fun _ _ _ h => h) (by exact yk_ldM (by kernel_rfl) (.tmp 60) rfl ⟨g, 6, none⟩ (.map (some P.bm)) (by kernel_rfl) (fun w hh => hh.1)) hHeld ?_
       refine wpAnyE_take (i := 7) (by simp only [List.getElem?_toArray]; rfl) (by kernel_rfl) (by kernel_rfl) (by kernel_rfl) (by kernel_rfl) (by kernel_rfl) (by exact fun _ _ _ h => h) (by exact yk (.int .u16 (T : Int)) (by kernel_rfl) (fun _ => by kernel_rfl)) hHeld ?_
       refine wpAnyE_take (i := 8) (by simp only [List.getElem?_toArray]; rfl) (by kernel_rfl) (by kernel_rfl) (by kernel_rfl) (by kernel_rfl) (by kernel_rfl) (by exact fun _ _ _ h => h) (by exact yk_lookE (by kernel_rfl) (.tmp 61) (.tmp 62) rfl P.bm (n + 1) (valE E2) T (by kernel_rfl) (by kernel_rfl) hT65 (fun w hh => hh.2) x.val hval) hHeld ?_
       try simp only [Act.put, List.setIfInBounds_toArray, List.set_cons_zero, List.set_cons_succ]
       refine wpAnyE_ready (rs := [9]) (by kernel_rfl) (by simp) ?_
       refine EachE.cons (by rfl) (by simp only [List.getElem?_toArray]; rfl) (fun KK hKK => ?_) EachE.nil
       rw [if_pos (by kernel_rfl)]
       refine wp_callF 73 #[.pointer (some ⟨g, 7, none⟩), x.val] (by kernel_rfl) ?_
       refine (hPut _ hks.kin hin.1 (Nat.le_trans hks.hB hks.size)).mono ?_
       rintro e w7 ⟨v2, vm, rfl, hk2, hrow2, hm2, hat2, hvo2⟩
       have hks2 := hks.put hk2 hm2 hat2
       have hib2 : ∀ i, vm.ownBlock = some i → vh.ownBlock = some i ∨ w.heap.size ≤ i := fun i hi => by rcases hvo2 with h | h | ⟨j9, h, h9⟩; exact hks.at_ i (h ▸ hi); (rw [h] at hi; cases hi); (rw [h] at hi; injection hi with hi; right; have := hks.size; omega)
       obtain ⟨Am, cm, bmm, hvm, -⟩ := Row.sl hrow2
       obtain ⟨msg, hmsg⟩ : ∃ msg, msg = (putB s.k x.p).2.1 := ⟨_, rfl⟩
       obtain ⟨wh, hwh⟩ : ∃ wh, wh = (putB s.k x.p).2.2.1 := ⟨_, rfl⟩
       obtain ⟨er, her⟩ : ∃ er, er = (putB s.k x.p).2.2.2 := ⟨_, rfl⟩
       rw [← hmsg] at hrow2 hvm
       rw [← hwh, ← her]
       obtain ⟨nm, hnm⟩ : ∃ nm, nm = msg.length := ⟨_, rfl⟩
       rw [← hnm] at hvm
       subst hvm
       have hu1 : wh = true → v2.ownBlock = none := fun h => by rw [hk2.none_ (HWH.out (hwh ▸ h))]; rfl
       have HU1 := Lib.hid hu1
       have HMS := Lib.hid hmsg
       have HWE := Lib.hid hwh
       have HEE := Lib.hid her
       have her4 : er ≤ 4 := by rw [her]; exact HER.out
       have HIB := Lib.hid hib2
       clear hmsg hwh her hnm hk2 hm2 hat2 hvo2 hib2 hks hin hu1 hval
       refine ⟨_, rfl, ?_⟩
       refine hKK.out _ _ ?_ (fun hHeld => ?_)
       · exact (by exact ⟨LkB.c6 hks2.kin.box, hks2.mp⟩)
       clear hKK KK
       refine wpAnyE_take (i := 10) (by simp only [List.getElem?_toArray]; rfl) (by kernel_rfl) (by kernel_rfl) (by kernel_rfl) (by kernel_rfl) (by kernel_rfl) (by exact fun _ _ _ h => h) (by exact yk (.tuple #[.slice Am nm cm, .bool wh, .int .i64 (er : Int)]) (by kernel_rfl) (fun _ => by kernel_rfl)) hHeld ?_
       refine wpAnyE_take (i := 11) (by simp only [List.getElem?_toArray]; rfl) (by kernel_rfl) (by kernel_rfl) (by kernel_rfl) (by kernel_rfl) (by kernel_rfl) (by exact fun _ _ _ h => h) (by exact yk (.slice Am nm cm) (by kernel_rfl) (fun _ => by kernel_rfl)) hHeld ?_
       refine wpAnyE_take (i := 12) (by simp only [List.getElem?_toArray]; rfl) (by kernel_rfl) (by kernel_rfl) (by kernel_rfl) (by kernel_rfl) (by kernel_rfl) (by exact fun _ _ _ h => h) (by exact yk (.bool wh) (by kernel_rfl) (fun _ => by kernel_rfl)) hHeld ?_
       refine wpAnyE_take (i := 13) (by simp only [List.getElem?_toArray]; rfl) (by kernel_rfl) (by kernel_rfl) (by kernel_rfl) (by kernel_rfl) (by kernel_rfl) (by exact fun _ _ _ h => h) (by exact yk (.int .i64 (er : Int)) (by kernel_rfl) (fun _ => by kernel_rfl)) hHeld ?_
       refine wpAnyE_take (i := 14) (by simp only [List.getElem?_toArray]; rfl) (by kernel_rfl) (by kernel_rfl) (by kernel_rfl) (by kernel_rfl) (by kernel_rfl) (by exact fun _ _ _ h => h) (by exact yk (.slice Am nm cm) (by kernel_rfl) (fun _ => by kernel_rfl)) hHeld ?_
       refine wpAnyE_take (i := 15) (by simp only [List.getElem?_toArray]; rfl) (by kernel_rfl) (by kernel_rfl) (by kernel_rfl) (by kernel_rfl) (by kernel_rfl) (by exact fun _ _ _ h => h) (by exact yk (.bool wh) (by kernel_rfl) (fun _ => by kernel_rfl)) hHeld ?_
       refine wpAnyE_take (i := 16) (by simp only [List.getElem?_toArray]; rfl) (by kernel_rfl) (by kernel_rfl) (by kernel_rfl) (by kernel_rfl) (by kernel_rfl) (by exact fun _ _ _ h => h) (by exact yk (.int .i64 (er : Int)) (by kernel_rfl) (fun _ => by kernel_rfl)) hHeld ?_
       refine wpAnyE_done (by kernel_rfl) ?_ _
       have d6 := LkB.c6 hks2.kin.box
       have HKS := Lib.hid hks2
       have HROW := Lib.hid hrow2
       have hmp2 := hks2.mp
       obtain ⟨r, hr⟩ : ∃ r, r = (cn + (j + 1)) % 65536 := ⟨_, rfl⟩
       have hra : (r : Int) = ((T : Int) + 1) % 65536 := by have := HTT.out; omega
       have hAdd := fun W => Add_calls T 1 r W hra
       have HR := Lib.hid hr
       clear hks2 hrow2 hPut hr hra
       cases wh
       · obtain ⟨w8, hdel, hmp8, hm8, -⟩ := hmp2.drop hT65 0
         have hks3 := HKS.out.del hmp8 hm8
         have HKS3 := Lib.hid hks3
         clear hmp8 hm8 hmp2 hks3 HKS
         by_cases h0 : er = 0
         · have he0 : er = 0 := h0
           have HX := Lib.hid (show putK s T = _ from HPK.out)
           subst he0
           clear h0
           go_wp2_with fail
           refine (hAdd _).mono ?_
           rintro e w10 ⟨rfl, rfl⟩
           go_wp2_with fail
           go_roundw
           case rel => exact ⟨j + 1, _, v2, us, putK s T, by omega, by rw [HR.out], by rw [HX.out, ← HEE.out, if_pos rfl], Lib.hid HNX.out.symm, by omega, by rw [HX.out, ← HWE.out, ← HEE.out, if_neg (by decide), if_pos rfl]; exact HKS3.out⟩
           case measure => have h1 := HD.out; have h2 := HTT.out; have h3 := HR.out; unfold aheadN at h1 ⊢; simp only [intOf, Int.toNat_natCast]; omega
         · have he0 : ¬ er = 0 := h0
           have HX := Lib.hid (show putK s T = _ from HPK.out)
           have hnz : ((er : Int) != 0) = true := by simp; omega
           clear h0
           go_wp2_with fail
           refine (hAdd _).mono ?_
           rintro e w10 ⟨rfl, rfl⟩
           go_wp2_with fail
           go_roundw
           case rel => exact ⟨j + 1, _, v2, us, putK s T, by omega, by rw [HR.out], by rw [HX.out, ← HEE.out, if_neg he0], Lib.hid HNX.out.symm, by omega, by rw [HX.out, ← HWE.out, ← HEE.out, if_neg (by decide), if_neg he0]; exact HKS3.out.err er⟩
           case measure => have h1 := HD.out; have h2 := HTT.out; have h3 := HR.out; unfold aheadN at h1 ⊢; simp only [intOf, Int.toNat_natCast]; omega
       · obtain ⟨w8, hdel, hmp8, hm8, -⟩ := hmp2.drop hT65 0
         have hks3 := HKS.out.del hmp8 hm8
         have hmap3 := HKS.out.mp.isMap
         have hrow3 := Row.mod HROW.out hm8 (fun k hk hh => row_notmap HROW.out hmap3 (hh ▸ hk))
         have hrs := hks3.rs
         have hul3 : us.length + 1 ≤ 1000000 := by omega
         have hwsz := hks3.size
         have HKS3 := Lib.hid hks3
         have HROW3 := Lib.hid hrow3
         clear hmp8 hm8 hmp2 hks3 HKS hmap3 hrow3 HROW
         by_cases h0 : er = 0
         · have he0 : er = 0 := h0
           have HX := Lib.hid (show putK s T = _ from HPK.out)
           subst he0
           clear h0
           go_wp2_with (at_builtin; go_loud (refine wpList_appS w8 rfl (.tmp 74) (.tmp 76) rfl w.heap.size u9 us rfl hrs rfl rfl hul3 hwsz ?_); intro vo2 w9 hrs2 hm9 _)
           have hks4 := HKS3.out.app HROW3.out (fun i hi h => by have h0 := HU1.out (by first | rfl | trivial); rw [h0] at h; cases h) HIB.out hrs2 hm9
           have HKS4 := Lib.hid hks4
           clear hrs hrs2 hm9 hks4 HKS3 HROW3
           refine (hAdd _).mono ?_
           rintro e w10 ⟨rfl, rfl⟩
           go_wp2_with fail
           go_roundw
           case rel => exact ⟨j + 1, _, v2, (us ++ [.slice Am nm cm]), putK s T, by omega, by rw [HR.out], by rw [HX.out, ← HEE.out, if_pos rfl], Lib.hid HNX.out.symm, by simp; omega, by rw [HX.out, ← HWE.out, ← HEE.out, ← HMS.out, if_pos rfl, if_pos rfl]; exact HKS4.out⟩
           case measure => have h1 := HD.out; have h2 := HTT.out; have h3 := HR.out; unfold aheadN at h1 ⊢; simp only [intOf, Int.toNat_natCast]; omega
         · have he0 : ¬ er = 0 := h0
           have HX := Lib.hid (show putK s T = _ from HPK.out)
           have hnz : ((er : Int) != 0) = true := by simp; omega
           clear h0
           go_wp2_with (at_builtin; go_loud (refine wpList_appS w8 rfl (.tmp 74) (.tmp 76) rfl w.heap.size u9 us rfl hrs rfl rfl hul3 hwsz ?_); intro vo2 w9 hrs2 hm9 _)
           have hks4 := HKS3.out.app HROW3.out (fun i hi h => by have h0 := HU1.out (by first | rfl | trivial); rw [h0] at h; cases h) HIB.out hrs2 hm9
           have HKS4 := Lib.hid hks4
           clear hrs hrs2 hm9 hks4 HKS3 HROW3
           refine (hAdd _).mono ?_
           rintro e w10 ⟨rfl, rfl⟩
           go_wp2_with fail
           go_roundw
           case rel => exact ⟨j + 1, _, v2, (us ++ [.slice Am nm cm]), putK s T, by omega, by rw [HR.out], by rw [HX.out, ← HEE.out, if_neg he0], Lib.hid HNX.out.symm, by simp; omega, by rw [HX.out, ← HWE.out, ← HEE.out, ← HMS.out, if_pos rfl, if_neg he0]; exact HKS4.out.err er⟩
           case measure => have h1 := HD.out; have h2 := HTT.out; have h3 := HR.out; unfold aheadN at h1 ⊢; simp only [intOf, Int.toNat_natCast]; omega
  ·
   rw [if_pos (by kernel_rfl)]
   refine wp_alA rfl ?_
   have y := Box2.new_ wd12' (.int .u16 0) (.int .u32 0)
   obtain ⟨ba, hba⟩ : ∃ ba, ba = wd12'.heap.size := ⟨_, rfl⟩
   have hbaw : w.heap.size ≤ ba := by have := hbx.size; omega
   have hbf9 : ¬ bf = ba := by have := z.lt; omega
   have hgb9 : ¬ g = ba := by have := q.lt; omega
   have h9 := below_alloc1 wd12' (.cells #[.int .u16 0, .int .u32 0] 45)
   obtain ⟨w18', e⟩ : ∃ w18', w18' = World.alloc wd12' (.cells #[.int .u16 0, .int .u32 0] 45) := ⟨_, rfl⟩
   rw [← hba] at y ⊢
   rw [← e] at y h9 ⊢
   clear e hba
   replace q := q.ext h9
   replace z := z.ext h9
   replace hbx := hbx.trans (h9.mono hbx.size)
   replace hTz := Tab.ext hTz h9
   clear h9
   refine hKK.out _ _ ?_ (fun hHeld => ?_)
   · exact (by exact ⟨q, z⟩)
   clear hKK KK
   try simp only [Act.put, List.setIfInBounds_toArray, List.set_cons_zero, List.set_cons_succ]
   refine wpAnyE_ready (rs := [6]) (by kernel_rfl) (by simp) ?_
   refine EachE.cons (by rfl) (by simp only [List.getElem?_toArray]; rfl) (fun KK hKK => ?_) EachE.nil
   rw [if_pos (by kernel_rfl)]
   refine wp_callF 72 #[.agg #[.int .u16 (L.cn : Int), .int .u32 (L.cb : Int)], .int .u16 (f.seq : Int)] (by kernel_rfl) ?_
   refine (hN _ hTz).mono ?_
   rintro e w19' ⟨rfl, h9⟩
   refine ⟨_, rfl, ?_⟩
   rw [show noteV L.cn L.cb (some (cn', cb')) = .tuple #[.agg #[.int .u16 (cn' : Int), .int .u32 (cb' : Int)], .bool true] from rfl]
   replace q := q.ext h9
   replace z := z.ext h9
   replace hbx := hbx.trans (h9.mono hbx.size)
   replace y := y.ext h9
   clear h9
   refine hKK.out _ _ ?_ (fun hHeld => ?_)
   · exact (by exact ⟨q, z⟩)
   clear hKK KK
   refine wpAnyE_take (i := 7) (by simp only [List.getElem?_toArray]; rfl) (by kernel_rfl) (by kernel_rfl) (by kernel_rfl) (by kernel_rfl) (by kernel_rfl) (by exact fun _ _ _ h => h) (by exact yk (.tuple #[.agg #[.int .u16 (cn' : Int), .int .u32 (cb' : Int)], .bool true]) (by kernel_rfl) (fun _ => by kernel_rfl)) hHeld ?_
   refine wpAnyE_take (i := 8) (by simp only [List.getElem?_toArray]; rfl) (by kernel_rfl) (by kernel_rfl) (by kernel_rfl) (by kernel_rfl) (by kernel_rfl) (by exact fun _ _ _ h => h) (by exact yk (.agg #[.int .u16 (cn' : Int), .int .u32 (cb' : Int)]) (by kernel_rfl) (fun _ => by kernel_rfl)) hHeld ?_
   refine wpAnyE_take (i := 9) (by simp only [List.getElem?_toArray]; rfl) (by kernel_rfl) (by kernel_rfl) (by kernel_rfl) (by kernel_rfl) (by kernel_rfl) (by exact fun _ _ _ h => h) (by exact yk (.bool true) (by kernel_rfl) (fun _ => by kernel_rfl)) hHeld ?_
   try simp only [Act.put, List.setIfInBounds_toArray, List.set_cons_zero, List.set_cons_succ]
   refine wpAnyE_ready (rs := [11]) (by kernel_rfl) (by simp) ?_
   refine EachE.cons (by rfl) (by simp only [List.getElem?_toArray]; rfl) (fun KK hKK => ?_) EachE.nil
   rw [if_pos (by kernel_rfl)]
   refine wp_stA (.tmp 7) (.tmp 27) rfl ba (.int .u16 (cn' : Int)) (.int .u32 (cb' : Int)) (.int .u16 0) (.int .u32 0) (by kernel_rfl) (by kernel_rfl) y rfl rfl ?_
   have y2 : Box2 (World.setRow w19' ba #[.int .u16 (cn' : Int), .int .u32 (cb' : Int)]) ba (.int .u16 (cn' : Int)) (.int .u32 (cb' : Int)) := setRow_heap w19' ba _ #[.int .u16 (cn' : Int), .int .u32 (cb' : Int)] _ _ y
   have hb2 := below_setRow hbx ba #[.int .u16 (cn' : Int), .int .u32 (cb' : Int)] hbaw
   have hm9 : Mod (fun i => i = ba) w19' (World.setRow w19' ba #[.int .u16 (cn' : Int), .int .u32 (cb' : Int)]) := mod_setRow w19' ba #[.int .u16 (cn' : Int), .int .u32 (cb' : Int)]
   have q2 := q.mod hm9 hgb9
   have z2 := z.mod hm9 hbf9
   obtain ⟨w20', e⟩ : ∃ w20', w20' = World.setRow w19' ba #[.int .u16 (cn' : Int), .int .u32 (cb' : Int)] := ⟨_, rfl⟩
   rw [← e] at y2 hb2 q2 z2 ⊢
   clear e hm9 y hbx q z
   refine hKK.out _ _ ?_ (fun hHeld => ?_)
   · exact (by exact ⟨q2, z2⟩)
   clear hKK KK
   refine wpAnyE_take (i := 12) (by simp only [List.getElem?_toArray]; rfl) (by kernel_rfl) (by kernel_rfl) (by kernel_rfl) (by kernel_rfl) (by kernel_rfl) (by exact fun _ _ _ h => h) (by exact yk (.bool true) (by kernel_rfl) (fun _ => by kernel_rfl)) hHeld ?_
   refine wpAnyE_done (by kernel_rfl) ?_ _
   clear hN hTz hT
   have d4 := q2.c4
   have d5 := q2.c5
   have z4 := q2.fz 4
   have z5 := q2.fz 5
   have p0 := y2.c0
   have p1 := y2.c1
   have q3 : LkB ((World.setCell w20' ⟨g, 4, none⟩ (.int .u16 (cn' : Int))).setCell ⟨g, 5, none⟩ (.int .u32 (cb' : Int))) g bm { { L with cn := cn', cb := cb' } with lv := k.leaving } vw vf vh := heap_setCell_same _ g 5 _ _ _ (heap_setCell_same w20' g 4 _ _ _ q2)
   have hm4 : Mod (fun i => i = g) w20' ((World.setCell w20' ⟨g, 4, none⟩ (.int .u16 (cn' : Int))).setCell ⟨g, 5, none⟩ (.int .u32 (cb' : Int))) := (Mod.setCell w20' ⟨g, 4, none⟩ _).trans (Mod.setCell _ ⟨g, 5, none⟩ _) (fun _ _ h => h) (fun _ _ h => h)
   have z3 := z2.mod hm4 (by omega)
   have hmp3 := (HMP.out.ext hb2).mod hm4 (fun e => by have e : bm = g := e; have h1 := HK.out.box; unfold BoxK LkB at h1; simp only at h1; obtain ⟨es, cl, h2⟩ := hmap; rw [e, h1] at h2; cases h2)
   have Q3 := Lib.hid q3
   have Z3 := Lib.hid z3
   have M3 := Lib.hid hmp3
   clear q3 z3 hmp3 hm4 q2 z2
   go_wp2_with fail
   obtain ⟨w3, hw3⟩ : ∃ w3, w3 = (World.setCell w20' ⟨g, 4, none⟩ (.int .u16 (cn' : Int))).setCell ⟨g, 5, none⟩ (.int .u32 (cb' : Int)) := ⟨_, rfl⟩
   have q3 := Q3.out
   have z3 := Z3.out
   have hmp3 := M3.out
   clear Q3 Z3 M3
   rw [← hw3] at q3 z3 hmp3 ⊢
   have HW3 := Lib.hid hw3
   clear hw3 d4 d5 z4 z5 p0 p1
   refine wp_region_E (fun j => j == 13) (fun w9 => LkB w9 g bm { { L with cn := cn', cb := cb' } with lv := k.leaving } vw vf vh ∧ FrX w9 bf f Af cf) (by kernel_rfl) ?_ (fun hHeld => ?_)
   · exact (by exact ⟨q3, z3⟩)
   obtain ⟨wd21', hwd⟩ : ∃ wd21', wd21' = World.drew w3 := ⟨_, rfl⟩
   have h9 : Below w3.heap.size w3 wd21' := by rw [hwd]; exact below_drew (Below.refl _ _)
   rw [← hwd] at hHeld ⊢
   clear hwd
   replace q3 := q3.ext h9
   replace z3 := z3.ext h9
   replace hmp3 := hmp3.ext h9
   have H9 := Lib.hid h9
   clear h9
   refine wpAnyE_take (i := 0) (by simp only [List.getElem?_toArray]; rfl) (by kernel_rfl) (by kernel_rfl) (by kernel_rfl) (by kernel_rfl) (by kernel_rfl) (by exact fun _ _ _ h => h) (by exact yk (.pointer (some ⟨g, 0, none⟩)) (by kernel_rfl) (fun _ => by kernel_rfl)) hHeld ?_
   refine wpAnyE_take (i := 1) (by simp only [List.getElem?_toArray]; rfl) (by kernel_rfl) (by kernel_rfl) (by kernel_rfl) (by kernel_rfl) (by kernel_rfl) (by exact fun _ _ _ h => h) (by exact yk (.pointer (some ⟨g, 0, none⟩)) (by kernel_rfl) (fun _ => by kernel_rfl)) hHeld ?_
   refine wpAnyE_take (i := 2) (by simp only [List.getElem?_toArray]; rfl) (by kernel_rfl) (by kernel_rfl) (by kernel_rfl) (by kernel_rfl) (by kernel_rfl) (by exact fun _ _ _ h => h) (by exact yk (.pointer (some ⟨g, 6, none⟩)) (by kernel_rfl) (fun _ => by kernel_rfl)) hHeld ?_
   refine wpAnyE_take (i := 3) (by simp only [List.getElem?_toArray]; rfl) (by kernel_rfl) (by kernel_rfl) (by kernel_rfl) (by kernel_rfl) (by kernel_rfl) (by exact fun _ _ _ h => h) (by exact yk_ldM (by kernel_rfl) (.tmp 37) rfl ⟨g, 6, none⟩ (.map (some bm)) (by kernel_rfl) (fun w hh => hh.1.c6)) hHeld ?_
   refine wpAnyE_take (i := 4) (by simp only [List.getElem?_toArray]; rfl) (by kernel_rfl) (by kernel_rfl) (by kernel_rfl) (by kernel_rfl) (by kernel_rfl) (by exact fun _ _ _ h => h) (by exact yk (.pointer (some ⟨bf, 1, none⟩)) (by kernel_rfl) (fun _ => by kernel_rfl)) hHeld ?_
   refine wpAnyE_take (i := 5) (by simp only [List.getElem?_toArray]; rfl) (by kernel_rfl) (by kernel_rfl) (by kernel_rfl) (by kernel_rfl) (by kernel_rfl) (by exact fun _ _ _ h => h) (by exact yk_ldQ (by kernel_rfl) (.tmp 39) rfl ⟨bf, 1, none⟩ (.int .u16 (f.seq : Int)) (by kernel_rfl) (fun w hh => hh.2.c1)) hHeld ?_
   refine wpAnyE_take (i := 6) (by simp only [List.getElem?_toArray]; rfl) (by kernel_rfl) (by kernel_rfl) (by kernel_rfl) (by kernel_rfl) (by kernel_rfl) (by exact fun _ _ _ h => h) (by exact yk (.pointer (some ⟨bf, 4, none⟩)) (by kernel_rfl) (fun _ => by kernel_rfl)) hHeld ?_
   refine wpAnyE_take (i := 7) (by simp only [List.getElem?_toArray]; rfl) (by kernel_rfl) (by kernel_rfl) (by kernel_rfl) (by kernel_rfl) (by kernel_rfl) (by exact fun _ _ _ h => h) (by exact yk_ldBo (by kernel_rfl) (.tmp 41) rfl ⟨bf, 4, none⟩ (.bool f.first) (by kernel_rfl) (fun w hh => hh.2.c4)) hHeld ?_
   refine wpAnyE_take (i := 8) (by simp only [List.getElem?_toArray]; rfl) (by kernel_rfl) (by kernel_rfl) (by kernel_rfl) (by kernel_rfl) (by kernel_rfl) (by exact fun _ _ _ h => h) (by exact yk (.pointer (some ⟨bf, 5, none⟩)) (by kernel_rfl) (fun _ => by kernel_rfl)) hHeld ?_
   refine wpAnyE_take (i := 9) (by simp only [List.getElem?_toArray]; rfl) (by kernel_rfl) (by kernel_rfl) (by kernel_rfl) (by kernel_rfl) (by kernel_rfl) (by exact fun _ _ _ h => h) (by exact yk_ldBo (by kernel_rfl) (.tmp 43) rfl ⟨bf, 5, none⟩ (.bool f.last) (by kernel_rfl) (fun w hh => hh.2.c5)) hHeld ?_
   refine wpAnyE_take (i := 10) (by simp only [List.getElem?_toArray]; rfl) (by kernel_rfl) (by kernel_rfl) (by kernel_rfl) (by kernel_rfl) (by kernel_rfl) (by exact fun _ _ _ h => h) (by exact yk (.pointer (some ⟨bf, 7, none⟩)) (by kernel_rfl) (fun _ => by kernel_rfl)) hHeld ?_
   refine wpAnyE_take (i := 11) (by simp only [List.getElem?_toArray]; rfl) (by kernel_rfl) (by kernel_rfl) (by kernel_rfl) (by kernel_rfl) (by kernel_rfl) (by exact fun _ _ _ h => h) (by exact yk_ldBy (by kernel_rfl) (.tmp 45) rfl ⟨bf, 7, none⟩ (.slice Af f.data.length cf) (by kernel_rfl) (fun w hh => hh.2.c7)) hHeld ?_
   refine wpAnyE_take (i := 12) (by simp only [List.getElem?_toArray]; rfl) (by kernel_rfl) (by kernel_rfl) (by kernel_rfl) (by kernel_rfl) (by kernel_rfl) (by exact fun _ _ _ h => h) (by exact yk (.agg #[.bool f.first, .bool f.last, .slice Af f.data.length cf]) (by kernel_rfl) (fun _ => by kernel_rfl)) hHeld ?_
   try simp only [Act.put, List.setIfInBounds_toArray, List.set_cons_zero, List.set_cons_succ]
   refine wpAnyE_ready (rs := [13]) (by kernel_rfl) (by simp) ?_
   refine EachE.last (by rfl) (by simp only [List.getElem?_toArray]; rfl) (fun KK hKK => ?_)
   rw [if_pos (by kernel_rfl)]
   refine wp_mapUp (.tmp 38) (.tmp 40) (.tmp 47) rfl bm n (valE E) f.seq _ (by kernel_rfl) (by kernel_rfl) rfl hmp3 (by simp only [maxLen]; omega) hs ?_
   intro w5 hmp5 hm5 hsz5
   refine hKK.out _ _ ?_
   clear hKK KK
   refine wpAnyE_done (by kernel_rfl) ?_ _
   have hks := KS.start (w3 := w5) HK.out HMP.out HPC.out HC.out HCY.out HY.out hkl hB hb2 y2 hbaw HW3.out hmp5 ((Mod.of_below H9.out).mono (fun i hi h => absurd hi (by omega)) |>.trans hm5 (S := fun i => i = bm) (fun _ _ h => h) (fun _ _ h => h))
   rw [← HS0.out, ← HP.out] at hks
   obtain ⟨E1, hE1⟩ : ∃ E1 : EP, E1 = fun u => if u = f.seq then some ⟨⟨f.first, f.last, f.data⟩, Af, cf, bf0⟩ else E u := ⟨_, rfl⟩
   rw [← hE1] at hks
   have HS := Lib.hid (show s0.err = 0 by rw [HS0.out])
   have hcl : cn < 65536 := by have := HC0.out; omega
   clear hm5 hsz5 hE1 hmp5 hmp3 q3 z3 hb2 y2 H9 HW3 HK HMP HPC HY HC HCY HS0
   have HKS := Lib.hid hks
   clear hks
   go_wp2_with fail
   rw [← HC0.out]
   go_loopw [6, 9, 10] (fun tu vo er wr => ∃ (j : Nat) (E : EP) (vh' : Value) (us : List Value) (s : Kp), j ≤ d ∧ tu = .int .u16 (((cn + j) % 65536 : Nat) : Int) ∧ er = .int .i64 (s.err : Int) ∧ Hid (s = drainK s0 cn j) ∧ us.length ≤ j ∧ KS C w wr B g P vh (n + 1) ba cn' cb' E s vh' vo us) (fun tu _ _ _ => aheadN (intOf tu).toNat cn')
   case atStart => exact ⟨0, E1, vh, [], s0, Nat.zero_le _, by rw [Nat.add_zero, Nat.mod_eq_of_lt hcl], by rw [HS.out]; rfl, Lib.hid rfl, Nat.le_refl _, HKS.out⟩
   case round =>
     obtain ⟨j, E2, vh2, us, s, hj, rfl, rfl, hsj, hul, hks⟩ := hrel
     clear HKS
     have p0 := hks.box.c0
     have hd65 : d < 65536 := by rw [HD.out]; unfold aheadN; omega
     have hend := ahead_end (x := cn) (y := cn') (j := j) hcl hcn2 (by rw [← HC0.out] at HD; rw [← HD.out]; exact hj)
     rw [← HC0.out] at HD
     rw [← HD.out] at hend
     obtain ⟨T, hTT⟩ : ∃ T, T = (cn + j) % 65536 := ⟨_, rfl⟩
     have hT65 : T < 65536 := by omega
     rw [← hTT] at hend ⊢
     have HTT := Lib.hid hTT
     have HEND := Lib.hid hend
     clear hTT hend
     by_cases hjd : j = d
     · have hTe : T = cn' := HEND.out.2 hjd
       subst hTe
       subst hjd
       obtain ⟨Ao, co, bo, hvo, -⟩ := ownsP_sl hks.rs
       obtain ⟨m, hm⟩ : ∃ m, m = us.length := ⟨_, rfl⟩
       rw [← hm] at hvo
       subst hvo
       clear hm
       have HKS := Lib.hid hks
       clear hks
       go_wp2_with fail
       go_ret2
       exact ⟨_, by rw [← hsj.out]; rfl, ⟨vh2, E2, us, ba, by rw [← hsj.out]; exact HKS.out⟩⟩
     · have hTe : ¬ T = cn' := fun e => hjd (HEND.out.1 e)
       have hTne : ((T : Int) != (cn' : Int)) = true := by simp; omega
       have hjl : j < d := by omega
       obtain ⟨hin, hpp, hval, hbg⟩ := hks.piece T
       obtain ⟨x, hx⟩ : ∃ x, x = (E2 T).getD pz := ⟨_, rfl⟩
       rw [← hx] at hin hpp hval hbg
       have hnx : drainK s0 cn (j + 1) = putK s T := by show putK (drainK s0 cn j) ((cn + j) % 65536) = _; rw [← hsj.out, ← HTT.out]
       have HNX := Lib.hid hnx
       have hpk : putK s T = ⟨fun u => if u = T then none else s.E u, (putB s.k x.p).1, if (putB s.k x.p).2.2.1 then s.out ++ [(putB s.k x.p).2.1] else s.out, if (putB s.k x.p).2.2.2 = 0 then s.err else (putB s.k x.p).2.2.2⟩ := by rw [hpp]; rfl
       have hwh := putB_whole (k := s.k) (x := x.p)
       have her := putB_err s.k x.p
       have hPut := fun W hk hs => Put2_calls P B g vh2 s.k x.p x.A x.c x.b W hk hks.hk hs hbg hin.2
       have HPK := Lib.hid hpk
       have HWH := Lib.hid hwh
       have HER := Lib.hid her
       clear hnx hpk hwh her hx hpp hbg
       go_wp2_with fail
       refine wp_region_E (fun j => false) (fun w9 => w9.cell? ⟨g, 6, none⟩ = some (.map (some P.bm)) ∧ Mp w9 P.bm (n + 1) (valE E2)) (by kernel_rfl) ?_ (fun hHeld => ?_)
       · exact (by exact ⟨LkB.c6 hks.kin.box, hks.mp⟩)
       obtain ⟨wd22', hwd⟩ : ∃ wd22', wd22' = World.drew wr := ⟨_, rfl⟩
       have h9 : Below wr.heap.size wr wd22' := by rw [hwd]; exact below_drew (Below.refl _ _)
       rw [← hwd] at hHeld ⊢
       clear hwd
       replace hks := hks.ext h9
       replace hin := hin.ext h9
       clear h9
       refine wpAnyE_take (i := 0) (by simp only [List.getElem?_toArray]; rfl) (by kernel_rfl) (by kernel_rfl) (by kernel_rfl) (by kernel_rfl) (by kernel_rfl) (by exact fun _ _ _ h => h) (by exact yk (.pointer (some ⟨g, 0, none⟩)) (by kernel_rfl) (fun _ => by kernel_rfl)) hHeld ?_
       refine wpAnyE_take (i := 1) (by simp only [List.getElem?_toArray]; rfl) (by kernel_rfl) (by kernel_rfl) (by kernel_rfl) (by kernel_rfl) (by kernel_rfl) (by exact fun _ _ _ h => h) (by exact yk (.pointer (some ⟨g, 0, none⟩)) (by kernel_rfl) (fun _ => by kernel_rfl)) hHeld ?_
       refine wpAnyE_take (i := 2) (by simp only [List.getElem?_toArray]; rfl) (by kernel_rfl) (by kernel_rfl) (by kernel_rfl) (by kernel_rfl) (by kernel_rfl) (by exact fun _ _ _ h => h) (by exact yk (.pointer (some ⟨g, 7, none⟩)) (by kernel_rfl) (fun _ => by kernel_rfl)) hHeld ?_
       refine wpAnyE_take (i := 3) (by simp only [List.getElem?_toArray]; rfl) (by kernel_rfl) (by kernel_rfl) (by kernel_rfl) (by kernel_rfl) (by kernel_rfl) (by exact fun _ _ _ h => h) (by exact yk (.pointer (some ⟨g, 0, none⟩)) (by kernel_rfl) (fun _ => by kernel_rfl)) hHeld ?_
       refine wpAnyE_take (i := 4) (by simp only [List.getElem?_toArray]; rfl) (by kernel_rfl) (by kernel_rfl) (by kernel_rfl) (by kernel_rfl) (by kernel_rfl) (by exact fun _ _ _ h => h) (by exact yk (.pointer (some ⟨g, 0, none⟩)) (by kernel_rfl) (fun _ => by kernel_rfl)) hHeld ?_
       refine wpAnyE_take (i := 5) (by simp only [List.getElem?_toArray]; rfl) (by kernel_rfl) (by kernel_rfl) (by kernel_rfl) (by kernel_rfl) (by kernel_rfl) (by exact fun _ _ _ h => h) (by exact yk (.pointer (some ⟨g, 6, none⟩)) (by kernel_rfl) (fun _ => by kernel_rfl)) hHeld ?_
       refine wpAnyE_take (i := 6) (by simp only [List.getElem?_toArray]; rfl) (by kernel_rfl) (by kernel_rfl) (by kernel_rfl) (by kernel_rfl) (by kernel_rfl) (by exact fun _ _ _ h => h) (by exact yk_ldM (by kernel_rfl) (.tmp 60) rfl ⟨g, 6, none⟩ (.map (some P.bm)) (by kernel_rfl) (fun w hh => hh.1)) hHeld ?_
       refine wpAnyE_take (i := 7) (by simp only [List.getElem?_toArray]; rfl) (by kernel_rfl) (by kernel_rfl) (by kernel_rfl) (by kernel_rfl) (by kernel_rfl) (by exact fun _ _ _ h => h) (by exact yk (.int .u16 (T : Int)) (by kernel_rfl) (fun _ => by kernel_rfl)) hHeld ?_
       refine wpAnyE_take (i := 8) (by simp only [List.getElem?_toArray]; rfl) (by kernel_rfl) (by kernel_rfl) (by kernel_rfl) (by kernel_rfl) (by kernel_rfl) (by exact fun _ _ _ h => h) (by exact yk_lookE (by kernel_rfl) (.tmp 61) (.tmp 62) rfl P.bm (n + 1) (valE E2) T (by kernel_rfl) (by kernel_rfl) hT65 (fun w hh => hh.2) x.val hval) hHeld ?_
       try simp only [Act.put, List.setIfInBounds_toArray, List.set_cons_zero, List.set_cons_succ]
       refine wpAnyE_ready (rs := [9]) (by kernel_rfl) (by simp) ?_
       refine EachE.cons (by rfl) (by simp only [List.getElem?_toArray]; rfl) (fun KK hKK => ?_) EachE.nil
       rw [if_pos (by kernel_rfl)]
       refine wp_callF 73 #[.pointer (some ⟨g, 7, none⟩), x.val] (by kernel_rfl) ?_
       refine (hPut _ hks.kin hin.1 (Nat.le_trans hks.hB hks.size)).mono ?_
       rintro e w7 ⟨v2, vm, rfl, hk2, hrow2, hm2, hat2, hvo2⟩
       have hks2 := hks.put hk2 hm2 hat2
       have hib2 : ∀ i, vm.ownBlock = some i → vh.ownBlock = some i ∨ w.heap.size ≤ i := fun i hi => by rcases hvo2 with h | h | ⟨j9, h, h9⟩; exact hks.at_ i (h ▸ hi); (rw [h] at hi; cases hi); (rw [h] at hi; injection hi with hi; right; have := hks.size; omega)
       obtain ⟨Am, cm, bmm, hvm, -⟩ := Row.sl hrow2
       obtain ⟨msg, hmsg⟩ : ∃ msg, msg = (putB s.k x.p).2.1 := ⟨_, rfl⟩
       obtain ⟨wh, hwh⟩ : ∃ wh, wh = (putB s.k x.p).2.2.1 := ⟨_, rfl⟩
       obtain ⟨er, her⟩ : ∃ er, er = (putB s.k x.p).2.2.2 := ⟨_, rfl⟩
       rw [← hmsg] at hrow2 hvm
       rw [← hwh, ← her]
       obtain ⟨nm, hnm⟩ : ∃ nm, nm = msg.length := ⟨_, rfl⟩
       rw [← hnm] at hvm
       subst hvm
       have hu1 : wh = true → v2.ownBlock = none := fun h => by rw [hk2.none_ (HWH.out (hwh ▸ h))]; rfl
       have HU1 := Lib.hid hu1
       have HMS := Lib.hid hmsg
       have HWE := Lib.hid hwh
       have HEE := Lib.hid her
       have her4 : er ≤ 4 := by rw [her]; exact HER.out
       have HIB := Lib.hid hib2
       clear hmsg hwh her hnm hk2 hm2 hat2 hvo2 hib2 hks hin hu1 hval
       refine ⟨_, rfl, ?_⟩
       refine hKK.out _ _ ?_ (fun hHeld => ?_)
       · exact (by exact ⟨LkB.c6 hks2.kin.box, hks2.mp⟩)
       clear hKK KK
       refine wpAnyE_take (i := 10) (by simp only [List.getElem?_toArray]; rfl) (by kernel_rfl) (by kernel_rfl) (by kernel_rfl) (by kernel_rfl) (by kernel_rfl) (by exact fun _ _ _ h => h) (by exact yk (.tuple #[.slice Am nm cm, .bool wh, .int .i64 (er : Int)]) (by kernel_rfl) (fun _ => by kernel_rfl)) hHeld ?_
       refine wpAnyE_take (i := 11) (by simp only [List.getElem?_toArray]; rfl) (by kernel_rfl) (by kernel_rfl) (by kernel_rfl) (by kernel_rfl) (by kernel_rfl) (by exact fun _ _ _ h => h) (by exact yk (.slice Am nm cm) (by kernel_rfl) (fun _ => by kernel_rfl)) hHeld ?_
       refine wpAnyE_take (i := 12) (by simp only [List.getElem?_toArray]; rfl) (by kernel_rfl) (by kernel_rfl) (by kernel_rfl) (by kernel_rfl) (by kernel_rfl) (by exact fun _ _ _ h => h) (by exact yk (.bool wh) (by kernel_rfl) (fun _ => by kernel_rfl)) hHeld ?_
       refine wpAnyE_take (i := 13) (by simp only [List.getElem?_toArray]; rfl) (by kernel_rfl) (by kernel_rfl) (by kernel_rfl) (by kernel_rfl) (by kernel_rfl) (by exact fun _ _ _ h => h) (by exact yk (.int .i64 (er : Int)) (by kernel_rfl) (fun _ => by kernel_rfl)) hHeld ?_
       refine wpAnyE_take (i := 14) (by simp only [List.getElem?_toArray]; rfl) (by kernel_rfl) (by kernel_rfl) (by kernel_rfl) (by kernel_rfl) (by kernel_rfl) (by exact fun _ _ _ h => h) (by exact yk (.slice Am nm cm) (by kernel_rfl) (fun _ => by kernel_rfl)) hHeld ?_
       refine wpAnyE_take (i := 15) (by simp only [List.getElem?_toArray]; rfl) (by kernel_rfl) (by kernel_rfl) (by kernel_rfl) (by kernel_rfl) (by kernel_rfl) (by exact fun _ _ _ h => h) (by exact yk (.bool wh) (by kernel_rfl) (fun _ => by kernel_rfl)) hHeld ?_
       refine wpAnyE_take (i := 16) (by simp only [List.getElem?_toArray]; rfl) (by kernel_rfl) (by kernel_rfl) (by kernel_rfl) (by kernel_rfl) (by kernel_rfl) (by exact fun _ _ _ h => h) (by exact yk (.int .i64 (er : Int)) (by kernel_rfl) (fun _ => by kernel_rfl)) hHeld ?_
       refine wpAnyE_done (by kernel_rfl) ?_ _
       have d6 := LkB.c6 hks2.kin.box
       have HKS := Lib.hid hks2
       have HROW := Lib.hid hrow2
       have hmp2 := hks2.mp
       obtain ⟨r, hr⟩ : ∃ r, r = (cn + (j + 1)) % 65536 := ⟨_, rfl⟩
       have hra : (r : Int) = ((T : Int) + 1) % 65536 := by have := HTT.out; omega
       have hAdd := fun W => Add_calls T 1 r W hra
       have HR := Lib.hid hr
       clear hks2 hrow2 hPut hr hra
       cases wh
       · obtain ⟨w8, hdel, hmp8, hm8, -⟩ := hmp2.drop hT65 0
         have hks3 := HKS.out.del hmp8 hm8
         have HKS3 := Lib.hid hks3
         clear hmp8 hm8 hmp2 hks3 HKS
         by_cases h0 : er = 0
         · have he0 : er = 0 := h0
           have HX := Lib.hid (show putK s T = _ from HPK.out)
           subst he0
           clear h0
           go_wp2_with fail
           refine (hAdd _).mono ?_
           rintro e w10 ⟨rfl, rfl⟩
           go_wp2_with fail
           go_roundw
           case rel => exact ⟨j + 1, _, v2, us, putK s T, by omega, by rw [HR.out], by rw [HX.out, ← HEE.out, if_pos rfl], Lib.hid HNX.out.symm, by omega, by rw [HX.out, ← HWE.out, ← HEE.out, if_neg (by decide), if_pos rfl]; exact HKS3.out⟩
           case measure => have h1 := HD.out; have h2 := HTT.out; have h3 := HR.out; unfold aheadN at h1 ⊢; simp only [intOf, Int.toNat_natCast]; omega
         · have he0 : ¬ er = 0 := h0
           have HX := Lib.hid (show putK s T = _ from HPK.out)
           have hnz : ((er : Int) != 0) = true := by simp; omega
           clear h0
           go_wp2_with fail
           refine (hAdd _).mono ?_
           rintro e w10 ⟨rfl, rfl⟩
           go_wp2_with fail
           go_roundw
           case rel => exact ⟨j + 1, _, v2, us, putK s T, by omega, by rw [HR.out], by rw [HX.out, ← HEE.out, if_neg he0], Lib.hid HNX.out.symm, by omega, by rw [HX.out, ← HWE.out, ← HEE.out, if_neg (by decide), if_neg he0]; exact HKS3.out.err er⟩
           case measure => have h1 := HD.out; have h2 := HTT.out; have h3 := HR.out; unfold aheadN at h1 ⊢; simp only [intOf, Int.toNat_natCast]; omega
       · obtain ⟨w8, hdel, hmp8, hm8, -⟩ := hmp2.drop hT65 0
         have hks3 := HKS.out.del hmp8 hm8
         have hmap3 := HKS.out.mp.isMap
         have hrow3 := Row.mod HROW.out hm8 (fun k hk hh => row_notmap HROW.out hmap3 (hh ▸ hk))
         have hrs := hks3.rs
         have hul3 : us.length + 1 ≤ 1000000 := by omega
         have hwsz := hks3.size
         have HKS3 := Lib.hid hks3
         have HROW3 := Lib.hid hrow3
         clear hmp8 hm8 hmp2 hks3 HKS hmap3 hrow3 HROW
         by_cases h0 : er = 0
         · have he0 : er = 0 := h0
           have HX := Lib.hid (show putK s T = _ from HPK.out)
           subst he0
           clear h0
           go_wp2_with (at_builtin; go_loud (refine wpList_appS w8 rfl (.tmp 74) (.tmp 76) rfl w.heap.size u9 us rfl hrs rfl rfl hul3 hwsz ?_); intro vo2 w9 hrs2 hm9 _)
           have hks4 := HKS3.out.app HROW3.out (fun i hi h => by have h0 := HU1.out (by first | rfl | trivial); rw [h0] at h; cases h) HIB.out hrs2 hm9
           have HKS4 := Lib.hid hks4
           clear hrs hrs2 hm9 hks4 HKS3 HROW3
           refine (hAdd _).mono ?_
           rintro e w10 ⟨rfl, rfl⟩
           go_wp2_with fail
           go_roundw
           case rel => exact ⟨j + 1, _, v2, (us ++ [.slice Am nm cm]), putK s T, by omega, by rw [HR.out], by rw [HX.out, ← HEE.out, if_pos rfl], Lib.hid HNX.out.symm, by simp; omega, by rw [HX.out, ← HWE.out, ← HEE.out, ← HMS.out, if_pos rfl, if_pos rfl]; exact HKS4.out⟩
           case measure => have h1 := HD.out; have h2 := HTT.out; have h3 := HR.out; unfold aheadN at h1 ⊢; simp only [intOf, Int.toNat_natCast]; omega
         · have he0 : ¬ er = 0 := h0
           have HX := Lib.hid (show putK s T = _ from HPK.out)
           have hnz : ((er : Int) != 0) = true := by simp; omega
           clear h0
           go_wp2_with (at_builtin; go_loud (refine wpList_appS w8 rfl (.tmp 74) (.tmp 76) rfl w.heap.size u9 us rfl hrs rfl rfl hul3 hwsz ?_); intro vo2 w9 hrs2 hm9 _)
           have hks4 := HKS3.out.app HROW3.out (fun i hi h => by have h0 := HU1.out (by first | rfl | trivial); rw [h0] at h; cases h) HIB.out hrs2 hm9
           have HKS4 := Lib.hid hks4
           clear hrs hrs2 hm9 hks4 HKS3 HROW3
           refine (hAdd _).mono ?_
           rintro e w10 ⟨rfl, rfl⟩
           go_wp2_with fail
           go_roundw
           case rel => exact ⟨j + 1, _, v2, (us ++ [.slice Am nm cm]), putK s T, by omega, by rw [HR.out], by rw [HX.out, ← HEE.out, if_neg he0], Lib.hid HNX.out.symm, by simp; omega, by rw [HX.out, ← HWE.out, ← HEE.out, ← HMS.out, if_pos rfl, if_neg he0]; exact HKS4.out.err er⟩
           case measure => have h1 := HD.out; have h2 := HTT.out; have h3 := HR.out; unfold aheadN at h1 ⊢; simp only [intOf, Int.toNat_natCast]; omega
end Go.Proofs.YtcgbamkfflcdfaaDoor
