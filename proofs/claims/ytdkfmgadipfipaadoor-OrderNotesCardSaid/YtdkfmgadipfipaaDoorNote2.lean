/- (Acks).Note where the number is new: one that is further on, and the next one. Conditions: the numbers fit; the library's table lies as it lays it. -/
import Derived.Test.YtdkfmgadipfipaaDoorNote
import Derived.Deep.RegionWith
namespace Go.Proofs.YtdkfmgadipfipaaDoor
open Go.RowKit

set_option maxHeartbeats 4000000 in
set_option maxRecDepth 20000 in
theorem Note_bit (x y s x' y' : Nat) (w : World) (hx : x < 65536) (hy : y < 4294967296) (hs : s < 65536) (h : noteN x y s = some (x', y')) (hne : toI x s ≠ 0) :
    Calls Tryd.prog 16 #[acksV x y, .int .u16 s] w fun e w' => e = .returned (.tuple #[acksV x' y', .bool true]) ∧ Below w.heap.size w w' := by
  have hH := Has_calls x y s
  have hT := To_calls x s
  have hB := bit_calls x y s
  have hbt := toI_bounds x s
  have hcase : hasN x y s = false ∧ toI x s ≤ 32 ∧ 0 < toI x s ∧ x' = x ∧ y' = y ||| bitN x s := by
    unfold noteN at h
    split at h
    · cases h
    · rename_i h1
      have hge : ¬ toI x s < 0 := fun h2 => h1 (.inl (has_neg h2))
      injection h with h
      injection h with h2 h3
      refine ⟨by cases hh : hasN x y s; rfl; exact absurd (.inl hh) h1, by omega, by omega, h2.symm, ?_⟩
      rw [← h3]
      unfold bitN
      rw [if_pos ⟨by omega, by omega⟩]
  obtain ⟨hc, hle, hgt, rfl, hy'⟩ := hcase
  have hl := bitN_lt x' s
  have hor : bits .or .u32 (y : Int) ((bitN x' s : Nat) : Int) = ((y' : Nat) : Int) := by rw [hy']; exact u32_or_nat y _ (by omega) (by omega)
  have hsx : ((s : Int) != (x' : Int)) = true := by
    simp only [bne_iff_ne, ne_eq]
    intro he
    exact hne ((toI_zero hx hs).2 (by omega))
  obtain ⟨t, ht⟩ : ∃ t, t = bitN x' s := ⟨_, rfl⟩
  obtain ⟨r, hr⟩ : ∃ r, r = toI x' s := ⟨_, rfl⟩
  rw [← ht] at hB hor
  rw [← hr] at hT hbt hle
  rw [hc] at hH
  obtain ⟨hb1, hb2⟩ := hbt
  clear h hne hgt hc hr ht hy' hl
  have k0 := (Box2.new_ w (.int .u16 (x' : Int)) (.int .u32 (y : Int))).alloc (.cells #[.int .u16 0, .int .u32 0] 34)
  have k1 := Box2.new_ (w.alloc (.cells #[.int .u16 (x' : Int), .int .u32 (y : Int)] 34)) (.int .u16 0) (.int .u32 0)
  rw [show (w.alloc (.cells #[.int .u16 (x' : Int), .int .u32 (y : Int)] 34)).heap.size = w.heap.size + 1 by simp] at k1
  have kb := below_alloc2 w (.cells #[.int .u16 (x' : Int), .int .u32 (y : Int)] 34) (.cells #[.int .u16 0, .int .u32 0] 34)
  go_enter Tryd.func16, Tryd.ntmps16
  go_wp2_with fail
  refine (hH _ hx hy hs).mono ?_
  rintro e w1 ⟨rfl, hb⟩
  have m0 := k0.ext hb
  have m1 := k1.ext hb
  have mb := kb.trans (hb.mono kb.size)
  have a0 := m0.c0
  have a1 := m0.c1
  clear hH hb k0 k1 kb
  go_wp2_with fail
  refine (hT _ hx hs).mono ?_
  rintro e w2 ⟨rfl, rfl⟩
  go_wp2_with fail
  have f1 := m0.f 1
  have n0 := m0.lt
  have hB' : ∀ W : World, W.heap = w2.heap → W.os = w2.os → W.tape = w2.tape → W.output = w2.output → Calls Tryd.prog 20 #[acksV x' y, .int .u16 s] W fun e w' => e = .returned (.int .u32 (t : Nat)) ∧ w'.cell? ⟨w.heap.size, 0, none⟩ = some (.int .u16 (x' : Int)) ∧ w'.cell? ⟨w.heap.size, 1, none⟩ = some (.int .u32 (y : Int)) ∧ w'.frozen? ⟨w.heap.size, 1, none⟩ = false ∧ Box2 w' w.heap.size (.int .u16 (x' : Int)) (.int .u32 (y : Int)) ∧ Box2 w' (w.heap.size + 1) (.int .u16 0) (.int .u32 0) ∧ Below w.heap.size w w' := by
    intro W h1 h2 h3 h4
    refine (hB W hx hs).mono ?_
    rintro e w' ⟨he, hb⟩
    have p0 : Box2 W w.heap.size (.int .u16 (x' : Int)) (.int .u32 (y : Int)) := by unfold Box2; rw [h1]; exact m0
    have p1 : Box2 W (w.heap.size + 1) (.int .u16 0) (.int .u32 0) := by unfold Box2; rw [h1]; exact m1
    have pb : Below w.heap.size w W := ⟨h2.trans mb.os, h3.trans mb.tape, h4.trans mb.output, by rw [h1]; exact mb.size, fun k hk => by rw [h1]; exact mb.block k hk⟩
    have q0 := p0.ext hb
    exact ⟨he, q0.c0, q0.c1, q0.f 1, q0, p1.ext hb, pb.trans (hb.mono pb.size)⟩
  go_region_with (go_at_call 20; refine (hB' w2.drew rfl rfl rfl rfl).mono ?_; rintro e w3 ⟨rfl, g0, g1, gf, G0, G1, gb⟩)
  all_goals
    have q0 := G0.set1 (.int .u32 (y' : Int))
    have q1 := G1.other (p := ⟨w.heap.size, 1, none⟩) (by simp) (.int .u32 (y' : Int))
    have qb := gb.setCell (p := ⟨w.heap.size, 1, none⟩) (Nat.le_refl _) (.int .u32 (y' : Int))
    have r0 := q0.c0
    have r1 := q0.c1
    have s0 := q1.c0
    have s1 := q1.c1
    have t0 := q1.f 0
    have t1 := q1.f 1
    clear g0 g1 gf G0 G1 gb hB' m0 m1 mb a0 a1 f1 n0
    go_wp2_with fail
    have hE := (q1.set0 (.int .u16 (x' : Int))).set1 (.int .u32 (y' : Int))
    refine bodyPost_ret (results_ct (P := Tryd.prog) rfl _ _ (w.heap.size + 1) _ _ (0, 0) _ rfl hE Tryd.underlying34 rfl (by kernel_rfl)) rfl ⟨rfl, ?_⟩
    exact (qb.setCell (by simp) _).setCell (by simp) _
end Go.Proofs.YtdkfmgadipfipaaDoor
