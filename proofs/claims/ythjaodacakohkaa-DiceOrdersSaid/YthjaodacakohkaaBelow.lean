/- (Dice).Below: the plain number, and the dice behind it; nothing that was there turns. Condition: the bound fits 32 bits. -/
import Derived.Test.YthjaodacakohkaaNext
import Derived.BigRegion
namespace Go.Proofs.Ythjaodacakohkaa
open Go.RowKit

theorem results_tc {P : Program} {fn : Func} {p t : Tmp} {ty : TypeId} (h : fn.results = #[.tmp t, .cell p ty]) (tmps : Array Value) (w : World) (g : Nat) (tt : TypeId) (cs : Array Value) (fr : Nat × Nat) (d : TypeDesc)
    (hp : tmps.getD p undef = .pointer (some ⟨g, 0, none⟩)) (hg : w.heap[g]? = some (.cells cs tt fr))
    (hu : P.underlying ty = some d) (hd : (match d with | .struct _ | .array _ _ => true | _ => false) = true) (hi : (P.info? ty).map (·.size) = some cs.size) :
    (results fn tmps).run P w = .ok (.tuple #[tmps.getD t undef, .agg cs]) w := by
  have hp' : tmps[p]?.getD undef = .pointer (some ⟨g, 0, none⟩) := by simpa using hp
  simp [results, h, hp', asAddr, run_loadVar_row w g tt ty cs fr d hg hu hd hi]
theorem results_cc {P : Program} {fn : Func} {p q : Tmp} {ty sy : TypeId} (h : fn.results = #[.cell p ty, .cell q sy]) (tmps : Array Value) (w : World) (g g2 : Nat) (tt t2 : TypeId) (cs ds : Array Value) (fr fr2 : Nat × Nat) (d d2 : TypeDesc)
    (hp : tmps.getD p undef = .pointer (some ⟨g, 0, none⟩)) (hg : w.heap[g]? = some (.cells cs tt fr))
    (hu : P.underlying ty = some d) (hd : (match d with | .struct _ | .array _ _ => true | _ => false) = true) (hi : (P.info? ty).map (·.size) = some cs.size)
    (hp2 : tmps.getD q undef = .pointer (some ⟨g2, 0, none⟩)) (hg2 : w.heap[g2]? = some (.cells ds t2 fr2))
    (hu2 : P.underlying sy = some d2) (hd2 : (match d2 with | .struct _ | .array _ _ => true | _ => false) = true) (hi2 : (P.info? sy).map (·.size) = some ds.size) :
    (results fn tmps).run P w = .ok (.tuple #[.agg cs, .agg ds]) w := by
  have hp' : tmps[p]?.getD undef = .pointer (some ⟨g, 0, none⟩) := by simpa using hp
  have hp2' : tmps[q]?.getD undef = .pointer (some ⟨g2, 0, none⟩) := by simpa using hp2
  simp [results, h, hp', hp2', asAddr, run_loadVar_row w g tt ty cs fr d hg hu hd hi, run_loadVar_row w g2 t2 sy ds fr2 d2 hg2 hu2 hd2 hi2]
set_option maxHeartbeats 1000000 in
set_option maxRecDepth 20000 in
theorem Below_calls (s n : Nat) (w : World) (hn : n < 4294967296) :
    Calls Try.prog 12 #[diceV s, .int .u32 n] w fun e w' => e = .returned (.tuple #[.int .u32 (belowN s n : Nat), diceV (goN s)]) ∧ Below w.heap.size w w' := by
  have hP : IntKind.u64.wrap (((nextN s : Nat) : Int) * (n : Int)) = ((nextN s * n : Nat) : Int) := by
    rw [IntKind.wrap_u64]
    have := prod_lt (s := s) hn
    rw [← Int.natCast_mul]
    omega
  have hD : ((nextN s * n : Nat) : Int) / 4294967296 = ((belowN s n : Nat) : Int) := by unfold belowN; omega
  have lB : belowN s n < 4294967296 := Nat.lt_of_le_of_lt (belowN_le s n) hn
  have hW : IntKind.u32.wrap ((belowN s n : Nat) : Int) = ((belowN s n : Nat) : Int) := IntWalk.u32_in _ (by omega)
  have lN := nextN_lt s
  have lP := prod_lt (s := s) hn
  have hc := Next_calls s
  obtain ⟨b, hb⟩ : ∃ b, b = belowN s n := ⟨_, rfl⟩
  obtain ⟨x, hx⟩ : ∃ x, x = nextN s := ⟨_, rfl⟩
  obtain ⟨g, hg⟩ : ∃ g, g = goN s := ⟨_, rfl⟩
  obtain ⟨p, hp⟩ : ∃ p, p = nextN s * n := ⟨_, rfl⟩
  rw [← hp] at hP hD lP
  rw [← hb] at hD lB hW ⊢
  rw [← hx] at hP lN
  rw [← hx, ← hg] at hc
  rw [← hg]
  clear hb hx hg hp
  go_enter Try.func12, Try.ntmps12
  go_wp2_with fail
  have k0 : ((w.alloc (.cells #[.int .u64 (s : Int)] 26)).alloc (.cells #[.int .u64 0] 26)).heap[w.heap.size]? = some (.cells #[.int .u64 (s : Int)] 26 (0, 0)) := (Below.heap_alloc _ _ _ (by simp)).trans (heap_alloc_new w _)
  have k1 := heap_alloc2_new w (.cells #[.int .u64 (s : Int)] 26) (.cells #[.int .u64 0] 26)
  have kb : Below w.heap.size w ((w.alloc (.cells #[.int .u64 (s : Int)] 26)).alloc (.cells #[.int .u64 0] 26)) := ((Below.refl _ _).alloc (Nat.le_refl _) _).alloc (by simp) _
  have kz : ((w.alloc (.cells #[.int .u64 (s : Int)] 26)).alloc (.cells #[.int .u64 0] 26)).heap.size = w.heap.size + 2 := by simp
  refine (hc _).mono ?_
  rintro e w1 ⟨rfl, hb⟩
  have m0 := (hb.block w.heap.size (by omega)).trans k0
  have m1 := (hb.block (w.heap.size + 1) (by omega)).trans k1
  have mb := kb.trans (hb.mono (by omega))
  have mc0 := cell_of_row w1 w.heap.size 0 _ _ _ m0
  have mf0 := frozen_of_row w1 w.heap.size 0 _ _ m0
  simp at mc0
  clear hc k0 k1 kb kz hb
  go_wp2_with fail
  have q0 : (w1.setCell ⟨w.heap.size, 0, none⟩ (.int .u64 (g : Int))).heap[w.heap.size]? = some (.cells #[.int .u64 (g : Int)] 26 (0, 0)) := heap_setCell_same w1 w.heap.size 0 _ _ (.int .u64 (g : Int)) m0
  have q1 := (heap_setCell_other w1 ⟨w.heap.size, 0, none⟩ (w.heap.size + 1) (.int .u64 (g : Int)) (by simp)).trans m1
  have qb := mb.setCell (p := ⟨w.heap.size, 0, none⟩) (Nat.le_refl _) (.int .u64 (g : Int))
  obtain ⟨W, hW2⟩ : ∃ W, W = w1.setCell ⟨w.heap.size, 0, none⟩ (.int .u64 (g : Int)) := ⟨_, rfl⟩
  rw [← hW2] at q0 q1 qb ⊢
  have r0 := cell_of_row W w.heap.size 0 _ _ _ q0
  have r1 := cell_of_row W (w.heap.size + 1) 0 _ _ _ q1
  have rf1 := frozen_of_row W (w.heap.size + 1) 0 _ _ q1
  simp at r0 r1
  have H1 := Lib.hid q1
  clear mc0 mf0 m0 m1 hW2 q0 q1 mb
  go_region
  go_wp2_with fail
  have hE : (W.setCell ⟨w.heap.size + 1, 0, none⟩ (.int .u64 (g : Int))).drew.heap[w.heap.size + 1]? = some (.cells #[.int .u64 (g : Int)] 26 (0, 0)) := heap_setCell_same W (w.heap.size + 1) 0 _ _ (.int .u64 (g : Int)) H1.out
  refine bodyPost_ret (results_tc (P := Try.prog) rfl _ _ (w.heap.size + 1) _ _ (0, 0) _ rfl hE Try.underlying26 rfl (by kernel_rfl)) rfl ⟨rfl, ?_⟩
  exact below_drew (qb.setCell (by simp) _)

set_option maxHeartbeats 1000000 in
set_option maxRecDepth 20000 in
theorem RefNext_calls (s : Nat) (w : World) :
    Calls Try.prog 11 #[.int .u64 s] w fun e w' => e = .returned (.tuple #[.int .u32 (nextN s : Nat), .int .u64 (goN s : Nat)]) ∧ w = w' := by
  have hG : IntKind.u64.wrap ((s : Int) + 11400714819323198485) = ((goN s : Nat) : Int) := by
    rw [IntKind.wrap_u64]; unfold goN strideN two64; omega
  have lN := nextN_lt s
  have lG := goN_lt s
  have hE := Lib.hid (show nextN s = mixC (mixB (mixA (goN s))) / 4294967296 from rfl)
  obtain ⟨z, hz⟩ : ∃ z, z = goN s := ⟨_, rfl⟩
  rw [← hz] at hG hE lG ⊢
  have hA := mixA_int z lG
  have lA := mixA_lt z
  obtain ⟨a, ha⟩ : ∃ a, a = mixA z := ⟨_, rfl⟩
  rw [← ha] at hA hE lA
  have hB := mixB_int a lA
  have lB := mixB_lt a
  obtain ⟨b, hb⟩ : ∃ b, b = mixB a := ⟨_, rfl⟩
  rw [← hb] at hB hE lB
  have hC := mixC_int b lB
  have lC : mixC b < 18446744073709551616 := xorhalf_lt lB
  obtain ⟨c, hc⟩ : ∃ c, c = mixC b := ⟨_, rfl⟩
  rw [← hc] at hC hE lC
  have hD : (c : Int) / 4294967296 = ((nextN s : Nat) : Int) := by rw [hE.out]; omega
  obtain ⟨n, hn⟩ : ∃ n, n = nextN s := ⟨_, rfl⟩
  rw [← hn] at hD lN ⊢
  have hW : IntKind.u32.wrap (n : Int) = (n : Int) := IntWalk.u32_in _ (by omega)
  clear ha hb hz hc hE hn
  go_enter Try.func11, Try.ntmps11
  go_wp2_with fail
  go_ret2
  exact ⟨rfl, rfl⟩

set_option maxHeartbeats 1000000 in
set_option maxRecDepth 20000 in
theorem RefBelow_calls (s n : Nat) (w : World) (hn : n < 4294967296) :
    Calls Try.prog 13 #[.int .u64 s, .int .u32 n] w fun e w' => e = .returned (.tuple #[.int .u32 (belowN s n : Nat), .int .u64 (goN s : Nat)]) ∧ w = w' := by
  have hP : IntKind.u64.wrap (((nextN s : Nat) : Int) * (n : Int)) = ((nextN s * n : Nat) : Int) := by
    rw [IntKind.wrap_u64]
    have := prod_lt (s := s) hn
    rw [← Int.natCast_mul]
    omega
  have hD : ((nextN s * n : Nat) : Int) / 4294967296 = ((belowN s n : Nat) : Int) := by unfold belowN; omega
  have lB : belowN s n < 4294967296 := Nat.lt_of_le_of_lt (belowN_le s n) hn
  have hW : IntKind.u32.wrap ((belowN s n : Nat) : Int) = ((belowN s n : Nat) : Int) := IntWalk.u32_in _ (by omega)
  have lN := nextN_lt s
  have lP := prod_lt (s := s) hn
  have hc := RefNext_calls s
  obtain ⟨b, hb⟩ : ∃ b, b = belowN s n := ⟨_, rfl⟩
  obtain ⟨x, hx⟩ : ∃ x, x = nextN s := ⟨_, rfl⟩
  obtain ⟨g, hg⟩ : ∃ g, g = goN s := ⟨_, rfl⟩
  obtain ⟨p, hp⟩ : ∃ p, p = nextN s * n := ⟨_, rfl⟩
  rw [← hp] at hP hD lP
  rw [← hb] at hD lB hW ⊢
  rw [← hx] at hP lN
  rw [← hx, ← hg] at hc
  rw [← hg]
  clear hb hx hg hp
  go_enter Try.func13, Try.ntmps13
  go_wp2_with fail
  refine (hc _).mono ?_
  rintro e w1 ⟨rfl, rfl⟩
  clear hc
  go_wp2_with fail
  go_ret2
  exact ⟨rfl, rfl⟩
end Go.Proofs.Ythjaodacakohkaa
