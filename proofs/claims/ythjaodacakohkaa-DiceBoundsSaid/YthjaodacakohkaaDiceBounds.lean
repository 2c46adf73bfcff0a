/- DiceBounds: for every state and bounds the Go text returns true: of a greater bound the same roll isn't less; below 1 it is 0; the same dice roll the same again. No condition. -/
import Derived.Test.YthjaodacakohkaaSplit
namespace Go.Proofs.Ythjaodacakohkaa
open Go.RowKit

theorem Below_calls' (s n a g : Nat) (w : World) (hn : n < 4294967296) (ha : a = belowN s n) (hg : g = goN s) :
    Calls Try.prog 12 #[diceV s, .int .u32 n] w fun e w' => e = .returned (.tuple #[.int .u32 (a : Nat), diceV g]) ∧ Below w.heap.size w w' := by
  rw [ha, hg]
  exact Below_calls s n w hn

set_option maxHeartbeats 1000000 in
set_option maxRecDepth 20000 in
theorem DiceBounds_lt (s n m : Nat) (w : World) (hn : n < 4294967296) (hm : m < 4294967296) (hle : n < m) :
    Calls Try.prog 7 #[.int .u64 s, .int .u32 n, .int .u32 m] w fun e w' => e = .returned (.bool true) ∧ Below w.heap.size w w' := by
  have hA := Below_calls s n
  have hB := Below_calls s m
  have hC := Below_calls s 1
  have hI : (n : Int) < (m : Int) := by omega
  have hAB := belowN_mono s (show n ≤ m by omega)
  have hone := belowN_one s
  rw [hone] at hC
  obtain ⟨a, ha⟩ : ∃ a, a = belowN s n := ⟨_, rfl⟩
  obtain ⟨b, hb⟩ : ∃ b, b = belowN s m := ⟨_, rfl⟩
  obtain ⟨g, hg⟩ : ∃ g, g = goN s := ⟨_, rfl⟩
  rw [← ha, ← hg] at hA
  rw [← hb, ← hg] at hB
  rw [← hg] at hC
  rw [← ha, ← hb] at hAB
  have HA := Lib.hid ha
  have HG := Lib.hid hg
  clear ha hb hg hone hle
  go_enter Try.func7, Try.ntmps7
  go_wp2_with fail
  refine (awake_calls _).mono ?_
  rintro e w1 ⟨rfl, hb⟩
  go_wp2_with fail
  have m0 := Box.new_ w1 (.int .u64 (s : Int)) 26
  have mb := hb.alloc hb.size (.cells #[.int .u64 (s : Int)] 26)
  clear hb
  refine (hA _ (by omega)).mono ?_
  rintro e w2 ⟨rfl, hb⟩
  have k0 := (m0.ext hb).alloc (.cells #[.int .u64 (g : Int)] 26)
  have k1 := Box.new_ w2 (.int .u64 (g : Int)) 26
  have kb := (mb.trans (hb.mono mb.size)).alloc (Nat.le_trans mb.size hb.size) (.cells #[.int .u64 (g : Int)] 26)
  have kc := k0.cell
  clear hA hb m0 mb
  go_wp2_with fail
  refine (hB _ (by omega)).mono ?_
  rintro e w3 ⟨rfl, hb⟩
  have p0 := (k0.ext hb).alloc (.cells #[.int .u64 (g : Int)] 26)
  have p1 := (k1.ext hb).alloc (.cells #[.int .u64 (g : Int)] 26)
  have p2 := Box.new_ w3 (.int .u64 (g : Int)) 26
  have pb := (kb.trans (hb.mono kb.size)).alloc (Nat.le_trans kb.size hb.size) (.cells #[.int .u64 (g : Int)] 26)
  have pc := p0.cell
  clear hB hb k0 k1 kb kc
  go_wp2_with fail
  refine (hC _ (by omega)).mono ?_
  rintro e w4 ⟨rfl, hb⟩
  have q0 := (p0.ext hb).alloc (.cells #[.int .u64 (g : Int)] 26)
  have q1 := (p1.ext hb).alloc (.cells #[.int .u64 (g : Int)] 26)
  have q2 := (p2.ext hb).alloc (.cells #[.int .u64 (g : Int)] 26)
  have q3 := Box.new_ w4 (.int .u64 (g : Int)) 26
  have qb := (pb.trans (hb.mono pb.size)).alloc (Nat.le_trans pb.size hb.size) (.cells #[.int .u64 (g : Int)] 26)
  have qc := q0.cell
  clear hC hb p0 p1 p2 pb pc
  go_wp2_with fail
  refine (Below_calls' s n a g _ (by omega) HA.out HG.out).mono ?_
  rintro e w5 ⟨rfl, hb⟩
  have r0 := (q0.ext hb).alloc (.cells #[.int .u64 (g : Int)] 26)
  have r1 := (q1.ext hb).alloc (.cells #[.int .u64 (g : Int)] 26)
  have r2 := (q2.ext hb).alloc (.cells #[.int .u64 (g : Int)] 26)
  have r3 := (q3.ext hb).alloc (.cells #[.int .u64 (g : Int)] 26)
  have r4 := Box.new_ w5 (.int .u64 (g : Int)) 26
  have rb := (qb.trans (hb.mono qb.size)).alloc (Nat.le_trans qb.size hb.size) (.cells #[.int .u64 (g : Int)] 26)
  have c0 := r0.cell
  have c1 := r1.cell
  have c2 := r2.cell
  have c3 := r3.cell
  have c4 := r4.cell
  clear hb q0 q1 q2 q3 qb qc r0 r1 r2 r3 r4
  go_wp2_with fail
  go_ret
  exact ⟨rfl, rb⟩

set_option maxHeartbeats 1000000 in
set_option maxRecDepth 20000 in
theorem DiceBounds_eq (s n : Nat) (w : World) (hn : n < 4294967296) :
    Calls Try.prog 7 #[.int .u64 s, .int .u32 n, .int .u32 n] w fun e w' => e = .returned (.bool true) ∧ Below w.heap.size w w' := by
  have hA := Below_calls s n
  have hB := Below_calls s n
  have hC := Below_calls s 1
  have hI : (n : Int) ≤ (n : Int) := by omega
  have hAB := belowN_mono s (show n ≤ n by omega)
  have hone := belowN_one s
  rw [hone] at hC
  obtain ⟨a, ha⟩ : ∃ a, a = belowN s n := ⟨_, rfl⟩
  obtain ⟨g, hg⟩ : ∃ g, g = goN s := ⟨_, rfl⟩
  rw [← ha, ← hg] at hA
  rw [← ha, ← hg] at hB
  rw [← hg] at hC
  rw [← ha] at hAB
  have HA := Lib.hid ha
  have HG := Lib.hid hg
  clear ha hg hone
  go_enter Try.func7, Try.ntmps7
  go_wp2_with fail
  refine (awake_calls _).mono ?_
  rintro e w1 ⟨rfl, hb⟩
  go_wp2_with fail
  have m0 := Box.new_ w1 (.int .u64 (s : Int)) 26
  have mb := hb.alloc hb.size (.cells #[.int .u64 (s : Int)] 26)
  clear hb
  refine (hA _ (by omega)).mono ?_
  rintro e w2 ⟨rfl, hb⟩
  have k0 := (m0.ext hb).alloc (.cells #[.int .u64 (g : Int)] 26)
  have k1 := Box.new_ w2 (.int .u64 (g : Int)) 26
  have kb := (mb.trans (hb.mono mb.size)).alloc (Nat.le_trans mb.size hb.size) (.cells #[.int .u64 (g : Int)] 26)
  have kc := k0.cell
  clear hA hb m0 mb
  go_wp2_with fail
  refine (hB _ (by omega)).mono ?_
  rintro e w3 ⟨rfl, hb⟩
  have p0 := (k0.ext hb).alloc (.cells #[.int .u64 (g : Int)] 26)
  have p1 := (k1.ext hb).alloc (.cells #[.int .u64 (g : Int)] 26)
  have p2 := Box.new_ w3 (.int .u64 (g : Int)) 26
  have pb := (kb.trans (hb.mono kb.size)).alloc (Nat.le_trans kb.size hb.size) (.cells #[.int .u64 (g : Int)] 26)
  have pc := p0.cell
  clear hB hb k0 k1 kb kc
  go_wp2_with fail
  refine (hC _ (by omega)).mono ?_
  rintro e w4 ⟨rfl, hb⟩
  have q0 := (p0.ext hb).alloc (.cells #[.int .u64 (g : Int)] 26)
  have q1 := (p1.ext hb).alloc (.cells #[.int .u64 (g : Int)] 26)
  have q2 := (p2.ext hb).alloc (.cells #[.int .u64 (g : Int)] 26)
  have q3 := Box.new_ w4 (.int .u64 (g : Int)) 26
  have qb := (pb.trans (hb.mono pb.size)).alloc (Nat.le_trans pb.size hb.size) (.cells #[.int .u64 (g : Int)] 26)
  have qc := q0.cell
  clear hC hb p0 p1 p2 pb pc
  go_wp2_with fail
  refine (Below_calls' s n a g _ (by omega) HA.out HG.out).mono ?_
  rintro e w5 ⟨rfl, hb⟩
  have r0 := (q0.ext hb).alloc (.cells #[.int .u64 (g : Int)] 26)
  have r1 := (q1.ext hb).alloc (.cells #[.int .u64 (g : Int)] 26)
  have r2 := (q2.ext hb).alloc (.cells #[.int .u64 (g : Int)] 26)
  have r3 := (q3.ext hb).alloc (.cells #[.int .u64 (g : Int)] 26)
  have r4 := Box.new_ w5 (.int .u64 (g : Int)) 26
  have rb := (qb.trans (hb.mono qb.size)).alloc (Nat.le_trans qb.size hb.size) (.cells #[.int .u64 (g : Int)] 26)
  have c0 := r0.cell
  have c1 := r1.cell
  have c2 := r2.cell
  have c3 := r3.cell
  have c4 := r4.cell
  clear hb q0 q1 q2 q3 qb qc r0 r1 r2 r3 r4
  go_wp2_with fail
  go_ret
  exact ⟨rfl, rb⟩

set_option maxHeartbeats 1000000 in
set_option maxRecDepth 20000 in
theorem DiceBounds_gt (s n m : Nat) (w : World) (hn : n < 4294967296) (hm : m < 4294967296) (hle : m < n) :
    Calls Try.prog 7 #[.int .u64 s, .int .u32 n, .int .u32 m] w fun e w' => e = .returned (.bool true) ∧ Below w.heap.size w w' := by
  have hA := Below_calls s m
  have hB := Below_calls s n
  have hC := Below_calls s 1
  have hI : (m : Int) < (n : Int) := by omega
  have hAB := belowN_mono s (show m ≤ n by omega)
  have hone := belowN_one s
  rw [hone] at hC
  obtain ⟨a, ha⟩ : ∃ a, a = belowN s m := ⟨_, rfl⟩
  obtain ⟨b, hb⟩ : ∃ b, b = belowN s n := ⟨_, rfl⟩
  obtain ⟨g, hg⟩ : ∃ g, g = goN s := ⟨_, rfl⟩
  rw [← ha, ← hg] at hA
  rw [← hb, ← hg] at hB
  rw [← hg] at hC
  rw [← ha, ← hb] at hAB
  have HA := Lib.hid ha
  have HG := Lib.hid hg
  clear ha hb hg hone hle
  go_enter Try.func7, Try.ntmps7
  go_wp2_with fail
  refine (awake_calls _).mono ?_
  rintro e w1 ⟨rfl, hb⟩
  go_wp2_with fail
  have m0 := Box.new_ w1 (.int .u64 (s : Int)) 26
  have mb := hb.alloc hb.size (.cells #[.int .u64 (s : Int)] 26)
  clear hb
  refine (hA _ (by omega)).mono ?_
  rintro e w2 ⟨rfl, hb⟩
  have k0 := (m0.ext hb).alloc (.cells #[.int .u64 (g : Int)] 26)
  have k1 := Box.new_ w2 (.int .u64 (g : Int)) 26
  have kb := (mb.trans (hb.mono mb.size)).alloc (Nat.le_trans mb.size hb.size) (.cells #[.int .u64 (g : Int)] 26)
  have kc := k0.cell
  clear hA hb m0 mb
  go_wp2_with fail
  refine (hB _ (by omega)).mono ?_
  rintro e w3 ⟨rfl, hb⟩
  have p0 := (k0.ext hb).alloc (.cells #[.int .u64 (g : Int)] 26)
  have p1 := (k1.ext hb).alloc (.cells #[.int .u64 (g : Int)] 26)
  have p2 := Box.new_ w3 (.int .u64 (g : Int)) 26
  have pb := (kb.trans (hb.mono kb.size)).alloc (Nat.le_trans kb.size hb.size) (.cells #[.int .u64 (g : Int)] 26)
  have pc := p0.cell
  clear hB hb k0 k1 kb kc
  go_wp2_with fail
  refine (hC _ (by omega)).mono ?_
  rintro e w4 ⟨rfl, hb⟩
  have q0 := (p0.ext hb).alloc (.cells #[.int .u64 (g : Int)] 26)
  have q1 := (p1.ext hb).alloc (.cells #[.int .u64 (g : Int)] 26)
  have q2 := (p2.ext hb).alloc (.cells #[.int .u64 (g : Int)] 26)
  have q3 := Box.new_ w4 (.int .u64 (g : Int)) 26
  have qb := (pb.trans (hb.mono pb.size)).alloc (Nat.le_trans pb.size hb.size) (.cells #[.int .u64 (g : Int)] 26)
  have qc := q0.cell
  clear hC hb p0 p1 p2 pb pc
  go_wp2_with fail
  refine (Below_calls' s m a g _ (by omega) HA.out HG.out).mono ?_
  rintro e w5 ⟨rfl, hb⟩
  have r0 := (q0.ext hb).alloc (.cells #[.int .u64 (g : Int)] 26)
  have r1 := (q1.ext hb).alloc (.cells #[.int .u64 (g : Int)] 26)
  have r2 := (q2.ext hb).alloc (.cells #[.int .u64 (g : Int)] 26)
  have r3 := (q3.ext hb).alloc (.cells #[.int .u64 (g : Int)] 26)
  have r4 := Box.new_ w5 (.int .u64 (g : Int)) 26
  have rb := (qb.trans (hb.mono qb.size)).alloc (Nat.le_trans qb.size hb.size) (.cells #[.int .u64 (g : Int)] 26)
  have c0 := r0.cell
  have c1 := r1.cell
  have c2 := r2.cell
  have c3 := r3.cell
  have c4 := r4.cell
  clear hb q0 q1 q2 q3 qb qc r0 r1 r2 r3 r4
  go_wp2_with fail
  go_ret
  exact ⟨rfl, rb⟩

theorem DiceBounds_walk (s n m : Nat) (w : World) (_h : s ≤ 18446744073709551615) (hn : n ≤ 4294967295) (hm : m ≤ 4294967295) :
    Calls Try.prog 7 #[.int .u64 s, .int .u32 n, .int .u32 m] w fun e w' => e = .returned (.bool true) ∧ Below w.heap.size w w' := by
  rcases Nat.lt_trichotomy n m with h | h | h
  · exact DiceBounds_lt s n m w (by omega) (by omega) h
  · rw [← h]
    exact DiceBounds_eq s n w (by omega)
  · exact DiceBounds_gt s n m w (by omega) (by omega) h
end Go.Proofs.Ythjaodacakohkaa
