/- DiceRolls: for every state, bound and count the Go text returns true: each number is the document's; below any one it is below it. No condition. -/
import Derived.Test.YthjaodacakohkaaSplit
namespace Go.Proofs.Ythjaodacakohkaa
open Go.RowKit

theorem belowN_zero (s : Nat) : belowN s 0 = 0 := by simp [belowN]
theorem BelowZero_calls (s : Nat) (w : World) :
    Calls Try.prog 12 #[diceV s, .int .u32 0] w fun e w' => e = .returned (.tuple #[.int .u32 0, diceV (goN s)]) ∧ Below w.heap.size w w' := by
  have h := Below_calls s 0 w (by omega)
  rw [belowN_zero] at h
  exact h
theorem RefBelowZero_calls (s : Nat) (w : World) :
    Calls Try.prog 13 #[.int .u64 s, .int .u32 0] w fun e w' => e = .returned (.tuple #[.int .u32 0, .int .u64 (goN s : Nat)]) ∧ w = w' := by
  have h := RefBelow_calls s 0 w (by omega)
  rw [belowN_zero] at h
  exact h

set_option maxHeartbeats 1000000 in
set_option maxRecDepth 20000 in
theorem DiceRolls_pos (s n m : Nat) (w : World) (hn : n < 4294967296) (hcase : 0 < n) :
    Calls Try.prog 3 #[.int .u64 s, .int .u32 n, .int .u8 m] w fun e w' => e = .returned (.bool true) ∧ Below w.heap.size w w' := by
  have hT : ((m : Int) % 40) = ((m % 40 : Nat) : Int) := by omega
  have hT2 : m % 40 < 40 := Nat.mod_lt _ (by omega)
  obtain ⟨T, hTT⟩ : ∃ T, T = m % 40 := ⟨_, rfl⟩
  rw [← hTT] at hT hT2
  have HT := Lib.hid hT
  clear hTT hT
  go_enter Try.func3, Try.ntmps3
  go_wp2_with fail
  refine (awake_calls _).mono ?_
  rintro e w1 ⟨rfl, hb⟩
  go_wp2_with fail
  have m0 := Box.new_ w1 (.int .u64 (s : Int)) 26
  have mb := hb.alloc hb.size (.cells #[.int .u64 (s : Int)] 26)
  have mz := hb.size
  clear hb
  go_loopw [8, 18] (fun v i wr => ∃ k y : Nat, k ≤ T ∧ i = .int .u8 k ∧ v = .int .u64 y ∧ Box wr w1.heap.size (.int .u64 (y : Int)) 26 ∧ Below w.heap.size w wr) (fun _ i _ => T - (intOf i).toNat)
  case atStart => exact ⟨0, s, Nat.zero_le _, rfl, rfl, m0, mb⟩
  case round =>
    obtain ⟨k, y, hk, rfl, rfl, b0, bb⟩ := hrel
    clear m0 mb
    have c0 := b0.cell
    by_cases hlt : (k : Int) < (m : Int) % 40
    · have hX := Next_calls y
      have hRX := RefNext_calls y
      have hB := Below_calls (goN y) n
      have hRB := RefBelow_calls (goN y) n
      have hlz := belowN_lt (s := goN y) (n := n)
      have hle := belowN_le (goN y) n
      obtain ⟨x, hx⟩ : ∃ x, x = nextN y := ⟨_, rfl⟩
      obtain ⟨z, hz⟩ : ∃ z, z = belowN (goN y) n := ⟨_, rfl⟩
      obtain ⟨h, hh⟩ : ∃ h, h = goN (goN y) := ⟨_, rfl⟩
      rw [← hz, ← hh] at hB hRB
      rw [← hz] at hlz hle
      obtain ⟨g, hg⟩ : ∃ g, g = goN y := ⟨_, rfl⟩
      rw [← hx, ← hg] at hX hRX
      rw [← hg] at hB hRB
      have hz0 : 0 < n := hcase
      have hz1 : decide (n ≤ z) = false := by have := hlz hcase; simp only [decide_eq_false_iff_not]; omega
      have hz2 : decide ((n : Int) > 0) = true := by simp only [decide_eq_true_eq]; omega
      have hz3 : ((n : Int) == 0) = false := by simp only [beq_eq_false_iff_ne, ne_eq]; omega
      clear hx hz hh hg hlz hle hcase
      go_wp2_with fail
      refine (hX _).mono ?_
      rintro e w2 ⟨rfl, hb⟩
      have p0 := b0.ext hb
      have pb := bb.trans (hb.mono bb.size)
      have pc := p0.cell
      have pf := p0.frozen
      clear hb b0 bb c0 hX
      go_wp2_with fail
      have q0 := p0.set_ (.int .u64 (g : Int))
      have qb := pb.setCell (p := ⟨w1.heap.size, 0, none⟩) mz (.int .u64 (g : Int))
      obtain ⟨W, hW⟩ : ∃ W, W = w2.setCell ⟨w1.heap.size, 0, none⟩ (.int .u64 (g : Int)) := ⟨_, rfl⟩
      rw [← hW] at q0 qb ⊢
      have qc := q0.cell
      clear hW p0 pb pc pf
      refine (hRX _).mono ?_
      rintro e w3 ⟨rfl, rfl⟩
      clear hRX
      go_wp2_with fail
      refine (hB _ hn).mono ?_
      rintro e w4 ⟨rfl, hb⟩
      have p0 := q0.ext hb
      have pb := qb.trans (hb.mono qb.size)
      have pc := p0.cell
      have pf := p0.frozen
      clear hb q0 qb qc hB
      go_wp2_with fail
      have q0 := p0.set_ (.int .u64 (h : Int))
      have qb := pb.setCell (p := ⟨w1.heap.size, 0, none⟩) mz (.int .u64 (h : Int))
      obtain ⟨V, hV⟩ : ∃ V, V = w4.setCell ⟨w1.heap.size, 0, none⟩ (.int .u64 (h : Int)) := ⟨_, rfl⟩
      rw [← hV] at q0 qb ⊢
      have qc := q0.cell
      clear hV p0 pb pc pf
      refine (hRB _ hn).mono ?_
      rintro e w5 ⟨rfl, rfl⟩
      clear hRB
      go_wp2_with fail
      go_roundw
      case rel => exact ⟨k + 1, h, by have := HT.out; omega, by go_num, rfl, q0, qb⟩
      case measure => have := HT.out; simp [intOf]; omega
    · go_wp2_with fail
      go_ret
      exact ⟨rfl, bb⟩

set_option maxHeartbeats 1000000 in
set_option maxRecDepth 20000 in
theorem DiceRolls_nil (s m : Nat) (w : World) :
    Calls Try.prog 3 #[.int .u64 s, .int .u32 0, .int .u8 m] w fun e w' => e = .returned (.bool true) ∧ Below w.heap.size w w' := by
  have hT : ((m : Int) % 40) = ((m % 40 : Nat) : Int) := by omega
  have hT2 : m % 40 < 40 := Nat.mod_lt _ (by omega)
  obtain ⟨T, hTT⟩ : ∃ T, T = m % 40 := ⟨_, rfl⟩
  rw [← hTT] at hT hT2
  have HT := Lib.hid hT
  clear hTT hT
  go_enter Try.func3, Try.ntmps3
  go_wp2_with fail
  refine (awake_calls _).mono ?_
  rintro e w1 ⟨rfl, hb⟩
  go_wp2_with fail
  have m0 := Box.new_ w1 (.int .u64 (s : Int)) 26
  have mb := hb.alloc hb.size (.cells #[.int .u64 (s : Int)] 26)
  have mz := hb.size
  clear hb
  go_loopw [8, 18] (fun v i wr => ∃ k y : Nat, k ≤ T ∧ i = .int .u8 k ∧ v = .int .u64 y ∧ Box wr w1.heap.size (.int .u64 (y : Int)) 26 ∧ Below w.heap.size w wr) (fun _ i _ => T - (intOf i).toNat)
  case atStart => exact ⟨0, s, Nat.zero_le _, rfl, rfl, m0, mb⟩
  case round =>
    obtain ⟨k, y, hk, rfl, rfl, b0, bb⟩ := hrel
    clear m0 mb
    have c0 := b0.cell
    by_cases hlt : (k : Int) < (m : Int) % 40
    · have hX := Next_calls y
      have hRX := RefNext_calls y
      have hB := BelowZero_calls (goN y)
      have hRB := RefBelowZero_calls (goN y)
      obtain ⟨x, hx⟩ : ∃ x, x = nextN y := ⟨_, rfl⟩
      obtain ⟨h, hh⟩ : ∃ h, h = goN (goN y) := ⟨_, rfl⟩
      rw [← hh] at hB hRB
      obtain ⟨g, hg⟩ : ∃ g, g = goN y := ⟨_, rfl⟩
      rw [← hx, ← hg] at hX hRX
      rw [← hg] at hB hRB

      clear hx hh hg
      go_wp2_with fail
      refine (hX _).mono ?_
      rintro e w2 ⟨rfl, hb⟩
      have p0 := b0.ext hb
      have pb := bb.trans (hb.mono bb.size)
      have pc := p0.cell
      have pf := p0.frozen
      clear hb b0 bb c0 hX
      go_wp2_with fail
      have q0 := p0.set_ (.int .u64 (g : Int))
      have qb := pb.setCell (p := ⟨w1.heap.size, 0, none⟩) mz (.int .u64 (g : Int))
      obtain ⟨W, hW⟩ : ∃ W, W = w2.setCell ⟨w1.heap.size, 0, none⟩ (.int .u64 (g : Int)) := ⟨_, rfl⟩
      rw [← hW] at q0 qb ⊢
      have qc := q0.cell
      clear hW p0 pb pc pf
      refine (hRX _).mono ?_
      rintro e w3 ⟨rfl, rfl⟩
      clear hRX
      go_wp2_with fail
      refine (hB _).mono ?_
      rintro e w4 ⟨rfl, hb⟩
      have p0 := q0.ext hb
      have pb := qb.trans (hb.mono qb.size)
      have pc := p0.cell
      have pf := p0.frozen
      clear hb q0 qb qc hB
      go_wp2_with fail
      have q0 := p0.set_ (.int .u64 (h : Int))
      have qb := pb.setCell (p := ⟨w1.heap.size, 0, none⟩) mz (.int .u64 (h : Int))
      obtain ⟨V, hV⟩ : ∃ V, V = w4.setCell ⟨w1.heap.size, 0, none⟩ (.int .u64 (h : Int)) := ⟨_, rfl⟩
      rw [← hV] at q0 qb ⊢
      have qc := q0.cell
      clear hV p0 pb pc pf
      refine (hRB _).mono ?_
      rintro e w5 ⟨rfl, rfl⟩
      clear hRB
      go_wp2_with fail
      go_roundw
      case rel => exact ⟨k + 1, h, by have := HT.out; omega, by go_num, rfl, q0, qb⟩
      case measure => have := HT.out; simp [intOf]; omega
    · go_wp2_with fail
      go_ret
      exact ⟨rfl, bb⟩

theorem DiceRolls_walk (s n m : Nat) (w : World) (_hs : s ≤ 18446744073709551615) (hn : n ≤ 4294967295) (_hm : m ≤ 255) :
    Calls Try.prog 3 #[.int .u64 s, .int .u32 n, .int .u8 m] w fun e w' => e = .returned (.bool true) ∧ Below w.heap.size w w' := by
  rcases Nat.eq_zero_or_pos n with h | h
  · rw [h]
    exact DiceRolls_nil s m w
  · exact DiceRolls_pos s n m w (by omega) h
end Go.Proofs.Ythjaodacakohkaa
