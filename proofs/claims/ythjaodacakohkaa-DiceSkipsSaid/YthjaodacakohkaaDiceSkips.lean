/- DiceSkips: for every state and numbers the Go text returns true: skipping is rolling so often; and skips add up. No condition. -/
import Derived.Test.YthjaodacakohkaaSplit
import Derived.Deep.RegionHeld3
namespace Go.Proofs.Ythjaodacakohkaa
open Go.RowKit

theorem Skip_named (s x : Nat) (n : Int) (h0 : -9223372036854775808 ≤ n) (h1 : n ≤ 9223372036854775807) (hx : x = goesN s n.toNat) (w : World) :
    Calls Try.prog 19 #[diceV s, .int .i64 n] w fun e w' => e = .returned (diceV x) ∧ Below w.heap.size w w' := by
  rw [hx]
  exact Skip_calls s n w h0 h1
theorem held_ext {w w' : World} {a b : Addr} {u v : Value} (hb : Below w.heap.size w w') (h : w.cell? a = some u ∧ w.cell? b = some v) (hl : a.block < w.heap.size ∧ b.block < w.heap.size) : w'.cell? a = some u ∧ w'.cell? b = some v :=
  ⟨(hb.cell hl.1).trans h.1, (hb.cell hl.2).trans h.2⟩
theorem held_lt {w w' : World} {B i j : Nat} (hb : Below B w w') (hl : i < w.heap.size ∧ j < w.heap.size) : i < w'.heap.size ∧ j < w'.heap.size :=
  ⟨Nat.lt_of_lt_of_le hl.1 hb.size, Nat.lt_of_lt_of_le hl.2 hb.size⟩

set_option maxHeartbeats 1000000 in
set_option maxRecDepth 20000 in
theorem DiceSkips_pos (s n : Nat) (m : Int) (w : World) (hs : s < 18446744073709551616) (hn : n < 256)  (hm : 0 < m) :
    Calls Try.prog 5 #[.int .u64 s, .int .u8 n, .int .i64 m] w fun e w' => e = .returned (.bool true) ∧ Below w.heap.size w w' := by
  have hc := Next_calls
  have hA := Skip_named s (goesN s n) n (by omega) (by omega) (by simp)
  have hB := Skip_named s s (0) (by omega) (by omega) (by rw [show (0 : Int).toNat = 0 by omega, goesN_zero hs])
  have hD := Skip_named (goesN s n) (goesN s (n + 3)) 3 (by omega) (by omega) (by rw [goesN_add]; rfl)
  have hG := Skip_named s (goesN s (n + 3)) ((n : Int) + 3) (by omega) (by omega) (by congr 1)
  have HZ := Lib.hid (goesN_zero hs)
  obtain ⟨E, hE⟩ : ∃ E, E = goesN s n := ⟨_, rfl⟩
  obtain ⟨F, hF⟩ : ∃ F, F = goesN s (n + 3) := ⟨_, rfl⟩
  rw [← hE] at hA hD
  rw [← hF] at hD hG
  have HE := Lib.hid hE
  clear hE hF hs
  go_enter Try.func5, Try.ntmps5
  go_wp2_with fail
  refine (awake_calls _).mono ?_
  rintro e w1 ⟨rfl, hb⟩
  go_wp2_with fail
  have m0 := (Box.new_ w1 (.int .u64 (s : Int)) 26).alloc (.cells #[.int .u64 (s : Int)] 26)
  have m1 := Box.new_ (w1.alloc (.cells #[.int .u64 (s : Int)] 26)) (.int .u64 (s : Int)) 26
  rw [show (w1.alloc (.cells #[.int .u64 (s : Int)] 26)).heap.size = w1.heap.size + 1 by simp] at m1
  have mb := hb.trans ((below_alloc2 w1 (.cells #[.int .u64 (s : Int)] 26) (.cells #[.int .u64 (s : Int)] 26)).mono hb.size)
  have mz := hb.size
  clear hb
  go_loopw [15] (fun i wr => ∃ k : Nat, k ≤ n ∧ i = .int .u8 k ∧ Box wr w1.heap.size (.int .u64 (s : Int)) 26 ∧ Box wr (w1.heap.size + 1) (.int .u64 (goesN s k : Nat)) 26 ∧ Below w.heap.size w wr) (fun i _ => n - (intOf i).toNat)
  case atStart => exact ⟨0, Nat.zero_le _, rfl, m0, by rw [HZ.out]; exact m1, mb⟩
  case round =>
    obtain ⟨k, hk, rfl, b0, b1, bb⟩ := hrel
    clear m0 m1 mb
    have c0 := b0.cell
    have c1 := b1.cell
    by_cases hlt : k < n
    · have hcc := hc (goesN s k)
      have hgo := goesN_succ s k
      rw [hgo] at hcc
      obtain ⟨X, hX⟩ : ∃ X, X = goesN s (k + 1) := ⟨_, rfl⟩
      rw [← hX] at hcc
      have HX := Lib.hid hX
      clear hA hB hD hG hgo hc hX
      go_wp2_with fail
      refine (hcc _).mono ?_
      rintro e w2 ⟨rfl, hb⟩
      have p0 := b0.ext hb
      have p1 := b1.ext hb
      have pb := bb.trans (hb.mono bb.size)
      have pc := p1.cell
      have pf := p1.frozen
      clear hb b0 b1 bb c0 c1 hcc
      go_wp2_with fail
      go_roundw
      case rel => exact ⟨k + 1, by omega, by go_num, p0.other (by simp) _, by rw [← HX.out]; exact p1.set_ _, pb.setCell (by simp; omega) _⟩
      case measure => simp [intOf]; omega
    · have hkn : k = n := by omega
      subst hkn
      rw [← HE.out] at c1
      clear hlt hc
      go_wp2_with fail
      have hw0 : IntKind.i64.wrap (k : Int) = (k : Int) := IntWalk.i64_in _ (by omega)
      have hw3 : IntKind.i64.wrap ((k : Int) + 3) = (k : Int) + 3 := IntWalk.i64_in _ (by omega)
      have hmq : (if 0 < m then (0 : Int) else m) = 0 := if_pos hm
      have hS := And.intro c0 c1
      have bb := below_drew bb
      have hL := And.intro b0.lt b1.lt
      clear b0 b1 HE hm
      go_region_held3 (fun w' => w'.cell? ⟨w1.heap.size, 0, none⟩ = some (.int .u64 (s : Int)) ∧ w'.cell? ⟨w1.heap.size + 1, 0, none⟩ = some (.int .u64 (E : Int))) (first | exact hS)
        (first
          | (go_at_call 19; ((with_reducible refine (hA _).mono ?_); rintro e w2 ⟨rfl, hb⟩; have hS := held_ext hb hS hL; have hL := held_lt hb hL; have bb := bb.trans (hb.mono bb.size); clear hb))
          | (go_at_call 19; ((with_reducible refine (hB _).mono ?_); rintro e w2 ⟨rfl, hb⟩; have hS := held_ext hb hS hL; have hL := held_lt hb hL; have bb := bb.trans (hb.mono bb.size); clear hb))
          | (go_at_call 19; ((with_reducible refine (hD _).mono ?_); rintro e w2 ⟨rfl, hb⟩; have hS := held_ext hb hS hL; have hL := held_lt hb hL; have bb := bb.trans (hb.mono bb.size); clear hb))
          | (go_at_call 19; ((with_reducible refine (hG _).mono ?_); rintro e w2 ⟨rfl, hb⟩; have hS := held_ext hb hS hL; have hL := held_lt hb hL; have bb := bb.trans (hb.mono bb.size); clear hb)))
      go_wp2_with fail
      go_ret
      exact ⟨rfl, bb⟩

set_option maxHeartbeats 1000000 in
set_option maxRecDepth 20000 in
theorem DiceSkips_neg (s n : Nat) (m : Int) (w : World) (hs : s < 18446744073709551616) (hn : n < 256)  (h0 : -9223372036854775808 ≤ m) (h1 : m ≤ 9223372036854775807) (hm : ¬ 0 < m) :
    Calls Try.prog 5 #[.int .u64 s, .int .u8 n, .int .i64 m] w fun e w' => e = .returned (.bool true) ∧ Below w.heap.size w w' := by
  have hc := Next_calls
  have hA := Skip_named s (goesN s n) n (by omega) (by omega) (by simp)
  have hB := Skip_named s s (m) (by omega) (by omega) (by rw [show (m : Int).toNat = 0 by omega, goesN_zero hs])
  have hD := Skip_named (goesN s n) (goesN s (n + 3)) 3 (by omega) (by omega) (by rw [goesN_add]; rfl)
  have hG := Skip_named s (goesN s (n + 3)) ((n : Int) + 3) (by omega) (by omega) (by congr 1)
  have HZ := Lib.hid (goesN_zero hs)
  obtain ⟨E, hE⟩ : ∃ E, E = goesN s n := ⟨_, rfl⟩
  obtain ⟨F, hF⟩ : ∃ F, F = goesN s (n + 3) := ⟨_, rfl⟩
  rw [← hE] at hA hD
  rw [← hF] at hD hG
  have HE := Lib.hid hE
  clear hE hF hs
  go_enter Try.func5, Try.ntmps5
  go_wp2_with fail
  refine (awake_calls _).mono ?_
  rintro e w1 ⟨rfl, hb⟩
  go_wp2_with fail
  have m0 := (Box.new_ w1 (.int .u64 (s : Int)) 26).alloc (.cells #[.int .u64 (s : Int)] 26)
  have m1 := Box.new_ (w1.alloc (.cells #[.int .u64 (s : Int)] 26)) (.int .u64 (s : Int)) 26
  rw [show (w1.alloc (.cells #[.int .u64 (s : Int)] 26)).heap.size = w1.heap.size + 1 by simp] at m1
  have mb := hb.trans ((below_alloc2 w1 (.cells #[.int .u64 (s : Int)] 26) (.cells #[.int .u64 (s : Int)] 26)).mono hb.size)
  have mz := hb.size
  clear hb
  go_loopw [15] (fun i wr => ∃ k : Nat, k ≤ n ∧ i = .int .u8 k ∧ Box wr w1.heap.size (.int .u64 (s : Int)) 26 ∧ Box wr (w1.heap.size + 1) (.int .u64 (goesN s k : Nat)) 26 ∧ Below w.heap.size w wr) (fun i _ => n - (intOf i).toNat)
  case atStart => exact ⟨0, Nat.zero_le _, rfl, m0, by rw [HZ.out]; exact m1, mb⟩
  case round =>
    obtain ⟨k, hk, rfl, b0, b1, bb⟩ := hrel
    clear m0 m1 mb
    have c0 := b0.cell
    have c1 := b1.cell
    by_cases hlt : k < n
    · have hcc := hc (goesN s k)
      have hgo := goesN_succ s k
      rw [hgo] at hcc
      obtain ⟨X, hX⟩ : ∃ X, X = goesN s (k + 1) := ⟨_, rfl⟩
      rw [← hX] at hcc
      have HX := Lib.hid hX
      clear hA hB hD hG hgo hc hX
      go_wp2_with fail
      refine (hcc _).mono ?_
      rintro e w2 ⟨rfl, hb⟩
      have p0 := b0.ext hb
      have p1 := b1.ext hb
      have pb := bb.trans (hb.mono bb.size)
      have pc := p1.cell
      have pf := p1.frozen
      clear hb b0 b1 bb c0 c1 hcc
      go_wp2_with fail
      go_roundw
      case rel => exact ⟨k + 1, by omega, by go_num, p0.other (by simp) _, by rw [← HX.out]; exact p1.set_ _, pb.setCell (by simp; omega) _⟩
      case measure => simp [intOf]; omega
    · have hkn : k = n := by omega
      subst hkn
      rw [← HE.out] at c1
      clear hlt hc
      go_wp2_with fail
      have hw0 : IntKind.i64.wrap (k : Int) = (k : Int) := IntWalk.i64_in _ (by omega)
      have hw3 : IntKind.i64.wrap ((k : Int) + 3) = (k : Int) + 3 := IntWalk.i64_in _ (by omega)
      have hmq : (if 0 < m then (0 : Int) else m) = m := if_neg (by omega)
      have hS := And.intro c0 c1
      have bb := below_drew bb
      have hL := And.intro b0.lt b1.lt
      clear b0 b1 HE hm
      go_region_held3 (fun w' => w'.cell? ⟨w1.heap.size, 0, none⟩ = some (.int .u64 (s : Int)) ∧ w'.cell? ⟨w1.heap.size + 1, 0, none⟩ = some (.int .u64 (E : Int))) (first | exact hS)
        (first
          | (go_at_call 19; ((with_reducible refine (hA _).mono ?_); rintro e w2 ⟨rfl, hb⟩; have hS := held_ext hb hS hL; have hL := held_lt hb hL; have bb := bb.trans (hb.mono bb.size); clear hb))
          | (go_at_call 19; ((with_reducible refine (hB _).mono ?_); rintro e w2 ⟨rfl, hb⟩; have hS := held_ext hb hS hL; have hL := held_lt hb hL; have bb := bb.trans (hb.mono bb.size); clear hb))
          | (go_at_call 19; ((with_reducible refine (hD _).mono ?_); rintro e w2 ⟨rfl, hb⟩; have hS := held_ext hb hS hL; have hL := held_lt hb hL; have bb := bb.trans (hb.mono bb.size); clear hb))
          | (go_at_call 19; ((with_reducible refine (hG _).mono ?_); rintro e w2 ⟨rfl, hb⟩; have hS := held_ext hb hS hL; have hL := held_lt hb hL; have bb := bb.trans (hb.mono bb.size); clear hb)))
      go_wp2_with fail
      go_ret
      exact ⟨rfl, bb⟩

theorem DiceSkips_walk (s n : Nat) (m : Int) (w : World) (hs : s ≤ 18446744073709551615) (hn : n ≤ 255) (h0 : -9223372036854775808 ≤ m) (h1 : m ≤ 9223372036854775807) :
    Calls Try.prog 5 #[.int .u64 s, .int .u8 n, .int .i64 m] w fun e w' => e = .returned (.bool true) ∧ Below w.heap.size w w' := by
  by_cases h : 0 < m
  · exact DiceSkips_pos s n m w (by omega) (by omega) h
  · exact DiceSkips_neg s n m w (by omega) (by omega) h0 h1 h
end Go.Proofs.Ythjaodacakohkaa
