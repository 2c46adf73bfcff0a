/- OrderGoes: the walk. Conditions: the table lies as the library lays it; the numbers fit. -/
import Derived.Test.YtknmpflggapijaaDoorOrderAwake
import Derived.Test.YtknmpflggapijaaDoorRefTo
namespace Go.Proofs.YtknmpflggapijaaDoor
open Go.RowKit

set_option maxHeartbeats 8000000 in
set_option maxRecDepth 20000 in
theorem OrderGoes_zero (a : Nat) (n : Int) (w : World) (hTab : Tab w) (ha : a < 65536) (bn : -32768 ≤ n ∧ n ≤ 32767) :
    Calls Tryd.prog 3 #[.int .u16 a, .int .u16 a, .int .i16 n] w fun e w' => e = .returned (.bool true) ∧ Below w.heap.size w w' := by
  obtain ⟨c, hc⟩ : ∃ c, c = (((a : Int) + n) % 65536).toNat := ⟨_, rfl⟩
  have hc2 : (c : Int) = ((a : Int) + n) % 65536 := by omega
  have hcl : c < 65536 := by omega
  have R := fun W => RefTo_calls a a W ha ha
  have A1 := fun W => Add_calls a n c W hc2
  have A2 := fun W => Add_calls a 0 a W (by omega)
  have A3 := fun W => Add_calls a 65536 a W (by omega)
  have T1 := fun W => To_calls a a W ha ha
  have T2 := fun W => To_calls a c W ha hcl
  have L1 := fun W => Less_calls a a W ha ha
  have e0 := toI_self a ha
  have e2 : toI a c = n := (toI_eq ha hcl n (by omega) (by omega)).2 hc2
  rw [e0] at R T1 L1
  rw [e2] at T2
  obtain ⟨b1, b2⟩ := bn
  clear hc hc2 e0 e2 ha hcl
  go_enter Tryd.func3, Tryd.ntmps3
  go_wp2_with fail
  refine (Awake_calls _ hTab).mono ?_
  rintro e w1 ⟨rfl, hb⟩
  go_wp2_with fail
  refine (R _).mono ?_
  rintro e w2 ⟨rfl, rfl⟩
  go_wp2_with fail
  refine (A1 _).mono ?_
  rintro e w3 ⟨rfl, rfl⟩
  go_wp2_with fail
  refine (T1 _).mono ?_
  rintro e w4 ⟨rfl, rfl⟩
  go_wp2_with fail
  refine (L1 _).mono ?_
  rintro e w5 ⟨rfl, rfl⟩
  go_wp2_with fail
  refine (T2 _).mono ?_
  rintro e w6 ⟨rfl, rfl⟩
  go_wp2_with fail
  refine (A2 _).mono ?_
  rintro e w7 ⟨rfl, rfl⟩
  go_wp2_with fail
  refine (T1 _).mono ?_
  rintro e w8 ⟨rfl, rfl⟩
  go_wp2_with fail
  refine (L1 _).mono ?_
  rintro e w9 ⟨rfl, rfl⟩
  go_wp2_with fail
  refine (A3 _).mono ?_
  rintro e w10 ⟨rfl, rfl⟩
  go_wp2_with fail
  go_ret
  exact ⟨rfl, by first | exact hb | exact below_drew hb | exact below_drewN hb _⟩
set_option maxHeartbeats 8000000 in
set_option maxRecDepth 20000 in
theorem OrderGoes_up (a b : Nat) (d n : Int) (w : World) (hTab : Tab w) (ha : a < 65536) (hbl : b < 65536) (bn : -32768 ≤ n ∧ n ≤ 32767) (hd : toI a b = d) (hyp : 0 < d) :
    Calls Tryd.prog 3 #[.int .u16 a, .int .u16 b, .int .i16 n] w fun e w' => e = .returned (.bool true) ∧ Below w.heap.size w w' := by
  obtain ⟨c, hc⟩ : ∃ c, c = (((a : Int) + n) % 65536).toNat := ⟨_, rfl⟩
  have hc2 : (c : Int) = ((a : Int) + n) % 65536 := by omega
  have hcl : c < 65536 := by omega
  have hb0 := toI_bounds a b
  rw [hd] at hb0
  have hb2 : (b : Int) = ((a : Int) + d) % 65536 := (toI_eq ha hbl d hb0.1 hb0.2).1 hd
  have R := fun W => RefTo_calls a b W ha hbl
  have A1 := fun W => Add_calls a n c W hc2
  have A2 := fun W => Add_calls a d b W hb2
  have A3 := fun W => Add_calls a 65536 a W (by omega)
  have T1 := fun W => To_calls a b W ha hbl
  have T2 := fun W => To_calls a c W ha hcl
  have T3 := fun W => To_calls a a W ha ha
  have L1 := fun W => Less_calls a b W ha hbl
  have L2 := fun W => Less_calls b a W hbl ha
  have L3 := fun W => Less_calls a a W ha ha
  have e0 := toI_self a ha
  have e2 : toI a c = n := (toI_eq ha hcl n (by omega) (by omega)).2 hc2
  rw [hd] at R T1 L1
  rw [e0] at T3 L3
  rw [e2] at T2
  have e4 : toI b a = -d := (toI_eq hbl ha (-d) (by omega) (by omega)).2 (by omega)
  rw [e4] at L2
  rw [show decide (0 < d) = true by simpa using hyp] at L1
  rw [show decide (0 < -d) = false by simp; omega] at L2
  have k0 : (d == 0) = false := by simp; omega
  have k1 : (d == -32768) = false := by simp; omega
  have k2 : 0 < d := hyp
  clear e4
  obtain ⟨b1, b2⟩ := bn
  obtain ⟨b3, b4⟩ := hb0
  clear hc hc2 e0 e2 ha hcl hbl hb2 hd hyp
  go_enter Tryd.func3, Tryd.ntmps3
  go_wp2_with fail
  refine (Awake_calls _ hTab).mono ?_
  rintro e w1 ⟨rfl, hb⟩
  go_wp2_with fail
  refine (R _).mono ?_
  rintro e w2 ⟨rfl, rfl⟩
  go_wp2_with fail
  refine (A1 _).mono ?_
  rintro e w3 ⟨rfl, rfl⟩
  go_wp2_with fail
  refine (T1 _).mono ?_
  rintro e w4 ⟨rfl, rfl⟩
  go_wp2_with fail
  refine (L1 _).mono ?_
  rintro e w5 ⟨rfl, rfl⟩
  go_wp2_with fail
  refine (T2 _).mono ?_
  rintro e w6 ⟨rfl, rfl⟩
  go_wp2_with fail
  refine (A2 _).mono ?_
  rintro e w7 ⟨rfl, rfl⟩
  go_wp2_with fail
  refine (T3 _).mono ?_
  rintro e w8 ⟨rfl, rfl⟩
  go_wp2_with fail
  refine (L3 _).mono ?_
  rintro e w9 ⟨rfl, rfl⟩
  go_wp2_with fail
  refine (L1 _).mono ?_
  rintro e w10 ⟨rfl, rfl⟩
  go_wp2_with fail
  refine (L2 _).mono ?_
  rintro e w11 ⟨rfl, rfl⟩
  go_wp2_with fail
  refine (A3 _).mono ?_
  rintro e w12 ⟨rfl, rfl⟩
  go_wp2_with fail
  go_ret
  exact ⟨rfl, by first | exact hb | exact below_drew hb | exact below_drewN hb _⟩
set_option maxHeartbeats 8000000 in
set_option maxRecDepth 20000 in
theorem OrderGoes_down (a b : Nat) (d n : Int) (w : World) (hTab : Tab w) (ha : a < 65536) (hbl : b < 65536) (bn : -32768 ≤ n ∧ n ≤ 32767) (hd : toI a b = d) (hyp : d < 0 ∧ d ≠ -32768) :
    Calls Tryd.prog 3 #[.int .u16 a, .int .u16 b, .int .i16 n] w fun e w' => e = .returned (.bool true) ∧ Below w.heap.size w w' := by
  obtain ⟨c, hc⟩ : ∃ c, c = (((a : Int) + n) % 65536).toNat := ⟨_, rfl⟩
  have hc2 : (c : Int) = ((a : Int) + n) % 65536 := by omega
  have hcl : c < 65536 := by omega
  have hb0 := toI_bounds a b
  rw [hd] at hb0
  have hb2 : (b : Int) = ((a : Int) + d) % 65536 := (toI_eq ha hbl d hb0.1 hb0.2).1 hd
  have R := fun W => RefTo_calls a b W ha hbl
  have A1 := fun W => Add_calls a n c W hc2
  have A2 := fun W => Add_calls a d b W hb2
  have A3 := fun W => Add_calls a 65536 a W (by omega)
  have T1 := fun W => To_calls a b W ha hbl
  have T2 := fun W => To_calls a c W ha hcl
  have T3 := fun W => To_calls a a W ha ha
  have L1 := fun W => Less_calls a b W ha hbl
  have L2 := fun W => Less_calls b a W hbl ha
  have L3 := fun W => Less_calls a a W ha ha
  have e0 := toI_self a ha
  have e2 : toI a c = n := (toI_eq ha hcl n (by omega) (by omega)).2 hc2
  rw [hd] at R T1 L1
  rw [e0] at T3 L3
  rw [e2] at T2
  have e4 : toI b a = -d := (toI_eq hbl ha (-d) (by omega) (by omega)).2 (by omega)
  rw [e4] at L2
  rw [show decide (0 < d) = false by simp; omega] at L1
  rw [show decide (0 < -d) = true by simp; omega] at L2
  have k0 : (d == 0) = false := by simp; omega
  have k1 : (d == -32768) = false := by simp; omega
  have k3 : decide (0 < d) = false := by simp; omega
  clear e4
  obtain ⟨b1, b2⟩ := bn
  obtain ⟨b3, b4⟩ := hb0
  clear hc hc2 e0 e2 ha hcl hbl hb2 hd hyp
  go_enter Tryd.func3, Tryd.ntmps3
  go_wp2_with fail
  refine (Awake_calls _ hTab).mono ?_
  rintro e w1 ⟨rfl, hb⟩
  go_wp2_with fail
  refine (R _).mono ?_
  rintro e w2 ⟨rfl, rfl⟩
  go_wp2_with fail
  refine (A1 _).mono ?_
  rintro e w3 ⟨rfl, rfl⟩
  go_wp2_with fail
  refine (T1 _).mono ?_
  rintro e w4 ⟨rfl, rfl⟩
  go_wp2_with fail
  refine (L1 _).mono ?_
  rintro e w5 ⟨rfl, rfl⟩
  go_wp2_with fail
  refine (T2 _).mono ?_
  rintro e w6 ⟨rfl, rfl⟩
  go_wp2_with fail
  refine (A2 _).mono ?_
  rintro e w7 ⟨rfl, rfl⟩
  go_wp2_with fail
  refine (T3 _).mono ?_
  rintro e w8 ⟨rfl, rfl⟩
  go_wp2_with fail
  refine (L3 _).mono ?_
  rintro e w9 ⟨rfl, rfl⟩
  go_wp2_with fail
  refine (L1 _).mono ?_
  rintro e w10 ⟨rfl, rfl⟩
  go_wp2_with fail
  refine (L2 _).mono ?_
  rintro e w11 ⟨rfl, rfl⟩
  go_wp2_with fail
  refine (A3 _).mono ?_
  rintro e w12 ⟨rfl, rfl⟩
  go_wp2_with fail
  go_ret
  exact ⟨rfl, by first | exact hb | exact below_drew hb | exact below_drewN hb _⟩
set_option maxHeartbeats 8000000 in
set_option maxRecDepth 20000 in
theorem OrderGoes_far (a b : Nat) (d n : Int) (w : World) (hTab : Tab w) (ha : a < 65536) (hbl : b < 65536) (bn : -32768 ≤ n ∧ n ≤ 32767) (hd : toI a b = d) (hyp : d = -32768) :
    Calls Tryd.prog 3 #[.int .u16 a, .int .u16 b, .int .i16 n] w fun e w' => e = .returned (.bool true) ∧ Below w.heap.size w w' := by
  obtain ⟨c, hc⟩ : ∃ c, c = (((a : Int) + n) % 65536).toNat := ⟨_, rfl⟩
  have hc2 : (c : Int) = ((a : Int) + n) % 65536 := by omega
  have hcl : c < 65536 := by omega
  have hb0 := toI_bounds a b
  rw [hd] at hb0
  have hb2 : (b : Int) = ((a : Int) + d) % 65536 := (toI_eq ha hbl d hb0.1 hb0.2).1 hd
  have R := fun W => RefTo_calls a b W ha hbl
  have A1 := fun W => Add_calls a n c W hc2
  have A2 := fun W => Add_calls a d b W hb2
  have A3 := fun W => Add_calls a 65536 a W (by omega)
  have T1 := fun W => To_calls a b W ha hbl
  have T2 := fun W => To_calls a c W ha hcl
  have T3 := fun W => To_calls a a W ha ha
  have L1 := fun W => Less_calls a b W ha hbl
  have L2 := fun W => Less_calls b a W hbl ha
  have L3 := fun W => Less_calls a a W ha ha
  have e0 := toI_self a ha
  have e2 : toI a c = n := (toI_eq ha hcl n (by omega) (by omega)).2 hc2
  rw [hd] at R T1 L1
  rw [e0] at T3 L3
  rw [e2] at T2
  rw [show decide (0 < d) = false by simp; omega] at L1
  have k0 : (d == 0) = false := by simp; omega
  have k1 : (d == -32768) = true := by simp; omega
  have k3 : decide (0 < d) = false := by simp; omega
  obtain ⟨b1, b2⟩ := bn
  obtain ⟨b3, b4⟩ := hb0
  clear hc hc2 e0 e2 ha hcl hbl hb2 hd hyp
  go_enter Tryd.func3, Tryd.ntmps3
  go_wp2_with fail
  refine (Awake_calls _ hTab).mono ?_
  rintro e w1 ⟨rfl, hb⟩
  go_wp2_with fail
  refine (R _).mono ?_
  rintro e w2 ⟨rfl, rfl⟩
  go_wp2_with fail
  refine (A1 _).mono ?_
  rintro e w3 ⟨rfl, rfl⟩
  go_wp2_with fail
  refine (T1 _).mono ?_
  rintro e w4 ⟨rfl, rfl⟩
  go_wp2_with fail
  refine (L1 _).mono ?_
  rintro e w5 ⟨rfl, rfl⟩
  go_wp2_with fail
  refine (T2 _).mono ?_
  rintro e w6 ⟨rfl, rfl⟩
  go_wp2_with fail
  refine (A2 _).mono ?_
  rintro e w7 ⟨rfl, rfl⟩
  go_wp2_with fail
  refine (T3 _).mono ?_
  rintro e w8 ⟨rfl, rfl⟩
  go_wp2_with fail
  refine (L3 _).mono ?_
  rintro e w9 ⟨rfl, rfl⟩
  go_wp2_with fail
  refine (A3 _).mono ?_
  rintro e w10 ⟨rfl, rfl⟩
  go_wp2_with fail
  go_ret
  exact ⟨rfl, by first | exact hb | exact below_drew hb | exact below_drewN hb _⟩
theorem OrderGoes_walk (a b : Nat) (n : Int) (w : World) (hTab : Tab w) (ha : a ≤ 65535) (hbl : b ≤ 65535) (bn : -32768 ≤ n ∧ n ≤ 32767) :
    Calls Tryd.prog 3 #[.int .u16 a, .int .u16 b, .int .i16 n] w fun e w' => e = .returned (.bool true) ∧ Below w.heap.size w w' := by
  by_cases h0 : toI a b = 0
  · obtain rfl := (toI_zero (by omega) (by omega)).1 h0
    exact OrderGoes_zero a n w hTab (by omega) bn
  · by_cases h1 : toI a b = -32768
    · exact OrderGoes_far a b _ n w hTab (by omega) (by omega) bn rfl h1
    · by_cases h2 : 0 < toI a b
      · exact OrderGoes_up a b _ n w hTab (by omega) (by omega) bn rfl h2
      · exact OrderGoes_down a b _ n w hTab (by omega) (by omega) bn rfl ⟨by omega, h1⟩
end Go.Proofs.YtknmpflggapijaaDoor
