/- OrderTurns: the walk. Conditions: the table lies as the library lays it; the numbers fit. -/
import Derived.Test.YtknmpflggapijaaDoorOrderAwake
namespace Go.Proofs.YtknmpflggapijaaDoor
open Go.RowKit

set_option maxHeartbeats 4000000 in
set_option maxRecDepth 20000 in
theorem OrderTurns_walk (a : Nat) (n m : Int) (w : World) (hTab : Tab w) (ha : a ≤ 65535) (bn : -32768 ≤ n ∧ n ≤ 32767) (bm : -32768 ≤ m ∧ m ≤ 32767) :
    Calls Tryd.prog 7 #[.int .u16 a, .int .i16 n, .int .i16 m] w fun e w' => e = .returned (.bool true) ∧ Below w.heap.size w w' := by
  have ha' : a < 65536 := by omega
  obtain ⟨x, hx⟩ : ∃ x, x = n.tdiv 4 := ⟨_, rfl⟩
  obtain ⟨y, hy⟩ : ∃ y, y = m.tdiv 4 := ⟨_, rfl⟩
  have bx : -8192 ≤ x ∧ x ≤ 8191 := by
    rw [hx]
    rcases Int.le_total 0 n with h | h
    · rw [Int.tdiv_eq_ediv_of_nonneg h]; omega
    · have h1 := Int.neg_tdiv n 4
      rw [Int.tdiv_eq_ediv_of_nonneg (a := -n) (by omega)] at h1
      omega
  have by' : -8192 ≤ y ∧ y ≤ 8191 := by
    rw [hy]
    rcases Int.le_total 0 m with h | h
    · rw [Int.tdiv_eq_ediv_of_nonneg h]; omega
    · have h1 := Int.neg_tdiv m 4
      rw [Int.tdiv_eq_ediv_of_nonneg (a := -m) (by omega)] at h1
      omega
  obtain ⟨b, hb⟩ : ∃ b, b = (((a : Int) + x) % 65536).toNat := ⟨_, rfl⟩
  have hb2 : (b : Int) = ((a : Int) + x) % 65536 := by omega
  obtain ⟨c, hc⟩ : ∃ c, c = (((b : Int) + y) % 65536).toNat := ⟨_, rfl⟩
  have hc2 : (c : Int) = ((b : Int) + y) % 65536 := by omega
  have hbl : b < 65536 := by omega
  have hcl : c < 65536 := by omega
  have A1 := fun W => Add_calls a x b W hb2
  have A2 := fun W => Add_calls b y c W hc2
  have A3 := fun W => Add_calls b (-x) a W (by omega)
  have T1 := fun W => To_calls a b W ha' hbl
  have T2 := fun W => To_calls b c W hbl hcl
  have T3 := fun W => To_calls a c W ha' hcl
  have L1 := fun W => Less_calls a b W ha' hbl
  have L2 := fun W => Less_calls b a W hbl ha'
  have e1 : toI a b = x := (toI_eq ha' hbl x (by omega) (by omega)).2 hb2
  have e2 : toI b c = y := (toI_eq hbl hcl y (by omega) (by omega)).2 hc2
  have e3 : toI a c = x + y := (toI_eq ha' hcl (x + y) (by omega) (by omega)).2 (by omega)
  have e4 : toI b a = -x := (toI_eq hbl ha' (-x) (by omega) (by omega)).2 (by omega)
  rw [e1] at T1 L1
  rw [e2] at T2
  rw [e3] at T3
  rw [e4, show decide (0 < -x) = decide (x < 0) by simp] at L2
  clear hb hc hb2 hc2 e1 e2 e3 e4 ha'
  have hx1 := hx.symm
  have hy1 := hy.symm
  obtain ⟨bx1, bx2⟩ := bx
  obtain ⟨by1, by2⟩ := by'
  clear hx hy
  go_enter Tryd.func7, Tryd.ntmps7
  go_wp2_with fail
  refine (Awake_calls _ hTab).mono ?_
  rintro e w1 ⟨rfl, hb⟩
  go_wp2_with fail
  refine (A1 _).mono ?_
  rintro e w2 ⟨rfl, rfl⟩
  go_wp2_with fail
  refine (A2 _).mono ?_
  rintro e w3 ⟨rfl, rfl⟩
  go_wp2_with fail
  refine (A3 _).mono ?_
  rintro e w4 ⟨rfl, rfl⟩
  go_wp2_with fail
  refine (T1 _).mono ?_
  rintro e w5 ⟨rfl, rfl⟩
  go_wp2_with fail
  refine (T2 _).mono ?_
  rintro e w6 ⟨rfl, rfl⟩
  go_wp2_with fail
  refine (T3 _).mono ?_
  rintro e w7 ⟨rfl, rfl⟩
  go_wp2_with fail
  refine (L1 _).mono ?_
  rintro e w8 ⟨rfl, rfl⟩
  go_wp2_with fail
  refine (L2 _).mono ?_
  rintro e w9 ⟨rfl, rfl⟩
  go_wp2_with fail
  go_ret
  exact ⟨rfl, by first | exact hb | exact below_drew hb | exact below_drewN hb _⟩
end Go.Proofs.YtknmpflggapijaaDoor
