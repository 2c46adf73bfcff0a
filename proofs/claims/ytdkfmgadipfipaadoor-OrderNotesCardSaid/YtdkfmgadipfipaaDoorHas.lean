/- (Acks).bit and Has: the plain words. Conditions: the numbers fit. -/
import Derived.Test.YtdkfmgadipfipaaDoorSeq
import Derived.Deep.RegionHeld3
namespace Go.Proofs.YtdkfmgadipfipaaDoor
open Go.RowKit

abbrev acksV (x y : Nat) : Value := .agg #[.int .u16 (x : Int), .int .u32 (y : Int)]
/-- The one of the bits that tells of a number. -/
def bitN (x s : Nat) : Nat := if 1 ≤ toI x s ∧ toI x s ≤ 32 then 2 ^ (toI x s - 1).toNat else 0
theorem bitN_lt (x s : Nat) : bitN x s < 4294967296 := by
  unfold bitN
  split
  · have : (2 : Nat) ^ (toI x s - 1).toNat < 2 ^ 32 := Nat.pow_lt_pow_right (by omega) (by omega)
    omega
  · omega
set_option maxHeartbeats 1000000 in
set_option maxRecDepth 20000 in
theorem bit_calls (x y s : Nat) (w : World) (hx : x < 65536) (hs : s < 65536) :
    Calls Tryd.prog 20 #[acksV x y, .int .u16 s] w fun e w' => e = .returned (.int .u32 (bitN x s : Nat)) ∧ Below w.heap.size w w' := by
  have hT := To_calls x s
  have hb := toI_bounds x s
  have hB := Lib.hid (show bitN x s = _ from rfl)
  unfold bitN at hB
  obtain ⟨r, hr⟩ : ∃ r, r = toI x s := ⟨_, rfl⟩
  obtain ⟨t, ht⟩ : ∃ t, t = bitN x s := ⟨_, rfl⟩
  have hbt : t = if 1 ≤ r ∧ r ≤ 32 then 2 ^ (r - 1).toNat else 0 := by rw [ht, hr]; rfl
  rw [← hr] at hT hb
  rw [← ht]
  have HB := Lib.hid hbt
  clear hB ht hbt hr
  obtain ⟨hb1, hb2⟩ := hb
  by_cases h1 : 1 ≤ r
  · obtain ⟨k, rfl⟩ : ∃ k : Nat, r = (k : Int) + 1 := ⟨(r - 1).toNat, by omega⟩
    have hk9 : (k : Int) ≤ 40000 := by omega
    clear h1 hb1 hb2
    by_cases hk : k < 32
    · obtain ⟨P, hP⟩ : ∃ P : Nat, P = 2 ^ k := ⟨_, rfl⟩
      have hPl : P < 4294967296 := by
        have : (2 : Nat) ^ k < 2 ^ 32 := Nat.pow_lt_pow_right (by omega) hk
        omega
      have hPi : (2 : Int) ^ k = (P : Int) := by rw [hP]; simp
      have HP := Lib.hid hP
      have hw : IntKind.u32.wrap (P : Int) = (P : Int) := IntWalk.u32_in _ (by omega)
      have hk2 : (k : Int) ≤ 32 := by omega
      clear hP
      go_enter Tryd.func20, Tryd.ntmps20
      go_wp2_with fail
      refine (hT _ hx hs).mono ?_
      rintro e w' ⟨rfl, rfl⟩
      go_wp2_with fail
      go_ret
      refine ⟨?_, below_alloc1 _ _⟩
      rw [HB.out, if_pos (by omega), show ((k : Int) + 1 - 1).toNat = k by omega, ← HP.out]
      rfl
    · have hmin : min k 32 = 32 := by omega
      go_enter Tryd.func20, Tryd.ntmps20
      go_wp2_with fail
      refine (hT _ hx hs).mono ?_
      rintro e w' ⟨rfl, rfl⟩
      go_wp2_with fail
      go_ret
      refine ⟨?_, below_alloc1 _ _⟩
      rw [HB.out, if_neg (by omega)]
      rfl
  · have h2 : r < 1 := by omega
    go_enter Tryd.func20, Tryd.ntmps20
    go_wp2_with fail
    refine (hT _ hx hs).mono ?_
    rintro e w' ⟨rfl, rfl⟩
    go_wp2_with fail
    go_ret
    refine ⟨?_, below_alloc1 _ _⟩
    rw [HB.out, if_neg (by omega)]
    rfl

theorem has_neg {x y s : Nat} (h : toI x s < 0) : hasN x y s = true := by unfold hasN; simp [h]
theorem and_pow (y i : Nat) : y &&& 2 ^ i = if y.testBit i = true then 2 ^ i else 0 := by
  apply Nat.eq_of_testBit_eq
  intro j
  rw [Nat.testBit_and, Nat.testBit_two_pow]
  by_cases h : y.testBit i = true
  · rw [if_pos h, Nat.testBit_two_pow]
    by_cases hij : i = j
    · subst hij; simp [h]
    · simp [hij]
  · rw [if_neg h, Nat.zero_testBit]
    by_cases hij : i = j
    · subst hij; simp [h]
    · simp [hij]
theorem has_bit {x y s : Nat} (h : ¬ toI x s < 0) : hasN x y s = (((y &&& bitN x s : Nat) : Int) != 0) := by
  unfold hasN bitN
  by_cases h1 : 1 ≤ toI x s ∧ toI x s ≤ 32
  · rw [if_pos h1, and_pow]
    have hp : (2 : Nat) ^ (toI x s - 1).toNat ≠ 0 := Nat.pos_iff_ne_zero.1 (Nat.two_pow_pos _)
    have h2 : 0 < toI x s := by omega
    cases hb : y.testBit (toI x s - 1).toNat
    · simp [h]
    · have hz : (((2 ^ (toI x s - 1).toNat : Nat) : Int) != 0) = true := by
        simp only [bne_iff_ne, ne_eq]
        omega
      rw [if_pos rfl, hz]
      simp [h1.2, h2]
  · rw [if_neg h1, Nat.and_zero]
    have h2 : ¬ (0 < toI x s ∧ toI x s ≤ 32) := fun h3 => h1 ⟨by omega, h3.2⟩
    have h3 : (decide (0 < toI x s) && decide (toI x s ≤ 32)) = false := by
      rw [Bool.eq_false_iff]
      intro h4
      simp only [Bool.and_eq_true, decide_eq_true_eq] at h4
      exact h2 h4
    rw [h3]
    simp only [decide_eq_false h, Bool.false_and, Bool.or_false]
    rfl
theorem acks_cells (w : World) (x y : Nat) (t : TypeId) : (w.alloc (.cells #[.int .u16 (x : Int), .int .u32 (y : Int)] t)).cell? ⟨w.heap.size, 0, none⟩ = some (.int .u16 (x : Int)) ∧ (w.alloc (.cells #[.int .u16 (x : Int), .int .u32 (y : Int)] t)).cell? ⟨w.heap.size, 1, none⟩ = some (.int .u32 (y : Int)) := by
  constructor <;> (rw [cell_of_row _ _ _ _ _ _ (heap_alloc_new w _)]; rfl)
set_option maxHeartbeats 1000000 in
set_option maxRecDepth 20000 in
theorem Has_calls (x y s : Nat) (w : World) (hx : x < 65536) (hy : y < 4294967296) (hs : s < 65536) :
    Calls Tryd.prog 14 #[acksV x y, .int .u16 s] w fun e w' => e = .returned (.bool (hasN x y s)) ∧ Below w.heap.size w w' := by
  have hT := To_calls x s
  have hB := bit_calls x y s
  have hbt := toI_bounds x s
  by_cases hneg : toI x s < 0
  · rw [has_neg hneg]
    obtain ⟨r, hr⟩ : ∃ r, r = toI x s := ⟨_, rfl⟩
    rw [← hr] at hT hbt hneg
    obtain ⟨hb1, hb2⟩ := hbt
    have hd : decide (r < 0) = true := by simpa using hneg
    clear hr
    obtain ⟨c0, c1⟩ := acks_cells w x y 34
    go_enter Tryd.func14, Tryd.ntmps14
    go_wp2_with fail
    go_quiet ((go_at_call 11; exact Calls.quiet_of_same (hT _ hx hs)))
    go_wp2_with fail
    go_ret
    exact ⟨rfl, below_drewN (below_alloc1 w _) _⟩
  · rw [has_bit hneg]
    have hl := bitN_lt x s
    have hand : bits .and .u32 (y : Int) ((bitN x s : Nat) : Int) = ((y &&& bitN x s : Nat) : Int) := u32_and_nat y _ (by omega) (by omega)
    obtain ⟨t, ht⟩ : ∃ t, t = bitN x s := ⟨_, rfl⟩
    rw [← ht] at hB hand
    rw [← ht]
    obtain ⟨z, hz⟩ : ∃ z, z = y &&& t := ⟨_, rfl⟩
    rw [← hz] at hand
    rw [← hz]
    obtain ⟨r, hr⟩ : ∃ r, r = toI x s := ⟨_, rfl⟩
    rw [← hr] at hT hbt hneg
    obtain ⟨hb1, hb2⟩ := hbt
    have hd : decide (r < 0) = false := by simpa using hneg
    clear hr ht hz hl hneg
    have hc := acks_cells w x y 34
    have hb := below_alloc1 w (.cells #[.int .u16 (x : Int), .int .u32 (y : Int)] 34)
    have hsz : w.heap.size < (w.alloc (.cells #[.int .u16 (x : Int), .int .u32 (y : Int)] 34)).heap.size := by simp
    have hbb := below_drew hb
    go_enter Tryd.func14, Tryd.ntmps14
    go_wp2_with fail
    go_region_held3 (fun w' => w'.cell? ⟨w.heap.size, 0, none⟩ = some (.int .u16 (x : Int)) ∧ w'.cell? ⟨w.heap.size, 1, none⟩ = some (.int .u32 (y : Int))) (first | exact hc | exact hc2)
      (first
        | (go_at_call 11; ((refine (hT _ hx hs).mono ?_); rintro e w2 ⟨rfl, rfl⟩))
        | (go_at_call 20; ((refine (hB _ hx hs).mono ?_); rintro e w3 ⟨rfl, hb3⟩; have hc2 := And.intro ((hb3.cell (p := ⟨w.heap.size, 0, none⟩) hsz).trans hc.1) ((hb3.cell (p := ⟨w.heap.size, 1, none⟩) hsz).trans hc.2); have hbb := hbb.trans (hb3.mono hbb.size); clear hb3)))
    go_wp2_with fail
    go_ret
    exact ⟨rfl, hbb⟩
end Go.Proofs.YtdkfmgadipfipaaDoor
