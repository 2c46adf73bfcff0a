/- MaskLaws: the walk. Conditions: the library's table lies as it lays it; the masks fit. -/
import Derived.Test.YtbbabmiacmmkpaaDoorMeet
namespace Go.Proofs.YtbbabmiacmmkpaaDoor
open Go.RowKit

theorem less_zero {m n : Nat} (hm : m < 4294967296) (hn : n < 4294967296) (h : ∀ i, i < 32 → m.testBit i = true → n.testBit i = true) : lessN m n = 0 := by
  refine ext32 (lessN_lt n hm) (by omega) fun i hi => ?_
  rw [lessN_bit m hn i hi, Nat.zero_testBit]
  cases h1 : m.testBit i
  · rfl
  · rw [h i hi h1]; rfl
theorem or_lt {a b : Nat} (ha : a < 4294967296) (hb : b < 4294967296) : a ||| b < 4294967296 := Nat.or_lt_two_pow (n := 32) ha hb
theorem and_lt {a : Nat} (b : Nat) (ha : a < 4294967296) : a &&& b < 4294967296 := Nat.lt_of_le_of_lt Nat.and_le_left ha
theorem cnt_and_or (a b : Nat) : ∀ j, cnt (a &&& b) j + cnt (a ||| b) j = cnt a j + cnt b j := by
  intro j
  induction j with
  | zero => simp [cnt]
  | succ j ih =>
    unfold cnt
    rw [Nat.testBit_and, Nat.testBit_or]
    cases a.testBit j <;> cases b.testBit j <;> simp <;> omega
theorem or_less {a b : Nat} (ha : a < 4294967296) (hb : b < 4294967296) : (a &&& b) ||| lessN a b = a := by
  refine ext32 (or_lt (and_lt b ha) (lessN_lt b ha)) ha fun i hi => ?_
  rw [Nat.testBit_or, Nat.testBit_and, lessN_bit a hb i hi]
  cases a.testBit i <;> cases b.testBit i <;> rfl
theorem less_and {a b : Nat} (ha : a < 4294967296) (hb : b < 4294967296) : lessN a b &&& b = 0 := by
  refine ext32 (and_lt b (lessN_lt b ha)) (by omega) fun i hi => ?_
  rw [Nat.testBit_and, lessN_bit a hb i hi, Nat.zero_testBit]
  cases a.testBit i <;> cases b.testBit i <;> rfl
theorem less_iff {a b : Nat} (ha : a < 4294967296) (hb : b < 4294967296) : lessN a b = 0 ↔ a &&& b = a := by
  constructor
  · intro h
    refine ext32 (and_lt b ha) ha fun i hi => ?_
    have h1 := lessN_bit a hb i hi
    rw [h, Nat.zero_testBit] at h1
    rw [Nat.testBit_and]
    cases ha1 : a.testBit i <;> cases hb1 : b.testBit i <;> simp_all
  · intro h
    exact less_zero ha hb fun i _ h1 => by
      rw [← h, Nat.testBit_and] at h1
      simp at h1
      exact h1.2
theorem of_obs {a : Nat} (ha : a < 4294967296) : withN 0 ((obs a).map fun k : Nat => (k : Int)) = a := by
  refine ext32 (withN_lt (by omega) _) ha fun i hi => ?_
  rw [withN_bit _ _ i hi, Nat.zero_testBit, Bool.false_or]
  cases h : a.testBit i
  · simp only [decide_eq_false_iff_not, List.mem_map, not_exists, not_and]
    intro k hk e
    have : k = i := by omega
    subst this
    rw [(obs_mem.1 hk).2] at h
    cases h
  · simp only [decide_eq_true_eq, List.mem_map]
    exact ⟨i, obs_mem.2 ⟨hi, h⟩, rfl⟩
theorem ints_iz (l : List Nat) : ints l = iz (l.map fun k : Nat => (k : Int)) := by simp [ints, iz]
set_option maxHeartbeats 8000000 in
set_option maxRecDepth 20000 in
theorem MaskLaws_walk (a b : Nat) (w : World) (hTab : Tab w) (ha : a ≤ 4294967295) (hbl : b ≤ 4294967295) :
    Calls Tryd.prog 5 #[.int .u32 a, .int .u32 b] w fun e w' => e = .returned (.bool true) ∧ Below w.heap.size w w' := by
  have ha : a < 4294967296 := by omega
  have hbl : b < 4294967296 := by omega
  have hm := and_lt b ha
  have hj := or_lt ha hbl
  have hq := lessN_lt b ha
  have hMe := fun (W : World) => MMeet_calls a (some ⟨W.heap.size, 0, none⟩) [b] 1 1 W.heap.size (W.alloc (.cells #[.int .u32 (b : Int)] 26)) ha (by simpa using hbl) (Sl.cells_new W _ _) rfl (by omega)
  have hJo := fun (W : World) => MJoin_calls a (some ⟨W.heap.size, 0, none⟩) [b] 1 1 W.heap.size (W.alloc (.cells #[.int .u32 (b : Int)] 26)) ha (by simpa using hbl) (Sl.cells_new W _ _) rfl (by omega)
  rw [show meetN a [b] = a &&& b from rfl] at hMe
  rw [show joinN a [b] = a ||| b from rfl] at hJo
  have hW1 := fun W => MWithin_calls (a &&& b) a W hm ha
  rw [less_zero hm ha (fun i _ h => by rw [Nat.testBit_and] at h; simp at h; exact h.1), show decide ((0 : Nat) = 0) = true by decide] at hW1
  have hW2 := fun W => MWithin_calls (a &&& b) b W hm hbl
  rw [less_zero hm hbl (fun i _ h => by rw [Nat.testBit_and] at h; simp at h; exact h.2), show decide ((0 : Nat) = 0) = true by decide] at hW2
  have hW3 := fun W => MWithin_calls a (a ||| b) W ha hj
  rw [less_zero ha hj (fun i _ h => by rw [Nat.testBit_or, h]; rfl), show decide ((0 : Nat) = 0) = true by decide] at hW3
  have hW4 := fun W => MWithin_calls b (a ||| b) W hbl hj
  rw [less_zero hbl hj (fun i _ h => by rw [Nat.testBit_or, h]; simp), show decide ((0 : Nat) = 0) = true by decide] at hW4
  have hLe := fun W => MLess_calls a b W ha hbl
  have hJ2 := fun (W : World) => MJoin_calls (a &&& b) (some ⟨W.heap.size, 0, none⟩) [lessN a b] 1 1 W.heap.size (W.alloc (.cells #[.int .u32 (lessN a b : Nat)] 26)) hm (by simpa using hq) (Sl.cells_new W _ _) rfl (by omega)
  rw [show joinN (a &&& b) [lessN a b] = a from or_less ha hbl] at hJ2
  have hM2 := fun (W : World) => MMeet_calls (lessN a b) (some ⟨W.heap.size, 0, none⟩) [b] 1 1 W.heap.size (W.alloc (.cells #[.int .u32 (b : Int)] 26)) hq (by simpa using hbl) (Sl.cells_new W _ _) rfl (by omega)
  rw [show meetN (lessN a b) [b] = 0 from less_and ha hbl] at hM2
  have hC1 := fun W => MCount_calls (a &&& b) W hm
  have hC2 := fun W => MCount_calls (a ||| b) W hj
  have hC3 := fun W => MCount_calls a W ha
  have hC4 := fun W => MCount_calls b W hbl
  have hcc := cnt_and_or a b 32
  have l1 := cnt_le (a &&& b) 32
  have l2 := cnt_le (a ||| b) 32
  have l3 := cnt_le a 32
  have l4 := cnt_le b 32
  have hW5 := fun W => MWithin_calls a b W ha hbl
  have hw5 : decide (lessN a b = 0) = (((a &&& b : Nat) : Int) == (a : Int)) := by rw [Bool.eq_iff_iff]; simp only [decide_eq_true_eq, beq_iff_eq, less_iff ha hbl]; omega
  rw [hw5] at hW5
  have hTo := fun W h => told_calls a 99 ha (by omega) W h
  rw [List.take_of_length_le (by have := obs_length a; omega)] at hTo
  have hOf := fun (A : Option Addr) (n c bb : Nat) (W : World) => Of_calls A ((obs a).map fun k : Nat => (k : Int)) n c bb W
  rw [of_obs ha] at hOf
  have hol := obs_length a
  obtain ⟨m, hm0⟩ : ∃ m, m = a &&& b := ⟨_, rfl⟩
  obtain ⟨j, hj0⟩ : ∃ j, j = a ||| b := ⟨_, rfl⟩
  obtain ⟨q, hq0⟩ : ∃ q, q = lessN a b := ⟨_, rfl⟩
  rw [← hm0] at hMe hW1 hW2 hJ2 hC1 hW5 hcc l1
  rw [← hj0] at hJo hW3 hW4 hC2 hcc l2
  rw [← hq0] at hLe hJ2 hM2
  obtain ⟨c1, hc1⟩ : ∃ c1, c1 = cnt m 32 := ⟨_, rfl⟩
  rw [← hc1] at hC1 l1 hcc
  obtain ⟨c2, hc2⟩ : ∃ c2, c2 = cnt j 32 := ⟨_, rfl⟩
  rw [← hc2] at hC2 l2 hcc
  obtain ⟨c3, hc3⟩ : ∃ c3, c3 = cnt a 32 := ⟨_, rfl⟩
  rw [← hc3] at hC3 l3 hcc
  obtain ⟨c4, hc4⟩ : ∃ c4, c4 = cnt b 32 := ⟨_, rfl⟩
  rw [← hc4] at hC4 l4 hcc
  have hci : ((c1 : Int) + (c2 : Int)) = (c3 : Int) + (c4 : Int) := by omega
  obtain ⟨t5, ht5⟩ : ∃ t5, t5 = ((m : Int) == (a : Int)) := ⟨_, rfl⟩
  have HT5 := Lib.hid ht5
  rw [← ht5] at hW5
  clear hw5 hm0 hj0 hq0 hc1 hc2 hc3 hc4 hm hj hq ha hbl hcc ht5
  go_enter Tryd.func5, Tryd.ntmps5
  go_wp2_with fail
  refine (awake_calls _ hTab).mono ?_
  rintro e w0 ⟨rfl, hb⟩
  go_wp2_with fail
  refine (hMe w0).mono ?_
  rintro e w1 ⟨rfl, rfl⟩
  have hb := hb.alloc hb.size (.cells #[.int .u32 (b : Nat)] 26)
  go_wp2_with fail
  have hx2 := hJo (w0.alloc (.cells #[.int .u32 (b : Nat)] 26))
  simp only [World.size_alloc] at hx2
  refine hx2.mono ?_
  rintro e w2 ⟨rfl, rfl⟩
  have hb := hb.alloc hb.size (.cells #[.int .u32 (b : Nat)] 26)
  go_wp2_with fail
  refine (hW1 _).mono ?_
  rintro e w3 ⟨rfl, rfl⟩
  go_wp2_with fail
  refine (hW2 _).mono ?_
  rintro e w4 ⟨rfl, rfl⟩
  go_wp2_with fail
  refine (hW3 _).mono ?_
  rintro e w5 ⟨rfl, rfl⟩
  go_wp2_with fail
  refine (hW4 _).mono ?_
  rintro e w6 ⟨rfl, rfl⟩
  go_wp2_with fail
  refine (hLe _).mono ?_
  rintro e w7 ⟨rfl, rfl⟩
  go_wp2_with fail
  have hx8 := hJ2 ((w0.alloc (.cells #[.int .u32 (b : Nat)] 26)).alloc (.cells #[.int .u32 (b : Nat)] 26))
  simp only [World.size_alloc] at hx8
  refine hx8.mono ?_
  rintro e w8 ⟨rfl, rfl⟩
  have hb := hb.alloc hb.size (.cells #[.int .u32 (q : Nat)] 26)
  go_wp2_with fail
  refine (hLe _).mono ?_
  rintro e w9 ⟨rfl, rfl⟩
  go_wp2_with fail
  have hx10 := hM2 (((w0.alloc (.cells #[.int .u32 (b : Nat)] 26)).alloc (.cells #[.int .u32 (b : Nat)] 26)).alloc (.cells #[.int .u32 (q : Nat)] 26))
  simp only [World.size_alloc] at hx10
  refine hx10.mono ?_
  rintro e w10 ⟨rfl, rfl⟩
  have hb := hb.alloc hb.size (.cells #[.int .u32 (b : Nat)] 26)
  go_wp2_with fail
  refine (hC1 _).mono ?_
  rintro e w11 ⟨rfl, hb2⟩
  have hb := hb.trans (hb2.mono hb.size)
  clear hb2
  go_wp2_with fail
  refine (hC2 _).mono ?_
  rintro e w12 ⟨rfl, hb2⟩
  have hb := hb.trans (hb2.mono hb.size)
  clear hb2
  go_wp2_with fail
  refine (hC3 _).mono ?_
  rintro e w13 ⟨rfl, hb2⟩
  have hb := hb.trans (hb2.mono hb.size)
  clear hb2
  go_wp2_with fail
  refine (hC4 _).mono ?_
  rintro e w14 ⟨rfl, hb2⟩
  have hb := hb.trans (hb2.mono hb.size)
  clear hb2
  go_wp2_with fail
  refine (hW5 _).mono ?_
  rintro e w15 ⟨rfl, rfl⟩
  go_wp2_with fail
  refine (hTo _ (Tab.ext hTab hb)).mono ?_
  rintro e wT ⟨v, rfl, hown, hb2⟩
  have hb := hb.trans (hb2.mono hb.size)
  clear hb2
  obtain ⟨A, c, bb, rfl, _, _, hsl⟩ := own_sl hown
  rw [ints_iz] at hsl
  go_wp2_with fail
  refine (hOf A _ c bb _ hsl (by simp) (by omega)).mono ?_
  rintro e wU ⟨rfl, rfl⟩
  go_wp2_with fail
  go_ret
  exact ⟨rfl, by first | exact hb | exact below_drew hb | exact below_drewN hb _⟩
end Go.Proofs.YtbbabmiacmmkpaaDoor
