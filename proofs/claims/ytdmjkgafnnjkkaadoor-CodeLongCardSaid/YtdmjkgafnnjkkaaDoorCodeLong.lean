/- CodeLong: the walk. Conditions: the numbers fit; the tables lie. -/
import Derived.Test.YtdmjkgafnnjkkaaDoorCodeB
namespace Go.Proofs.YtdmjkgafnnjkkaaDoor
open Go.RowKit

def zeroC : Cd := ⟨0, 0, 0, 0, 0, 0⟩
theorem made_kv (K : Nat) : (madeCells (Value.agg #[.int .u8 0, .int .u8 0, .int .u8 0, .int .u8 0, .int .i32 0, .int .u32 0]).cells (K * 6)).toList = kv (List.replicate K zeroC) := by
  apply List.ext_getElem?
  intro j
  by_cases hj : j < K * 6
  · have h1 : (madeCells (Value.agg #[.int .u8 0, .int .u8 0, .int .u8 0, .int .u8 0, .int .i32 0, .int .u32 0]).cells (K * 6)).toList[j]? = some ((#[Value.int .u8 0, .int .u8 0, .int .u8 0, .int .u8 0, .int .i32 0, .int .u32 0] : Array Value)[j % 6]!) := by
      simp [madeCells, hj, Value.cells]
    rw [h1]
    have h2 := kv_get (l := List.replicate K zeroC) (i := j / 6) (by simp; omega) (r := j % 6) (by omega)
    rw [show j / 6 * 6 + j % 6 = j by omega, List.getElem_replicate] at h2
    rw [h2]
    obtain ⟨r, hr⟩ : ∃ r, r = j % 6 := ⟨_, rfl⟩
    have hr6 : r < 6 := by omega
    rw [← hr]
    clear h1 h2 hr hj
    rcases r with _ | _ | _ | _ | _ | _ | r
    · rfl
    · rfl
    · rfl
    · rfl
    · rfl
    · rfl
    · omega
  · rw [List.getElem?_eq_none (by simp [madeCells]; omega), List.getElem?_eq_none (by simp; omega)]
theorem kv_zero {K r : Nat} {u : Value} (hK : 0 < K) (hr : r < 6) (h : (cdA zeroC).toList[r]? = some u) : (kv (List.replicate K zeroC))[r]? = some u := by
  have h2 := kv_get (l := List.replicate K zeroC) (i := 0) (by simpa using hK) hr
  rw [Nat.zero_mul, Nat.zero_add, List.getElem_replicate] at h2
  rw [h2, h]
theorem set_first {w : World} {g : Nat} {e : TypeId} {cs : Array Value} {L : List Cd} (hh : w.heap[g]? = some (.cells cs e (0, 0))) (hcs : ∀ (j : Nat) (u : Value), (kv L)[j]? = some u → cs[j]? = some u) (hL : 0 < L.length) (x : Cd) :
    Sl ((((((w.setCell ⟨g, 0, none⟩ (.int .u8 (x.op : Int))).setCell ⟨g, 1, none⟩ (.int .u8 (x.a : Int))).setCell ⟨g, 2, none⟩ (.int .u8 (x.b : Int))).setCell ⟨g, 3, none⟩ (.int .u8 (x.c : Int))).setCell ⟨g, 4, none⟩ (.int .i32 x.n)).setCell ⟨g, 5, none⟩ (.int .u32 (x.m : Int))) g (some ⟨g, 0, none⟩) (kv (x :: L.tail)) := by
  obtain ⟨h, L, rfl⟩ := List.exists_cons_of_length_pos hL
  have k6 := heap_setCell_same _ g 5 _ _ (.int .u32 (x.m : Int)) (heap_setCell_same _ g 4 _ _ (.int .i32 x.n) (heap_setCell_same _ g 3 _ _ (.int .u8 (x.c : Int)) (heap_setCell_same _ g 2 _ _ (.int .u8 (x.b : Int)) (heap_setCell_same _ g 1 _ _ (.int .u8 (x.a : Int)) (heap_setCell_same w g 0 _ _ (.int .u8 (x.op : Int)) hh)))))
  have hsz : 6 ≤ cs.size := by
    have := hcs 5 _ rfl
    have := (Array.getElem?_eq_some_iff.1 this).1
    omega
  refine fun _ => ⟨0, rfl, fun j u hu => ?_⟩
  rw [Nat.zero_add, cell_of_row _ g j _ _ _ k6]
  rw [List.tail_cons, kv_cons] at hu
  by_cases hj : j < 6
  · rw [List.getElem?_append_left (by rw [cdA_len]; omega)] at hu
    rw [← hu]
    clear hu
    rcases j with _ | _ | _ | _ | _ | _ | j
    · simp [Array.getElem?_setIfInBounds, cdA]; rintro rfl; simp at hsz
    · simp [Array.getElem?_setIfInBounds, cdA]; omega
    · simp [Array.getElem?_setIfInBounds, cdA]; omega
    · simp [Array.getElem?_setIfInBounds, cdA]; omega
    · simp [Array.getElem?_setIfInBounds, cdA]; omega
    · simp [Array.getElem?_setIfInBounds, cdA]; omega
    · omega
  · rw [List.getElem?_append_right (by rw [cdA_len]; omega), cdA_len] at hu
    have h2 := hcs j u (by rw [kv_cons, List.getElem?_append_right (by rw [cdA_len]; omega), cdA_len]; exact hu)
    rw [← h2]
    rw [Array.getElem?_setIfInBounds_ne (by omega), Array.getElem?_setIfInBounds_ne (by omega), Array.getElem?_setIfInBounds_ne (by omega), Array.getElem?_setIfInBounds_ne (by omega), Array.getElem?_setIfInBounds_ne (by omega), Array.getElem?_setIfInBounds_ne (by omega)]
theorem fits_zero (y z : Int) : fitsB zeroC 1 y z = true := by
  simp [fitsB, zeroC, regB, holdsB, show numAt 0 = 0 from rfl, show uB 0 3 = false from rfl]
theorem fits_jump (tt y z : Int) : fitsB ⟨20, 0, 0, 0, tt, 0⟩ 1 y z = belowB tt y := by
  simp [fitsB, regB, holdsB, show numAt 20 = 4 from rfl, show uB 20 3 = false from rfl]
theorem long_zero (K : Nat) : (checkV (List.replicate K zeroC) 1 1).2 = decide (K ≤ 96) := by
  by_cases h : K ≤ 96
  · rw [checkV_good (by simpa using h) (fun j hj => by rw [List.getElem_replicate]; exact fits_zero _ _), decide_eq_true h]
  · rw [decide_eq_false h]
    unfold checkV
    rw [if_pos (by simp; omega)]
theorem long_jump (K : Nat) (tt : Int) (hK : 0 < K) : (checkV (⟨20, 0, 0, 0, tt, 0⟩ :: (List.replicate K zeroC).tail) 1 1).2 = (decide (K ≤ 96) && (decide (0 ≤ tt) && decide (tt ≤ K))) := by
  have hl : (⟨20, 0, 0, 0, tt, 0⟩ :: (List.replicate K zeroC).tail : List Cd).length = K := by simp; omega
  by_cases h : K ≤ 96
  · rw [decide_eq_true h, Bool.true_and]
    have hb : belowB tt ((K : Int) + 1) = (decide (0 ≤ tt) && decide (tt ≤ K)) := by
      unfold belowB
      congr 1
      rw [Bool.eq_iff_iff, decide_eq_true_iff, decide_eq_true_iff]
      omega
    rw [← hb]
    cases hj : belowB tt ((K : Int) + 1) with
    | true =>
      rw [checkV_good (by omega) (fun j hj' => by
        rw [hl]
        cases j with
        | zero => rw [List.getElem_cons_zero, fits_jump]; exact hj
        | succ j => rw [List.getElem_cons_succ, List.getElem_tail, List.getElem_replicate]; exact fits_zero _ _)]
    | false =>
      rw [checkV_bad (k := 0) (by omega) (by simp) (by rw [List.getElem_cons_zero, hl, fits_jump]; exact hj) (fun j hj => by omega)]
  · rw [decide_eq_false h, Bool.false_and]
    unfold checkV
    rw [if_pos (by omega)]
theorem okK_zeros (K : Nat) : okK (List.replicate K zeroC) := fun c hc => by
  rw [List.eq_of_mem_replicate hc]
  exact ok_stop
theorem num_pos (n : Nat) : 0 < (num n).length := by
  unfold num
  by_cases h : n < 128
  · rw [numF_small 9 n h]; simp
  · rw [numF_big 9 n (by omega)]; simp
set_option maxHeartbeats 16000000 in
set_option maxRecDepth 20000 in
theorem CodeLong_walk (n : Nat) (tt : Int) (w : World) (hT : AllT w) (hn : n ≤ 255) (ht : -2147483648 ≤ tt ∧ tt ≤ 2147483647) :
    Calls Tryd.prog 7 #[.int .u8 (n : Int), .int .i32 tt] w fun e w' => e = .returned (.bool true) ∧ Below w.heap.size w w' := by
  obtain ⟨K, hK⟩ : ∃ K, K = 1 + n % 110 := ⟨_, rfl⟩
  obtain ⟨n1, hn1⟩ : ∃ m, m = n % 110 := ⟨_, rfl⟩
  have e1 : (n : Int).tmod 110 = (n1 : Int) := by rw [Int.tmod_eq_emod_of_nonneg (by omega)]; omega
  have e2 := IntWalk.i64_in (n1 : Int) (by omega)
  have e3 : IntKind.i64.wrap (1 + (n1 : Int)) = (K : Int) := by rw [show 1 + (n1 : Int) = (K : Int) by omega]; exact IntWalk.i64_in _ (by omega)
  have e4 := IntWalk.i64_in tt (by omega)
  have e5 := IntWalk.i64_in (K : Int) (by omega)
  have hK1 : 0 < K := by omega
  have hKb : K ≤ 110 := by omega
  clear hK hn1
  obtain ⟨d, hd⟩ : ∃ d, d = decide (K ≤ 96) := ⟨_, rfl⟩
  have e6 : decide ((K : Int) ≤ 96) = d := by rw [hd, Bool.eq_iff_iff, decide_eq_true_iff, decide_eq_true_iff]; omega
  have hz := long_zero K
  have hj := long_jump K tt hK1
  rw [← hd] at hz hj
  have HD := Lib.hid hd
  clear hd
  go_enter Tryd.func7, Tryd.ntmps7
  go_wp2_with fail
  refine (Awake_calls _ hT).mono ?_
  rintro e w1 ⟨rfl, hb⟩
  replace hT := hT.ext hb
  have hw1 := hb.size
  have hT1 := hT
  obtain ⟨i0, hi0, hz0, hz1, hz2⟩ := info_parts codeB_info
  obtain ⟨w3, hmk, hrow3, hg3⟩ := run_make_full (P := Tryd.prog) w1 w1.heap.size 22 33 i0 _ 6 Tryd.underlying22 hi0 hz0 hz1 .i64 .i64 K (by rw [hz2]; omega) (by simp only [maxLen]; omega) (Nat.le_refl _)
  have hm3 := Mod.of_grown hg3
  have hb3 : Below w1.heap.size w1 w3 := hm3.below (Nat.le_refl _) (fun i _ h => by cases h)
  rw [made_kv] at hrow3
  have hr3 : RowK 33 w3 w1.heap.size (.slice (some ⟨w1.heap.size, 0, none⟩) K K) (List.replicate K zeroC) := by unfold RowK; rw [List.length_replicate]; exact hrow3
  replace hb := hb.trans (hb3.mono hb.size)
  replace hT := hT.ext hb3
  have hb15 := hb3
  clear hrow3 hg3 hm3 hb3 hi0 hz0 hz1 hz2
  obtain ⟨A3, c3, b3, hv3, -, -, -, -, hs3, -⟩ := hr3.sl
  rw [List.length_replicate] at hv3
  injection hv3 with hvA hvn hvc
  subst hvA hvc
  clear hvn
  have hRt := fun W h hT => Right_calls (some ⟨w1.heap.size, 0, none⟩) (List.replicate K zeroC) K K b3 1 1 W h (by simp) (by simp only [maxLen]; omega) (okK_zeros K) (by omega) (by omega) hT
  rw [hz] at hRt
  go_wp2_with fail
  clear hmk
  refine (hRt _ hs3 hT.c).mono ?_
  rintro e w4 ⟨rfl, h9⟩
  replace hr3 := RowK.ext hr3 h9
  replace hs3 := Sl.ext hs3 h9
  replace hT := hT.ext h9
  replace hb := hb.trans (h9.mono hb.size)
  replace hb15 := hb15.trans (h9.mono hb15.size)
  clear h9 hRt hz
  have hby : ∀ W, Sl W b3 (some ⟨w1.heap.size, 0, none⟩) (kv (List.replicate K zeroC)) → Calls Tryd.prog 18 #[.slice (some ⟨w1.heap.size, 0, none⟩) K K] W fun e w' => ∃ A N c, e = .returned (.slice A N c) ∧ decide ((N : Int) > 0) = d ∧ Below W.heap.size W w' := by
    intro W h
    by_cases hk : K ≤ 96
    · refine (CBytes_in _ (List.replicate K zeroC) K K b3 W h (by simp) hk (okK_zeros K)).mono ?_
      rintro e w' ⟨v, rfl, hrow, h9⟩
      obtain ⟨A8, c8, b8, rfl, -⟩ := Row.sl hrow
      refine ⟨_, _, _, rfl, ?_, h9⟩
      rw [HD.out, decide_eq_true hk, decide_eq_true_iff]
      have := num_pos (List.replicate K zeroC).length
      unfold codesB
      rw [List.length_append]
      omega
    · refine (CBytes_out _ K K W (by omega)).mono ?_
      rintro e w' ⟨rfl, rfl⟩
      exact ⟨_, 0, 0, rfl, by rw [HD.out, decide_eq_false hk]; rfl, Below.refl _ _⟩
  have hdd : (d == d) = true := by simp
  have hdn : (d != d) = false := by simp
  go_wp2_with fail
  refine (hby _ hs3).mono ?_
  rintro e w5 ⟨A5, N5, c5, rfl, e7, h9⟩
  have e8 : decide (0 < N5) = d := by rw [← e7, Bool.eq_iff_iff, decide_eq_true_iff, decide_eq_true_iff]; omega
  replace hr3 := RowK.ext hr3 h9
  replace hT := hT.ext h9
  replace hb := hb.trans (h9.mono hb.size)
  replace hb15 := hb15.trans (h9.mono hb15.size)
  clear h9 hby hs3
  rcases hr3.2 with ⟨hv, -⟩ | ⟨g, cap, cur, hv, hg, hh, hnc, hcm, hcs, hct⟩
  · cases hv
  injection hv with hvA hvn hvc
  injection hvA with hvA
  injection hvA with hvA _ _
  subst hvA
  rw [List.length_replicate] at hct
  have hcell : ∀ (j : Nat) (u : Value), (kv (List.replicate K zeroC))[j]? = some u → cur[j]? = some u := fun j u hu => by
    rw [← hct, List.getElem?_take] at hu
    split at hu
    · simpa using hu
    · cases hu
  have hsl := set_first hh hcell (by simpa using hK1) ⟨20, 0, 0, 0, tt, 0⟩
  clear hvn hvc hnc hcm hcs hct hr3
  have hlen0 : (0 : Int) < (K : Int) := by omega
  have z0 : w5.cell? ⟨w1.heap.size, 0, none⟩ = some (.int .u8 0) := by rw [cell_of_row _ _ 0 _ _ _ hh]; exact hcell 0 _ (kv_zero hK1 (by omega) rfl)
  have z1 : w5.cell? ⟨w1.heap.size, 1, none⟩ = some (.int .u8 0) := by rw [cell_of_row _ _ 1 _ _ _ hh]; exact hcell 1 _ (kv_zero hK1 (by omega) rfl)
  have z2 : w5.cell? ⟨w1.heap.size, 2, none⟩ = some (.int .u8 0) := by rw [cell_of_row _ _ 2 _ _ _ hh]; exact hcell 2 _ (kv_zero hK1 (by omega) rfl)
  have z3 : w5.cell? ⟨w1.heap.size, 3, none⟩ = some (.int .u8 0) := by rw [cell_of_row _ _ 3 _ _ _ hh]; exact hcell 3 _ (kv_zero hK1 (by omega) rfl)
  have z4 : w5.cell? ⟨w1.heap.size, 4, none⟩ = some (.int .i32 0) := by rw [cell_of_row _ _ 4 _ _ _ hh]; exact hcell 4 _ (kv_zero hK1 (by omega) rfl)
  have z5 : w5.cell? ⟨w1.heap.size, 5, none⟩ = some (.int .u32 0) := by rw [cell_of_row _ _ 5 _ _ _ hh]; exact hcell 5 _ (kv_zero hK1 (by omega) rfl)
  have fr0 := frozen_of_row w5 w1.heap.size 0 _ _ hh
  have fr1 := frozen_of_row w5 w1.heap.size 1 _ _ hh
  have fr2 := frozen_of_row w5 w1.heap.size 2 _ _ hh
  have fr3 := frozen_of_row w5 w1.heap.size 3 _ _ hh
  have fr4 := frozen_of_row w5 w1.heap.size 4 _ _ hh
  have fr5 := frozen_of_row w5 w1.heap.size 5 _ _ hh
  go_wp2_with fail
  obtain ⟨w6, hw6⟩ : ∃ w6, w6 = ((((((w5.setCell ⟨w1.heap.size, 0, none⟩ (.int .u8 20)).setCell ⟨w1.heap.size, 1, none⟩ (.int .u8 0)).setCell ⟨w1.heap.size, 2, none⟩ (.int .u8 0)).setCell ⟨w1.heap.size, 3, none⟩ (.int .u8 0)).setCell ⟨w1.heap.size, 4, none⟩ (.int .i32 tt)).setCell ⟨w1.heap.size, 5, none⟩ (.int .u32 0)) := ⟨_, rfl⟩
  have hs6 : Sl w6 w1.heap.size (some ⟨w1.heap.size, 0, none⟩) (kv (⟨20, 0, 0, 0, tt, 0⟩ :: (List.replicate K zeroC).tail)) := by rw [hw6]; exact hsl
  have hb6 : Below w1.heap.size w5 w6 := by
    rw [hw6]
    have h0 := Below.refl w1.heap.size w5
    exact (((((h0.setCell (Nat.le_refl _) _).setCell (Nat.le_refl _) _).setCell (Nat.le_refl _) _).setCell (Nat.le_refl _) _).setCell (Nat.le_refl _) _).setCell (Nat.le_refl _) _
  have hT6 : AllT w6 := hT1.ext (hb15.trans hb6)
  have hb := hb.trans (hb6.mono hw1)
  rw [← hw6]
  clear hw6 hsl hh hcell z0 z1 z2 z3 z4 z5 fr0 fr1 fr2 fr3 fr4 fr5 hb6
  have hRt := Right_calls (some ⟨w1.heap.size, 0, none⟩) (⟨20, 0, 0, 0, tt, 0⟩ :: (List.replicate K zeroC).tail) K K w1.heap.size 1 1 w6 hs6 (by simp; omega) (by simp only [maxLen]; omega) (fun c hc => by
    rcases List.mem_cons.1 hc with rfl | hc
    · exact ⟨by simp only; omega, by simp only; omega, by simp only; omega, by simp only; omega, ht.1, ht.2, by simp only; omega⟩
    · exact okK_zeros K c (List.mem_of_mem_tail hc)) (by omega) (by omega) hT6.c
  rw [hj] at hRt
  refine hRt.mono ?_
  rintro e w7 ⟨rfl, h9⟩
  replace hb := hb.trans (h9.mono hb.size)
  clear h9 hRt hj
  cases d with
  | false =>
    go_wp2
    go_ret
    exact ⟨rfl, hb⟩
  | true =>
    by_cases t0 : 0 ≤ tt
    · have f0 : decide (tt ≥ 0) = true := by simp; omega
      obtain ⟨q, hq⟩ : ∃ q, q = decide (tt ≤ (K : Int)) := ⟨_, rfl⟩
      have f1 := hq.symm
      have fq : (true && (decide (0 ≤ tt) && decide (tt ≤ (K : Int)))) = q := by rw [decide_eq_true t0, f1]; simp
      rw [fq]
      have hqq : (q == q) = true := by simp
      clear fq hq
      go_wp2
      go_ret
      exact ⟨by simp, hb⟩
    · have f0 : decide (tt ≥ 0) = false := by simp; omega
      have fq : (true && (decide (0 ≤ tt) && decide (tt ≤ (K : Int)))) = false := by rw [decide_eq_false t0]; simp
      rw [fq]
      clear fq
      go_wp2
      go_ret
      exact ⟨by simp, hb⟩
end Go.Proofs.YtdmjkgafnnjkkaaDoor
