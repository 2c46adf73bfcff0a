/- CodeOthers: the walk. Conditions: the numbers fit; the tables lie. -/
import Derived.Test.YtdmjkgafnnjkkaaDoorCodeW
namespace Go.Proofs.YtdmjkgafnnjkkaaDoor
open Go.RowKit

theorem words_apart : ∀ i j : Fin 26, (wordAt i.val = wordAt j.val) ↔ i = j := by decide +kernel
theorem one_bad {c : Cd} (h : 26 ≤ c.op) (cells players : Int) : checkV [c] cells players = (0, false) := by
  refine checkV_bad (k := 0) (by simp) (by simp) ?_ (fun j hj => by omega)
  simp only [List.getElem_cons_zero, fitsB]
  rw [decide_eq_false (by omega), Bool.false_and]
set_option maxHeartbeats 4000000 in
set_option maxRecDepth 20000 in
theorem CodeOthers_walk (op ca cb cc : Nat) (n : Int) (m : Nat) (a b : Nat) (w : World) (hT : AllT w) (hc : (Cd.mk op ca cb cc n m).Ok) (ha : a ≤ 255) (hb' : b ≤ 255) :
    Calls Tryd.prog 8 #[.agg #[.int .u8 (op : Int), .int .u8 (ca : Int), .int .u8 (cb : Int), .int .u8 (cc : Int), .int .i32 n, .int .u32 (m : Int)], .int .u8 (a : Int), .int .u8 (b : Int)] w fun e w' => e = .returned (.bool true) ∧ Below w.heap.size w w' := by
  obtain ⟨x, hx⟩ : ∃ x, x = a % 26 := ⟨_, rfl⟩
  obtain ⟨y, hy⟩ : ∃ y, y = b % 26 := ⟨_, rfl⟩
  have hx26 : x < 26 := by omega
  have hy26 : y < 26 := by omega
  have ea : (a : Int).tmod 26 = (x : Int) := by rw [Int.tmod_eq_emod_of_nonneg (by omega)]; omega
  have eb : (b : Int).tmod 26 = (y : Int) := by rw [Int.tmod_eq_emod_of_nonneg (by omega)]; omega
  have hWx := fun W h => Word_in x hx26 W h
  have hWy := fun W h => Word_in y hy26 W h
  have hxs := words_some ⟨x, hx26⟩
  have hap := words_apart ⟨x, hx26⟩ ⟨y, hy26⟩
  simp only [Fin.mk.injEq] at hxs hap
  obtain ⟨sx, hsx⟩ : ∃ s, s = wordAt x := ⟨_, rfl⟩
  obtain ⟨sy, hsy⟩ : ∃ s, s = wordAt y := ⟨_, rfl⟩
  rw [← hsx] at hWx hxs hap
  rw [← hsy] at hWy hap
  obtain ⟨d, hd⟩ : ∃ d, d = decide (x = y) := ⟨_, rfl⟩
  have exy : ((x : Int) == (y : Int)) = d := by rw [hd, Bool.eq_iff_iff, beq_iff_eq, decide_eq_true_iff]; omega
  have esl : (sx == sy) = d := by rw [hd, Bool.eq_iff_iff, beq_iff_eq, decide_eq_true_iff]; exact hap
  have hdd : (d == d) = true := by simp
  have hbx := below_alloc1 w (.cells #[.int .u8 (op : Int), .int .u8 (ca : Int), .int .u8 (cb : Int), .int .u8 (cc : Int), .int .i32 n, .int .u32 (m : Int)] 33)
  have hT1 := hT.ext hbx
  have kA := heap_alloc_new w (.cells #[.int .u8 (op : Int), .int .u8 (ca : Int), .int .u8 (cb : Int), .int .u8 (cc : Int), .int .i32 n, .int .u32 (m : Int)] 33)
  clear hT hx hy hsx hsy hap hd
  go_enter Tryd.func8, Tryd.ntmps8
  go_wp2_with fail
  refine (Awake_calls _ hT1).mono ?_
  rintro e w1 ⟨rfl, h9⟩
  have kA := (h9.block _ (Array.getElem?_eq_some_iff.1 kA).1).trans kA
  have hb := hbx.trans (h9.mono hbx.size)
  have hT := hT1.ext h9
  clear h9 hbx hT1
  have a0 := (cell_of_row _ _ 0 _ _ _ kA).trans (show _ = some _ from rfl)
  have a1 := (cell_of_row _ _ 1 _ _ _ kA).trans (show _ = some _ from rfl)
  have a2 := (cell_of_row _ _ 2 _ _ _ kA).trans (show _ = some _ from rfl)
  have a3 := (cell_of_row _ _ 3 _ _ _ kA).trans (show _ = some _ from rfl)
  have a4 := (cell_of_row _ _ 4 _ _ _ kA).trans (show _ = some _ from rfl)
  have a5 := (cell_of_row _ _ 5 _ _ _ kA).trans (show _ = some _ from rfl)
  by_cases h25 : 25 < op
  · have e25 : decide ((op : Int) > 25) = true := by simp; omega
    have hR := Right_calls (some ⟨w1.heap.size, 0, none⟩) [⟨op, ca, cb, cc, n, m⟩] 1 1 w1.heap.size 48 6 (w1.alloc (.cells #[.int .u8 (op : Int), .int .u8 (ca : Int), .int .u8 (cb : Int), .int .u8 (cc : Int), .int .i32 n, .int .u32 (m : Int)] 33)) (sl_new w1 (kv [⟨op, ca, cb, cc, n, m⟩]) _) rfl (by decide) (okK_one hc) (by decide) (by decide) (hT.ext (below_alloc1 _ _)).c
    rw [one_bad (by simp only; omega)] at hR
    have hX := fun W => CText_out op ca cb cc n m (by omega) W
    have hW := fun W => Word_out op (by omega) W
    have hb2 := below_alloc1 w1 (.cells #[.int .u8 (op : Int), .int .u8 (ca : Int), .int .u8 (cb : Int), .int .u8 (cc : Int), .int .i32 n, .int .u32 (m : Int)] 33)
    go_wp2_with fail
    refine hR.mono ?_
    rintro e w2 ⟨rfl, h9⟩
    replace h9 := hb2.trans (h9.mono hb2.size)
    have kA := (h9.block _ (Array.getElem?_eq_some_iff.1 kA).1).trans kA
    have hb := hb.trans (h9.mono hb.size)
    have hT := hT.ext h9
    clear h9 hb2 hR
    have a0 := (cell_of_row _ _ 0 _ _ _ kA).trans (show _ = some _ from rfl)
    have a1 := (cell_of_row _ _ 1 _ _ _ kA).trans (show _ = some _ from rfl)
    have a2 := (cell_of_row _ _ 2 _ _ _ kA).trans (show _ = some _ from rfl)
    have a3 := (cell_of_row _ _ 3 _ _ _ kA).trans (show _ = some _ from rfl)
    have a4 := (cell_of_row _ _ 4 _ _ _ kA).trans (show _ = some _ from rfl)
    have a5 := (cell_of_row _ _ 5 _ _ _ kA).trans (show _ = some _ from rfl)
    go_wp2_with fail
    refine (hX _).mono ?_
    rintro e w3 ⟨rfl, h9⟩
    have kA := (h9.block _ (Array.getElem?_eq_some_iff.1 kA).1).trans kA
    have hb := hb.trans (h9.mono hb.size)
    have hT := hT.ext h9
    clear h9 hX
    have a0 := (cell_of_row _ _ 0 _ _ _ kA).trans (show _ = some _ from rfl)
    go_wp2_with fail
    refine (hW _).mono ?_
    rintro e w4 ⟨rfl, hw⟩
    have hw := hw.symm
    subst hw
    clear a0 a1 a2 a3 a4 a5 hW
    go_wp2_with fail
    refine (hWx _ hT.c).mono ?_
    rintro e w5 ⟨rfl, hw⟩
    have hw := hw.symm
    subst hw
    go_wp2_with fail
    refine (hWy _ hT.c).mono ?_
    rintro e w5 ⟨rfl, hw⟩
    have hw := hw.symm
    subst hw
    go_wp2_with fail
    refine (hWx _ hT.c).mono ?_
    rintro e w5 ⟨rfl, hw⟩
    have hw := hw.symm
    subst hw
    go_wp2
    go_ret
    exact ⟨rfl, hb⟩
  · have e25 : decide ((op : Int) > 25) = false := by simp; omega
    go_wp2_with fail
    refine (hWx _ hT.c).mono ?_
    rintro e w5 ⟨rfl, hw⟩
    have hw := hw.symm
    subst hw
    clear a0 a1 a2 a3 a4 a5 
    go_wp2_with fail
    refine (hWy _ hT.c).mono ?_
    rintro e w5 ⟨rfl, hw⟩
    have hw := hw.symm
    subst hw
    go_wp2_with fail
    refine (hWx _ hT.c).mono ?_
    rintro e w5 ⟨rfl, hw⟩
    have hw := hw.symm
    subst hw
    go_wp2
    go_ret
    exact ⟨rfl, hb⟩
end Go.Proofs.YtdmjkgafnnjkkaaDoor
