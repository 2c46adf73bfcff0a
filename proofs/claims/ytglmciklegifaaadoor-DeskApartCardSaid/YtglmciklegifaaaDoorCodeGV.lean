/- Fits, Check, Right: what a list of instructions may be. Conditions: the numbers fit; the table of the operations lies. -/
import Derived.Test.YtglmciklegifaaaDoorCodeFV
namespace Go.Proofs.YtglmciklegifaaaDoor
open Go.RowKit

theorem alloc3_at (w : World) (A B C : Obj) : (((w.alloc A).alloc B).alloc C).heap[w.heap.size]? = some A ∧ (((w.alloc A).alloc B).alloc C).heap[w.heap.size + 1]? = some B ∧ (((w.alloc A).alloc B).alloc C).heap[w.heap.size + 2]? = some C := by
  have h1 := heap_alloc_new w A
  have h2 := heap_alloc_new (w.alloc A) B
  have h3 := heap_alloc_new ((w.alloc A).alloc B) C
  rw [World.size_alloc, World.size_alloc] at h3
  rw [World.size_alloc] at h2
  refine ⟨?_, ?_, h3⟩
  · rw [Below.heap_alloc _ C _ (by simp; omega), Below.heap_alloc _ B _ (by simp)]; exact h1
  · rw [Below.heap_alloc _ C _ (by simp)]; exact h2
set_option maxHeartbeats 4000000 in
set_option maxRecDepth 20000 in
theorem fits_in (op a b cc : Nat) (n : Int) (m : Nat) (hc : (Cd.mk op a b cc n m).Ok) (h26 : op < 26) (cells places players : Int) (hl0 : -9223372036854775808 ≤ cells) (hl1 : cells ≤ 9223372036854775807) (w : World) (hT : CTab w) :
    Calls Tryd.prog 54 #[.agg #[.int .u8 (op : Int), .int .u8 (a : Int), .int .u8 (b : Int), .int .u8 (cc : Int), .int .i32 n, .int .u32 (m : Int)], .agg #[.int .i64 cells, .int .i64 places, .int .i64 players]] w fun e w' => e = .returned (.bool (fitsB ⟨op, a, b, cc, n, m⟩ cells places players)) ∧ Below w.heap.size w w' := by
  obtain ⟨b0, b1, -, -, b4⟩ := use_bits ⟨op, h26⟩
  have hrw := use_row ⟨op, h26⟩
  simp only at b0 b1 b4 hrw
  obtain ⟨q0, hq0⟩ : ∃ q, q = uB op 0 := ⟨_, rfl⟩
  obtain ⟨q1, hq1⟩ : ∃ q, q = uB op 1 := ⟨_, rfl⟩
  obtain ⟨q4, hq4⟩ : ∃ q, q = uB op 4 := ⟨_, rfl⟩
  have hR1 := fun W => register_calls a q0 W
  have hR2 := fun W => register_calls b q1 W
  have hH := fun W => holds_calls cells places players (numAt op) n W hc.n0 hc.n1
  have hC : holdsB cells places players (numAt op) n = true → ∀ W, _ := fun h W => rightC_calls ⟨op, a, b, cc, n, m⟩ hc op h26 cells hl0 hl1 (fun h3 => by
    rw [hrw h3] at h
    simp only [holdsB, belowB] at h
    simp at h
    exact h) W
  unfold cdA at hC
  simp only at hC
  have hfb : fitsB ⟨op, a, b, cc, n, m⟩ cells places players = (regB a q0 && (regB b q1 && (holdsB cells places players (numAt op) n && ((if uB op 3 = true then rowB cc cells n else regB cc (uB op 2)) && (m == 0 || q4))))) := by
    rw [hq0, hq1, hq4]
    simp only [fitsB]
    rw [decide_eq_true h26, Bool.true_and]
  rw [hfb]
  obtain ⟨p1, hp1⟩ : ∃ p, p = regB a q0 := ⟨_, rfl⟩
  obtain ⟨p2, hp2⟩ : ∃ p, p = regB b q1 := ⟨_, rfl⟩
  obtain ⟨p3, hp3⟩ : ∃ p, p = holdsB cells places players (numAt op) n := ⟨_, rfl⟩
  obtain ⟨p4, hp4⟩ : ∃ p, p = (if uB op 3 = true then rowB cc cells n else regB cc (uB op 2)) := ⟨_, rfl⟩
  obtain ⟨p5, hp5⟩ : ∃ p, p = (m == 0) := ⟨_, rfl⟩
  have e5 : ((m : Int) == 0) = p5 := by rw [hp5, Bool.eq_iff_iff]; simp
  rw [← hp1] at hR1 ⊢
  rw [← hp2] at hR2 ⊢
  rw [← hp3] at hH hC ⊢
  rw [← hp4] at hC ⊢
  rw [← hp5]
  rw [← hq0] at b0
  rw [← hq1] at b1
  rw [← hq4] at b4
  have HC := Lib.hid hC
  clear hfb hp1 hp2 hp3 hp4 hp5 hq0 hq1 hq4 hrw hc hC
  have hT2 := hT.ext (below_alloc2 w (.cells #[.int .u8 (op : Int), .int .u8 (a : Int), .int .u8 (b : Int), .int .u8 (cc : Int), .int .i32 n, .int .u32 (m : Int)] 71) (.cells #[.int .i64 cells, .int .i64 places, .int .i64 players] 110))
  obtain ⟨z0, z1, z2⟩ := ctab_at hT2 h26
  have e0 : decide ((op : Int) ≥ 26) = false := by simp; omega
  have e1 : (op : Int) < 26 := by omega
  have hb := below_alloc3 w (.cells #[.int .u8 (op : Int), .int .u8 (a : Int), .int .u8 (b : Int), .int .u8 (cc : Int), .int .i32 n, .int .u32 (m : Int)] 71) (.cells #[.int .i64 cells, .int .i64 places, .int .i64 players] 110) (.cells #[.string ⟨(wordAt op).toArray⟩, .int .u8 (useAt op : Int), .int .u8 (numAt op : Int)] 124)
  obtain ⟨kA, kR, kS⟩ := alloc3_at w (.cells #[.int .u8 (op : Int), .int .u8 (a : Int), .int .u8 (b : Int), .int .u8 (cc : Int), .int .i32 n, .int .u32 (m : Int)] 71) (.cells #[.int .i64 cells, .int .i64 places, .int .i64 players] 110) (.cells #[.string ⟨(wordAt op).toArray⟩, .int .u8 (useAt op : Int), .int .u8 (numAt op : Int)] 124)
  go_enter Tryd.func54, Tryd.ntmps54
  go_wp2_with fail
  have kS : _ := show (((w.alloc (.cells #[.int .u8 (op : Int), .int .u8 (a : Int), .int .u8 (b : Int), .int .u8 (cc : Int), .int .i32 n, .int .u32 (m : Int)] 71)).alloc (.cells #[.int .i64 cells, .int .i64 places, .int .i64 players] 110)).alloc (.cells #[.string ⟨(wordAt op).toArray⟩, .int .u8 (useAt op : Int), .int .u8 (numAt op : Int)] 124)).heap[w.heap.size + 1 + 1]? = _ from kS
  obtain ⟨wz, hwz⟩ : ∃ wz, wz = ((w.alloc (.cells #[.int .u8 (op : Int), .int .u8 (a : Int), .int .u8 (b : Int), .int .u8 (cc : Int), .int .i32 n, .int .u32 (m : Int)] 71)).alloc (.cells #[.int .i64 cells, .int .i64 places, .int .i64 players] 110)).alloc (.cells #[.string ⟨(wordAt op).toArray⟩, .int .u8 (useAt op : Int), .int .u8 (numAt op : Int)] 124) := ⟨_, rfl⟩
  rw [← hwz] at hb kA kR kS ⊢
  clear hwz z0 z1 z2 e0 e1 hT hT2
  refine (hR1 _).mono ?_
  rintro e w' ⟨rfl, hw⟩
  have hw := hw.symm
  subst hw
  clear hR1 b0
  have a0 := (cell_of_row wz (w.heap.size) 0 _ _ _ kA).trans (show _ = some _ from rfl)
  have a1 := (cell_of_row wz (w.heap.size) 1 _ _ _ kA).trans (show _ = some _ from rfl)
  have a2 := (cell_of_row wz (w.heap.size) 2 _ _ _ kA).trans (show _ = some _ from rfl)
  have a3 := (cell_of_row wz (w.heap.size) 3 _ _ _ kA).trans (show _ = some _ from rfl)
  have a4 := (cell_of_row wz (w.heap.size) 4 _ _ _ kA).trans (show _ = some _ from rfl)
  have a5 := (cell_of_row wz (w.heap.size) 5 _ _ _ kA).trans (show _ = some _ from rfl)
  have r0 := (cell_of_row wz (w.heap.size + 1) 0 _ _ _ kR).trans (show _ = some _ from rfl)
  have r1 := (cell_of_row wz (w.heap.size + 1) 1 _ _ _ kR).trans (show _ = some _ from rfl)
  have r2 := (cell_of_row wz (w.heap.size + 1) 2 _ _ _ kR).trans (show _ = some _ from rfl)
  have s0 := (cell_of_row wz (w.heap.size + 1 + 1) 0 _ _ _ kS).trans (show _ = some _ from rfl)
  have s1 := (cell_of_row wz (w.heap.size + 1 + 1) 1 _ _ _ kS).trans (show _ = some _ from rfl)
  have s2 := (cell_of_row wz (w.heap.size + 1 + 1) 2 _ _ _ kS).trans (show _ = some _ from rfl)
  cases p1 with
  | false =>
    go_wp2
    go_ret
    exact ⟨by simp, hb⟩
  | true =>
    go_wp2_with fail
    refine (hR2 _).mono ?_
    rintro e w' ⟨rfl, hw⟩
    have hw := hw.symm
    subst hw
    clear hR2 b1
    cases p2 with
    | false =>
      go_wp2
      go_ret
      exact ⟨by simp, hb⟩
    | true =>
      go_wp2_with fail
      clear a0 a1 a2 a3 a4 a5 r0 r1 r2 s0 s1 s2
      refine (hH _).mono ?_
      rintro e w5 ⟨rfl, h9⟩
      replace kA := (h9.block _ (Array.getElem?_eq_some_iff.1 kA).1).trans kA
      replace kR := (h9.block _ (Array.getElem?_eq_some_iff.1 kR).1).trans kR
      replace kS := (h9.block _ (Array.getElem?_eq_some_iff.1 kS).1).trans kS
      replace hb := hb.trans (h9.mono hb.size)
      clear h9
      clear hH
      have a0 := (cell_of_row w5 (w.heap.size) 0 _ _ _ kA).trans (show _ = some _ from rfl)
      have a1 := (cell_of_row w5 (w.heap.size) 1 _ _ _ kA).trans (show _ = some _ from rfl)
      have a2 := (cell_of_row w5 (w.heap.size) 2 _ _ _ kA).trans (show _ = some _ from rfl)
      have a3 := (cell_of_row w5 (w.heap.size) 3 _ _ _ kA).trans (show _ = some _ from rfl)
      have a4 := (cell_of_row w5 (w.heap.size) 4 _ _ _ kA).trans (show _ = some _ from rfl)
      have a5 := (cell_of_row w5 (w.heap.size) 5 _ _ _ kA).trans (show _ = some _ from rfl)
      have r0 := (cell_of_row w5 (w.heap.size + 1) 0 _ _ _ kR).trans (show _ = some _ from rfl)
      have r1 := (cell_of_row w5 (w.heap.size + 1) 1 _ _ _ kR).trans (show _ = some _ from rfl)
      have r2 := (cell_of_row w5 (w.heap.size + 1) 2 _ _ _ kR).trans (show _ = some _ from rfl)
      have s0 := (cell_of_row w5 (w.heap.size + 1 + 1) 0 _ _ _ kS).trans (show _ = some _ from rfl)
      have s1 := (cell_of_row w5 (w.heap.size + 1 + 1) 1 _ _ _ kS).trans (show _ = some _ from rfl)
      have s2 := (cell_of_row w5 (w.heap.size + 1 + 1) 2 _ _ _ kS).trans (show _ = some _ from rfl)
      cases p3 with
      | false =>
        go_wp2
        go_ret
        exact ⟨by simp, hb⟩
      | true =>
        have hC := HC.out (by trivial)
        clear HC
        go_wp2_with fail
        clear a0 a1 a2 a3 a4 a5 r0 r1 r2 s0 s1 s2
        refine (hC _).mono ?_
        rintro e w6 ⟨rfl, h9⟩
        replace kA := (h9.block _ (Array.getElem?_eq_some_iff.1 kA).1).trans kA
        replace kR := (h9.block _ (Array.getElem?_eq_some_iff.1 kR).1).trans kR
        replace kS := (h9.block _ (Array.getElem?_eq_some_iff.1 kS).1).trans kS
        replace hb := hb.trans (h9.mono hb.size)
        clear h9
        clear hC
        have a0 := (cell_of_row w6 (w.heap.size) 0 _ _ _ kA).trans (show _ = some _ from rfl)
        have a1 := (cell_of_row w6 (w.heap.size) 1 _ _ _ kA).trans (show _ = some _ from rfl)
        have a2 := (cell_of_row w6 (w.heap.size) 2 _ _ _ kA).trans (show _ = some _ from rfl)
        have a3 := (cell_of_row w6 (w.heap.size) 3 _ _ _ kA).trans (show _ = some _ from rfl)
        have a4 := (cell_of_row w6 (w.heap.size) 4 _ _ _ kA).trans (show _ = some _ from rfl)
        have a5 := (cell_of_row w6 (w.heap.size) 5 _ _ _ kA).trans (show _ = some _ from rfl)
        have r0 := (cell_of_row w6 (w.heap.size + 1) 0 _ _ _ kR).trans (show _ = some _ from rfl)
        have r1 := (cell_of_row w6 (w.heap.size + 1) 1 _ _ _ kR).trans (show _ = some _ from rfl)
        have r2 := (cell_of_row w6 (w.heap.size + 1) 2 _ _ _ kR).trans (show _ = some _ from rfl)
        have s0 := (cell_of_row w6 (w.heap.size + 1 + 1) 0 _ _ _ kS).trans (show _ = some _ from rfl)
        have s1 := (cell_of_row w6 (w.heap.size + 1 + 1) 1 _ _ _ kS).trans (show _ = some _ from rfl)
        have s2 := (cell_of_row w6 (w.heap.size + 1 + 1) 2 _ _ _ kS).trans (show _ = some _ from rfl)
        cases p4 with
        | false =>
          go_wp2
          go_ret
          exact ⟨by simp, hb⟩
        | true =>
          cases p5 with
          | true =>
            go_wp2
            go_ret
            exact ⟨by simp, hb⟩
          | false =>
            go_wp2
            go_ret
            exact ⟨by simp, hb⟩
end Go.Proofs.YtglmciklegifaaaDoor
