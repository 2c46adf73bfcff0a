/- The document's Right. Conditions: the numbers fit. -/
import Derived.Test.YtfopdoeiahlhpaaDoorZCodeRV
import Derived.Deep.DeepCutAuto
namespace Go.Proofs.YtfopdoeiahlhpaaDoor
open Go.RowKit

theorem words_some : ∀ j : Fin 26, (wordAt j.val).isEmpty = false := by decide +kernel
theorem let_use : ∀ j : Fin 26, (letAt j.val).contains 65 = uB j.val 0 ∧ (letAt j.val).contains 66 = uB j.val 1 ∧ (letAt j.val).contains 67 = uB j.val 2 ∧ (letAt j.val).contains 114 = uB j.val 3 ∧ (letAt j.val).contains 75 = uB j.val 4 := by decide +kernel
theorem let_num : ∀ j : Fin 26, (letAt j.val).contains 110 = decide (numAt j.val = 1) ∧ (letAt j.val).contains 115 = decide (numAt j.val = 2) ∧ (uB j.val 3 = true ∨ (letAt j.val).contains 99 = decide (numAt j.val = 3)) ∧ (letAt j.val).contains 112 = decide (numAt j.val = 4) ∧ (letAt j.val).contains 109 = decide (numAt j.val = 5) := by decide +kernel
set_option maxHeartbeats 16000000 in
set_option maxRecDepth 20000 in
theorem RRight_in (op a b cc : Nat) (n : Int) (m : Nat) (hc : (Cd.mk op a b cc n m).Ok) (h26 : op < 26) (size cells players : Int) (_hs0 : 0 ≤ size) (_hs1 : size ≤ 9223372036854775806) (_hl0 : -9223372036854775808 ≤ cells) (_hl1 : cells ≤ 9223372036854775807) (w : World) :
    Calls Tryd.prog 76 #[.agg #[.int .u8 (op : Int), .int .u8 (a : Int), .int .u8 (b : Int), .int .u8 (cc : Int), .int .i32 n, .int .u32 (m : Int)], .int .i64 size, .int .i64 cells, .int .i64 players] w fun e w' => e = .returned (.bool (fitsB ⟨op, a, b, cc, n, m⟩ cells (size + 1) players)) ∧ Below w.heap.size w w' := by
  obtain ⟨-, ha, hb', hcc, n0, n1, hm⟩ := hc
  simp only at ha hb' hcc n0 n1 hm
  obtain ⟨u0, u1, u2, u3, u4⟩ := let_use ⟨op, h26⟩
  obtain ⟨v1, v2, v3, v4, v5⟩ := let_num ⟨op, h26⟩
  have hrw := use_row ⟨op, h26⟩
  have hwn := words_some ⟨op, h26⟩
  obtain ⟨-, hll, -⟩ := row_len ⟨op, h26⟩
  simp only at u0 u1 u2 u3 u4 v1 v2 v3 v4 v5 hrw hwn hll
  have hP := fun W => Parts_in op h26 W
  obtain ⟨sw, hsw⟩ : ∃ s, s = wordAt op := ⟨_, rfl⟩
  obtain ⟨su, hsu⟩ : ∃ s, s = letAt op := ⟨_, rfl⟩
  rw [← hsw] at hP hwn
  rw [← hsu] at hP hll u0 u1 u2 u3 u4 v1 v2 v3 v4 v5
  have hA := fun W => has_calls su 65 (by omega) (by omega) W
  have hB := fun W => has_calls su 66 (by omega) (by omega) W
  have hC := fun W => has_calls su 67 (by omega) (by omega) W
  have hR := fun W => has_calls su 114 (by omega) (by omega) W
  have hK := fun W => has_calls su 75 (by omega) (by omega) W
  have hN1 := fun W => has_calls su 110 (by omega) (by omega) W
  have hN2 := fun W => has_calls su 115 (by omega) (by omega) W
  have hN3 := fun W => has_calls su 99 (by omega) (by omega) W
  have hN4 := fun W => has_calls su 112 (by omega) (by omega) W
  have hN5 := fun W => has_calls su 109 (by omega) (by omega) W
  rw [show ((65 : Nat) : Int) = 65 from rfl, show UInt8.ofNat 65 = 65 from rfl, u0] at hA
  rw [show ((66 : Nat) : Int) = 66 from rfl, show UInt8.ofNat 66 = 66 from rfl, u1] at hB
  rw [show ((67 : Nat) : Int) = 67 from rfl, show UInt8.ofNat 67 = 67 from rfl, u2] at hC
  rw [show ((114 : Nat) : Int) = 114 from rfl, show UInt8.ofNat 114 = 114 from rfl, u3] at hR
  rw [show ((75 : Nat) : Int) = 75 from rfl, show UInt8.ofNat 75 = 75 from rfl, u4] at hK
  rw [show ((110 : Nat) : Int) = 110 from rfl, show UInt8.ofNat 110 = 110 from rfl, v1] at hN1
  rw [show ((115 : Nat) : Int) = 115 from rfl, show UInt8.ofNat 115 = 115 from rfl, v2] at hN2
  rw [show ((112 : Nat) : Int) = 112 from rfl, show UInt8.ofNat 112 = 112 from rfl, v4] at hN4
  rw [show ((109 : Nat) : Int) = 109 from rfl, show UInt8.ofNat 109 = 109 from rfl, v5] at hN5
  rw [show ((99 : Nat) : Int) = 99 from rfl, show UInt8.ofNat 99 = 99 from rfl] at hN3
  have hfb : fitsB ⟨op, a, b, cc, n, m⟩ cells (size + 1) players = (regB a (uB op 0) && (regB b (uB op 1) && (holdsB cells (size + 1) players (numAt op) n && ((if uB op 3 = true then rowB cc cells n else regB cc (uB op 2)) && (m == 0 || uB op 4))))) := by
    simp only [fitsB]
    rw [decide_eq_true h26, Bool.true_and]
  rw [hfb]
  obtain ⟨q0, hq0⟩ : ∃ q, q = uB op 0 := ⟨_, rfl⟩
  obtain ⟨q1, hq1⟩ : ∃ q, q = uB op 1 := ⟨_, rfl⟩
  obtain ⟨q2, hq2⟩ : ∃ q, q = uB op 2 := ⟨_, rfl⟩
  obtain ⟨q3, hq3⟩ : ∃ q, q = uB op 3 := ⟨_, rfl⟩
  obtain ⟨q4, hq4⟩ : ∃ q, q = uB op 4 := ⟨_, rfl⟩
  obtain ⟨k, hk⟩ : ∃ k, k = numAt op := ⟨_, rfl⟩
  rw [← hq0] at hA ⊢
  rw [← hq1] at hB ⊢
  rw [← hq2] at hC ⊢
  rw [← hq3] at hR v3 hrw ⊢
  rw [← hq4] at hK ⊢
  rw [← hk] at hN1 hN2 hN4 hN5 v3 hrw ⊢
  obtain ⟨D, hD⟩ : ∃ D, D = !(regB a q0 && (regB b q1 && (m == 0 || q4))) := ⟨_, rfl⟩
  obtain ⟨E, hE⟩ : ∃ E, E = (holdsB cells (size + 1) players k n && (if q3 = true then rowB cc cells n else regB cc q2)) := ⟨_, rfl⟩
  have hV : (regB a q0 && (regB b q1 && (holdsB cells (size + 1) players k n && ((if q3 = true then rowB cc cells n else regB cc q2) && (m == 0 || q4))))) = (!D && E) := by
    rw [hD, hE]
    cases regB a q0 <;> cases regB b q1 <;> cases holdsB cells (size + 1) players k n <;> cases (if q3 = true then rowB cc cells n else regB cc q2) <;> cases (m == 0 || q4) <;> rfl
  rw [hV]
  have HD := Lib.hid hD
  have HE := Lib.hid hE
  have e6 := IntWalk.i64_in n (by omega)
  have e7 := IntWalk.i64_in (cc : Int) (by omega)
  clear hV hD hE hfb hq0 hq1 hq2 hq3 hq4 hk hsw hsu u0 u1 u2 u3 u4 v1 v2 v4 v5
  have hb := below_alloc1 w (.cells #[.int .u8 (op : Int), .int .u8 (a : Int), .int .u8 (b : Int), .int .u8 (cc : Int), .int .i32 n, .int .u32 (m : Int)] 108)
  have kA := heap_alloc_new w (.cells #[.int .u8 (op : Int), .int .u8 (a : Int), .int .u8 (b : Int), .int .u8 (cc : Int), .int .i32 n, .int .u32 (m : Int)] 108)
  go_enter Tryd.func76, Tryd.ntmps76
  go_wp2_with fail
  refine (hP _).mono ?_
  rintro e wz ⟨rfl, h9⟩
  replace kA := (h9.block _ (Array.getElem?_eq_some_iff.1 kA).1).trans kA
  replace hb := hb.trans (h9.mono hb.size)
  clear h9 hP
  have a1 := (cell_of_row _ _ 1 _ _ _ kA).trans (show _ = some _ from rfl)
  have a2 := (cell_of_row _ _ 2 _ _ _ kA).trans (show _ = some _ from rfl)
  have a3 := (cell_of_row _ _ 3 _ _ _ kA).trans (show _ = some _ from rfl)
  have a4 := (cell_of_row _ _ 4 _ _ _ kA).trans (show _ = some _ from rfl)
  have a5 := (cell_of_row _ _ 5 _ _ _ kA).trans (show _ = some _ from rfl)
  clear kA
  go_upto_region 4 with fail
  go_cut [57] (fun s57 wx => wx = wz ∧ s57 = .bool D)
  case first =>
    clear hC hR hN1 hN2 hN3 hN4 hN5 e6 e7 a3 a4 v3 hrw HE
    by_cases za : a ≤ 0
    · have ea : decide ((a : Int) > 0) = false := by simp; omega
      have ea2 : decide (0 < a) = false := by simp; omega
      by_cases zb : b ≤ 0
      · have eb : decide ((b : Int) > 0) = false := by simp; omega
        have eb2 : decide (0 < b) = false := by simp; omega
        by_cases zm : m ≤ 0
        · have em : decide ((m : Int) > 0) = false := by simp; omega
          have em2 : decide (0 < m) = false := by simp; omega
          go_wp2_with fail
          go_meet
          exact ⟨rfl, congrArg Value.bool (by rw [HD.out]; simp [regB]; try omega)⟩
        · have em : decide ((m : Int) > 0) = true := by simp; omega
          have em2 : decide (0 < m) = true := by simp; omega
          cases q4 with
          | false =>
            go_wp2_with fail
            refine (hK _).mono ?_
            rintro e wy ⟨rfl, hw⟩
            replace hw := hw.symm
            subst hw
            go_wp2_with fail
            go_meet
            exact ⟨rfl, congrArg Value.bool (by rw [HD.out]; simp [regB]; try omega)⟩
          | true =>
            go_wp2_with fail
            refine (hK _).mono ?_
            rintro e wy ⟨rfl, hw⟩
            replace hw := hw.symm
            subst hw
            go_wp2_with fail
            go_meet
            exact ⟨rfl, congrArg Value.bool (by rw [HD.out]; simp [regB]; try omega)⟩
      · have eb : decide ((b : Int) > 0) = true := by simp; omega
        have eb2 : decide (0 < b) = true := by simp; omega
        cases q1 with
        | false =>
          go_wp2_with fail
          refine (hB _).mono ?_
          rintro e wy ⟨rfl, hw⟩
          replace hw := hw.symm
          subst hw
          go_wp2_with fail
          go_meet
          exact ⟨rfl, congrArg Value.bool (by rw [HD.out]; simp [regB]; try omega)⟩
        | true =>
          by_cases yb : b ≤ 7
          · have fb : decide ((b : Int) > 7) = false := by simp; omega
            go_wp2_with fail
            refine (hB _).mono ?_
            rintro e wy ⟨rfl, hw⟩
            replace hw := hw.symm
            subst hw
            by_cases zm : m ≤ 0
            · have em : decide ((m : Int) > 0) = false := by simp; omega
              have em2 : decide (0 < m) = false := by simp; omega
              go_wp2_with fail
              go_meet
              exact ⟨rfl, congrArg Value.bool (by rw [HD.out]; simp [regB]; try omega)⟩
            · have em : decide ((m : Int) > 0) = true := by simp; omega
              have em2 : decide (0 < m) = true := by simp; omega
              cases q4 with
              | false =>
                go_wp2_with fail
                refine (hK _).mono ?_
                rintro e wy ⟨rfl, hw⟩
                replace hw := hw.symm
                subst hw
                go_wp2_with fail
                go_meet
                exact ⟨rfl, congrArg Value.bool (by rw [HD.out]; simp [regB]; try omega)⟩
              | true =>
                go_wp2_with fail
                refine (hK _).mono ?_
                rintro e wy ⟨rfl, hw⟩
                replace hw := hw.symm
                subst hw
                go_wp2_with fail
                go_meet
                exact ⟨rfl, congrArg Value.bool (by rw [HD.out]; simp [regB]; try omega)⟩
          · have fb : decide ((b : Int) > 7) = true := by simp; omega
            go_wp2_with fail
            refine (hB _).mono ?_
            rintro e wy ⟨rfl, hw⟩
            replace hw := hw.symm
            subst hw
            go_wp2_with fail
            go_meet
            exact ⟨rfl, congrArg Value.bool (by rw [HD.out]; simp [regB]; try omega)⟩
    · have ea : decide ((a : Int) > 0) = true := by simp; omega
      have ea2 : decide (0 < a) = true := by simp; omega
      cases q0 with
      | false =>
        go_wp2_with fail
        refine (hA _).mono ?_
        rintro e wy ⟨rfl, hw⟩
        replace hw := hw.symm
        subst hw
        go_wp2_with fail
        go_meet
        exact ⟨rfl, congrArg Value.bool (by rw [HD.out]; simp [regB]; try omega)⟩
      | true =>
        by_cases ya : a ≤ 7
        · have fa : decide ((a : Int) > 7) = false := by simp; omega
          go_wp2_with fail
          refine (hA _).mono ?_
          rintro e wy ⟨rfl, hw⟩
          replace hw := hw.symm
          subst hw
          by_cases zb : b ≤ 0
          · have eb : decide ((b : Int) > 0) = false := by simp; omega
            have eb2 : decide (0 < b) = false := by simp; omega
            by_cases zm : m ≤ 0
            · have em : decide ((m : Int) > 0) = false := by simp; omega
              have em2 : decide (0 < m) = false := by simp; omega
              go_wp2_with fail
              go_meet
              exact ⟨rfl, congrArg Value.bool (by rw [HD.out]; simp [regB]; try omega)⟩
            · have em : decide ((m : Int) > 0) = true := by simp; omega
              have em2 : decide (0 < m) = true := by simp; omega
              cases q4 with
              | false =>
                go_wp2_with fail
                refine (hK _).mono ?_
                rintro e wy ⟨rfl, hw⟩
                replace hw := hw.symm
                subst hw
                go_wp2_with fail
                go_meet
                exact ⟨rfl, congrArg Value.bool (by rw [HD.out]; simp [regB]; try omega)⟩
              | true =>
                go_wp2_with fail
                refine (hK _).mono ?_
                rintro e wy ⟨rfl, hw⟩
                replace hw := hw.symm
                subst hw
                go_wp2_with fail
                go_meet
                exact ⟨rfl, congrArg Value.bool (by rw [HD.out]; simp [regB]; try omega)⟩
          · have eb : decide ((b : Int) > 0) = true := by simp; omega
            have eb2 : decide (0 < b) = true := by simp; omega
            cases q1 with
            | false =>
              go_wp2_with fail
              refine (hB _).mono ?_
              rintro e wy ⟨rfl, hw⟩
              replace hw := hw.symm
              subst hw
              go_wp2_with fail
              go_meet
              exact ⟨rfl, congrArg Value.bool (by rw [HD.out]; simp [regB]; try omega)⟩
            | true =>
              by_cases yb : b ≤ 7
              · have fb : decide ((b : Int) > 7) = false := by simp; omega
                go_wp2_with fail
                refine (hB _).mono ?_
                rintro e wy ⟨rfl, hw⟩
                replace hw := hw.symm
                subst hw
                by_cases zm : m ≤ 0
                · have em : decide ((m : Int) > 0) = false := by simp; omega
                  have em2 : decide (0 < m) = false := by simp; omega
                  go_wp2_with fail
                  go_meet
                  exact ⟨rfl, congrArg Value.bool (by rw [HD.out]; simp [regB]; try omega)⟩
                · have em : decide ((m : Int) > 0) = true := by simp; omega
                  have em2 : decide (0 < m) = true := by simp; omega
                  cases q4 with
                  | false =>
                    go_wp2_with fail
                    refine (hK _).mono ?_
                    rintro e wy ⟨rfl, hw⟩
                    replace hw := hw.symm
                    subst hw
                    go_wp2_with fail
                    go_meet
                    exact ⟨rfl, congrArg Value.bool (by rw [HD.out]; simp [regB]; try omega)⟩
                  | true =>
                    go_wp2_with fail
                    refine (hK _).mono ?_
                    rintro e wy ⟨rfl, hw⟩
                    replace hw := hw.symm
                    subst hw
                    go_wp2_with fail
                    go_meet
                    exact ⟨rfl, congrArg Value.bool (by rw [HD.out]; simp [regB]; try omega)⟩
              · have fb : decide ((b : Int) > 7) = true := by simp; omega
                go_wp2_with fail
                refine (hB _).mono ?_
                rintro e wy ⟨rfl, hw⟩
                replace hw := hw.symm
                subst hw
                go_wp2_with fail
                go_meet
                exact ⟨rfl, congrArg Value.bool (by rw [HD.out]; simp [regB]; try omega)⟩
        · have fa : decide ((a : Int) > 7) = true := by simp; omega
          go_wp2_with fail
          refine (hA _).mono ?_
          rintro e wy ⟨rfl, hw⟩
          replace hw := hw.symm
          subst hw
          go_wp2_with fail
          go_meet
          exact ⟨rfl, congrArg Value.bool (by rw [HD.out]; simp [regB]; try omega)⟩
  case rest =>
    obtain ⟨rfl, rfl⟩ := hcut
    clear hA hB hK HD a1 a2 a5
    cases D with
    | true =>
      go_wp2_with fail
      go_ret
      exact ⟨rfl, hb⟩
    | false =>
      cases q3 with
      | true =>
        obtain rfl : k = 3 := hrw (by trivial)
        clear v3 hrw
        go_wp2_with fail
        refine (hR _).mono ?_
        rintro e wy ⟨rfl, hw⟩
        replace hw := hw.symm
        subst hw
        by_cases z1 : 0 < cc
        · have ez1 : decide ((cc : Int) > 0) = true := by simp; omega
          have ez12 : decide (0 < cc) = true := by simp; omega
          by_cases z2 : cc < 49
          · have ez2 : decide ((cc : Int) < 49) = true := by simp; omega
            by_cases z3 : 0 ≤ n
            · have ez3 : decide (n ≥ 0) = true := by simp; omega
              by_cases z4 : n < cells
              · have ez4 : decide (n < cells) = true := by simp; omega
                have ew := IntWalk.i64_in (n + (cc : Int)) (by omega)
                obtain ⟨d, hd⟩ : ∃ d, d = decide (n + (cc : Int) ≤ cells) := ⟨_, rfl⟩
                have ed := hd.symm
                have HDd := Lib.hid hd
                clear hd
                go_wp2_with fail
                go_ret
                refine ⟨?_, hb⟩
                rw [HE.out]
                simp only [HDd.out]
                simp [holdsB, rowB, belowB]
                rw [decide_eq_true z3, decide_eq_true z4, decide_eq_true (show 1 ≤ cc by omega), decide_eq_true (show cc ≤ 48 by omega)]
                simp only [Bool.true_and]
                rw [Bool.eq_iff_iff, decide_eq_true_iff, decide_eq_true_iff]
                omega
              · have ez4 : decide (n < cells) = false := by simp; omega
                go_wp2_with fail
                go_ret
                exact ⟨by rw [HE.out]; simp [holdsB, rowB, belowB]; try omega, hb⟩
            · have ez3 : decide (n ≥ 0) = false := by simp; omega
              go_wp2_with fail
              go_ret
              exact ⟨by rw [HE.out]; simp [holdsB, rowB, belowB]; try omega, hb⟩
          · have ez2 : decide ((cc : Int) < 49) = false := by simp; omega
            go_wp2_with fail
            go_ret
            exact ⟨by rw [HE.out]; simp [holdsB, rowB, belowB]; try omega, hb⟩
        · have ez1 : decide ((cc : Int) > 0) = false := by simp; omega
          have ez12 : decide (0 < cc) = false := by simp; omega
          go_wp2_with fail
          go_ret
          exact ⟨by rw [HE.out]; simp [holdsB, rowB, belowB]; try omega, hb⟩
      | false =>
        have v3 := v3.resolve_left (by simp)
        rw [v3] at hN3
        clear v3 hrw
        go_wp2_with fail
        refine (hR _).mono ?_
        rintro e wy ⟨rfl, hw⟩
        replace hw := hw.symm
        subst hw
        by_cases zc : cc ≤ 0
        · have ec : decide ((cc : Int) > 0) = false := by simp; omega
          have ec2 : decide (0 < cc) = false := by simp; omega
          skip
          by_cases k1 : k = 1
          · subst k1
            go_wp2_with fail
            refine (hN1 _).mono ?_
            rintro e wy ⟨rfl, hw⟩
            replace hw := hw.symm
            subst hw
            go_wp2_with fail
            go_ret
            exact ⟨by rw [HE.out]; simp [holdsB, regB]; try omega, hb⟩
          have g1 : decide (k = 1) = false := decide_eq_false k1
          rw [g1] at hN1
          by_cases k3 : k = 3
          · subst k3
            go_wp2_with fail
            refine (hN1 _).mono ?_
            rintro e wy ⟨rfl, hw⟩
            replace hw := hw.symm
            subst hw
            go_wp2_with fail
            refine (hN3 _).mono ?_
            rintro e wy ⟨rfl, hw⟩
            replace hw := hw.symm
            subst hw
            by_cases z3 : 0 ≤ n
            · have ez3 : decide (n ≥ 0) = true := by simp; omega
              by_cases z4 : n < cells
              · have ez4 : decide (n < cells) = true := by simp; omega
                go_wp2_with fail
                go_ret
                exact ⟨by rw [HE.out]; simp [holdsB, belowB, regB]; try omega, hb⟩
              · have ez4 : decide (n < cells) = false := by simp; omega
                go_wp2_with fail
                go_ret
                exact ⟨by rw [HE.out]; simp [holdsB, belowB, regB]; try omega, hb⟩
            · have ez3 : decide (n ≥ 0) = false := by simp; omega
              go_wp2_with fail
              go_ret
              exact ⟨by rw [HE.out]; simp [holdsB, belowB, regB]; try omega, hb⟩
          have g3 : decide (k = 3) = false := decide_eq_false k3
          rw [g3] at hN3
          by_cases k4 : k = 4
          · subst k4
            go_wp2_with fail
            refine (hN1 _).mono ?_
            rintro e wy ⟨rfl, hw⟩
            replace hw := hw.symm
            subst hw
            go_wp2_with fail
            refine (hN3 _).mono ?_
            rintro e wy ⟨rfl, hw⟩
            replace hw := hw.symm
            subst hw
            go_wp2_with fail
            refine (hN4 _).mono ?_
            rintro e wy ⟨rfl, hw⟩
            replace hw := hw.symm
            subst hw
            by_cases z3 : 0 ≤ n
            · have ez3 : decide (n ≥ 0) = true := by simp; omega
              by_cases z4 : n ≤ size
              · have ez4 : decide (n ≤ size) = true := by simp; omega
                go_wp2_with fail
                go_ret
                exact ⟨by rw [HE.out]; simp [holdsB, belowB, regB]; try omega, hb⟩
              · have ez4 : decide (n ≤ size) = false := by simp; omega
                go_wp2_with fail
                go_ret
                exact ⟨by rw [HE.out]; simp [holdsB, belowB, regB]; try omega, hb⟩
            · have ez3 : decide (n ≥ 0) = false := by simp; omega
              go_wp2_with fail
              go_ret
              exact ⟨by rw [HE.out]; simp [holdsB, belowB, regB]; try omega, hb⟩
          have g4 : decide (k = 4) = false := decide_eq_false k4
          rw [g4] at hN4
          by_cases k5 : k = 5
          · subst k5
            go_wp2_with fail
            refine (hN1 _).mono ?_
            rintro e wy ⟨rfl, hw⟩
            replace hw := hw.symm
            subst hw
            go_wp2_with fail
            refine (hN3 _).mono ?_
            rintro e wy ⟨rfl, hw⟩
            replace hw := hw.symm
            subst hw
            go_wp2_with fail
            refine (hN4 _).mono ?_
            rintro e wy ⟨rfl, hw⟩
            replace hw := hw.symm
            subst hw
            go_wp2_with fail
            refine (hN5 _).mono ?_
            rintro e wy ⟨rfl, hw⟩
            replace hw := hw.symm
            subst hw
            by_cases z3 : 0 ≤ n
            · have ez3 : decide (n ≥ 0) = true := by simp; omega
              by_cases z4 : n < players
              · have ez4 : decide (n < players) = true := by simp; omega
                go_wp2_with fail
                go_ret
                exact ⟨by rw [HE.out]; simp [holdsB, belowB, regB]; try omega, hb⟩
              · have ez4 : decide (n < players) = false := by simp; omega
                go_wp2_with fail
                go_ret
                exact ⟨by rw [HE.out]; simp [holdsB, belowB, regB]; try omega, hb⟩
            · have ez3 : decide (n ≥ 0) = false := by simp; omega
              go_wp2_with fail
              go_ret
              exact ⟨by rw [HE.out]; simp [holdsB, belowB, regB]; try omega, hb⟩
          have g5 : decide (k = 5) = false := decide_eq_false k5
          rw [g5] at hN5
          by_cases k2 : k = 2
          · subst k2
            go_wp2_with fail
            refine (hN1 _).mono ?_
            rintro e wy ⟨rfl, hw⟩
            replace hw := hw.symm
            subst hw
            go_wp2_with fail
            refine (hN3 _).mono ?_
            rintro e wy ⟨rfl, hw⟩
            replace hw := hw.symm
            subst hw
            go_wp2_with fail
            refine (hN4 _).mono ?_
            rintro e wy ⟨rfl, hw⟩
            replace hw := hw.symm
            subst hw
            go_wp2_with fail
            refine (hN5 _).mono ?_
            rintro e wy ⟨rfl, hw⟩
            replace hw := hw.symm
            subst hw
            go_wp2_with fail
            refine (hN2 _).mono ?_
            rintro e wy ⟨rfl, hw⟩
            replace hw := hw.symm
            subst hw
            by_cases z3 : 0 < n
            · have ez3 : decide (n > 0) = true := by simp; omega
              go_wp2_with fail
              go_ret
              exact ⟨by rw [HE.out]; simp [holdsB, regB]; try omega, hb⟩
            · have ez3 : decide (n > 0) = false := by simp; omega
              go_wp2_with fail
              go_ret
              exact ⟨by rw [HE.out]; simp [holdsB, regB]; try omega, hb⟩
          have g2 : decide (k = 2) = false := decide_eq_false k2
          rw [g2] at hN2
          go_wp2_with fail
          refine (hN1 _).mono ?_
          rintro e wy ⟨rfl, hw⟩
          replace hw := hw.symm
          subst hw
          go_wp2_with fail
          refine (hN3 _).mono ?_
          rintro e wy ⟨rfl, hw⟩
          replace hw := hw.symm
          subst hw
          go_wp2_with fail
          refine (hN4 _).mono ?_
          rintro e wy ⟨rfl, hw⟩
          replace hw := hw.symm
          subst hw
          go_wp2_with fail
          refine (hN5 _).mono ?_
          rintro e wy ⟨rfl, hw⟩
          replace hw := hw.symm
          subst hw
          go_wp2_with fail
          refine (hN2 _).mono ?_
          rintro e wy ⟨rfl, hw⟩
          replace hw := hw.symm
          subst hw
          obtain ⟨d, hd⟩ : ∃ d, d = (n == 0) := ⟨_, rfl⟩
          have ed := hd.symm
          have HDd := Lib.hid hd
          clear hd
          go_wp2_with fail
          go_ret
          refine ⟨?_, hb⟩
          rw [HE.out, HDd.out]
          simp [holdsB, regB, k1, k2, k3, k4, k5]
          try omega
        · have ec : decide ((cc : Int) > 0) = true := by simp; omega
          have ec2 : decide (0 < cc) = true := by simp; omega
          cases q2 with
          | false =>
            go_wp2_with fail
            refine (hC _).mono ?_
            rintro e wy ⟨rfl, hw⟩
            replace hw := hw.symm
            subst hw
            go_wp2_with fail
            go_ret
            exact ⟨by rw [HE.out]; simp [holdsB, belowB, regB]; try omega, hb⟩
          | true =>
            by_cases yc : cc ≤ 7
            · have fc : decide ((cc : Int) > 7) = false := by simp; omega
              go_wp2_with fail
              refine (hC _).mono ?_
              rintro e wy ⟨rfl, hw⟩
              replace hw := hw.symm
              subst hw
              by_cases k1 : k = 1
              · subst k1
                go_wp2_with fail
                refine (hN1 _).mono ?_
                rintro e wy ⟨rfl, hw⟩
                replace hw := hw.symm
                subst hw
                go_wp2_with fail
                go_ret
                exact ⟨by rw [HE.out]; simp [holdsB, regB]; try omega, hb⟩
              have g1 : decide (k = 1) = false := decide_eq_false k1
              rw [g1] at hN1
              by_cases k3 : k = 3
              · subst k3
                go_wp2_with fail
                refine (hN1 _).mono ?_
                rintro e wy ⟨rfl, hw⟩
                replace hw := hw.symm
                subst hw
                go_wp2_with fail
                refine (hN3 _).mono ?_
                rintro e wy ⟨rfl, hw⟩
                replace hw := hw.symm
                subst hw
                by_cases z3 : 0 ≤ n
                · have ez3 : decide (n ≥ 0) = true := by simp; omega
                  by_cases z4 : n < cells
                  · have ez4 : decide (n < cells) = true := by simp; omega
                    go_wp2_with fail
                    go_ret
                    exact ⟨by rw [HE.out]; simp [holdsB, belowB, regB]; try omega, hb⟩
                  · have ez4 : decide (n < cells) = false := by simp; omega
                    go_wp2_with fail
                    go_ret
                    exact ⟨by rw [HE.out]; simp [holdsB, belowB, regB]; try omega, hb⟩
                · have ez3 : decide (n ≥ 0) = false := by simp; omega
                  go_wp2_with fail
                  go_ret
                  exact ⟨by rw [HE.out]; simp [holdsB, belowB, regB]; try omega, hb⟩
              have g3 : decide (k = 3) = false := decide_eq_false k3
              rw [g3] at hN3
              by_cases k4 : k = 4
              · subst k4
                go_wp2_with fail
                refine (hN1 _).mono ?_
                rintro e wy ⟨rfl, hw⟩
                replace hw := hw.symm
                subst hw
                go_wp2_with fail
                refine (hN3 _).mono ?_
                rintro e wy ⟨rfl, hw⟩
                replace hw := hw.symm
                subst hw
                go_wp2_with fail
                refine (hN4 _).mono ?_
                rintro e wy ⟨rfl, hw⟩
                replace hw := hw.symm
                subst hw
                by_cases z3 : 0 ≤ n
                · have ez3 : decide (n ≥ 0) = true := by simp; omega
                  by_cases z4 : n ≤ size
                  · have ez4 : decide (n ≤ size) = true := by simp; omega
                    go_wp2_with fail
                    go_ret
                    exact ⟨by rw [HE.out]; simp [holdsB, belowB, regB]; try omega, hb⟩
                  · have ez4 : decide (n ≤ size) = false := by simp; omega
                    go_wp2_with fail
                    go_ret
                    exact ⟨by rw [HE.out]; simp [holdsB, belowB, regB]; try omega, hb⟩
                · have ez3 : decide (n ≥ 0) = false := by simp; omega
                  go_wp2_with fail
                  go_ret
                  exact ⟨by rw [HE.out]; simp [holdsB, belowB, regB]; try omega, hb⟩
              have g4 : decide (k = 4) = false := decide_eq_false k4
              rw [g4] at hN4
              by_cases k5 : k = 5
              · subst k5
                go_wp2_with fail
                refine (hN1 _).mono ?_
                rintro e wy ⟨rfl, hw⟩
                replace hw := hw.symm
                subst hw
                go_wp2_with fail
                refine (hN3 _).mono ?_
                rintro e wy ⟨rfl, hw⟩
                replace hw := hw.symm
                subst hw
                go_wp2_with fail
                refine (hN4 _).mono ?_
                rintro e wy ⟨rfl, hw⟩
                replace hw := hw.symm
                subst hw
                go_wp2_with fail
                refine (hN5 _).mono ?_
                rintro e wy ⟨rfl, hw⟩
                replace hw := hw.symm
                subst hw
                by_cases z3 : 0 ≤ n
                · have ez3 : decide (n ≥ 0) = true := by simp; omega
                  by_cases z4 : n < players
                  · have ez4 : decide (n < players) = true := by simp; omega
                    go_wp2_with fail
                    go_ret
                    exact ⟨by rw [HE.out]; simp [holdsB, belowB, regB]; try omega, hb⟩
                  · have ez4 : decide (n < players) = false := by simp; omega
                    go_wp2_with fail
                    go_ret
                    exact ⟨by rw [HE.out]; simp [holdsB, belowB, regB]; try omega, hb⟩
                · have ez3 : decide (n ≥ 0) = false := by simp; omega
                  go_wp2_with fail
                  go_ret
                  exact ⟨by rw [HE.out]; simp [holdsB, belowB, regB]; try omega, hb⟩
              have g5 : decide (k = 5) = false := decide_eq_false k5
              rw [g5] at hN5
              by_cases k2 : k = 2
              · subst k2
                go_wp2_with fail
                refine (hN1 _).mono ?_
                rintro e wy ⟨rfl, hw⟩
                replace hw := hw.symm
                subst hw
                go_wp2_with fail
                refine (hN3 _).mono ?_
                rintro e wy ⟨rfl, hw⟩
                replace hw := hw.symm
                subst hw
                go_wp2_with fail
                refine (hN4 _).mono ?_
                rintro e wy ⟨rfl, hw⟩
                replace hw := hw.symm
                subst hw
                go_wp2_with fail
                refine (hN5 _).mono ?_
                rintro e wy ⟨rfl, hw⟩
                replace hw := hw.symm
                subst hw
                go_wp2_with fail
                refine (hN2 _).mono ?_
                rintro e wy ⟨rfl, hw⟩
                replace hw := hw.symm
                subst hw
                by_cases z3 : 0 < n
                · have ez3 : decide (n > 0) = true := by simp; omega
                  go_wp2_with fail
                  go_ret
                  exact ⟨by rw [HE.out]; simp [holdsB, regB]; try omega, hb⟩
                · have ez3 : decide (n > 0) = false := by simp; omega
                  go_wp2_with fail
                  go_ret
                  exact ⟨by rw [HE.out]; simp [holdsB, regB]; try omega, hb⟩
              have g2 : decide (k = 2) = false := decide_eq_false k2
              rw [g2] at hN2
              go_wp2_with fail
              refine (hN1 _).mono ?_
              rintro e wy ⟨rfl, hw⟩
              replace hw := hw.symm
              subst hw
              go_wp2_with fail
              refine (hN3 _).mono ?_
              rintro e wy ⟨rfl, hw⟩
              replace hw := hw.symm
              subst hw
              go_wp2_with fail
              refine (hN4 _).mono ?_
              rintro e wy ⟨rfl, hw⟩
              replace hw := hw.symm
              subst hw
              go_wp2_with fail
              refine (hN5 _).mono ?_
              rintro e wy ⟨rfl, hw⟩
              replace hw := hw.symm
              subst hw
              go_wp2_with fail
              refine (hN2 _).mono ?_
              rintro e wy ⟨rfl, hw⟩
              replace hw := hw.symm
              subst hw
              obtain ⟨d, hd⟩ : ∃ d, d = (n == 0) := ⟨_, rfl⟩
              have ed := hd.symm
              have HDd := Lib.hid hd
              clear hd
              go_wp2_with fail
              go_ret
              refine ⟨?_, hb⟩
              rw [HE.out, HDd.out]
              simp [holdsB, regB, k1, k2, k3, k4, k5]
              try omega
            · have fc : decide ((cc : Int) > 7) = true := by simp; omega
              go_wp2_with fail
              refine (hC _).mono ?_
              rintro e wy ⟨rfl, hw⟩
              replace hw := hw.symm
              subst hw
              go_wp2_with fail
              go_ret
              exact ⟨by rw [HE.out]; simp [holdsB, belowB, regB]; try omega, hb⟩
end Go.Proofs.YtfopdoeiahlhpaaDoor
