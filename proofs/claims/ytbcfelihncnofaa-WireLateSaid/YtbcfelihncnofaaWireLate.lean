/- WireLate: a frame that is late comes one Take behind, one that is later two; those that were put behind it aren't held up. No condition. -/
import Derived.Test.YtbcfelihncnofaaWiH
namespace Go.Proofs.Ytbcfelihncnofaa
open Go.RowKit
set_option linter.unusedVariables false

set_option maxHeartbeats 8000000 in
set_option maxRecDepth 20000 in
theorem WireLate_walk3 (A1 : Option Addr) (l1 : List UInt8) (n1 c1 b1 : Nat) (A2 : Option Addr) (l2 : List UInt8) (n2 c2 b2 : Nat) (k : Nat) (w : World) (hs1 : Bs w b1 A1 l1) (hn1 : l1.length = n1) (hm1 : n1 ≤ maxLen) (hs2 : Bs w b2 A2 l2) (hn2 : l2.length = n2) (hm2 : n2 ≤ maxLen) (hk : k ≤ 255) (hk2 : k % 2 = 0) :
    Calls Try.prog 8 #[.slice A1 n1 c1, .slice A2 n2 c2, .int .u8 (k : Int)] w fun e w' => e = .returned (.bool true) ∧ Below w.heap.size w w' := by
  have HN1 := Lib.hid hn1
  have HN2 := Lib.hid hn2
  have hki : (k : Int) % 2 = 0 := by omega
  clear hn1 hn2 hk2
  go_enter Try.func8, Try.ntmps8
  go_wp2_with fail
  refine (awake_calls _).mono ?_
  rintro e w1 ⟨rfl, hb⟩
  replace hs1 := Sl.ext hs1 hb
  replace hs2 := Sl.ext hs2 hb
  go_wp2_with fail
  refine (Cut_calls A1 l1 n1 c1 b1 20 _ hs1 HN1.out hm1 (by simp only [List.length_take]; omega)).mono ?_
  rintro e w2 ⟨v2, rfl, hrow2, hb2⟩
  obtain ⟨p, hp⟩ : ∃ p, p = l1.take (20 : Int).toNat := ⟨_, rfl⟩
  have hpl : p.length ≤ 20 := by rw [hp]; simp only [List.length_take]; omega
  rw [← hp] at hrow2
  replace hs2 := Sl.ext hs2 hb2
  replace hb := hb.trans (hb2.mono hb.size)
  clear hb2 hs1 hp
  obtain ⟨A3, c3, b3, rfl, -, -, -, hs3, -⟩ := SlT.of_own hrow2
  go_wp2_with fail
  refine (Cut_calls A2 l2 n2 c2 b2 20 _ hs2 HN2.out hm2 (by simp only [List.length_take]; omega)).mono ?_
  rintro e w3 ⟨v3, rfl, hrow3, hb3⟩
  obtain ⟨q, hq⟩ : ∃ q, q = l2.take (20 : Int).toNat := ⟨_, rfl⟩
  have hql : q.length ≤ 20 := by rw [hq]; simp only [List.length_take]; omega
  rw [← hq] at hrow3
  replace hs3 := hs3.ext hb3
  replace hb := hb.trans (hb3.mono hb.size)
  clear hb3 hs2 hq
  obtain ⟨A4, c4, b4, rfl, -, -, -, hs4, -⟩ := SlT.of_own hrow3
  obtain ⟨pn, hpn⟩ : ∃ pn, p.length = pn := ⟨_, rfl⟩
  obtain ⟨qn, hqn⟩ : ∃ qn, q.length = qn := ⟨_, rfl⟩
  rw [hpn, hqn]
  have HPN := Lib.hid hpn
  have HQN := Lib.hid hqn
  rw [hpn] at hpl
  rw [hqn] at hql
  have HB3 := Lib.hid hb.size
  clear hrow2 hrow3 hpn hqn
  have xs0 : w3.heap.size = w3.heap.size := rfl
  have xb1 := below_alloc1 w3 (.cells #[.slice none 0 0] 26)
  have xf1 := SlT.new2 w3 #[.slice none 0 0] 26 _ xs0
  have xs1 : (w3.alloc (.cells #[.slice none 0 0] 26)).heap.size = w3.heap.size + 1 := by simp
  obtain ⟨xw1, xe1⟩ : ∃ xw1, xw1 = w3.alloc (.cells #[.slice none 0 0] 26) := ⟨_, rfl⟩
  rw [← xe1] at xb1 xf1 xs1
  have xB := xb1
  have xb2 := below_alloc1 xw1 (.cells #[.int .u8 3, .int .u8 5] 5)
  have xf2 := SlT.new2 xw1 #[.int .u8 3, .int .u8 5] 5 _ xs1
  have xs2 : (xw1.alloc (.cells #[.int .u8 3, .int .u8 5] 5)).heap.size = w3.heap.size + 1 + 1 := by simp [xs1]
  obtain ⟨xw2, xe2⟩ : ∃ xw2, xw2 = xw1.alloc (.cells #[.int .u8 3, .int .u8 5] 5) := ⟨_, rfl⟩
  rw [← xe2] at xb2 xf2 xs2
  replace xf1 := xf1.ext xb2
  replace xB := xB.trans (xb2.mono xB.size)
  have xb3 := below_alloc1 xw2 (.cells #[.slice A3 pn c3, .slice A4 qn c4] 46)
  have xf3 := SlT.new2 xw2 #[.slice A3 pn c3, .slice A4 qn c4] 46 _ xs2
  have xs3 : (xw2.alloc (.cells #[.slice A3 pn c3, .slice A4 qn c4] 46)).heap.size = w3.heap.size + 1 + 1 + 1 := by simp [xs2]
  obtain ⟨xw3, xe3⟩ : ∃ xw3, xw3 = xw2.alloc (.cells #[.slice A3 pn c3, .slice A4 qn c4] 46) := ⟨_, rfl⟩
  rw [← xe3] at xb3 xf3 xs3
  replace xf1 := xf1.ext xb3
  replace xf2 := xf2.ext xb3
  replace xB := xB.trans (xb3.mono xB.size)
  have xb4 := below_alloc1 xw3 (.cells #[.int .u8 3, .int .u16 0, .int .u32 0] 50)
  have xf4 := SlT.new2 xw3 #[.int .u8 3, .int .u16 0, .int .u32 0] 50 _ xs3
  have xs4 : (xw3.alloc (.cells #[.int .u8 3, .int .u16 0, .int .u32 0] 50)).heap.size = w3.heap.size + 1 + 1 + 1 + 1 := by simp [xs3]
  obtain ⟨xw4, xe4⟩ : ∃ xw4, xw4 = xw3.alloc (.cells #[.int .u8 3, .int .u16 0, .int .u32 0] 50) := ⟨_, rfl⟩
  rw [← xe4] at xb4 xf4 xs4
  replace xf1 := xf1.ext xb4
  replace xf2 := xf2.ext xb4
  replace xf3 := xf3.ext xb4
  replace xB := xB.trans (xb4.mono xB.size)
  clear xb1 xb2 xb3 xb4
  have hq0 : Wi w3.heap.size w3.heap.size w3.heap.size xw4 [] := Wi.new_ (by
    have h1 : Box xw1 w3.heap.size (.slice none 0 0) 26 := by rw [xe1]; exact Box.new_ _ _ _
    have h2 : Below xw1.heap.size xw1 xw4 := by rw [xe4, xe3, xe2]; exact below_alloc3 _ _ _ _
    exact h1.ext h2)
  have hLp : ∀ l ∈ [p, q], l.length ≤ 1000000 := by
    have h1 := HPN.out
    have h2 := HQN.out
    intro l hl
    simp at hl
    rcases hl with rfl | rfl <;> omega
  have hLq : ∀ l ∈ [q], l.length ≤ 1000000 := fun l hl => hLp l (by simp at hl; simp [hl])
  have hB4 : w3.heap.size ≤ xw4.heap.size := xB.size
  have hP := WPut_calls w3.heap.size w3.heap.size w3.heap.size [] _ _ [p, q] 2 2 _ _ [⟨3, 0, 0⟩] 1 1 _ xw4 hq0 xf3 (BssT.cons (hs3.ext xB) HPN.out (BssT.cons (hs4.ext xB) HQN.out (BssT.nil_ _))) rfl hLp (show SlT 50 xw4 _ _ (ftv [⟨3, 0, 0⟩]) from xf4) rfl (by decide) (by decide) (by decide) hB4 (Nat.le_refl _) hB4
  rw [show ([] ++ putsN [p, q] [⟨3, 0, 0⟩] 2 : List (List UInt8 × Int)) = [(p, 2), (q, 1)] from rfl] at hP
  replace hs3 := hs3.ext xB
  replace hs4 := hs4.ext xB
  replace hb := hb.trans (xB.mono hb.size)
  clear hq0 xf1 xf2 xf3 xf4 xB
  go_wp2_with fail
  rw [← xe1, ← xe2, ← xe3, ← xe4]
  refine hP.mono ?_
  rintro e w5 ⟨rfl, hw, hm⟩
  clear hP
  clear xe1 xs1 xe2 xs2 xe3 xs3 xe4 xs4 xs0
  replace hs3 := hm.slT hs3 (by decide) (by decide)
  replace hs4 := hm.slT hs4 (by decide) (by decide)
  replace hb := hb.trans (hm.bel.mono HB3.out)
  have hB5 := Nat.le_trans hB4 hm.bel.size
  clear hm hB4
  have hT := WTake_calls w3.heap.size w3.heap.size w3.heap.size [(p, 2), (q, 1)] w5 hw (by simp) (by simp) hB5 (Nat.le_refl _)
  clear hw
  go_wp2_with fail
  refine hT.mono ?_
  rintro e w6 ⟨vo6, rfl, ⟨us6, hr6, hi6, -, hw, hm⟩⟩
  rw [show nowK [(p, (2 : Int)), (q, 1)] = [q] from rfl] at hi6
  rw [show laterK [(p, (2 : Int)), (q, 1)] = [(p, 1)] from rfl] at hw
  obtain ⟨A6, c6, b6, rfl, -, hs6, hbs6⟩ := res_sl (n := 1) hr6 hi6 rfl
  replace hs3 := hm.slT hs3 (by decide) (by decide)
  replace hs4 := hm.slT hs4 (by decide) (by decide)
  replace hb := hb.trans (hm.bel.mono HB3.out)
  have hB6 := Nat.le_trans hB5 hm.bel.size
  clear hm hT hr6 hi6 hB5
  have ys0 : w6.heap.size = w6.heap.size := rfl
  have yb1 := below_alloc1 w6 (.cells #[.slice A4 qn c4] 46)
  have yf1 := SlT.new2 w6 #[.slice A4 qn c4] 46 _ ys0
  have ys1 : (w6.alloc (.cells #[.slice A4 qn c4] 46)).heap.size = w6.heap.size + 1 := by simp
  obtain ⟨yw1, ye1⟩ : ∃ yw1, yw1 = w6.alloc (.cells #[.slice A4 qn c4] 46) := ⟨_, rfl⟩
  rw [← ye1] at yb1 yf1 ys1
  have yB := yb1
  clear yb1
  have hP := WPut_calls w3.heap.size w3.heap.size w3.heap.size [(p, 1)] _ _ [q] 1 1 _ none [] 0 0 0 yw1 (hw.ext yB) yf1 (BssT.cons (hs4.ext yB) HQN.out (BssT.nil_ _)) rfl hLq (SlT.nil_ _ _ _ _) rfl (by simp) (by simp) (by decide) (Nat.le_trans hB6 yB.size) (Nat.le_refl _) (Nat.le_trans hB6 yB.size)
  rw [show ([(p, 1)] ++ putsN [q] [] 1 : List (List UInt8 × Int)) = [(p, 1), (q, 1)] from rfl] at hP
  replace hs3 := hs3.ext yB
  replace hs4 := hs4.ext yB
  replace hs6 := hs6.ext yB
  replace hbs6 := hbs6.ext yB
  replace hb := hb.trans (yB.mono hb.size)
  replace hB6 := Nat.le_trans hB6 yB.size
  clear hw yf1 yB
  go_wp2_with fail
  rw [← ye1]
  refine hP.mono ?_
  rintro e w7 ⟨rfl, hw, hm⟩
  clear hP
  clear ye1 ys1 ys0
  replace hs3 := hm.slT hs3 (by decide) (by decide)
  replace hs4 := hm.slT hs4 (by decide) (by decide)
  replace hs6 := hm.slT hs6 (by decide) (by decide)
  replace hbs6 := hm.bssT hbs6 (by decide) (by decide)
  replace hb := hb.trans (hm.bel.mono HB3.out)
  have hB7 := Nat.le_trans hB6 hm.bel.size
  clear hm hB6
  have hT := WTake_calls w3.heap.size w3.heap.size w3.heap.size [(p, 1), (q, 1)] w7 hw (by simp) (by simp) hB7 (Nat.le_refl _)
  clear hw
  go_wp2_with fail
  refine hT.mono ?_
  rintro e w8 ⟨vo8, rfl, ⟨us8, hr8, hi8, -, hw, hm⟩⟩
  rw [show nowK [(p, (1 : Int)), (q, 1)] = [p, q] from rfl] at hi8
  rw [show laterK [(p, (1 : Int)), (q, 1)] = [] from rfl] at hw
  obtain ⟨A8, c8, b8, rfl, -, hs8, hbs8⟩ := res_sl (n := 2) hr8 hi8 rfl
  replace hs3 := hm.slT hs3 (by decide) (by decide)
  replace hs4 := hm.slT hs4 (by decide) (by decide)
  replace hs6 := hm.slT hs6 (by decide) (by decide)
  replace hbs6 := hm.bssT hbs6 (by decide) (by decide)
  replace hb := hb.trans (hm.bel.mono HB3.out)
  have hB8 := Nat.le_trans hB7 hm.bel.size
  clear hm hT hr8 hi8 hB7
  have hT := WTake_calls w3.heap.size w3.heap.size w3.heap.size ([] : List (List UInt8 × Int)) w8 hw (by simp) (by simp) hB8 (Nat.le_refl _)
  clear hw
  go_wp2_with fail
  refine hT.mono ?_
  rintro e w9 ⟨vo9, rfl, ⟨us9, hr9, hi9, -, hw, hm⟩⟩
  rw [show nowK ([] : List (List UInt8 × Int)) = [] from rfl] at hi9
  obtain ⟨A9, c9, b9, rfl, -, hs9, hbs9⟩ := res_sl (n := 0) hr9 hi9 rfl
  replace hs3 := hm.slT hs3 (by decide) (by decide)
  replace hs4 := hm.slT hs4 (by decide) (by decide)
  replace hs6 := hm.slT hs6 (by decide) (by decide)
  replace hbs6 := hm.bssT hbs6 (by decide) (by decide)
  replace hs8 := hm.slT hs8 (by decide) (by decide)
  replace hbs8 := hm.bssT hbs8 (by decide) (by decide)
  replace hb := hb.trans (hm.bel.mono HB3.out)
  clear hm hT hr9 hi9 hw hB8
  have zs0 : w9.heap.size = w9.heap.size := rfl
  have zb1 := below_alloc1 w9 (.cells #[.slice A4 qn c4] 46)
  have zf1 := SlT.new2 w9 #[.slice A4 qn c4] 46 _ zs0
  have zs1 : (w9.alloc (.cells #[.slice A4 qn c4] 46)).heap.size = w9.heap.size + 1 := by simp
  obtain ⟨zw1, ze1⟩ : ∃ zw1, zw1 = w9.alloc (.cells #[.slice A4 qn c4] 46) := ⟨_, rfl⟩
  rw [← ze1] at zb1 zf1 zs1
  have zB := zb1
  clear zb1
  have hL2 : ∀ l ∈ [q], l.length ≤ maxLen := fun l hl => Nat.le_trans (hLq l hl) (by simp [maxLen])
  have hL3 : ∀ l ∈ [p, q], l.length ≤ maxLen := fun l hl => Nat.le_trans (hLp l hl) (by simp [maxLen])
  have hSm := SameL_calls A6 _ us6 _ [q] [q] 1 1 c6 1 b6 _ zw1 (hs6.ext zB).1 zf1.1 (hbs6.ext zB).bss (BssT.cons (hs4.ext zB) HQN.out (BssT.nil_ _)).bss rfl rfl (by decide) hL2 hL2
  simp only [decide_true] at hSm
  replace hs3 := hs3.ext zB
  replace hs4 := hs4.ext zB
  replace hs8 := hs8.ext zB
  replace hbs8 := hbs8.ext zB
  replace hs9 := hs9.ext zB
  replace hbs9 := hbs9.ext zB
  replace hb := hb.trans (zB.mono hb.size)
  clear zf1 zB hs6 hbs6 hki
  go_wp2_with fail
  rw [← ze1]
  refine hSm.mono ?_
  rintro e w10 ⟨rfl, kd, e10⟩
  clear hSm
  clear ze1 zs1 zs0
  have hbx : Below zw1.heap.size zw1 w10 := by rw [e10]; exact below_drewN (Below.refl _ _) _
  clear e10
  replace hs3 := hs3.ext hbx
  replace hs4 := hs4.ext hbx
  replace hs8 := hs8.ext hbx
  replace hbs8 := hbs8.ext hbx
  replace hs9 := hs9.ext hbx
  replace hbs9 := hbs9.ext hbx
  replace hb := hb.trans (hbx.mono hb.size)
  clear hbx
  have us0 : w10.heap.size = w10.heap.size := rfl
  have ub1 := below_alloc1 w10 (.cells #[.slice A3 pn c3, .slice A4 qn c4] 46)
  have uf1 := SlT.new2 w10 #[.slice A3 pn c3, .slice A4 qn c4] 46 _ us0
  have us1 : (w10.alloc (.cells #[.slice A3 pn c3, .slice A4 qn c4] 46)).heap.size = w10.heap.size + 1 := by simp
  obtain ⟨uw1, ue1⟩ : ∃ uw1, uw1 = w10.alloc (.cells #[.slice A3 pn c3, .slice A4 qn c4] 46) := ⟨_, rfl⟩
  rw [← ue1] at ub1 uf1 us1
  have uB := ub1
  clear ub1
  have hSm := SameL_calls A8 _ us8 _ [p, q] [p, q] 2 2 c8 2 b8 _ uw1 (hs8.ext uB).1 uf1.1 (hbs8.ext uB).bss (BssT.cons (hs3.ext uB) HPN.out (BssT.cons (hs4.ext uB) HQN.out (BssT.nil_ _))).bss rfl rfl (by decide) hL3 hL3
  simp only [decide_true] at hSm
  replace hb := hb.trans (uB.mono hb.size)
  clear uf1 uB hs8 hbs8 hs9 hbs9 hs3 hs4
  go_wp2_with fail
  rw [← ue1]
  refine hSm.mono ?_
  rintro e w11 ⟨rfl, kd, e11⟩
  clear hSm
  clear ue1 us1 us0
  have hbx : Below w.heap.size w w11 := by rw [e11]; exact below_drewN hb kd
  clear e11
  go_wp2_with fail
  go_ret
  exact ⟨rfl, hbx⟩
set_option maxHeartbeats 8000000 in
set_option maxRecDepth 20000 in
theorem WireLate_walk5 (A1 : Option Addr) (l1 : List UInt8) (n1 c1 b1 : Nat) (A2 : Option Addr) (l2 : List UInt8) (n2 c2 b2 : Nat) (k : Nat) (w : World) (hs1 : Bs w b1 A1 l1) (hn1 : l1.length = n1) (hm1 : n1 ≤ maxLen) (hs2 : Bs w b2 A2 l2) (hn2 : l2.length = n2) (hm2 : n2 ≤ maxLen) (hk : k ≤ 255) (hk2 : k % 2 = 1) :
    Calls Try.prog 8 #[.slice A1 n1 c1, .slice A2 n2 c2, .int .u8 (k : Int)] w fun e w' => e = .returned (.bool true) ∧ Below w.heap.size w w' := by
  have HN1 := Lib.hid hn1
  have HN2 := Lib.hid hn2
  have hki : (k : Int) % 2 = 1 := by omega
  clear hn1 hn2 hk2
  go_enter Try.func8, Try.ntmps8
  go_wp2_with fail
  refine (awake_calls _).mono ?_
  rintro e w1 ⟨rfl, hb⟩
  replace hs1 := Sl.ext hs1 hb
  replace hs2 := Sl.ext hs2 hb
  go_wp2_with fail
  refine (Cut_calls A1 l1 n1 c1 b1 20 _ hs1 HN1.out hm1 (by simp only [List.length_take]; omega)).mono ?_
  rintro e w2 ⟨v2, rfl, hrow2, hb2⟩
  obtain ⟨p, hp⟩ : ∃ p, p = l1.take (20 : Int).toNat := ⟨_, rfl⟩
  have hpl : p.length ≤ 20 := by rw [hp]; simp only [List.length_take]; omega
  rw [← hp] at hrow2
  replace hs2 := Sl.ext hs2 hb2
  replace hb := hb.trans (hb2.mono hb.size)
  clear hb2 hs1 hp
  obtain ⟨A3, c3, b3, rfl, -, -, -, hs3, -⟩ := SlT.of_own hrow2
  go_wp2_with fail
  refine (Cut_calls A2 l2 n2 c2 b2 20 _ hs2 HN2.out hm2 (by simp only [List.length_take]; omega)).mono ?_
  rintro e w3 ⟨v3, rfl, hrow3, hb3⟩
  obtain ⟨q, hq⟩ : ∃ q, q = l2.take (20 : Int).toNat := ⟨_, rfl⟩
  have hql : q.length ≤ 20 := by rw [hq]; simp only [List.length_take]; omega
  rw [← hq] at hrow3
  replace hs3 := hs3.ext hb3
  replace hb := hb.trans (hb3.mono hb.size)
  clear hb3 hs2 hq
  obtain ⟨A4, c4, b4, rfl, -, -, -, hs4, -⟩ := SlT.of_own hrow3
  obtain ⟨pn, hpn⟩ : ∃ pn, p.length = pn := ⟨_, rfl⟩
  obtain ⟨qn, hqn⟩ : ∃ qn, q.length = qn := ⟨_, rfl⟩
  rw [hpn, hqn]
  have HPN := Lib.hid hpn
  have HQN := Lib.hid hqn
  rw [hpn] at hpl
  rw [hqn] at hql
  have HB3 := Lib.hid hb.size
  clear hrow2 hrow3 hpn hqn
  have xs0 : w3.heap.size = w3.heap.size := rfl
  have xb1 := below_alloc1 w3 (.cells #[.slice none 0 0] 26)
  have xf1 := SlT.new2 w3 #[.slice none 0 0] 26 _ xs0
  have xs1 : (w3.alloc (.cells #[.slice none 0 0] 26)).heap.size = w3.heap.size + 1 := by simp
  obtain ⟨xw1, xe1⟩ : ∃ xw1, xw1 = w3.alloc (.cells #[.slice none 0 0] 26) := ⟨_, rfl⟩
  rw [← xe1] at xb1 xf1 xs1
  have xB := xb1
  have xb2 := below_alloc1 xw1 (.cells #[.int .u8 3, .int .u8 5] 5)
  have xf2 := SlT.new2 xw1 #[.int .u8 3, .int .u8 5] 5 _ xs1
  have xs2 : (xw1.alloc (.cells #[.int .u8 3, .int .u8 5] 5)).heap.size = w3.heap.size + 1 + 1 := by simp [xs1]
  obtain ⟨xw2, xe2⟩ : ∃ xw2, xw2 = xw1.alloc (.cells #[.int .u8 3, .int .u8 5] 5) := ⟨_, rfl⟩
  rw [← xe2] at xb2 xf2 xs2
  replace xf1 := xf1.ext xb2
  replace xB := xB.trans (xb2.mono xB.size)
  have xb3 := below_alloc1 xw2 (.cells #[.slice A3 pn c3, .slice A4 qn c4] 46)
  have xf3 := SlT.new2 xw2 #[.slice A3 pn c3, .slice A4 qn c4] 46 _ xs2
  have xs3 : (xw2.alloc (.cells #[.slice A3 pn c3, .slice A4 qn c4] 46)).heap.size = w3.heap.size + 1 + 1 + 1 := by simp [xs2]
  obtain ⟨xw3, xe3⟩ : ∃ xw3, xw3 = xw2.alloc (.cells #[.slice A3 pn c3, .slice A4 qn c4] 46) := ⟨_, rfl⟩
  rw [← xe3] at xb3 xf3 xs3
  replace xf1 := xf1.ext xb3
  replace xf2 := xf2.ext xb3
  replace xB := xB.trans (xb3.mono xB.size)
  have xb4 := below_alloc1 xw3 (.cells #[.int .u8 5, .int .u16 0, .int .u32 0] 50)
  have xf4 := SlT.new2 xw3 #[.int .u8 5, .int .u16 0, .int .u32 0] 50 _ xs3
  have xs4 : (xw3.alloc (.cells #[.int .u8 5, .int .u16 0, .int .u32 0] 50)).heap.size = w3.heap.size + 1 + 1 + 1 + 1 := by simp [xs3]
  obtain ⟨xw4, xe4⟩ : ∃ xw4, xw4 = xw3.alloc (.cells #[.int .u8 5, .int .u16 0, .int .u32 0] 50) := ⟨_, rfl⟩
  rw [← xe4] at xb4 xf4 xs4
  replace xf1 := xf1.ext xb4
  replace xf2 := xf2.ext xb4
  replace xf3 := xf3.ext xb4
  replace xB := xB.trans (xb4.mono xB.size)
  clear xb1 xb2 xb3 xb4
  have hq0 : Wi w3.heap.size w3.heap.size w3.heap.size xw4 [] := Wi.new_ (by
    have h1 : Box xw1 w3.heap.size (.slice none 0 0) 26 := by rw [xe1]; exact Box.new_ _ _ _
    have h2 : Below xw1.heap.size xw1 xw4 := by rw [xe4, xe3, xe2]; exact below_alloc3 _ _ _ _
    exact h1.ext h2)
  have hLp : ∀ l ∈ [p, q], l.length ≤ 1000000 := by
    have h1 := HPN.out
    have h2 := HQN.out
    intro l hl
    simp at hl
    rcases hl with rfl | rfl <;> omega
  have hLq : ∀ l ∈ [q], l.length ≤ 1000000 := fun l hl => hLp l (by simp at hl; simp [hl])
  have hB4 : w3.heap.size ≤ xw4.heap.size := xB.size
  have hP := WPut_calls w3.heap.size w3.heap.size w3.heap.size [] _ _ [p, q] 2 2 _ _ [⟨5, 0, 0⟩] 1 1 _ xw4 hq0 xf3 (BssT.cons (hs3.ext xB) HPN.out (BssT.cons (hs4.ext xB) HQN.out (BssT.nil_ _))) rfl hLp (show SlT 50 xw4 _ _ (ftv [⟨5, 0, 0⟩]) from xf4) rfl (by decide) (by decide) (by decide) hB4 (Nat.le_refl _) hB4
  rw [show ([] ++ putsN [p, q] [⟨5, 0, 0⟩] 2 : List (List UInt8 × Int)) = [(p, 3), (q, 1)] from rfl] at hP
  replace hs3 := hs3.ext xB
  replace hs4 := hs4.ext xB
  replace hb := hb.trans (xB.mono hb.size)
  clear hq0 xf1 xf2 xf3 xf4 xB
  go_wp2_with fail
  rw [← xe1, ← xe2, ← xe3, ← xe4]
  refine hP.mono ?_
  rintro e w5 ⟨rfl, hw, hm⟩
  clear hP
  clear xe1 xs1 xe2 xs2 xe3 xs3 xe4 xs4 xs0
  replace hs3 := hm.slT hs3 (by decide) (by decide)
  replace hs4 := hm.slT hs4 (by decide) (by decide)
  replace hb := hb.trans (hm.bel.mono HB3.out)
  have hB5 := Nat.le_trans hB4 hm.bel.size
  clear hm hB4
  have hT := WTake_calls w3.heap.size w3.heap.size w3.heap.size [(p, 3), (q, 1)] w5 hw (by simp) (by simp) hB5 (Nat.le_refl _)
  clear hw
  go_wp2_with fail
  refine hT.mono ?_
  rintro e w6 ⟨vo6, rfl, ⟨us6, hr6, hi6, -, hw, hm⟩⟩
  rw [show nowK [(p, (3 : Int)), (q, 1)] = [q] from rfl] at hi6
  rw [show laterK [(p, (3 : Int)), (q, 1)] = [(p, 2)] from rfl] at hw
  obtain ⟨A6, c6, b6, rfl, -, hs6, hbs6⟩ := res_sl (n := 1) hr6 hi6 rfl
  replace hs3 := hm.slT hs3 (by decide) (by decide)
  replace hs4 := hm.slT hs4 (by decide) (by decide)
  replace hb := hb.trans (hm.bel.mono HB3.out)
  have hB6 := Nat.le_trans hB5 hm.bel.size
  clear hm hT hr6 hi6 hB5
  have ys0 : w6.heap.size = w6.heap.size := rfl
  have yb1 := below_alloc1 w6 (.cells #[.slice A4 qn c4] 46)
  have yf1 := SlT.new2 w6 #[.slice A4 qn c4] 46 _ ys0
  have ys1 : (w6.alloc (.cells #[.slice A4 qn c4] 46)).heap.size = w6.heap.size + 1 := by simp
  obtain ⟨yw1, ye1⟩ : ∃ yw1, yw1 = w6.alloc (.cells #[.slice A4 qn c4] 46) := ⟨_, rfl⟩
  rw [← ye1] at yb1 yf1 ys1
  have yB := yb1
  clear yb1
  have hP := WPut_calls w3.heap.size w3.heap.size w3.heap.size [(p, 2)] _ _ [q] 1 1 _ none [] 0 0 0 yw1 (hw.ext yB) yf1 (BssT.cons (hs4.ext yB) HQN.out (BssT.nil_ _)) rfl hLq (SlT.nil_ _ _ _ _) rfl (by simp) (by simp) (by decide) (Nat.le_trans hB6 yB.size) (Nat.le_refl _) (Nat.le_trans hB6 yB.size)
  rw [show ([(p, 2)] ++ putsN [q] [] 1 : List (List UInt8 × Int)) = [(p, 2), (q, 1)] from rfl] at hP
  replace hs3 := hs3.ext yB
  replace hs4 := hs4.ext yB
  replace hs6 := hs6.ext yB
  replace hbs6 := hbs6.ext yB
  replace hb := hb.trans (yB.mono hb.size)
  replace hB6 := Nat.le_trans hB6 yB.size
  clear hw yf1 yB
  go_wp2_with fail
  rw [← ye1]
  refine hP.mono ?_
  rintro e w7 ⟨rfl, hw, hm⟩
  clear hP
  clear ye1 ys1 ys0
  replace hs3 := hm.slT hs3 (by decide) (by decide)
  replace hs4 := hm.slT hs4 (by decide) (by decide)
  replace hs6 := hm.slT hs6 (by decide) (by decide)
  replace hbs6 := hm.bssT hbs6 (by decide) (by decide)
  replace hb := hb.trans (hm.bel.mono HB3.out)
  have hB7 := Nat.le_trans hB6 hm.bel.size
  clear hm hB6
  have hT := WTake_calls w3.heap.size w3.heap.size w3.heap.size [(p, 2), (q, 1)] w7 hw (by simp) (by simp) hB7 (Nat.le_refl _)
  clear hw
  go_wp2_with fail
  refine hT.mono ?_
  rintro e w8 ⟨vo8, rfl, ⟨us8, hr8, hi8, -, hw, hm⟩⟩
  rw [show nowK [(p, (2 : Int)), (q, 1)] = [q] from rfl] at hi8
  rw [show laterK [(p, (2 : Int)), (q, 1)] = [(p, 1)] from rfl] at hw
  obtain ⟨A8, c8, b8, rfl, -, hs8, hbs8⟩ := res_sl (n := 1) hr8 hi8 rfl
  replace hs3 := hm.slT hs3 (by decide) (by decide)
  replace hs4 := hm.slT hs4 (by decide) (by decide)
  replace hs6 := hm.slT hs6 (by decide) (by decide)
  replace hbs6 := hm.bssT hbs6 (by decide) (by decide)
  replace hb := hb.trans (hm.bel.mono HB3.out)
  have hB8 := Nat.le_trans hB7 hm.bel.size
  clear hm hT hr8 hi8 hB7
  have hT := WTake_calls w3.heap.size w3.heap.size w3.heap.size [(p, 1)] w8 hw (by simp) (by simp) hB8 (Nat.le_refl _)
  clear hw
  go_wp2_with fail
  refine hT.mono ?_
  rintro e w9 ⟨vo9, rfl, ⟨us9, hr9, hi9, -, hw, hm⟩⟩
  rw [show nowK [(p, (1 : Int))] = [p] from rfl] at hi9
  obtain ⟨A9, c9, b9, rfl, -, hs9, hbs9⟩ := res_sl (n := 1) hr9 hi9 rfl
  replace hs3 := hm.slT hs3 (by decide) (by decide)
  replace hs4 := hm.slT hs4 (by decide) (by decide)
  replace hs6 := hm.slT hs6 (by decide) (by decide)
  replace hbs6 := hm.bssT hbs6 (by decide) (by decide)
  replace hs8 := hm.slT hs8 (by decide) (by decide)
  replace hbs8 := hm.bssT hbs8 (by decide) (by decide)
  replace hb := hb.trans (hm.bel.mono HB3.out)
  clear hm hT hr9 hi9 hw hB8
  have zs0 : w9.heap.size = w9.heap.size := rfl
  have zb1 := below_alloc1 w9 (.cells #[.slice A4 qn c4] 46)
  have zf1 := SlT.new2 w9 #[.slice A4 qn c4] 46 _ zs0
  have zs1 : (w9.alloc (.cells #[.slice A4 qn c4] 46)).heap.size = w9.heap.size + 1 := by simp
  obtain ⟨zw1, ze1⟩ : ∃ zw1, zw1 = w9.alloc (.cells #[.slice A4 qn c4] 46) := ⟨_, rfl⟩
  rw [← ze1] at zb1 zf1 zs1
  have zB := zb1
  clear zb1
  have hL2 : ∀ l ∈ [q], l.length ≤ maxLen := fun l hl => Nat.le_trans (hLq l hl) (by simp [maxLen])
  have hL3 : ∀ l ∈ [p, q], l.length ≤ maxLen := fun l hl => Nat.le_trans (hLp l hl) (by simp [maxLen])
  have hSm := SameL_calls A6 _ us6 _ [q] [q] 1 1 c6 1 b6 _ zw1 (hs6.ext zB).1 zf1.1 (hbs6.ext zB).bss (BssT.cons (hs4.ext zB) HQN.out (BssT.nil_ _)).bss rfl rfl (by decide) hL2 hL2
  simp only [decide_true] at hSm
  replace hs3 := hs3.ext zB
  replace hs4 := hs4.ext zB
  replace hs8 := hs8.ext zB
  replace hbs8 := hbs8.ext zB
  replace hs9 := hs9.ext zB
  replace hbs9 := hbs9.ext zB
  replace hb := hb.trans (zB.mono hb.size)
  clear zf1 zB hs6 hbs6 hki
  go_wp2_with fail
  rw [← ze1]
  refine hSm.mono ?_
  rintro e w10 ⟨rfl, kd, e10⟩
  clear hSm
  clear ze1 zs1 zs0
  have hbx : Below zw1.heap.size zw1 w10 := by rw [e10]; exact below_drewN (Below.refl _ _) _
  clear e10
  replace hs3 := hs3.ext hbx
  replace hs4 := hs4.ext hbx
  replace hs8 := hs8.ext hbx
  replace hbs8 := hbs8.ext hbx
  replace hs9 := hs9.ext hbx
  replace hbs9 := hbs9.ext hbx
  replace hb := hb.trans (hbx.mono hb.size)
  clear hbx
  have us0 : w10.heap.size = w10.heap.size := rfl
  have ub1 := below_alloc1 w10 (.cells #[.slice A4 qn c4] 46)
  have uf1 := SlT.new2 w10 #[.slice A4 qn c4] 46 _ us0
  have us1 : (w10.alloc (.cells #[.slice A4 qn c4] 46)).heap.size = w10.heap.size + 1 := by simp
  obtain ⟨uw1, ue1⟩ : ∃ uw1, uw1 = w10.alloc (.cells #[.slice A4 qn c4] 46) := ⟨_, rfl⟩
  rw [← ue1] at ub1 uf1 us1
  have uB := ub1
  clear ub1
  have hSm := SameL_calls A8 _ us8 _ [q] [q] 1 1 c8 1 b8 _ uw1 (hs8.ext uB).1 uf1.1 (hbs8.ext uB).bss (BssT.cons (hs4.ext uB) HQN.out (BssT.nil_ _)).bss rfl rfl (by decide) hL2 hL2
  simp only [decide_true] at hSm
  replace hs3 := hs3.ext uB
  replace hs9 := hs9.ext uB
  replace hbs9 := hbs9.ext uB
  replace hb := hb.trans (uB.mono hb.size)
  clear uf1 uB hs8 hbs8 hs4
  go_wp2_with fail
  rw [← ue1]
  refine hSm.mono ?_
  rintro e w11 ⟨rfl, kd, e11⟩
  clear hSm
  clear ue1 us1 us0
  have hbx : Below uw1.heap.size uw1 w11 := by rw [e11]; exact below_drewN (Below.refl _ _) _
  clear e11
  replace hs3 := hs3.ext hbx
  replace hs9 := hs9.ext hbx
  replace hbs9 := hbs9.ext hbx
  replace hb := hb.trans (hbx.mono hb.size)
  clear hbx
  have ts0 : w11.heap.size = w11.heap.size := rfl
  have tb1 := below_alloc1 w11 (.cells #[.slice A3 pn c3] 46)
  have tf1 := SlT.new2 w11 #[.slice A3 pn c3] 46 _ ts0
  have ts1 : (w11.alloc (.cells #[.slice A3 pn c3] 46)).heap.size = w11.heap.size + 1 := by simp
  obtain ⟨tw1, te1⟩ : ∃ tw1, tw1 = w11.alloc (.cells #[.slice A3 pn c3] 46) := ⟨_, rfl⟩
  rw [← te1] at tb1 tf1 ts1
  have tB := tb1
  clear tb1
  have hL1 : ∀ l ∈ [p], l.length ≤ maxLen := fun l hl => hL3 l (by simp at hl; simp [hl])
  have hSm := SameL_calls A9 _ us9 _ [p] [p] 1 1 c9 1 b9 _ tw1 (hs9.ext tB).1 tf1.1 (hbs9.ext tB).bss (BssT.cons (hs3.ext tB) HPN.out (BssT.nil_ _)).bss rfl rfl (by decide) hL1 hL1
  simp only [decide_true] at hSm
  replace hb := hb.trans (tB.mono hb.size)
  clear tf1 tB hs9 hbs9 hs3
  go_wp2_with fail
  rw [← te1]
  refine hSm.mono ?_
  rintro e w12 ⟨rfl, kd, e12⟩
  clear hSm
  clear te1 ts1 ts0
  have hbx : Below w.heap.size w w12 := by rw [e12]; exact below_drewN hb kd
  clear e12
  go_wp2_with fail
  go_ret
  exact ⟨rfl, hbx⟩
theorem WireLate_walk (A1 : Option Addr) (l1 : List UInt8) (n1 c1 b1 : Nat) (A2 : Option Addr) (l2 : List UInt8) (n2 c2 b2 : Nat) (k : Nat) (w : World) (hs1 : Bs w b1 A1 l1) (hn1 : l1.length = n1) (hm1 : n1 ≤ maxLen) (hs2 : Bs w b2 A2 l2) (hn2 : l2.length = n2) (hm2 : n2 ≤ maxLen) (hk : k ≤ 255) :
    Calls Try.prog 8 #[.slice A1 n1 c1, .slice A2 n2 c2, .int .u8 (k : Int)] w fun e w' => e = .returned (.bool true) ∧ Below w.heap.size w w' := by
  rcases (by omega : k % 2 = 0 ∨ k % 2 = 1) with h | h
  · exact WireLate_walk3 A1 l1 n1 c1 b1 A2 l2 n2 c2 b2 k w hs1 hn1 hm1 hs2 hn2 hm2 hk h
  · exact WireLate_walk5 A1 l1 n1 c1 b1 A2 l2 n2 c2 b2 k w hs1 hn1 hm1 hs2 hn2 hm2 hk h
end Go.Proofs.Ytbcfelihncnofaa
