/- Right of a game. Conditions: the numbers fit; the table lies. -/
import Derived.Test.YtglmciklegifaaaDoorRuB
namespace Go.Proofs.YtglmciklegifaaaDoor
open Go.RowKit

/-- May the game be? -/
def rightB (g : Gm) : Bool := decide (1 ≤ g.ob) && (decide (g.ob ≤ 32) && (decide (1 ≤ g.pl) && (decide (g.pl ≤ min 6 g.ob) && (decide (g.df < g.mv) && (rcB g && (checkV g.K (g.L.length : Int) g.pl).2)))))
set_option maxHeartbeats 4000000 in
set_option maxRecDepth 20000 in
theorem GRight_calls (g : Gm) (s : Gs) (w : World) (hin : GIn w g s) (hok : GOk g s) (hT : CTab w) :
    Calls Tryd.prog 23 #[.agg (gmA g s)] w fun e w' => e = .returned (.bool (rightB g)) ∧ Below w.heap.size w w' := by
  have hb := below_alloc1 w (.cells (gmA g s) 26)
  have hG := GBox.new_ w g s
  have hLe := fun W => Legal_calls g s g.df W hok.d1 hok.m1
  have hRc := fun W h => RightCells_calls g s W h hok
  have hR := fun W h hT => Right_calls s.A' g.K g.K.length s.c' s.b' (g.L.length : Int) g.pl W h rfl (by have := hok.lK; simp only [maxLen]; omega) hok.oK (by omega) (by have := hok.lL; omega) hT
  have hin1 := hin.ext hb
  have hT1 := hT.ext hb
  obtain ⟨D5, hD5⟩ : ∃ D5, D5 = decide (g.df < g.mv) := ⟨_, rfl⟩
  obtain ⟨D6, hD6⟩ : ∃ D6, D6 = rcB g := ⟨_, rfl⟩
  obtain ⟨D7, hD7⟩ : ∃ D7, D7 = (checkV g.K (g.L.length : Int) g.pl).2 := ⟨_, rfl⟩
  rw [← hD5] at hLe
  rw [← hD6] at hRc
  rw [← hD7] at hR
  have hrt : rightB g = (decide (1 ≤ g.ob) && (decide (g.ob ≤ 32) && (decide (1 ≤ g.pl) && (decide (g.pl ≤ min 6 g.ob) && (D5 && (D6 && D7)))))) := by rw [hD5, hD6, hD7]; rfl
  clear hin hT hok hD5 hD6 hD7
  by_cases h1 : 1 ≤ g.ob
  · have e1 : decide (1 ≤ g.ob) = true := decide_eq_true h1
    by_cases h2 : g.ob ≤ 32
    · have e2 : decide (g.ob ≤ 32) = true := decide_eq_true h2
      by_cases h3 : 1 ≤ g.pl
      · have e3 : decide (1 ≤ g.pl) = true := decide_eq_true h3
        obtain ⟨mn, hmn⟩ : ∃ mn, mn = min 6 g.ob := ⟨_, rfl⟩
        have m1 : min 6 g.ob = mn := hmn.symm
        have m2 : (if g.ob < 6 then g.ob else 6) = mn := by split <;> omega
        have m3 : (if (6 : Int) ≤ g.ob then 6 else g.ob) = mn := by split <;> omega
        rw [m1] at hrt
        clear hmn
        by_cases h4 : g.pl ≤ mn
        · have e4 : decide (g.pl ≤ mn) = true := decide_eq_true h4
          rw [e1, e2, e3, e4] at hrt
          simp only [Bool.true_and] at hrt
          have HRT := Lib.hid hrt
          clear hrt h1 h2 h3 h4
          go_enter Tryd.func23, Tryd.ntmps23
          go_wp2_with fail
          refine (hLe _).mono ?_
          rintro e w1 ⟨rfl, g1⟩
          have hin1 := hin1.ext g1
          have hT1 := hT1.ext g1
          have hb := hb.trans (g1.mono hb.size)
          have hG := hG.ext g1
          have q0 := hG.c0
          have q1 := hG.c1
          have q2 := hG.c2
          have q3 := hG.c3
          have q4 := hG.c4
          have q5 := hG.c5
          clear hLe g1
          cases D5 with
          | false =>
            go_wp2_with fail
            go_ret
            exact ⟨by rw [HRT.out]; rfl, hb⟩
          | true =>
            go_wp2_with fail
            refine (hRc _ hin1).mono ?_
            rintro e w2 ⟨rfl, g2⟩
            have hin1 := hin1.ext g2
            have hT1 := hT1.ext g2
            have hb := hb.trans (g2.mono hb.size)
            have hG := hG.ext g2
            have q0 := hG.c0
            have q1 := hG.c1
            have q2 := hG.c2
            have q3 := hG.c3
            have q4 := hG.c4
            have q5 := hG.c5
            clear hRc g2
            cases D6 with
            | false =>
              go_wp2_with fail
              go_ret
              exact ⟨by rw [HRT.out]; rfl, hb⟩
            | true =>
              go_wp2_with fail
              refine (hR _ hin1.sk hT1).mono ?_
              rintro e w3 ⟨rfl, g3⟩
              have hb := hb.trans (g3.mono hb.size)
              clear hR g3
              go_wp2_with fail
              go_ret
              exact ⟨by rw [HRT.out]; rfl, hb⟩
        · have e4 : decide (g.pl ≤ mn) = false := decide_eq_false h4
          rw [e4] at hrt
          simp only [Bool.false_and, Bool.and_false] at hrt
          have HRT := Lib.hid hrt
          clear hrt h1 h2 h3 h4 hLe hRc hR
          go_enter Tryd.func23, Tryd.ntmps23
          go_wp2_with fail
          go_ret
          exact ⟨by rw [HRT.out]; rfl, hb⟩
      · have e3 : decide (1 ≤ g.pl) = false := decide_eq_false h3
        rw [e3] at hrt
        simp only [Bool.false_and, Bool.and_false] at hrt
        have HRT := Lib.hid hrt
        clear hrt h1 h2 h3 hLe hRc hR
        go_enter Tryd.func23, Tryd.ntmps23
        go_wp2_with fail
        go_ret
        exact ⟨by rw [HRT.out]; rfl, hb⟩
    · have e2 : decide (g.ob ≤ 32) = false := decide_eq_false h2
      rw [e2] at hrt
      simp only [Bool.false_and, Bool.and_false] at hrt
      have HRT := Lib.hid hrt
      clear hrt h1 h2 hLe hRc hR
      go_enter Tryd.func23, Tryd.ntmps23
      go_wp2_with fail
      go_ret
      exact ⟨by rw [HRT.out]; rfl, hb⟩
  · have e1 : decide (1 ≤ g.ob) = false := decide_eq_false h1
    rw [e1] at hrt
    simp only [Bool.false_and] at hrt
    have HRT := Lib.hid hrt
    clear hrt h1 hLe hRc hR
    go_enter Tryd.func23, Tryd.ntmps23
    go_wp2_with fail
    go_ret
    exact ⟨by rw [HRT.out]; rfl, hb⟩
end Go.Proofs.YtglmciklegifaaaDoor
