/- Parts of one proof, in their order. -/
import Derived.Test.YtnbbglhpjpebhaaDoorZTrBase06
/- A game in a variable; rightCells. Conditions: the numbers fit. -/
namespace Go.Proofs.YtnbbglhpjpebhaaDoor
open Go.RowKit

def GBox (w : World) (k : Nat) (g : Gm) (s : Gs) : Prop := w.heap[k]? = some (.cells (gmA g s) 26 (0, 0))
namespace GBox
variable {w w' : World} {k : Nat} {g : Gm} {s : Gs}
theorem new_ (w : World) (g : Gm) (s : Gs) : GBox (w.alloc (.cells (gmA g s) 26)) w.heap.size g s := heap_alloc_new w _
theorem lt (h : GBox w k g s) : k < w.heap.size := (Array.getElem?_eq_some_iff.1 h).1
theorem ext (h : GBox w k g s) (hb : Below w.heap.size w w') : GBox w' k g s := (hb.block k h.lt).trans h
theorem at_ (h : GBox w k g s) {i : Nat} {v : Value} (hv : (gmA g s)[i]? = some v) : w.cell? ⟨k, i, none⟩ = some v := by
  rw [cell_of_row w k i _ _ _ h]
  exact hv
theorem c0 (h : GBox w k g s) : w.cell? ⟨k, 0, none⟩ = some (.int .i64 g.ob) := h.at_ rfl
theorem c1 (h : GBox w k g s) : w.cell? ⟨k, 1, none⟩ = some (.int .i64 g.pl) := h.at_ rfl
theorem c2 (h : GBox w k g s) : w.cell? ⟨k, 2, none⟩ = some (.int .u32 (g.mv : Int)) := h.at_ rfl
theorem c3 (h : GBox w k g s) : w.cell? ⟨k, 3, none⟩ = some (.int .u32 (g.df : Int)) := h.at_ rfl
theorem c4 (h : GBox w k g s) : w.cell? ⟨k, 4, none⟩ = some (.slice s.A g.L.length s.c) := h.at_ rfl
theorem c5 (h : GBox w k g s) : w.cell? ⟨k, 5, none⟩ = some (.slice s.A' g.K.length s.c') := h.at_ rfl
theorem free (h : GBox w k g s) (j : Nat) : w.frozen? ⟨k, j, none⟩ = false := frozen_of_row w k j _ _ h
end GBox
theorem yk_ldG {ops : Array Oper} {S : World → Prop} {op : Oper} {a : Act} (hw : Region.wanted op (yielded ops a.tmps) = true) (x : Operand) (ho : op.op = .load 26 x) (k : Nat) (g : Gm) (s : Gs) (hx : a.eval x = .pointer (some ⟨k, 0, none⟩)) (hS : ∀ w, S w → GBox w k g s) : YieldsIf Tryd.prog ops S op (.agg (gmA g s)) a :=
  .inl ⟨hw, fun w h => by
    have c0 := (hS w h).c0
    have c1 := (hS w h).c1
    have c2 := (hS w h).c2
    have c3 := (hS w h).c3
    have c4 := (hS w h).c4
    have c5 := (hS w h).c5
    unfold execOp
    simp only [ho, hx]
    go_simp⟩
theorem sl_two1 {w : World} {X : Nat} {u v : Value} (h : Sl w X (some ⟨X, 0, none⟩) [u, v]) : w.cell? ⟨X, 1, none⟩ = some v := by
  have := sl_at h (k := 1) (u := v) rfl
  simpa using this
theorem sl_two0 {w : World} {X : Nat} {u v : Value} (h : Sl w X (some ⟨X, 0, none⟩) [u, v]) : w.cell? ⟨X, 0, none⟩ = some u := by
  have := sl_at h (k := 0) (u := u) rfl
  simpa using this
set_option maxHeartbeats 4000000 in
set_option maxRecDepth 20000 in
theorem RightCells_calls (g : Gm) (s : Gs) (w : World) (hin : GIn w g s) (hok : GOk g s) :
    Calls Tryd.prog 29 #[.agg (gmA g s)] w fun e w' => e = .returned (.bool (rcB g)) ∧ Below w.heap.size w w' := by
  have hb := below_alloc1 w (.cells (gmA g s) 26)
  have hG := GBox.new_ w g s
  have hin := hin.ext hb
  have sc := hin.sc
  have hlc := hok.hL
  have h55 := hok.lL
  have hA := fun W => AllG_calls g s W
  have al32 := allN_lt g.ob
  have hgood := @rcB_good g
  have hbad := @rcB_bad g
  obtain ⟨al, hal⟩ : ∃ al, al = allN g.ob := ⟨_, rfl⟩
  rw [← hal] at hA al32 hgood hbad
  have HGOOD := Lib.hid hgood
  have HBAD := Lib.hid (show ∀ k (hk : k < g.L.length), lessN g.L[k].2 al ≠ 0 → rcB g = false from fun k hk => hbad hk)
  have HOK := Lib.hid hok.oL
  have HF := Lib.hid (show ¬ g.L.length ≤ 48 → rcB g = false from fun h => by unfold rcB; rw [decide_eq_false h, Bool.false_and])
  obtain ⟨wb, hwb⟩ : ∃ wb, wb = w.alloc (.cells (gmA g s) 26) := ⟨_, rfl⟩
  obtain ⟨B, hB⟩ : ∃ B, B = w.heap.size := ⟨_, rfl⟩
  rw [← hwb] at hb hG sc
  have hG0 := hG
  rw [← hB] at hG
  have HB := Lib.hid hB.symm
  have HG := Lib.hid hG
  have HWB := Lib.hid hwb
  clear hal hgood hbad hok hin hB hG0
  by_cases h48 : g.L.length ≤ 48
  · have e48 : ¬ (48 : Int) < (g.L.length : Int) := by omega
    have e48' : decide ((48 : Int) < (g.L.length : Int)) = false := by simp; omega
    clear hwb hG
    go_enter Tryd.func29, Tryd.ntmps29
    go_wp2_with fail
    rw [← HWB.out, HB.out]
    have hbz := hb.size
    go_loopw [4, 12] (fun _ i wr => ∃ k : Nat, k ≤ g.L.length ∧ i = .int .i64 k ∧ (∀ j (hj : j < g.L.length), j < k → lessN g.L[j].2 al = 0) ∧ Below wb.heap.size wb wr) (fun _ i _ => g.L.length - (intOf i).toNat)
    case atStart => exact ⟨0, Nat.zero_le _, rfl, fun j _ h => by omega, Below.refl _ _⟩
    case round =>
      obtain ⟨k, hk, rfl, hno, hbr⟩ := hrel
      by_cases hlt : k < g.L.length
      · have ej : (k : Int) < (g.L.length : Int) := by omega
        obtain ⟨off, eA, hc⟩ := (Sl.ext sc hbr) (by intro h0; have h5 := congrArg List.length h0; simp at h5; omega)
        have k0 := hc (k * 2) _ (cv_val hlt)
        have k1 := hc (k * 2 + 1) _ (cv_lab hlt)
        rw [← Nat.add_assoc] at k1
        have hy := (okC_get HOK.out hlt).2
        have HNO := Lib.hid hno
        have HBK := Lib.hid (HBAD.out k hlt)
        have HST := Lib.hid (show lessN g.L[k].2 al = 0 → ∀ j (hj : j < g.L.length), j < k + 1 → lessN g.L[j].2 al = 0 from fun h0 j hj hjk => by
          by_cases e : j = k
          · subst e; exact h0
          · exact hno j hj (by omega))
        obtain ⟨X, hX⟩ : ∃ X, X = g.L[k].1 := ⟨_, rfl⟩
        obtain ⟨Y, hY⟩ : ∃ Y, Y = g.L[k].2 := ⟨_, rfl⟩
        rw [← hX] at k0
        rw [← hY] at k1 hy HBK HST
        have hWi := fun W => MWithin_calls Y al W hy al32
        obtain ⟨V, hV⟩ : ∃ V, V = decide (lessN Y al = 0) := ⟨_, rfl⟩
        rw [← hV] at hWi
        have HV := Lib.hid hV
        have kx : Sl (wr.alloc (.cells #[.int .i32 X, .int .u32 (Y : Int)] 33)) wr.heap.size (some ⟨wr.heap.size, 0, none⟩) [.int .i32 X, .int .u32 (Y : Int)] := Sl.cells_new wr _ _
        have ky := sl_two1 kx
        have hb9 := below_alloc1 wr (.cells #[.int .i32 X, .int .u32 (Y : Int)] 33)
        have hbr2 := hbr.trans (hb9.mono hbr.size)
        have hG9 := HG.out.ext hbr2
        have eA' : s.A = some ⟨s.b, off, none⟩ := eA
        clear hX hY hy hno hc eA hV kx hb9
        go_wp2_with fail
        obtain ⟨W, hW⟩ : ∃ W, W = wr.heap.size := ⟨_, rfl⟩
        obtain ⟨wr9, hwr9⟩ : ∃ wr9, wr9 = wr.alloc (.cells #[.int .i32 X, .int .u32 (Y : Int)] 33) := ⟨_, rfl⟩
        rw [← hwr9] at hbr2 hG9 ky ⊢
        rw [← hW] at ky ⊢
        have hbr := Below.refl wr9.heap.size wr9
        have hb2 := hb.trans (hbr2.mono hbz)
        clear hwr9 hW k0 k1 eA'
        cases V with
        | true =>
          refine wp_region_held_drew (S := fun w' => Below wr9.heap.size wr9 w') (by kernel_rfl) ?_ (fun hHeld => ?_)
          · exact (by repeat (first | exact Below.refl _ _ | refine below_drew ?_))
          refine wpAnyH_take (i := 0) (by simp only [List.getElem?_toArray]; rfl) (by kernel_rfl) (by kernel_rfl) (by kernel_rfl) (by exact fun _ _ _ h => h) (by exact yk (.pointer (some ⟨W, 1, none⟩)) (by kernel_rfl) (fun _ => by kernel_rfl)) hHeld ?_
          refine wpAnyH_take (i := 1) (by simp only [List.getElem?_toArray]; rfl) (by kernel_rfl) (by kernel_rfl) (by kernel_rfl) (by exact fun _ _ _ h => h) (by exact yk_ldM (by kernel_rfl) (.tmp 16) rfl ⟨W, 1, none⟩ (.int .u32 (Y : Int)) (by kernel_rfl) (fun w h => sl_same h ky)) hHeld ?_
          refine wpAnyH_take (i := 2) (by simp only [List.getElem?_toArray]; rfl) (by kernel_rfl) (by kernel_rfl) (by kernel_rfl) (by exact fun _ _ _ h => h) (by exact yk_ldG (by kernel_rfl) (.tmp 1) rfl B g s (by kernel_rfl) (fun w h => hG9.ext h)) hHeld ?_
          refine wpAnyH_ready (rs := [3]) (by kernel_rfl) (by simp) ?_
          refine AllReadyH.cons (by simp only [List.getElem?_toArray]; rfl) (fun KK hKK => ?_) AllReadyH.nil
          refine wp_callF 37 #[.agg (gmA g s)] (by kernel_rfl) ?_
          refine (hA _).mono ?_
          rintro e wa ⟨rfl, ha⟩
          have ha := below_undrew2 ha
          refine ⟨_, rfl, ?_⟩
          have hbr := hbr.trans (ha.mono hbr.size)
          refine hKK.out _ _ ?_ (fun hHeld => ?_)
          · exact hbr
          clear hKK KK
          refine wpAnyH_ready (rs := [4]) (by kernel_rfl) (by simp) ?_
          refine AllReadyH.cons (by simp only [List.getElem?_toArray]; rfl) (fun KK hKK => ?_) AllReadyH.nil
          refine wp_callF 44 #[.int .u32 (Y : Int), .int .u32 (al : Int)] (by kernel_rfl) ?_
          refine (hWi _).mono ?_
          rintro e wx ⟨rfl, hwx⟩
          subst hwx
          refine ⟨_, rfl, ?_⟩
          refine hKK.out _ _ ?_ (fun hHeld => ?_)
          · exact hbr
          clear hKK KK
          refine wpAnyH_take (i := 5) (by simp only [List.getElem?_toArray]; rfl) (by kernel_rfl) (by kernel_rfl) (by kernel_rfl) (by exact fun _ _ _ h => h) (by exact yk (.bool false) (by kernel_rfl) (fun _ => by kernel_rfl)) hHeld ?_
          refine wpAnyH_done (by kernel_rfl) ?_ _
          try simp only [Act.put, List.setIfInBounds_toArray, List.set_cons_zero, List.set_cons_succ]
          go_wp2_with fail
          go_roundw
          case rel => exact ⟨k + 1, by omega, by go_num, HST.out (by simpa using HV.out.symm), hbr2.trans ((show Below wr9.heap.size wr9 _ from (by repeat (first | exact hbr | refine below_drew ?_))).mono hbr2.size)⟩
          case measure => simp [intOf]; omega
        | false =>
          refine wp_region_held_drew (S := fun w' => Below wr9.heap.size wr9 w') (by kernel_rfl) ?_ (fun hHeld => ?_)
          · exact (by repeat (first | exact Below.refl _ _ | refine below_drew ?_))
          refine wpAnyH_take (i := 0) (by simp only [List.getElem?_toArray]; rfl) (by kernel_rfl) (by kernel_rfl) (by kernel_rfl) (by exact fun _ _ _ h => h) (by exact yk (.pointer (some ⟨W, 1, none⟩)) (by kernel_rfl) (fun _ => by kernel_rfl)) hHeld ?_
          refine wpAnyH_take (i := 1) (by simp only [List.getElem?_toArray]; rfl) (by kernel_rfl) (by kernel_rfl) (by kernel_rfl) (by exact fun _ _ _ h => h) (by exact yk_ldM (by kernel_rfl) (.tmp 16) rfl ⟨W, 1, none⟩ (.int .u32 (Y : Int)) (by kernel_rfl) (fun w h => sl_same h ky)) hHeld ?_
          refine wpAnyH_take (i := 2) (by simp only [List.getElem?_toArray]; rfl) (by kernel_rfl) (by kernel_rfl) (by kernel_rfl) (by exact fun _ _ _ h => h) (by exact yk_ldG (by kernel_rfl) (.tmp 1) rfl B g s (by kernel_rfl) (fun w h => hG9.ext h)) hHeld ?_
          refine wpAnyH_ready (rs := [3]) (by kernel_rfl) (by simp) ?_
          refine AllReadyH.cons (by simp only [List.getElem?_toArray]; rfl) (fun KK hKK => ?_) AllReadyH.nil
          refine wp_callF 37 #[.agg (gmA g s)] (by kernel_rfl) ?_
          refine (hA _).mono ?_
          rintro e wa ⟨rfl, ha⟩
          have ha := below_undrew2 ha
          refine ⟨_, rfl, ?_⟩
          have hbr := hbr.trans (ha.mono hbr.size)
          refine hKK.out _ _ ?_ (fun hHeld => ?_)
          · exact hbr
          clear hKK KK
          refine wpAnyH_ready (rs := [4]) (by kernel_rfl) (by simp) ?_
          refine AllReadyH.cons (by simp only [List.getElem?_toArray]; rfl) (fun KK hKK => ?_) AllReadyH.nil
          refine wp_callF 44 #[.int .u32 (Y : Int), .int .u32 (al : Int)] (by kernel_rfl) ?_
          refine (hWi _).mono ?_
          rintro e wx ⟨rfl, hwx⟩
          subst hwx
          refine ⟨_, rfl, ?_⟩
          refine hKK.out _ _ ?_ (fun hHeld => ?_)
          · exact hbr
          clear hKK KK
          refine wpAnyH_take (i := 5) (by simp only [List.getElem?_toArray]; rfl) (by kernel_rfl) (by kernel_rfl) (by kernel_rfl) (by exact fun _ _ _ h => h) (by exact yk (.bool true) (by kernel_rfl) (fun _ => by kernel_rfl)) hHeld ?_
          refine wpAnyH_done (by kernel_rfl) ?_ _
          try simp only [Act.put, List.setIfInBounds_toArray, List.set_cons_zero, List.set_cons_succ]
          go_wp2_with fail
          have e9 := HBK.out (by simpa using HV.out.symm)
          go_ret
          exact ⟨by rw [e9]; rfl, hb2.trans ((show Below wr9.heap.size wr9 _ from (by repeat (first | exact hbr | refine below_drew ?_))).mono hb2.size)⟩
      · obtain hke : k = g.L.length := by omega
        have e9 := HGOOD.out h48 (fun j hj => hno j hj (by omega))
        have eA9 := Lib.hid e9
        have ej : ¬ (k : Int) < (g.L.length : Int) := by omega
        clear hno e9 hke
        go_wp2_with fail
        go_ret
        exact ⟨by rw [eA9.out]; rfl, hb.trans (hbr.mono hbz)⟩
  · have e48 : (48 : Int) < (g.L.length : Int) := by omega
    have e48' : decide ((48 : Int) < (g.L.length : Int)) = true := by simp; omega
    have e9 := HF.out h48
    have eA9 := Lib.hid e9
    clear hwb hG e9 h48
    go_enter Tryd.func29, Tryd.ntmps29
    go_wp2_with fail
    go_ret
    rw [← HWB.out]
    exact ⟨by rw [eA9.out]; rfl, hb⟩
end Go.Proofs.YtnbbglhpjpebhaaDoor
/- Right of a game. Conditions: the numbers fit; the table lies. -/
namespace Go.Proofs.YtnbbglhpjpebhaaDoor
open Go.RowKit

/-- May the game be? -/
def rightB (g : Gm) : Bool := decide (1 ≤ g.ob) && (decide (g.ob ≤ 32) && (decide (1 ≤ g.pl) && (decide (g.pl ≤ min 6 g.ob) && (decide (g.df < g.mv) && (rcB g && (checkV g.K (g.L.length : Int) g.pl).2)))))
set_option maxHeartbeats 4000000 in
set_option maxRecDepth 20000 in
theorem GRight_calls (g : Gm) (s : Gs) (w : World) (hin : GIn w g s) (hok : GOk g s) (hT : CTab w) :
    Calls Tryd.prog 10 #[.agg (gmA g s)] w fun e w' => e = .returned (.bool (rightB g)) ∧ Below w.heap.size w w' := by
  have hb := below_alloc1 w (.cells (gmA g s) 26)
  have hG := GBox.new_ w g s
  have hLe := fun W => Legal_calls g s g.df W hok.d1 hok.m1
  have hRc := fun W h => RightCells_calls g s W h hok
  have hR := fun W h hT => Right_calls s.A' g.K g.K.length s.c' s.b' (g.L.length : Int) g.pl W h rfl (by have := hok.lK; simp only [maxLen]; omega) hok.oK (by omega) (by have := hok.lL; omega) hT
  have hin1 := hin.ext hb
  have hT1 := hT.ext hb
  obtain ⟨D5, hD5⟩ : ∃ D5, D5 = decide (g.df < g.mv) := ⟨_, rfl⟩
  obtain ⟨D6, hD6⟩ : ∃ D6, D6 = rcB g := ⟨_, rfl⟩
  obtain ⟨D7, hD7⟩ : ∃ D7, D7 = (checkV g.K (g.L.length : Int) g.pl).2 := ⟨_, rfl⟩
  rw [← hD5] at hLe
  rw [← hD6] at hRc
  rw [← hD7] at hR
  have hrt : rightB g = (decide (1 ≤ g.ob) && (decide (g.ob ≤ 32) && (decide (1 ≤ g.pl) && (decide (g.pl ≤ min 6 g.ob) && (D5 && (D6 && D7)))))) := by rw [hD5, hD6, hD7]; rfl
  clear hin hT hok hD5 hD6 hD7
  by_cases h1 : 1 ≤ g.ob
  · have e1 : decide (1 ≤ g.ob) = true := decide_eq_true h1
    by_cases h2 : g.ob ≤ 32
    · have e2 : decide (g.ob ≤ 32) = true := decide_eq_true h2
      by_cases h3 : 1 ≤ g.pl
      · have e3 : decide (1 ≤ g.pl) = true := decide_eq_true h3
        obtain ⟨mn, hmn⟩ : ∃ mn, mn = min 6 g.ob := ⟨_, rfl⟩
        have m1 : min 6 g.ob = mn := hmn.symm
        have m2 : (if g.ob < 6 then g.ob else 6) = mn := by split <;> omega
        have m3 : (if (6 : Int) ≤ g.ob then 6 else g.ob) = mn := by split <;> omega
        rw [m1] at hrt
        clear hmn
        by_cases h4 : g.pl ≤ mn
        · have e4 : decide (g.pl ≤ mn) = true := decide_eq_true h4
          rw [e1, e2, e3, e4] at hrt
          simp only [Bool.true_and] at hrt
          have HRT := Lib.hid hrt
          clear hrt h1 h2 h3 h4
          go_enter Tryd.func10, Tryd.ntmps10
          go_wp2_with fail
          refine (hLe _).mono ?_
          rintro e w1 ⟨rfl, g1⟩
          have hin1 := hin1.ext g1
          have hT1 := hT1.ext g1
          have hb := hb.trans (g1.mono hb.size)
          have hG := hG.ext g1
          have q0 := hG.c0
          have q1 := hG.c1
          have q2 := hG.c2
          have q3 := hG.c3
          have q4 := hG.c4
          have q5 := hG.c5
          clear hLe g1
          cases D5 with
          | false =>
            go_wp2_with fail
            go_ret
            exact ⟨by rw [HRT.out]; rfl, hb⟩
          | true =>
            go_wp2_with fail
            refine (hRc _ hin1).mono ?_
            rintro e w2 ⟨rfl, g2⟩
            have hin1 := hin1.ext g2
            have hT1 := hT1.ext g2
            have hb := hb.trans (g2.mono hb.size)
            have hG := hG.ext g2
            have q0 := hG.c0
            have q1 := hG.c1
            have q2 := hG.c2
            have q3 := hG.c3
            have q4 := hG.c4
            have q5 := hG.c5
            clear hRc g2
            cases D6 with
            | false =>
              go_wp2_with fail
              go_ret
              exact ⟨by rw [HRT.out]; rfl, hb⟩
            | true =>
              go_wp2_with fail
              refine (hR _ hin1.sk hT1).mono ?_
              rintro e w3 ⟨rfl, g3⟩
              have hb := hb.trans (g3.mono hb.size)
              clear hR g3
              go_wp2_with fail
              go_ret
              exact ⟨by rw [HRT.out]; rfl, hb⟩
        · have e4 : decide (g.pl ≤ mn) = false := decide_eq_false h4
          rw [e4] at hrt
          simp only [Bool.false_and, Bool.and_false] at hrt
          have HRT := Lib.hid hrt
          clear hrt h1 h2 h3 h4 hLe hRc hR
          go_enter Tryd.func10, Tryd.ntmps10
          go_wp2_with fail
          go_ret
          exact ⟨by rw [HRT.out]; rfl, hb⟩
      · have e3 : decide (1 ≤ g.pl) = false := decide_eq_false h3
        rw [e3] at hrt
        simp only [Bool.false_and, Bool.and_false] at hrt
        have HRT := Lib.hid hrt
        clear hrt h1 h2 h3 hLe hRc hR
        go_enter Tryd.func10, Tryd.ntmps10
        go_wp2_with fail
        go_ret
        exact ⟨by rw [HRT.out]; rfl, hb⟩
    · have e2 : decide (g.ob ≤ 32) = false := decide_eq_false h2
      rw [e2] at hrt
      simp only [Bool.false_and, Bool.and_false] at hrt
      have HRT := Lib.hid hrt
      clear hrt h1 h2 hLe hRc hR
      go_enter Tryd.func10, Tryd.ntmps10
      go_wp2_with fail
      go_ret
      exact ⟨by rw [HRT.out]; rfl, hb⟩
  · have e1 : decide (1 ≤ g.ob) = false := decide_eq_false h1
    rw [e1] at hrt
    simp only [Bool.false_and] at hrt
    have HRT := Lib.hid hrt
    clear hrt h1 hLe hRc hR
    go_enter Tryd.func10, Tryd.ntmps10
    go_wp2_with fail
    go_ret
    exact ⟨by rw [HRT.out]; rfl, hb⟩
end Go.Proofs.YtnbbglhpjpebhaaDoor
/- Which move of each player counts. Conditions: the numbers fit; there are one to six players. -/
namespace Go.Proofs.YtnbbglhpjpebhaaDoor
open Go.RowKit

/-- A player's move that counts. -/
def mvAt (g : Gm) (M : List Nat) (i : Nat) : Nat := if i < M.length ∧ M.getD i 0 < g.mv then M.getD i 0 else g.df
def cntK (g : Gm) (M : List Nat) (n k : Nat) : List Int := (List.range n).map fun i => if i < k then w32 (mvAt g M i : Nat) else 0
def cntL (g : Gm) (M : List Nat) : List Int := (List.range g.pl.toNat).map fun i => w32 (mvAt g M i : Nat)
section
variable {g : Gm} {M : List Nat} {n k : Nat}
@[simp] theorem cntK_len (g : Gm) (M : List Nat) (n k : Nat) : (cntK g M n k).length = n := by simp [cntK]
theorem cntK_zero (g : Gm) (M : List Nat) (n : Nat) : cntK g M n 0 = List.replicate n 0 := by
  apply List.ext_getElem (by simp)
  intro j h1 h2
  simp [cntK]
theorem cntK_set (_h : k < n) : (cntK g M n k).set k (w32 (mvAt g M k : Nat)) = cntK g M n (k + 1) := by
  apply List.ext_getElem (by simp)
  intro j h1 h2
  rw [List.getElem_set]
  by_cases e : k = j
  · subst e
    simp [cntK]
  · rw [if_neg e]
    simp only [cntK, List.getElem_map, List.getElem_range]
    have : j < k + 1 ↔ j < k := by omega
    simp only [this]
theorem cntK_all (g : Gm) (M : List Nat) (h : g.pl = (n : Int)) : cntK g M n n = cntL g M := by
  unfold cntL
  rw [h, Int.toNat_natCast]
  apply List.map_congr_left
  intro i hi
  rw [if_pos (List.mem_range.1 hi)]
end
theorem cntL_len (g : Gm) (M : List Nat) : (cntL g M).length = g.pl.toNat := by simp [cntL]
theorem cntL_fit (g : Gm) (M : List Nat) : ∀ x ∈ cntL g M, -2147483648 ≤ x ∧ x ≤ 2147483647 := by
  intro x hx
  obtain ⟨i, _, rfl⟩ := List.mem_map.1 hx
  exact w32_fits _
section
variable {ops : Array Oper} {S : World → Prop} {op : Oper} {a : Act}
theorem yk_lss (hw : Region.wanted op (yielded ops a.tmps) = true) (x y : Operand) (ho : op.op = .binOp .lss 3 x y 3) (n m : Int) (hx : a.eval x = .int .i64 n) (hy : a.eval y = .int .i64 m) (d : Bool) (hz : decide (n < m) = d) : YieldsIf Tryd.prog ops S op (.bool d) a :=
  .inl ⟨hw, fun w _ => by
    unfold execOp
    simp only [ho, hx, hy]
    go_simp⟩
theorem yk_ixU (hw : Region.wanted op (yielded ops a.tmps) = true) (x y : Operand) (ho : op.op = .indexAddr 28 x y) (b off n c k : Nat) (hx : a.eval x = .slice (some ⟨b, off, none⟩) n c) (hy : a.eval y = .int .i64 (k : Int))
    (hk : (k : Int) < (n : Int)) : YieldsIf Tryd.prog ops S op (.pointer (some ⟨b, off + k, none⟩)) a :=
  .inl ⟨hw, fun w _ => by
    unfold execOp
    simp only [ho, hx, hy]
    go_simp⟩
theorem yk_ldW (hw : Region.wanted op (yielded ops a.tmps) = true) (x : Operand) (ho : op.op = .load 22 x) (p : Addr) (v : Value) (hx : a.eval x = .pointer (some p)) (hS : ∀ w, S w → w.cell? p = some v) : YieldsIf Tryd.prog ops S op v a :=
  .inl ⟨hw, fun w h => by
    have hc := hS w h
    unfold execOp
    simp only [ho, hx]
    go_simp⟩
end
theorem GBox.below {w w' : World} {k B : Nat} {g : Gm} {s : Gs} (h : GBox w k g s) (hb : Below B w w') (hk : k < B) : GBox w' k g s := (hb.block k hk).trans h
theorem sl_below {w w' : World} {b B : Nat} {A : Option Addr} {xs : List Value} (h : Sl w b A xs) (hlt : xs ≠ [] → b < B) (hb : Below B w w') : Sl w' b A xs := fun hx => (h.keep fun _ => hb.block b (hlt hx)) hx
theorem castN_own {w : World} {B n m : Nat} {e : TypeId} {v : Value} {xs : List Value} (h : w.ownsRow B e 1 v n xs) (hn : n = m) : w.ownsRow B e 1 v m xs := hn ▸ h
set_option maxHeartbeats 8000000 in
set_option maxRecDepth 20000 in
theorem Counted_calls (g : Gm) (s : Gs) (M : List Nat) (MA : Option Addr) (mc mb : Nat) (w : World) (hp : 1 ≤ g.pl) (hp6 : g.pl ≤ 6) (hM : Sl w mb MA (ms M)) (hfM : ∀ x ∈ M, x ≤ 4294967295) (hlM : M.length ≤ maxLen) (hm : g.mv ≤ 4294967295) :
    Calls Tryd.prog 36 #[.agg (gmA g s), .slice MA M.length mc] w fun e w' => ∃ v, e = .returned v ∧ Row32 w' w.heap.size v (cntL g M) ∧ Below w.heap.size w w' := by
  have hb := below_alloc1 w (.cells (gmA g s) 26)
  have hG := GBox.new_ w g s
  have hM1 := Sl.ext hM hb
  have hltM : 0 < M.length → mb < w.heap.size := fun h => Sl.lt hM (by intro h0; have h5 := congrArg List.length h0; rw [ms_length, List.length_nil] at h5; omega)
  have hLe := fun (x : Nat) W hx => Legal_calls g s x W hx hm
  obtain ⟨n, hn⟩ := Int.eq_ofNat_of_zero_le (show 0 ≤ g.pl by omega)
  have hn6 : 1 ≤ n ∧ n ≤ 6 := by omega
  have hall := cntK_all g M hn
  have q1 := hG.c1
  rw [hn] at q1
  simp only [maxLen] at hlM
  have zb : (w.alloc (.cells (gmA g s) 26)).heap.size = w.heap.size + 1 := by simp
  obtain ⟨i0, hi0, hz0, hz1, hz2⟩ := info_parts i32_info
  obtain ⟨w9, hmk, hrow, hgrow⟩ := run_make_full (P := Tryd.prog) (w.alloc (.cells (gmA g s) 26)) (w.heap.size + 1) 76 21 i0 (.int .i32 0) 1 Tryd.underlying76 hi0 hz0 hz1 .i64 .i64 n (by rw [hz2]; omega) (by simp only [maxLen]; omega) (by rw [zb]; exact Nat.le_refl _)
  have h9 : Below (w.alloc (.cells (gmA g s) 26)).heap.size (w.alloc (.cells (gmA g s) 26)) w9 := (Mod.of_grown hgrow).below (Nat.le_refl _) (fun i _ h => by cases h)
  rw [made_i32] at hrow
  rw [zb] at hmk
  rw [zb] at hrow
  have hrow : w9.ownsRow (w.heap.size + 1) 21 1 (.slice (some ⟨w.heap.size + 1, 0, none⟩) n n) n (iv (cntK g M n 0)) := by rw [cntK_zero]; exact hrow
  have hG9 := hG.ext h9
  have hM9 := Sl.ext hM1 h9
  have hb9 := hb.trans (h9.mono hb.size)
  have hz9 := h9.size
  rw [zb] at hz9
  have HALL := Lib.hid hall
  have HN := Lib.hid hn
  have HFM := Lib.hid hfM
  clear hM hm hp hp6 hall hn hfM zb hi0 hz0 hz1 hz2 hgrow h9 hM1 hb
  go_enter Tryd.func36, Tryd.ntmps36
  go_wp2_with fail
  obtain ⟨B, hB⟩ : ∃ B, B = w.heap.size := ⟨_, rfl⟩
  rw [← hB] at hG9 hrow hb9 hz9 hltM ⊢
  have HB := Lib.hid hB
  clear hB hmk q1 hG
  go_loopw [6, 7, 13] (fun _ _ i wr => ∃ k : Nat, k ≤ n ∧ i = .int .i64 k ∧ wr.ownsRow (B + 1) 21 1 (.slice (some ⟨B + 1, 0, none⟩) n n) n (iv (cntK g M n k)) ∧ Below (B + 1) w9 wr) (fun _ _ i _ => n - (intOf i).toNat)
  case atStart => exact ⟨0, Nat.zero_le _, rfl, hrow, Below.refl _ _⟩
  case round =>
    clear hrow
    obtain ⟨k, hk, rfl, hrow, hbr⟩ := hrel
    by_cases hlt : k < n
    · have ej : (k : Int) < (n : Int) := by omega
      have hG9 := hG9.below hbr (by omega)
      have hM9 := sl_below hM9 (fun h => by have := hltM (by rw [← ms_length]; exact List.length_pos_iff.2 h); omega) hbr
      have q3 := hG9.c3
      obtain ⟨z, hz⟩ : ∃ z : Nat, z = mvAt g M k := ⟨_, rfl⟩
      have HSET := Lib.hid (cntK_set (g := g) (M := M) hlt)
      have HZ := Lib.hid hz
      obtain ⟨v, hv⟩ : ∃ v, v = w32 (z : Int) := ⟨_, rfl⟩
      have ew : IntKind.i32.wrap (z : Int) = v := by rw [hv]; exact IntKind.wrap_i32 _
      have ew2 : wrap32 (z : Int) = v := by rw [hv]; unfold wrap32 w32; rfl
      have HV := Lib.hid hv
      clear hz hv
      obtain ⟨wr0, hwr0⟩ : ∃ wr0, wr0 = wr := ⟨_, rfl⟩
      rw [← hwr0] at hrow hbr hG9 hM9 q3 ⊢
      clear hwr0
      have HVS := Lib.hid (show (cntK g M n k).set k v = cntK g M n (k + 1) by rw [HV.out, HZ.out]; exact HSET.out)
      have hbo := hbr
      have hbr := Below.refl wr0.heap.size wr0
      by_cases hkm : k < M.length
      · have ekm : (k : Int) < (M.length : Int) := by omega
        obtain ⟨off, rfl, hc⟩ := hM9 (by intro h0; have h5 := congrArg List.length h0; rw [ms_length, List.length_nil] at h5; omega)
        have hx0 := hc k _ (ms_get? (List.getElem?_eq_getElem hkm))
        have hfx := HFM.out _ (List.getElem_mem hkm)
        have hmv : z = if M[k] < g.mv then M[k] else g.df := by
          rw [HZ.out]
          unfold mvAt
          rw [show M.getD k 0 = M[k] by simp [List.getD, hkm]]
          by_cases h : M[k] < g.mv
          · rw [if_pos ⟨hkm, h⟩, if_pos h]
          · rw [if_neg (fun h2 => h h2.2), if_neg h]
        obtain ⟨x, hx⟩ : ∃ x, x = M[k] := ⟨_, rfl⟩
        rw [← hx] at hx0 hfx hmv
        have hLe := fun W => hLe x W hfx
        clear hx hc HZ HV HSET
        by_cases hlm : x < g.mv
        · rw [if_pos hlm] at hmv
          rw [decide_eq_true hlm] at hLe
          obtain rfl : x = z := hmv.symm
          clear hlm hmv
          go_wp2_with fail
          refine wp_region_held_drew (S := fun w' => Below wr0.heap.size wr0 w') (by kernel_rfl) ?_ (fun hHeld => ?_)
          · exact (by repeat (first | exact Below.refl _ _ | refine below_drew ?_))
          refine wpAnyH_take (i := 0) (by simp only [List.getElem?_toArray]; rfl) (by kernel_rfl) (by kernel_rfl) (by kernel_rfl) (by exact fun _ _ _ h => h) (by exact yk (.int .i64 (k : Int)) (by kernel_rfl) (fun _ => by kernel_rfl)) hHeld ?_
          refine wpAnyH_take (i := 1) (by simp only [List.getElem?_toArray]; rfl) (by kernel_rfl) (by kernel_rfl) (by kernel_rfl) (by exact fun _ _ _ h => h) (by exact yk (.slice (some ⟨mb, off, none⟩) M.length mc) (by kernel_rfl) (fun _ => by kernel_rfl)) hHeld ?_
          refine wpAnyH_take (i := 2) (by simp only [List.getElem?_toArray]; rfl) (by kernel_rfl) (by kernel_rfl) (by kernel_rfl) (by exact fun _ _ _ h => h) (by exact yk (.int .i64 (M.length : Int)) (by kernel_rfl) (fun _ => by kernel_rfl)) hHeld ?_
          refine wpAnyH_take (i := 3) (by simp only [List.getElem?_toArray]; rfl) (by kernel_rfl) (by kernel_rfl) (by kernel_rfl) (by exact fun _ _ _ h => h) (by exact yk_lss (by kernel_rfl) (.tmp 18) (.tmp 20) rfl (k : Int) (M.length : Int) (by kernel_rfl) (by kernel_rfl) true (by simp; omega)) hHeld ?_
          refine wpAnyH_take (i := 4) (by simp only [List.getElem?_toArray]; rfl) (by kernel_rfl) (by kernel_rfl) (by kernel_rfl) (by exact fun _ _ _ h => h) (by exact yk (.bool true) (by kernel_rfl) (fun _ => by kernel_rfl)) hHeld ?_
          refine wpAnyH_take (i := 5) (by simp only [List.getElem?_toArray]; rfl) (by kernel_rfl) (by kernel_rfl) (by kernel_rfl) (by exact fun _ _ _ h => h) (by exact yk_ldG (by kernel_rfl) (.tmp 2) rfl B g s (by kernel_rfl) (fun w h => hG9.ext h)) hHeld ?_
          refine wpAnyH_take (i := 6) (by simp only [List.getElem?_toArray]; rfl) (by kernel_rfl) (by kernel_rfl) (by kernel_rfl) (by exact fun _ _ _ h => h) (by exact yk (.slice (some ⟨mb, off, none⟩) M.length mc) (by kernel_rfl) (fun _ => by kernel_rfl)) hHeld ?_
          refine wpAnyH_take (i := 7) (by simp only [List.getElem?_toArray]; rfl) (by kernel_rfl) (by kernel_rfl) (by kernel_rfl) (by exact fun _ _ _ h => h) (by exact yk (.int .i64 (k : Int)) (by kernel_rfl) (fun _ => by kernel_rfl)) hHeld ?_
          refine wpAnyH_take (i := 8) (by simp only [List.getElem?_toArray]; rfl) (by kernel_rfl) (by kernel_rfl) (by kernel_rfl) (by exact fun _ _ _ h => h) (by exact yk_ixU (by kernel_rfl) (.tmp 24) (.tmp 25) rfl mb off M.length mc k (by kernel_rfl) (by kernel_rfl) ekm) hHeld ?_
          refine wpAnyH_take (i := 9) (by simp only [List.getElem?_toArray]; rfl) (by kernel_rfl) (by kernel_rfl) (by kernel_rfl) (by exact fun _ _ _ h => h) (by exact yk_ldW (by kernel_rfl) (.tmp 26) rfl ⟨mb, off + k, none⟩ (.int .u32 (x : Int)) (by kernel_rfl) (fun w h => sl_same h hx0)) hHeld ?_
          refine wpAnyH_ready (rs := [10]) (by kernel_rfl) (by simp) ?_
          refine AllReadyH.cons (by simp only [List.getElem?_toArray]; rfl) (fun KK hKK => ?_) AllReadyH.nil
          rw [if_pos (by kernel_rfl)]
          refine wp_callF 15 #[.agg (gmA g s), .int .u32 (x : Int)] (by kernel_rfl) ?_
          refine (hLe _).mono ?_
          rintro e wa ⟨rfl, ha⟩
          have ha := below_undrew2 ha
          refine ⟨_, rfl, ?_⟩
          have hbr := hbr.trans (ha.mono hbr.size)
          refine hKK.out _ _ ?_ (fun hHeld => ?_)
          · exact hbr
          clear hKK KK
          refine wpAnyH_take (i := 11) (by simp only [List.getElem?_toArray]; rfl) (by kernel_rfl) (by kernel_rfl) (by kernel_rfl) (by exact fun _ _ _ h => h) (by exact yk (.bool true) (by kernel_rfl) (fun _ => by kernel_rfl)) hHeld ?_
          refine wpAnyH_done (by kernel_rfl) ?_ _
          try simp only [Act.put, List.setIfInBounds_toArray, List.set_cons_zero, List.set_cons_succ]
          have hx0 := sl_same hbr hx0
          have hrow1 := own_ext hrow hbr
          obtain ⟨gg, cap, hv9, -, -, -, hcl, kf, kset⟩ := own_set hrow1 (by omega)
          injection hv9 with hv9 e8 e9
          injection hv9 with hv9
          injection hv9 with hv9 e7
          subst hv9
          clear e7 e8 e9
          have hkl : k < (iv (cntK g M n k)).length := by rw [iv_length, cntK_len]; exact hlt
          have hck := hcl k _ (List.getElem?_eq_getElem hkl)
          have kf0 := kf k
          have HKS := Lib.hid (kset k (.int .i32 v) (wa.setCell ⟨B + 1, k, none⟩ (.int .i32 v)) rfl)
          have hbo2 := hbo.trans (hbr.mono (by have := hbo.size; omega))
          clear hcl kf kset hrow hrow1 hbr hbo
          go_wp2_with fail
          have hr2 := HKS.out
          rw [iv_set, HVS.out] at hr2
          go_roundw
          case rel => exact ⟨k + 1, by omega, by go_num, hr2, hbo2.setCell (p := ⟨B + 1, k, none⟩) (by simp) _⟩
          case measure => simp [intOf]; omega
        · rw [if_neg hlm] at hmv
          rw [decide_eq_false hlm] at hLe
          rw [hmv] at ew ew2
          clear hlm hmv
          go_wp2_with fail
          refine wp_region_held_drew (S := fun w' => Below wr0.heap.size wr0 w') (by kernel_rfl) ?_ (fun hHeld => ?_)
          · exact (by repeat (first | exact Below.refl _ _ | refine below_drew ?_))
          refine wpAnyH_take (i := 0) (by simp only [List.getElem?_toArray]; rfl) (by kernel_rfl) (by kernel_rfl) (by kernel_rfl) (by exact fun _ _ _ h => h) (by exact yk (.int .i64 (k : Int)) (by kernel_rfl) (fun _ => by kernel_rfl)) hHeld ?_
          refine wpAnyH_take (i := 1) (by simp only [List.getElem?_toArray]; rfl) (by kernel_rfl) (by kernel_rfl) (by kernel_rfl) (by exact fun _ _ _ h => h) (by exact yk (.slice (some ⟨mb, off, none⟩) M.length mc) (by kernel_rfl) (fun _ => by kernel_rfl)) hHeld ?_
          refine wpAnyH_take (i := 2) (by simp only [List.getElem?_toArray]; rfl) (by kernel_rfl) (by kernel_rfl) (by kernel_rfl) (by exact fun _ _ _ h => h) (by exact yk (.int .i64 (M.length : Int)) (by kernel_rfl) (fun _ => by kernel_rfl)) hHeld ?_
          refine wpAnyH_take (i := 3) (by simp only [List.getElem?_toArray]; rfl) (by kernel_rfl) (by kernel_rfl) (by kernel_rfl) (by exact fun _ _ _ h => h) (by exact yk_lss (by kernel_rfl) (.tmp 18) (.tmp 20) rfl (k : Int) (M.length : Int) (by kernel_rfl) (by kernel_rfl) true (by simp; omega)) hHeld ?_
          refine wpAnyH_take (i := 4) (by simp only [List.getElem?_toArray]; rfl) (by kernel_rfl) (by kernel_rfl) (by kernel_rfl) (by exact fun _ _ _ h => h) (by exact yk (.bool true) (by kernel_rfl) (fun _ => by kernel_rfl)) hHeld ?_
          refine wpAnyH_take (i := 5) (by simp only [List.getElem?_toArray]; rfl) (by kernel_rfl) (by kernel_rfl) (by kernel_rfl) (by exact fun _ _ _ h => h) (by exact yk_ldG (by kernel_rfl) (.tmp 2) rfl B g s (by kernel_rfl) (fun w h => hG9.ext h)) hHeld ?_
          refine wpAnyH_take (i := 6) (by simp only [List.getElem?_toArray]; rfl) (by kernel_rfl) (by kernel_rfl) (by kernel_rfl) (by exact fun _ _ _ h => h) (by exact yk (.slice (some ⟨mb, off, none⟩) M.length mc) (by kernel_rfl) (fun _ => by kernel_rfl)) hHeld ?_
          refine wpAnyH_take (i := 7) (by simp only [List.getElem?_toArray]; rfl) (by kernel_rfl) (by kernel_rfl) (by kernel_rfl) (by exact fun _ _ _ h => h) (by exact yk (.int .i64 (k : Int)) (by kernel_rfl) (fun _ => by kernel_rfl)) hHeld ?_
          refine wpAnyH_take (i := 8) (by simp only [List.getElem?_toArray]; rfl) (by kernel_rfl) (by kernel_rfl) (by kernel_rfl) (by exact fun _ _ _ h => h) (by exact yk_ixU (by kernel_rfl) (.tmp 24) (.tmp 25) rfl mb off M.length mc k (by kernel_rfl) (by kernel_rfl) ekm) hHeld ?_
          refine wpAnyH_take (i := 9) (by simp only [List.getElem?_toArray]; rfl) (by kernel_rfl) (by kernel_rfl) (by kernel_rfl) (by exact fun _ _ _ h => h) (by exact yk_ldW (by kernel_rfl) (.tmp 26) rfl ⟨mb, off + k, none⟩ (.int .u32 (x : Int)) (by kernel_rfl) (fun w h => sl_same h hx0)) hHeld ?_
          refine wpAnyH_ready (rs := [10]) (by kernel_rfl) (by simp) ?_
          refine AllReadyH.cons (by simp only [List.getElem?_toArray]; rfl) (fun KK hKK => ?_) AllReadyH.nil
          rw [if_pos (by kernel_rfl)]
          refine wp_callF 15 #[.agg (gmA g s), .int .u32 (x : Int)] (by kernel_rfl) ?_
          refine (hLe _).mono ?_
          rintro e wa ⟨rfl, ha⟩
          have ha := below_undrew2 ha
          refine ⟨_, rfl, ?_⟩
          have hbr := hbr.trans (ha.mono hbr.size)
          refine hKK.out _ _ ?_ (fun hHeld => ?_)
          · exact hbr
          clear hKK KK
          refine wpAnyH_take (i := 11) (by simp only [List.getElem?_toArray]; rfl) (by kernel_rfl) (by kernel_rfl) (by kernel_rfl) (by exact fun _ _ _ h => h) (by exact yk (.bool false) (by kernel_rfl) (fun _ => by kernel_rfl)) hHeld ?_
          refine wpAnyH_done (by kernel_rfl) ?_ _
          try simp only [Act.put, List.setIfInBounds_toArray, List.set_cons_zero, List.set_cons_succ]
          have hrow1 := own_ext hrow hbr
          obtain ⟨gg, cap, hv9, -, -, -, hcl, kf, kset⟩ := own_set hrow1 (by omega)
          injection hv9 with hv9 e8 e9
          injection hv9 with hv9
          injection hv9 with hv9 e7
          subst hv9
          clear e7 e8 e9
          have hkl : k < (iv (cntK g M n k)).length := by rw [iv_length, cntK_len]; exact hlt
          have hck := hcl k _ (List.getElem?_eq_getElem hkl)
          have kf0 := kf k
          have HKS := Lib.hid (kset k (.int .i32 v) (wa.setCell ⟨B + 1, k, none⟩ (.int .i32 v)) rfl)
          have hbo2 := hbo.trans (hbr.mono (by have := hbo.size; omega))
          clear hcl kf kset hrow hrow1 hbr hbo
          go_wp2_with fail
          have hr2 := HKS.out
          rw [iv_set, HVS.out] at hr2
          go_roundw
          case rel => exact ⟨k + 1, by omega, by go_num, hr2, hbo2.setCell (p := ⟨B + 1, k, none⟩) (by simp) _⟩
          case measure => simp [intOf]; omega
      · have hmv : z = g.df := by
          rw [HZ.out]
          unfold mvAt
          rw [if_neg (fun h => hkm h.1)]
        rw [hmv] at ew ew2
        clear hmv HZ HV HSET
        go_wp2_with fail
        refine wp_region_held_drew (S := fun w' => Below wr0.heap.size wr0 w') (by kernel_rfl) ?_ (fun hHeld => ?_)
        · exact (by repeat (first | exact Below.refl _ _ | refine below_drew ?_))
        refine wpAnyH_take (i := 0) (by simp only [List.getElem?_toArray]; rfl) (by kernel_rfl) (by kernel_rfl) (by kernel_rfl) (by exact fun _ _ _ h => h) (by exact yk (.int .i64 (k : Int)) (by kernel_rfl) (fun _ => by kernel_rfl)) hHeld ?_
        refine wpAnyH_take (i := 1) (by simp only [List.getElem?_toArray]; rfl) (by kernel_rfl) (by kernel_rfl) (by kernel_rfl) (by exact fun _ _ _ h => h) (by exact yk (.slice MA M.length mc) (by kernel_rfl) (fun _ => by kernel_rfl)) hHeld ?_
        refine wpAnyH_take (i := 2) (by simp only [List.getElem?_toArray]; rfl) (by kernel_rfl) (by kernel_rfl) (by kernel_rfl) (by exact fun _ _ _ h => h) (by exact yk (.int .i64 (M.length : Int)) (by kernel_rfl) (fun _ => by kernel_rfl)) hHeld ?_
        refine wpAnyH_take (i := 3) (by simp only [List.getElem?_toArray]; rfl) (by kernel_rfl) (by kernel_rfl) (by kernel_rfl) (by exact fun _ _ _ h => h) (by exact yk_lss (by kernel_rfl) (.tmp 18) (.tmp 20) rfl (k : Int) (M.length : Int) (by kernel_rfl) (by kernel_rfl) false (by simp; omega)) hHeld ?_
        refine wpAnyH_take (i := 4) (by simp only [List.getElem?_toArray]; rfl) (by kernel_rfl) (by kernel_rfl) (by kernel_rfl) (by exact fun _ _ _ h => h) (by exact yk (.bool false) (by kernel_rfl) (fun _ => by kernel_rfl)) hHeld ?_
        refine wpAnyH_take (i := 5) (by simp only [List.getElem?_toArray]; rfl) (by kernel_rfl) (by kernel_rfl) (by kernel_rfl) (by exact fun _ _ _ h => h) (by exact yk_no (by kernel_rfl)) hHeld ?_
        refine wpAnyH_take (i := 6) (by simp only [List.getElem?_toArray]; rfl) (by kernel_rfl) (by kernel_rfl) (by kernel_rfl) (by exact fun _ _ _ h => h) (by exact yk_no (by kernel_rfl)) hHeld ?_
        refine wpAnyH_take (i := 7) (by simp only [List.getElem?_toArray]; rfl) (by kernel_rfl) (by kernel_rfl) (by kernel_rfl) (by exact fun _ _ _ h => h) (by exact yk_no (by kernel_rfl)) hHeld ?_
        refine wpAnyH_take (i := 8) (by simp only [List.getElem?_toArray]; rfl) (by kernel_rfl) (by kernel_rfl) (by kernel_rfl) (by exact fun _ _ _ h => h) (by exact yk_no (by kernel_rfl)) hHeld ?_
        refine wpAnyH_take (i := 9) (by simp only [List.getElem?_toArray]; rfl) (by kernel_rfl) (by kernel_rfl) (by kernel_rfl) (by exact fun _ _ _ h => h) (by exact yk_no (by kernel_rfl)) hHeld ?_
        refine wpAnyH_take (i := 10) (by simp only [List.getElem?_toArray]; rfl) (by kernel_rfl) (by kernel_rfl) (by kernel_rfl) (by exact fun _ _ _ h => h) (by exact yk_no (by kernel_rfl)) hHeld ?_
        refine wpAnyH_take (i := 11) (by simp only [List.getElem?_toArray]; rfl) (by kernel_rfl) (by kernel_rfl) (by kernel_rfl) (by exact fun _ _ _ h => h) (by exact yk (.bool false) (by kernel_rfl) (fun _ => by kernel_rfl)) hHeld ?_
        refine wpAnyH_done (by kernel_rfl) ?_ _
        try simp only [Act.put, List.setIfInBounds_toArray, List.set_cons_zero, List.set_cons_succ]
        have hrow1 := own_ext hrow (below_drew hbr)
        obtain ⟨gg, cap, hv9, -, -, -, hcl, kf, kset⟩ := own_set hrow1 (by omega)
        injection hv9 with hv9 e8 e9
        injection hv9 with hv9
        injection hv9 with hv9 e7
        subst hv9
        clear e7 e8 e9
        have hkl : k < (iv (cntK g M n k)).length := by rw [iv_length, cntK_len]; exact hlt
        have hck := hcl k _ (List.getElem?_eq_getElem hkl)
        have kf0 := kf k
        have HKS := Lib.hid (kset k (.int .i32 v) ((wr0.setCell ⟨B + 1, k, none⟩ (.int .i32 v)).drew) rfl)
        have hbo2 := hbo.trans (hbr.mono (by have := hbo.size; omega))
        clear hcl kf kset hrow hrow1 hbr hbo
        go_wp2_with fail
        have hr2 := HKS.out
        rw [iv_set, HVS.out] at hr2
        go_roundw
        case rel => exact ⟨k + 1, by omega, by go_num, hr2, below_drew (hbo2.setCell (p := ⟨B + 1, k, none⟩) (by simp) _)⟩
        case measure => simp [intOf]; omega
    · obtain rfl : k = n := by omega
      rw [HALL.out] at hrow
      have ej : ¬ (k : Int) < (k : Int) := by omega
      go_wp2_with fail
      go_ret
      exact ⟨_, rfl, castN_own (own_low hrow (by have := HB.out; omega)) (by rw [cntL_len, HN.out, Int.toNat_natCast]), by rw [← HB.out]; exact hb9.trans (hbr.mono (by omega))⟩
end Go.Proofs.YtnbbglhpjpebhaaDoor
/- A game's state in a variable: what it reads as, what a store makes of it, how it is built. Conditions: those said. -/
namespace Go.Proofs.YtnbbglhpjpebhaaDoor
open Go.RowKit

/-- Where a game stands. -/
structure St where
  L : List (Int × Nat)
  d : Nat
  tk : Nat
def stE (s : St) : List Value := [.int .u64 (s.d : Int), .int .u32 (s.tk : Int)]
def stL (s : St) : List Value := (bdL s.L).toList ++ stE s
def stA (s : St) : Array Value := (stL s).toArray
def zSt : St := ⟨[], 0, 0⟩
theorem stL_len (s : St) : (stL s).length = 99 := by simp [stL, stE, bdL_size]
theorem stA_size (s : St) : (stA s).size = 99 := by unfold stA; simp [stL_len]
theorem stL_at {s : St} {k : Nat} {v : Value} (h : (stE s)[k]? = some v) : (stL s)[97 + k]? = some v := by
  unfold stL
  rw [List.getElem?_append_right (by rw [bdL_list]; omega), bdL_list, show 97 + k - 97 = k by omega]
  exact h
theorem stA_all (s : St) : (stA s).all (·.oneCell') = true := by
  refine Array.all_eq_true_iff_forall_mem.2 fun v hv => ?_
  have hv : v ∈ stL s := by unfold stA at hv; simpa using hv
  unfold stL stE at hv
  simp only [List.mem_append, List.mem_cons, List.not_mem_nil, or_false] at hv
  rcases hv with h | rfl | rfl
  · exact Array.all_eq_true_iff_forall_mem.1 (bdL_all s.L) v (by simpa using h)
  · rfl
  · rfl
def BoxS (w : World) (g : Nat) (s : St) : Prop := w.heap[g]? = some (.cells (stA s) 40 (0, 0))
namespace BoxS
variable {w w' : World} {g : Nat} {s : St}
theorem lt (h : BoxS w g s) : g < w.heap.size := (Array.getElem?_eq_some_iff.1 h).1
theorem keep (h : BoxS w g s) (hk : w'.heap[g]? = w.heap[g]?) : BoxS w' g s := hk.trans h
theorem ext (h : BoxS w g s) (hb : Below w.heap.size w w') : BoxS w' g s := h.keep (hb.block g h.lt)
theorem below {B : Nat} (h : BoxS w g s) (hb : Below B w w') (hg : g < B) : BoxS w' g s := h.keep (hb.block g hg)
theorem mod {S : Nat → Prop} (h : BoxS w g s) (hm : Mod S w w') (hs : ¬ S g) : BoxS w' g s := h.keep (hm.block g h.lt hs)
theorem new_ (w : World) (s : St) : BoxS (w.alloc (.cells (stA s) 40)) w.heap.size s := heap_alloc_new w _
theorem at_ (h : BoxS w g s) {k : Nat} {v : Value} (hv : (stL s)[k]? = some v) : w.cell? ⟨g, k, none⟩ = some v := by
  rw [cell_of_row w g k _ _ _ h]
  unfold stA
  simpa using hv
theorem free (h : BoxS w g s) (j : Nat) : w.frozen? ⟨g, j, none⟩ = false := frozen_of_row w g j _ _ h
theorem cD (h : BoxS w g s) : w.cell? ⟨g, 97, none⟩ = some (.int .u64 (s.d : Int)) := h.at_ (stL_at (k := 0) rfl)
theorem cK (h : BoxS w g s) : w.cell? ⟨g, 98, none⟩ = some (.int .u32 (s.tk : Int)) := h.at_ (stL_at (k := 1) rfl)
theorem rangeB (h : BoxS w g s) : w.rangeAt g 0 (bdL s.L).toList := fun j v hv => by
  rw [Nat.zero_add]
  refine h.at_ ?_
  unfold stL
  rw [List.getElem?_append_left (List.getElem?_eq_some_iff.1 hv).1]
  exact hv
theorem rangeA (h : BoxS w g s) : w.rangeAt g 0 (stL s) := fun j v hv => by
  rw [Nat.zero_add]
  exact h.at_ hv
theorem there (h : BoxS w g s) : w.there g 0 97 := fun j hj => by
  refine ⟨?_, h.free _⟩
  obtain ⟨v, hv⟩ : ∃ v, (bdL s.L).toList[j]? = some v := ⟨_, List.getElem?_eq_getElem (by rw [bdL_list]; exact hj)⟩
  rw [h.rangeB j v hv]
  rfl
theorem sL (h : BoxS w g s) (M : List (Int × Nat)) : BoxS (w.setCells g 0 (bdL M).toList) g { s with L := M } := by
  unfold BoxS
  rw [setCells_heap g (bdL M).toList 0 w _ _ h (by rw [bdL_list, stL_len]; omega), bdL_list]
  congr 3
theorem sD (h : BoxS w g s) (n : Nat) : BoxS (w.setCell ⟨g, 97, none⟩ (.int .u64 (n : Int))) g { s with d := n } := by
  unfold BoxS
  rw [heap_setCell_same w g 97 _ _ _ h]
  have e : (stL s).set 97 (.int .u64 (n : Int)) = stL { s with d := n } := by
    unfold stL
    rw [List.set_append_right _ _ (by rw [bdL_list]; omega), bdL_list]
    rfl
  unfold stA
  rw [← e]
  simp
theorem sK (h : BoxS w g s) (n : Nat) : BoxS (w.setCell ⟨g, 98, none⟩ (.int .u32 (n : Int))) g { s with tk := n } := by
  unfold BoxS
  rw [heap_setCell_same w g 98 _ _ _ h]
  have e : (stL s).set 98 (.int .u32 (n : Int)) = stL { s with tk := n } := by
    unfold stL
    rw [List.set_append_right _ _ (by rw [bdL_list]; omega), bdL_list]
    rfl
  unfold stA
  rw [← e]
  simp
theorem row_ (h : BoxS w g s) (s' : St) : BoxS (w.setRow g (stA s')) g s' := setRow_heap w g _ _ _ _ h
end BoxS
theorem st_size (s : St) : (Tryd.prog.info? 40).map (·.size) = some (stL s).length := by rw [stL_len]; kernel_rfl
theorem stZ_info : (Tryd.prog.info? 40).map (fun i => (i.zero, i.size)) = some (some (.agg (stA zSt)), 99) := by kernel_rfl
theorem stA_built (L : List (Int × Nat)) (d : Nat) : Tryd.prog.built 40 [(0, .agg (bdL L)), (1, .agg #[.int .u64 (d : Int)])] = some (stA ⟨L, d, 0⟩) := by
  unfold Program.built
  obtain ⟨i, hi, hz, _⟩ := info_two stZ_info
  rw [hi, Tryd.underlying40]
  simp only []
  rw [hz]
  rw [show (List.mapM (fun f => Option.map (fun (i : TypeInfo) => (Field.offset f, i.size)) (Tryd.prog.info? f.type)) _ : Option (List (Nat × Nat))) = some [(0, 97), (97, 1), (98, 1)] by kernel_rfl]
  obtain ⟨T, hT⟩ : ∃ T : List Value, T = [.int .u64 ((0 : Nat) : Int), .int .u32 ((0 : Nat) : Int)] := ⟨_, rfl⟩
  have hz0 : stL zSt = (bdL []).toList ++ T := by rw [hT]; rfl
  have hl : T.length = 2 := by rw [hT]; rfl
  show Instr.fill _ (stL zSt).toArray _ = _
  rw [hz0, fill_one (v := .agg (bdL L)) (o := 0) (n := 97) rfl (bdL_list L) (by rw [List.length_append, bdL_list]; omega)]
  rw [show (Value.agg (bdL L)).cells.toList = (bdL L).toList from rfl, splice_head (by rw [bdL_list, bdL_list])]
  rw [fill_one (v := .agg #[.int .u64 (d : Int)]) (o := 97) (n := 1) rfl rfl (by rw [List.length_append, bdL_list]; omega)]
  rw [show (Value.agg #[.int .u64 (d : Int)]).cells.toList = [.int .u64 (d : Int)] from rfl, show (97 : Nat) = (bdL L).toList.length + 0 by rw [bdL_list], splice_one _ (by omega), hT]
  rfl
theorem stA_built2 (L : List (Int × Nat)) (t : Nat) : Tryd.prog.built 40 [(0, .agg (bdL L)), (2, .int .u32 (t : Int))] = some (stA ⟨L, 0, t⟩) := by
  unfold Program.built
  obtain ⟨i, hi, hz, _⟩ := info_two stZ_info
  rw [hi, Tryd.underlying40]
  simp only []
  rw [hz]
  rw [show (List.mapM (fun f => Option.map (fun (i : TypeInfo) => (Field.offset f, i.size)) (Tryd.prog.info? f.type)) _ : Option (List (Nat × Nat))) = some [(0, 97), (97, 1), (98, 1)] by kernel_rfl]
  obtain ⟨T, hT⟩ : ∃ T : List Value, T = [.int .u64 ((0 : Nat) : Int), .int .u32 ((0 : Nat) : Int)] := ⟨_, rfl⟩
  have hz0 : stL zSt = (bdL []).toList ++ T := by rw [hT]; rfl
  have hl : T.length = 2 := by rw [hT]; rfl
  show Instr.fill _ (stL zSt).toArray _ = _
  rw [hz0, fill_one (v := .agg (bdL L)) (o := 0) (n := 97) rfl (bdL_list L) (by rw [List.length_append, bdL_list]; omega)]
  rw [show (Value.agg (bdL L)).cells.toList = (bdL L).toList from rfl, splice_head (by rw [bdL_list, bdL_list])]
  rw [fill_one (v := .int .u32 (t : Int)) (o := 98) (n := 1) rfl rfl (by rw [List.length_append, bdL_list]; omega)]
  rw [show (Value.int .u32 (t : Int)).cells.toList = [.int .u32 (t : Int)] from rfl, show (98 : Nat) = (bdL L).toList.length + 1 by rw [bdL_list], splice_one _ (by omega), hT]
  rfl
section
variable {ops : Array Oper} {rest : List Oper} {o : Oper} {a : Act} {w : World} {Q : Exit → Act → World → Prop} {s : St}
theorem wpList_alS (hg : o.guard = none) (ho : o.op = .alloc 40) (dst : Option Tmp) (hdst : o.dst = dst) (N : Nat) (hN : w.heap.size = N)
    (h : wpList Tryd.prog ops Q rest (a.put dst (.pointer (some ⟨N, 0, none⟩))) (w.alloc (.cells (stA zSt) 40))) : wpList Tryd.prog ops Q (o :: rest) a w := by
  have hz : (zeroValue 40).run Tryd.prog w = .ok (.agg (stA zSt)) w := by kernel_rfl
  subst hN
  refine Great.wpList_allocTo hg dst hdst _ _ ?_ h
  unfold execOp
  simp only [ho, Instr.alloc, newVar, newRow, run_newObj_alloc, Sem.run_bind, Sem.run_pure, Result.andThen_ok, hz, Value.cells]
theorem wp_stS {K : Act → World → Prop} (x y : Operand) (ho : o.op = .store 40 x y) (g : Nat) (s' : St) (hx : a.eval x = .pointer (some ⟨g, 0, none⟩)) (hy : a.eval y = .agg (stA s')) (q : BoxS w g s)
    (k : K (a.put o.dst undef) (w.setRow g (stA s'))) : o.wp Tryd.prog a w K Q :=
  wp_store_row 40 x y ho g _ hx hy _ _ q (by rw [stA_size]; kernel_rfl) (by rw [stA_size, stA_size]) (stA_all _) k
theorem wpList_stS (hg : o.guard = none) (x y : Operand) (ho : o.op = .store 40 x y) (g : Nat) (s' : St) (hx : a.eval x = .pointer (some ⟨g, 0, none⟩)) (hy : a.eval y = .agg (stA s')) (s : St) (q : BoxS w g s)
    (h : wpList Tryd.prog ops Q rest (a.put o.dst undef) (w.setRow g (stA s'))) : wpList Tryd.prog ops Q (o :: rest) a w :=
  wpList_store_row hg 40 x y ho g _ hx hy _ _ q (by rw [stA_size]; kernel_rfl) (by rw [stA_size, stA_size]) (stA_all _) h
theorem wpList_ldS (hgd : o.guard = none) (x : Operand) (ho : o.op = .load 40 x) (g : Nat) (hx : a.eval x = .pointer (some ⟨g, 0, none⟩)) (h : BoxS w g s)
    (k : wpList Tryd.prog ops Q rest (a.put o.dst (.agg (stA s))) w) : wpList Tryd.prog ops Q (o :: rest) a w :=
  wpList_load_mid hgd _ x ho g 0 hx _ _ h.rangeA Tryd.underlying40 rfl (st_size _) k
theorem yieldsIf_ldS {S : World → Prop} (hw : Region.wanted o (yielded ops a.tmps) = true) (x : Operand) (ho : o.op = .load 40 x) (g : Nat) (hx : a.eval x = .pointer (some ⟨g, 0, none⟩)) (hS : ∀ w, S w → BoxS w g s) : YieldsIf Tryd.prog ops S o (.agg (stA s)) a :=
  yieldsIf_load_mid (P := Tryd.prog) (S := S) hw _ x ho g 0 hx (stL s) _ (fun w h => (hS w h).rangeA) Tryd.underlying40 rfl (st_size _)
theorem yieldsIf_ldSB {S : World → Prop} (hw : Region.wanted o (yielded ops a.tmps) = true) (x : Operand) (ho : o.op = .load 36 x) (g : Nat) (hx : a.eval x = .pointer (some ⟨g, 0, none⟩)) (hS : ∀ w, S w → BoxS w g s) : YieldsIf Tryd.prog ops S o (.agg (bdL s.L)) a := by
  have h := yieldsIf_load_mid (P := Tryd.prog) (S := S) hw _ x ho g 0 hx (bdL s.L).toList _ (fun w h => (hS w h).rangeB) Tryd.underlying36 rfl (bd_sizeL _)
  rw [Array.toArray_toList] at h
  exact h
theorem wp_stSB {K : Act → World → Prop} (x y : Operand) (ho : o.op = .store 36 x y) (g : Nat) (M : List (Int × Nat)) (hx : a.eval x = .pointer (some ⟨g, 0, none⟩)) (hy : a.eval y = .agg (bdL M)) (h : BoxS w g s)
    (k : K (a.put o.dst undef) (w.setCells g 0 (bdL M).toList)) : o.wp Tryd.prog a w K Q :=
  wp_store_mid _ x y ho g 0 (bdL M) hx hy (by rw [bdL_size]; exact h.there) (by rw [bdL_size]; kernel_rfl) (bdL_all M) k
theorem yieldsIf_bdS2 {S : World → Prop} (hw : Region.wanted o (yielded ops a.tmps) = true) (s0 s2 : Operand) (L : List (Int × Nat)) (t : Nat) (ho : o.op = .build 40 #[(0, s0), (2, s2)]) (h0 : a.eval s0 = .agg (bdL L)) (h2 : a.eval s2 = .int .u32 (t : Int)) : YieldsIf Tryd.prog ops S o (.agg (stA ⟨L, 0, t⟩)) a :=
  .inl ⟨hw, fun w _ => by
    have e : Tryd.prog.built 40 ((#[(0, s0), (2, s2)] : Array (Nat × Operand)).map fun (i, x) => (i, a.eval x)).toList = some (stA ⟨L, 0, t⟩) := by
      rw [← stA_built2 L t]
      simp [h0, h2]
    unfold execOp
    simp only [ho, Sem.run_bind, run_build w _ _ _ e, Result.andThen_ok, Sem.run_pure]⟩
theorem wpList_bdS1 (hgd : o.guard = none) (s0 s1 : Operand) (L : List (Int × Nat)) (d : Nat) (ho : o.op = .build 40 #[(0, s0), (1, s1)]) (h0 : a.eval s0 = .agg (bdL L)) (h1 : a.eval s1 = .agg #[.int .u64 (d : Int)])
    (h : wpList Tryd.prog ops Q rest (a.put o.dst (.agg (stA ⟨L, d, 0⟩))) w) : wpList Tryd.prog ops Q (o :: rest) a w := by
  have e : Tryd.prog.built 40 ((#[(0, s0), (1, s1)] : Array (Nat × Operand)).map fun (i, x) => (i, a.eval x)).toList = some (stA ⟨L, d, 0⟩) := by
    rw [← stA_built L d]
    simp [h0, h1]
  exact wpList_build hgd _ _ ho (by rw [e]; rfl) (by rw [e]; exact h)
end
end Go.Proofs.YtnbbglhpjpebhaaDoor
/- What one sees of a state. Conditions: the numbers fit. -/
namespace Go.Proofs.YtnbbglhpjpebhaaDoor
open Go.RowKit

set_option maxHeartbeats 4000000 in
set_option maxRecDepth 20000 in
theorem StView_calls (s : St) (o : Int) (w : World) (hL : s.L.length ≤ 48) (hok : okC s.L) :
    Calls Tryd.prog 14 #[.agg (stA s), .int .i64 o] w fun e w' => e = .returned (.agg (stA ⟨viewL o s.L, 0, s.tk⟩)) ∧ Below w.heap.size w w' := by
  have hb := below_alloc2 w (.cells (stA s) 40) (.cells (stA zSt) 40)
  have q2 := (BoxS.new_ w s).ext (below_alloc1 _ (.cells (stA zSt) 40))
  have q4 := BoxS.new_ (w.alloc (.cells (stA s) 40)) zSt
  have z1 : (w.alloc (.cells (stA s) 40)).heap.size = w.heap.size + 1 := by simp
  rw [z1] at q4
  have hV := fun W => View_calls s.L o W hL hok
  have hz := hb.size
  have hz2 : ((w.alloc (.cells (stA s) 40)).alloc (.cells (stA zSt) 40)).heap.size = w.heap.size + 2 := by simp
  go_enter Tryd.func14, Tryd.ntmps14
  go_wp2_with ((with_reducible refine at_al 40 4 ?_); refine wpList_alS rfl rfl (some 4) rfl (w.heap.size + 1) z1 ?_)
  obtain ⟨wb, hwb⟩ : ∃ wb, wb = (w.alloc (.cells (stA s) 40)).alloc (.cells (stA zSt) 40) := ⟨_, rfl⟩
  rw [← hwb] at hb q2 q4 hz2 ⊢
  obtain ⟨B, hB⟩ : ∃ B, B = w.heap.size := ⟨_, rfl⟩
  rw [← hB] at hb q2 q4 hz2 ⊢
  have HB := Lib.hid hB
  clear hwb hB z1 hz
  try simp only [Act.put, List.setIfInBounds_toArray, List.set_cons_zero, List.set_cons_succ]
  refine wp_region_held_drew (S := fun w' => BoxS w' B s) (by kernel_rfl) ?_ (fun hHeld => ?_)
  · exact q2
  refine wpAnyH_take (i := 0) (by simp only [List.getElem?_toArray]; rfl) (by kernel_rfl) (by kernel_rfl) (by kernel_rfl) (by exact fun _ _ _ h => h) (by exact yk (.pointer (some ⟨B, 0, none⟩)) (by kernel_rfl) (fun _ => by kernel_rfl)) hHeld ?_
  refine wpAnyH_take (i := 1) (by simp only [List.getElem?_toArray]; rfl) (by kernel_rfl) (by kernel_rfl) (by kernel_rfl) (by exact fun _ _ _ h => h) (by exact yieldsIf_ldSB (by kernel_rfl) (.tmp 5) rfl B (by kernel_rfl) (fun _ h => h)) hHeld ?_
  refine wpAnyH_take (i := 2) (by simp only [List.getElem?_toArray]; rfl) (by kernel_rfl) (by kernel_rfl) (by kernel_rfl) (by exact fun _ _ _ h => h) (by exact yk (.int .i64 o) (by kernel_rfl) (fun _ => by kernel_rfl)) hHeld ?_
  refine wpAnyH_take (i := 4) (by simp only [List.getElem?_toArray]; rfl) (by kernel_rfl) (by kernel_rfl) (by kernel_rfl) (by exact fun _ _ _ h => h) (by exact yk (.pointer (some ⟨B, 98, none⟩)) (by kernel_rfl) (fun _ => by kernel_rfl)) hHeld ?_
  refine wpAnyH_take (i := 5) (by simp only [List.getElem?_toArray]; rfl) (by kernel_rfl) (by kernel_rfl) (by kernel_rfl) (by exact fun _ _ _ h => h) (by exact yk_ldW (by kernel_rfl) (.tmp 9) rfl ⟨B, 98, none⟩ (.int .u32 (s.tk : Int)) (by kernel_rfl) (fun _ h => h.cK)) hHeld ?_
  refine wpAnyH_ready (rs := [3]) (by kernel_rfl) (by simp) ?_
  refine AllReadyH.cons (by simp only [List.getElem?_toArray]; rfl) (fun KK hKK => ?_) AllReadyH.nil
  refine wp_callF 33 #[.agg (bdL s.L), .int .i64 o] (by kernel_rfl) ?_
  refine (hV _).mono ?_
  rintro e wa ⟨rfl, ha⟩
  have ha := below_undrew2 ha
  refine ⟨_, rfl, ?_⟩
  have q2 := q2.ext ha
  have q4 := q4.ext ha
  have hb := hb.trans (ha.mono (by have := hb.size; show B ≤ wb.heap.size; omega))
  refine hKK.out _ _ ?_ (fun hHeld => ?_)
  · exact q2
  clear hKK KK
  refine wpAnyH_take (i := 6) (by simp only [List.getElem?_toArray]; rfl) (by kernel_rfl) (by kernel_rfl) (by kernel_rfl) (by exact fun _ _ _ h => h) (by exact yieldsIf_bdS2 (by kernel_rfl) (.tmp 8) (.tmp 10) (viewL o s.L) s.tk rfl (by kernel_rfl) (by kernel_rfl)) hHeld ?_
  try simp only [Act.put, List.setIfInBounds_toArray, List.set_cons_zero, List.set_cons_succ]
  refine wpAnyH_ready (rs := [7]) (by kernel_rfl) (by simp) ?_
  refine AllReadyH.cons (by simp only [List.getElem?_toArray]; rfl) (fun KK hKK => ?_) AllReadyH.nil
  refine wp_stS (.tmp 4) (.tmp 11) rfl (B + 1) ⟨viewL o s.L, 0, s.tk⟩ (by kernel_rfl) (by kernel_rfl) q4 ?_
  have q2 := q2.mod (mod_setRow wa (B + 1) (stA ⟨viewL o s.L, 0, s.tk⟩)) (by show ¬ B = B + 1; omega)
  refine hKK.out _ _ ?_ (fun hHeld => ?_)
  · exact q2
  clear hKK KK
  refine wpAnyH_done (by kernel_rfl) ?_ _
  try simp only [Act.put]
  go_wp2_with fail
  exact bodyPost_ret (results_cell_row (P := Tryd.prog) rfl _ _ (B + 1) _ _ (0, 0) _ rfl (q4.row_ ⟨viewL o s.L, 0, s.tk⟩) Tryd.underlying40 rfl (by rw [stA_size]; kernel_rfl)) rfl ⟨rfl, by rw [← HB.out]; exact below_setRow hb _ _ (by omega)⟩
end Go.Proofs.YtnbbglhpjpebhaaDoor
/- Step. Conditions: the numbers fit; the table lies. -/
namespace Go.Proofs.YtnbbglhpjpebhaaDoor
open Go.RowKit

def otA (t : Nat) (sh : Value) (e : Nat) : Array Value := #[.int .u64 (t : Int), sh, .int .i64 (e : Int)]
def OBox (w : World) (k : Nat) (t : Nat) (sh : Value) (e : Nat) : Prop := w.heap[k]? = some (.cells (otA t sh e) 52 (0, 0))
namespace OBox
variable {w w' : World} {k t e : Nat} {sh : Value}
theorem lt (h : OBox w k t sh e) : k < w.heap.size := (Array.getElem?_eq_some_iff.1 h).1
theorem ext (h : OBox w k t sh e) (hb : Below w.heap.size w w') : OBox w' k t sh e := (hb.block k h.lt).trans h
theorem below {B : Nat} (h : OBox w k t sh e) (hb : Below B w w') (hk : k < B) : OBox w' k t sh e := (hb.block k hk).trans h
theorem mod {S : Nat → Prop} (h : OBox w k t sh e) (hm : Mod S w w') (hs : ¬ S k) : OBox w' k t sh e := (hm.block k h.lt hs).trans h
theorem new_ (w : World) (t : Nat) (sh : Value) (e : Nat) : OBox (w.alloc (.cells (otA t sh e) 52)) w.heap.size t sh e := heap_alloc_new w _
theorem row_ (h : OBox w k t sh e) (t' : Nat) (sh' : Value) (e' : Nat) : OBox (w.setRow k (otA t' sh' e')) k t' sh' e' := setRow_heap w k _ _ _ _ h
end OBox
theorem ot_size (t : Nat) (sh : Value) (e : Nat) : (Tryd.prog.info? 52).map (·.size) = some (otA t sh e).size := by
  rw [show (otA t sh e).size = 3 from rfl]
  kernel_rfl
theorem ot_all (t : Nat) (sh : Value) (e : Nat) (h : sh.oneCell' = true) : (otA t sh e).all (·.oneCell') = true := by
  refine Array.all_eq_true_iff_forall_mem.2 fun v hv => ?_
  simp only [otA, List.mem_toArray, List.mem_cons, List.not_mem_nil, or_false] at hv
  rcases hv with rfl | rfl | rfl
  · rfl
  · exact h
  · rfl
section
variable {ops : Array Oper} {rest : List Oper} {o : Oper} {a : Act} {w : World} {Q : Exit → Act → World → Prop}
theorem wp_stO {K : Act → World → Prop} (x y : Operand) (ho : o.op = .store 52 x y) (g : Nat) (t' : Nat) (sh' : Value) (e' : Nat) (hx : a.eval x = .pointer (some ⟨g, 0, none⟩)) (hy : a.eval y = .agg (otA t' sh' e')) (h1 : sh'.oneCell' = true) {t e : Nat} {sh : Value} (q : OBox w g t sh e)
    (k : K (a.put o.dst undef) (w.setRow g (otA t' sh' e'))) : o.wp Tryd.prog a w K Q :=
  wp_store_row 52 x y ho g _ hx hy _ _ q (ot_size _ _ _) rfl (ot_all _ _ _ h1) k
theorem wpList_stO (hg : o.guard = none) (x y : Operand) (ho : o.op = .store 52 x y) (g : Nat) (t' : Nat) (sh' : Value) (e' : Nat) (hx : a.eval x = .pointer (some ⟨g, 0, none⟩)) (hy : a.eval y = .agg (otA t' sh' e')) (h1 : sh'.oneCell' = true) {t e : Nat} {sh : Value} (q : OBox w g t sh e)
    (h : wpList Tryd.prog ops Q rest (a.put o.dst undef) (w.setRow g (otA t' sh' e'))) : wpList Tryd.prog ops Q (o :: rest) a w :=
  wpList_store_row hg 52 x y ho g _ hx hy _ _ q (ot_size _ _ _) rfl (ot_all _ _ _ h1) h
theorem wp_alR {K : Act → World → Prop} (ho : o.op = .alloc 87) (h : K (a.put o.dst (.pointer (some ⟨w.heap.size, 0, none⟩))) (w.alloc (.cells (resA (.slice none 0 0) zS) 87))) : o.wp Tryd.prog a w K Q := by
  have hz : (zeroValue 87).run Tryd.prog w = .ok (.agg (resA (.slice none 0 0) zS)) w := by kernel_rfl
  unfold Oper.wp execOp
  simp only [ho, Instr.alloc, newVar, newRow, run_newObj_alloc, Sem.run_bind, Sem.run_pure, Result.andThen_ok, hz, Value.cells]
  exact h
end
set_option maxHeartbeats 8000000 in
set_option maxRecDepth 20000 in
theorem Step_bad (g : Gm) (s : Gs) (st : St) (M : List Nat) (MA : Option Addr) (mc mb : Nat) (w : World) (hin : GIn w g s) (hok : GOk g s) (hT : CTab w) (hM : Sl w mb MA (ms M)) (hr : rightB g = false) :
    Calls Tryd.prog 17 #[.agg (gmA g s), .agg (stA st), .slice MA M.length mc] w fun e w' => e = .returned (.tuple #[.agg (stA st), .agg #[.int .u64 0, .slice none 0 0, .int .i64 2]]) ∧ Below w.heap.size w w' := by
  have z1 : (w.alloc (.cells (gmA g s) 26)).heap.size = w.heap.size + 1 := by simp
  have z2 : ((w.alloc (.cells (gmA g s) 26)).alloc (.cells (stA st) 40)).heap.size = w.heap.size + 2 := by simp
  have z3 : (((w.alloc (.cells (gmA g s) 26)).alloc (.cells (stA st) 40)).alloc (.cells (stA zSt) 40)).heap.size = w.heap.size + 3 := by simp
  have z4 : ((((w.alloc (.cells (gmA g s) 26)).alloc (.cells (stA st) 40)).alloc (.cells (stA zSt) 40)).alloc (.cells (otA 0 (.slice none 0 0) 0) 52)).heap.size = w.heap.size + 4 := by simp
  have hb := below_alloc3 w (.cells (gmA g s) 26) (.cells (stA st) 40) (.cells (stA zSt) 40)
  have hb := hb.alloc hb.size (.cells (otA 0 (.slice none 0 0) 0) 52)
  have h2 := below_alloc3 (w.alloc (.cells (gmA g s) 26)) (.cells (stA st) 40) (.cells (stA zSt) 40) (.cells (otA 0 (.slice none 0 0) 0) 52)
  have h3 := below_alloc2 ((w.alloc (.cells (gmA g s) 26)).alloc (.cells (stA st) 40)) (.cells (stA zSt) 40) (.cells (otA 0 (.slice none 0 0) 0) 52)
  have h4 := below_alloc1 (((w.alloc (.cells (gmA g s) 26)).alloc (.cells (stA st) 40)).alloc (.cells (stA zSt) 40)) (.cells (otA 0 (.slice none 0 0) 0) 52)
  have q3 := (GBox.new_ w g s).ext h2
  have q4 := (BoxS.new_ (w.alloc (.cells (gmA g s) 26)) st).ext h3
  have q6 := (BoxS.new_ ((w.alloc (.cells (gmA g s) 26)).alloc (.cells (stA st) 40)) zSt).ext h4
  have q7 := OBox.new_ (((w.alloc (.cells (gmA g s) 26)).alloc (.cells (stA st) 40)).alloc (.cells (stA zSt) 40)) 0 (.slice none 0 0) 0
  rw [z1] at q4
  rw [z2] at q6
  rw [z3] at q7
  have hin := hin.ext hb
  have hT := hT.ext hb
  have hM := Sl.ext hM hb
  clear h2 h3 h4
  go_enter Tryd.func17, Tryd.ntmps17
  go_wp2_with ((with_reducible refine at_al 40 6 ?_); refine wpList_alS rfl rfl (some 6) rfl (w.heap.size + 2) z2 ?_)
  obtain ⟨wb, hwb⟩ : ∃ wb, wb = ((((w.alloc (.cells (gmA g s) 26)).alloc (.cells (stA st) 40)).alloc (.cells (stA zSt) 40)).alloc (.cells (otA 0 (.slice none 0 0) 0) 52)) := ⟨_, rfl⟩
  have hwb' := hwb
  rw [show (otA 0 (.slice none 0 0) 0) = #[.int .u64 0, .slice none 0 0, .int .i64 0] from rfl] at hwb'
  rw [← hwb] at hb q3 q4 q6 q7 z4 hin hT hM
  rw [← hwb']
  obtain ⟨B, hB⟩ : ∃ B, B = w.heap.size := ⟨_, rfl⟩
  have HB := Lib.hid hB
  rw [← hB] at hb q3 q4 q6 q7 z4
  rw [← hB]
  clear hwb hwb' z1 z2 z3 hB
  refine (GRight_calls g s wb hin hok hT).mono ?_
  rintro e wa ⟨rfl, ha⟩
  rw [hr]
  have hin := hin.ext ha
  have hT := hT.ext ha
  have hM := Sl.ext hM ha
  have q3 := q3.ext ha
  have q4 := q4.ext ha
  have q6 := q6.ext ha
  have q7 := q7.ext ha
  have hb := hb.trans (ha.mono (by rw [z4]; omega))
  have hza : B + 4 ≤ wa.heap.size := by have := ha.size; omega
  clear ha z4
  go_wp2_with (first | ((with_reducible refine at_ld 40 4 ?_); refine wpList_ldS rfl (.tmp 4) rfl (B + 1) rfl q4 ?_) | ((with_reducible refine at_st 40 6 12 ?_); refine wpList_stS rfl (.tmp 6) (.tmp 12) rfl (B + 2) st rfl rfl zSt q6 ?_) | ((with_reducible refine at_st 52 7 13 ?_); refine wpList_stO rfl (.tmp 7) (.tmp 13) rfl (B + 3) 0 (.slice none 0 0) 2 rfl rfl rfl (q7.mod (mod_setRow wa (B + 2) (stA st)) (by show ¬ B + 3 = B + 2; omega)) ?_))
  have e6 := (q6.row_ st).mod (mod_setRow _ (B + 3) (otA 0 (.slice none 0 0) 2)) (by show ¬ B + 2 = B + 3; omega)
  have e7 := (q7.mod (mod_setRow wa (B + 2) (stA st)) (by show ¬ B + 3 = B + 2; omega)).row_ 0 (.slice none 0 0) 2

  refine bodyPost_ret (results_cc (P := Tryd.prog) rfl _ _ (B + 2) (B + 3) _ _ _ _ (0, 0) (0, 0) _ _ rfl e6 Tryd.underlying40 rfl (by rw [stA_size]; kernel_rfl) rfl e7 Tryd.underlying52 rfl (ot_size _ _ _)) rfl ⟨rfl, ?_⟩
  rw [← HB.out]
  exact below_setRow (below_setRow hb _ _ (by omega)) _ _ (by omega)
theorem yk_ldK {ops : Array Oper} {S : World → Prop} {op : Oper} {a : Act} (hw : Region.wanted op (yielded ops a.tmps) = true) (x : Operand) (ho : op.op = .load 24 x) (p : Addr) (v : Value) (hx : a.eval x = .pointer (some p)) (hS : ∀ w, S w → w.cell? p = some v) : YieldsIf Tryd.prog ops S op v a :=
  .inl ⟨hw, fun w h => by
    have hc := hS w h
    unfold execOp
    simp only [ho, hx]
    go_simp⟩
theorem yk_ldD {ops : Array Oper} {S : World → Prop} {op : Oper} {a : Act} (hw : Region.wanted op (yielded ops a.tmps) = true) (x : Operand) (ho : op.op = .load 38 x) (p : Addr) (v : Value) (hx : a.eval x = .pointer (some p)) (hS : ∀ w, S w → w.cell? p = some v) : YieldsIf Tryd.prog ops S op (.agg #[v]) a :=
  .inl ⟨hw, fun w h => by
    have hc := hS w h
    unfold execOp
    simp only [ho, hx]
    go_simp⟩
theorem rows_ext {w w' : World} {B : Nat} {v : Value} {l : List (Nat × Nat × Int)} (h : RowS w B v l) (hb : Below w.heap.size w w') : RowS w' B v l := owns_mod h (Mod.of_below hb) fun k hk => by have := (World.ownsRow.lt h k hk).2; omega
theorem right_parts {g : Gm} (h : rightB g = true) : (1 ≤ g.ob ∧ g.ob ≤ 32) ∧ (1 ≤ g.pl ∧ g.pl ≤ 6 ∧ g.pl ≤ g.ob) ∧ g.df < g.mv ∧ rcB g = true ∧ (checkV g.K (g.L.length : Int) g.pl).2 = true := by
  unfold rightB at h
  simp only [Bool.and_eq_true, decide_eq_true_eq] at h
  obtain ⟨h1, h2, h3, h4, h5, h6, h7⟩ := h
  exact ⟨⟨h1, h2⟩, ⟨h3, by omega, by omega⟩, h5, h6, h7⟩
abbrev stepP (g : Gm) (st : St) (M : List Nat) : VP := ⟨g.K, cntL g M, (st.tk + 1) % 4294967296, allN g.ob⟩
set_option maxHeartbeats 16000000 in
set_option maxRecDepth 20000 in
theorem Step_good (g : Gm) (s : Gs) (st : St) (M : List Nat) (MA : Option Addr) (mc mb : Nat) (w : World) (hin : GIn w g s) (hok : GOk g s) (hT : CTab w) (hM : Sl w mb MA (ms M)) (hr : rightB g = true) (hfM : ∀ x ∈ M, x ≤ 4294967295) (hlM : M.length ≤ maxLen) (hL : st.L.length ≤ 48) (oL : okC st.L) (_htk : st.tk ≤ 4294967295) {F : VS} (hF : F = wholeV compN (stepP g st M) st.L st.d) :
    Calls Tryd.prog 17 #[.agg (gmA g s), .agg (stA st), .slice MA M.length mc] w fun e w' => ∃ sh, e = .returned (.tuple #[.agg (stA ⟨F.L, F.d, (st.tk + 1) % 4294967296⟩), .agg (otA F.t sh F.e)]) ∧ RowS w' w.heap.size sh F.sh ∧ Below w.heap.size w w' := by
  have hin0 := hin
  have hT0 := hT
  have hM0 := hM
  have hp := right_parts hr
  have z1 : (w.alloc (.cells (gmA g s) 26)).heap.size = w.heap.size + 1 := by simp
  have z2 : ((w.alloc (.cells (gmA g s) 26)).alloc (.cells (stA st) 40)).heap.size = w.heap.size + 2 := by simp
  have z3 : (((w.alloc (.cells (gmA g s) 26)).alloc (.cells (stA st) 40)).alloc (.cells (stA zSt) 40)).heap.size = w.heap.size + 3 := by simp
  have z4 : ((((w.alloc (.cells (gmA g s) 26)).alloc (.cells (stA st) 40)).alloc (.cells (stA zSt) 40)).alloc (.cells (otA 0 (.slice none 0 0) 0) 52)).heap.size = w.heap.size + 4 := by simp
  have hb := below_alloc3 w (.cells (gmA g s) 26) (.cells (stA st) 40) (.cells (stA zSt) 40)
  have hb := hb.alloc hb.size (.cells (otA 0 (.slice none 0 0) 0) 52)
  have h2 := below_alloc3 (w.alloc (.cells (gmA g s) 26)) (.cells (stA st) 40) (.cells (stA zSt) 40) (.cells (otA 0 (.slice none 0 0) 0) 52)
  have h3 := below_alloc2 ((w.alloc (.cells (gmA g s) 26)).alloc (.cells (stA st) 40)) (.cells (stA zSt) 40) (.cells (otA 0 (.slice none 0 0) 0) 52)
  have h4 := below_alloc1 (((w.alloc (.cells (gmA g s) 26)).alloc (.cells (stA st) 40)).alloc (.cells (stA zSt) 40)) (.cells (otA 0 (.slice none 0 0) 0) 52)
  have q3 := (GBox.new_ w g s).ext h2
  have q4 := (BoxS.new_ (w.alloc (.cells (gmA g s) 26)) st).ext h3
  have q6 := (BoxS.new_ ((w.alloc (.cells (gmA g s) 26)).alloc (.cells (stA st) 40)) zSt).ext h4
  have q7 := OBox.new_ (((w.alloc (.cells (gmA g s) 26)).alloc (.cells (stA st) 40)).alloc (.cells (stA zSt) 40)) 0 (.slice none 0 0) 0
  rw [z1] at q4
  rw [z2] at q6
  rw [z3] at q7
  have hin := hin.ext hb
  have hT := hT.ext hb
  have hM := Sl.ext hM hb
  clear h2 h3 h4
  go_enter Tryd.func17, Tryd.ntmps17
  go_wp2_with ((with_reducible refine at_al 40 6 ?_); refine wpList_alS rfl rfl (some 6) rfl (w.heap.size + 2) z2 ?_)
  obtain ⟨wb, hwb⟩ : ∃ wb, wb = ((((w.alloc (.cells (gmA g s) 26)).alloc (.cells (stA st) 40)).alloc (.cells (stA zSt) 40)).alloc (.cells (otA 0 (.slice none 0 0) 0) 52)) := ⟨_, rfl⟩
  have hwb' := hwb
  rw [show (otA 0 (.slice none 0 0) 0) = #[.int .u64 0, .slice none 0 0, .int .i64 0] from rfl] at hwb'
  rw [← hwb] at hb q3 q4 q6 q7 z4 hin hT hM
  rw [← hwb']
  obtain ⟨B, hB⟩ : ∃ B, B = w.heap.size := ⟨_, rfl⟩
  have HB := Lib.hid hB
  rw [← hB] at hb q3 q4 q6 q7 z4
  rw [← hB]
  clear hwb hwb' z1 z2 z3 hB
  refine (GRight_calls g s wb hin hok hT).mono ?_
  rintro e wa ⟨rfl, ha⟩
  rw [hr]
  have hin := hin.ext ha
  have hT := hT.ext ha
  have hM := Sl.ext hM ha
  have q3 := q3.ext ha
  have q4 := q4.ext ha
  have q6 := q6.ext ha
  have q7 := q7.ext ha
  have hb := hb.trans (ha.mono (by rw [z4]; omega))
  have hza : B + 4 ≤ wa.heap.size := by have := ha.size; omega
  clear ha z4
  have hin0 := Lib.hid hin0
  have hT0 := Lib.hid hT0
  have hM0 := Lib.hid hM0
  obtain ⟨T1, hT1⟩ : ∃ T1, T1 = (st.tk + 1) % 4294967296 := ⟨_, rfl⟩
  have HT1 := Lib.hid hT1
  have ew : IntKind.u32.wrap ((st.tk : Int) + 1) = (T1 : Int) := by rw [IntKind.wrap_u32, hT1]; omega
  have ew2 : ((st.tk : Int) + 1) % 4294967296 = (T1 : Int) := by rw [hT1]; omega
  have cK := q4.cK
  have fK := q4.free 98
  have hne7 : iv (cntL g M) ≠ [] := by intro h; have h5 := congrArg List.length h; rw [iv_length, cntL_len, List.length_nil] at h5; have := hp.2.1; omega
  have hal32 := allN_lt g.ob
  obtain ⟨al, hal⟩ : ∃ al, al = allN g.ob := ⟨_, rfl⟩
  replace hF : F = wholeV compN ⟨g.K, cntL g M, T1, al⟩ st.L st.d := by rw [hF, hT1, hal]
  rw [← hal] at hal32
  have HAL := Lib.hid hal
  have HF := Lib.hid hF
  have HNE := Lib.hid hne7
  have HP := Lib.hid hp
  clear hT1 hal hF hne7 hp hr hin hT hM
  go_upto_region 4 with fail
  have q4 := q4.sK T1
  have q3 := q3.below ((Below.refl (B + 1) wa).setCell (p := ⟨B + 1, 98, none⟩) (by simp) (.int .u32 (T1 : Int))) (by omega)
  have q6 := q6.mod (Mod.setCell wa ⟨B + 1, 98, none⟩ (.int .u32 (T1 : Int))) (by show ¬ B + 2 = B + 1; omega)
  have q7 := q7.mod (Mod.setCell wa ⟨B + 1, 98, none⟩ (.int .u32 (T1 : Int))) (by show ¬ B + 3 = B + 1; omega)
  have hb := hb.setCell (p := ⟨B + 1, 98, none⟩) (by show B ≤ B + 1; omega) (.int .u32 (T1 : Int))
  obtain ⟨wc, hwc⟩ : ∃ wc, wc = wa.setCell ⟨B + 1, 98, none⟩ (.int .u32 (T1 : Int)) := ⟨_, rfl⟩
  have hzc : B + 4 ≤ wc.heap.size := by rw [hwc]; simpa using hza
  rw [← hwc] at q3 q4 q6 q7 hb ⊢
  clear hwc cK fK hza ew ew2
  have hbw : Below w.heap.size w wc := by rw [← HB.out]; exact hb
  have hin1 := hin0.out.ext hbw
  have hT1 := hT0.out.ext hbw
  have hM1 := Sl.ext hM0.out hbw
  obtain ⟨bc, hbc, hsk⟩ : ∃ bc, bc < wc.heap.size ∧ Sl wc bc s.A' (kv g.K) := by
    by_cases h0 : g.K = []
    · exact ⟨B, by omega, by rw [h0]; exact Sl.nil_ _ _ _⟩
    · exact ⟨s.b', Sl.lt hin1.sk (by intro h; have h5 := congrArg List.length h; rw [kv_length, List.length_nil] at h5; exact h0 (List.eq_nil_of_length_eq_zero (by omega))), hin1.sk⟩
  have hCt : ∀ W, Below wc.heap.size wc W → Calls Tryd.prog 36 #[.agg (gmA g s), .slice MA M.length mc] W fun e w' => ∃ v, e = .returned v ∧ Row32 w' W.heap.size v (cntL g M) ∧ Below W.heap.size W w' := fun W h => Counted_calls g s M MA mc mb W HP.out.2.1.1 HP.out.2.1.2.1 (Sl.ext hM1 h) hfM hlM hok.m1
  have hA := fun W => AllG_calls g s W
  rw [← HAL.out] at hA
  have hRn : ∀ W (A7 : Option Addr) (c7 b7 : Nat), Below wc.heap.size wc W → Is W b7 A7 (cntL g M) → b7 < W.heap.size → Calls Tryd.prog 35 #[.slice s.A' g.K.length s.c', .agg (bdL st.L), .agg #[.int .u64 (st.d : Int)], .slice A7 (cntL g M).length c7, .int .u32 (T1 : Int), .int .u32 (al : Int)] W fun e w' => ∃ sh, e = .returned (.agg (resA sh F)) ∧ RowS w' W.heap.size sh F.sh ∧ Below W.heap.size W w' := by
    intro W A7 c7 b7 hW hs7 hl7
    rw [HF.out]
    exact Run_calls compN comp_ok comp_fit ⟨g.K, cntL g M, T1, al⟩ s.A' s.c' bc A7 c7 b7 st.L st.d W ⟨Sl.ext hsk hW, hs7, hok.oK, by have := hok.lK; simp only [maxLen]; show g.K.length ≤ _; omega, by show (cntL g M).length ≤ 100; rw [cntL_len]; have := HP.out.2.1.2.1; omega, cntL_fit g M, hL, oL, hal32, hT1.ext hW, Nat.lt_of_lt_of_le hbc hW.size, hl7⟩
  have hne7 := HNE.out
  have HM := Lib.hid hM1
  clear hin1 hT1 hM1 hbw
  go_cut [8] (fun p w9 => ∃ (K8 : Nat) (sh : Value) (wz : World), wz = w9 ∧ p = .pointer (some ⟨K8, 0, none⟩) ∧ BoxR wz K8 sh F ∧ RowS wz B sh F.sh ∧ (∀ k, sh.ownBlock = some k → wc.heap.size ≤ k) ∧ wc.heap.size ≤ K8 ∧ Below wc.heap.size wc wz)
  case first =>
    go_wp2_with fail
    refine wp_region_held_drew (S := fun w' => Below wc.heap.size wc w') (by kernel_rfl) ?_ (fun hHeld => ?_)
    · exact below_drew (Below.refl _ _)
    obtain ⟨wd0, hwd0⟩ : ∃ wd0, wd0 = World.drew wc := ⟨_, rfl⟩
    have hbx : Below wc.heap.size wc wd0 := by rw [hwd0]; exact below_drew (Below.refl _ _)
    rw [← hwd0] at hHeld ⊢
    clear hwd0
    refine wpAnyH_take (i := 0) (by simp only [List.getElem?_toArray]; rfl) (by kernel_rfl) (by kernel_rfl) (by kernel_rfl) (by exact fun _ _ _ h => h) (by exact yk (.pointer (some ⟨B, 5, none⟩)) (by kernel_rfl) (fun _ => by kernel_rfl)) hHeld ?_
    refine wpAnyH_take (i := 1) (by simp only [List.getElem?_toArray]; rfl) (by kernel_rfl) (by kernel_rfl) (by kernel_rfl) (by exact fun _ _ _ h => h) (by exact yk_ldK (by kernel_rfl) (.tmp 18) rfl ⟨B, 5, none⟩ (.slice s.A' g.K.length s.c') (by kernel_rfl) (fun w h => (q3.ext h).c5)) hHeld ?_
    refine wpAnyH_take (i := 2) (by simp only [List.getElem?_toArray]; rfl) (by kernel_rfl) (by kernel_rfl) (by kernel_rfl) (by exact fun _ _ _ h => h) (by exact yk (.pointer (some ⟨B + 1, 0, none⟩)) (by kernel_rfl) (fun _ => by kernel_rfl)) hHeld ?_
    refine wpAnyH_take (i := 3) (by simp only [List.getElem?_toArray]; rfl) (by kernel_rfl) (by kernel_rfl) (by kernel_rfl) (by exact fun _ _ _ h => h) (by exact yieldsIf_ldSB (by kernel_rfl) (.tmp 20) rfl (B + 1) (by kernel_rfl) (fun _ h => q4.ext h)) hHeld ?_
    refine wpAnyH_take (i := 4) (by simp only [List.getElem?_toArray]; rfl) (by kernel_rfl) (by kernel_rfl) (by kernel_rfl) (by exact fun _ _ _ h => h) (by exact yk (.pointer (some ⟨B + 1, 97, none⟩)) (by kernel_rfl) (fun _ => by kernel_rfl)) hHeld ?_
    refine wpAnyH_take (i := 5) (by simp only [List.getElem?_toArray]; rfl) (by kernel_rfl) (by kernel_rfl) (by kernel_rfl) (by exact fun _ _ _ h => h) (by exact yk_ldD (by kernel_rfl) (.tmp 22) rfl ⟨B + 1, 97, none⟩ (.int .u64 (st.d : Int)) (by kernel_rfl) (fun w h => (q4.ext h).cD)) hHeld ?_
    refine wpAnyH_take (i := 6) (by simp only [List.getElem?_toArray]; rfl) (by kernel_rfl) (by kernel_rfl) (by kernel_rfl) (by exact fun _ _ _ h => h) (by exact yk_ldG (by kernel_rfl) (.tmp 3) rfl B g s (by kernel_rfl) (fun w h => q3.ext h)) hHeld ?_
    refine wpAnyH_take (i := 7) (by simp only [List.getElem?_toArray]; rfl) (by kernel_rfl) (by kernel_rfl) (by kernel_rfl) (by exact fun _ _ _ h => h) (by exact yk (.slice MA M.length mc) (by kernel_rfl) (fun _ => by kernel_rfl)) hHeld ?_
    refine wpAnyH_take (i := 9) (by simp only [List.getElem?_toArray]; rfl) (by kernel_rfl) (by kernel_rfl) (by kernel_rfl) (by exact fun _ _ _ h => h) (by exact yk (.pointer (some ⟨B + 1, 98, none⟩)) (by kernel_rfl) (fun _ => by kernel_rfl)) hHeld ?_
    refine wpAnyH_take (i := 10) (by simp only [List.getElem?_toArray]; rfl) (by kernel_rfl) (by kernel_rfl) (by kernel_rfl) (by exact fun _ _ _ h => h) (by exact yk_ldW (by kernel_rfl) (.tmp 27) rfl ⟨B + 1, 98, none⟩ (.int .u32 (T1 : Int)) (by kernel_rfl) (fun _ h => (q4.ext h).cK)) hHeld ?_
    refine wpAnyH_take (i := 11) (by simp only [List.getElem?_toArray]; rfl) (by kernel_rfl) (by kernel_rfl) (by kernel_rfl) (by exact fun _ _ _ h => h) (by exact yk_ldG (by kernel_rfl) (.tmp 3) rfl B g s (by kernel_rfl) (fun w h => q3.ext h)) hHeld ?_
    refine wpAnyH_ready (rs := [8, 14]) (by kernel_rfl) (by simp) ?_
    refine AllReadyH.cons (by simp only [List.getElem?_toArray]; rfl) (fun KK hKK => ?_) (AllReadyH.cons (by simp only [List.getElem?_toArray]; rfl) (fun KK hKK => ?_) AllReadyH.nil)
    · skip
      refine wp_callF 36 #[.agg (gmA g s), .slice MA M.length mc] (by kernel_rfl) ?_
      refine (hCt wd0 hbx).mono ?_
      rintro e wn1 ⟨v7, rfl, hv7, hn1⟩
      refine ⟨_, rfl, ?_⟩
      replace hbx := hbx.trans (hn1.mono hbx.size)
      clear hn1
      obtain ⟨A7, c7, b7, rfl, hc7, -, hsl7⟩ := own_sl hv7
      have hlt7 : b7 < wn1.heap.size := Sl.lt hsl7 (hne7)
      clear hv7
      refine hKK.out _ _ ?_ (fun hHeld => ?_)
      · exact hbx
      clear hKK KK
      refine wpAnyH_ready (rs := [12, 14]) (by kernel_rfl) (by simp) ?_
      refine AllReadyH.cons (by simp only [List.getElem?_toArray]; rfl) (fun KK hKK => ?_) (AllReadyH.cons (by simp only [List.getElem?_toArray]; rfl) (fun KK hKK => ?_) AllReadyH.nil)
      · skip
        refine wp_callF 37 #[.agg (gmA g s)] (by kernel_rfl) ?_
        refine (hA wn1).mono ?_
        rintro e wn2 ⟨rfl, hn2⟩
        refine ⟨_, rfl, ?_⟩
        replace hsl7 := Sl.ext hsl7 hn2
        replace hlt7 := Nat.lt_of_lt_of_le hlt7 hn2.size
        replace hbx := hbx.trans (hn2.mono hbx.size)
        clear hn2
        refine hKK.out _ _ ?_ (fun hHeld => ?_)
        · exact hbx
        clear hKK KK
        refine wpAnyH_ready (rs := [13, 14]) (by kernel_rfl) (by simp) ?_
        refine AllReadyH.cons (by simp only [List.getElem?_toArray]; rfl) (fun KK hKK => ?_) (AllReadyH.cons (by simp only [List.getElem?_toArray]; rfl) (fun KK hKK => ?_) AllReadyH.nil)
        · skip
          refine wp_callF 35 #[.slice s.A' g.K.length s.c', .agg (bdL st.L), .agg #[.int .u64 (st.d : Int)], .slice A7 (cntL g M).length c7, .int .u32 (T1 : Int), .int .u32 (al : Int)] (by kernel_rfl) ?_
          refine (hRn wn2 A7 c7 b7 hbx hsl7 hlt7).mono ?_
          rintro e wn3 ⟨sh, rfl, hSh, hn3⟩
          refine ⟨_, rfl, ?_⟩
          have hown : ∀ k, sh.ownBlock = some k → wc.heap.size ≤ k := fun k hk => by have := (World.ownsRow.lt hSh k hk).1; have := hbx.size; omega
          replace hSh := owns_low hSh (show B ≤ wn2.heap.size by have := hbx.size; omega)
          replace hsl7 := Sl.ext hsl7 hn3
          replace hlt7 := Nat.lt_of_lt_of_le hlt7 hn3.size
          replace hbx := hbx.trans (hn3.mono hbx.size)
          clear hn3
          refine hKK.out _ _ ?_ (fun hHeld => ?_)
          · exact hbx
          clear hKK KK
          refine wpAnyH_ready (rs := [14]) (by kernel_rfl) (by simp) ?_
          refine AllReadyH.cons (by simp only [List.getElem?_toArray]; rfl) (fun KK hKK => ?_) AllReadyH.nil
          refine wp_alR rfl ?_
          obtain ⟨wn4, hw_⟩ : ∃ wn4, wn4 = wn3.alloc (.cells (resA (.slice none 0 0) zS) 87) := ⟨_, rfl⟩
          have hn4 : Below wn3.heap.size wn3 wn4 := by rw [hw_]; exact below_alloc1 _ _
          have r8 : BoxR wn4 wn3.heap.size (.slice none 0 0) zS := by rw [hw_]; exact BoxR.new_ _ _ _
          rw [← hw_]
          clear hw_
          have hneq : ∀ k, sh.ownBlock = some k → k ≠ wn3.heap.size := fun k hk => by have := (World.ownsRow.lt hSh k hk).2; omega
          have hb8 : wc.heap.size ≤ wn3.heap.size := hbx.size
          obtain ⟨K8, hK8⟩ : ∃ K8, K8 = wn3.heap.size := ⟨_, rfl⟩
          rw [← hK8] at r8 hb8 hneq ⊢
          have hk8 := r8.lt
          clear hK8
          replace hsl7 := Sl.ext hsl7 hn4
          replace hlt7 := Nat.lt_of_lt_of_le hlt7 hn4.size
          replace hSh := rows_ext hSh hn4
          replace hbx := hbx.trans (hn4.mono hbx.size)
          clear hn4
          refine hKK.out _ _ ?_ (fun hHeld => ?_)
          · exact hbx
          clear hKK KK
          try simp only [Act.put, List.setIfInBounds_toArray, List.set_cons_zero, List.set_cons_succ]
          refine wpAnyH_ready (rs := [15]) (by kernel_rfl) (by simp) ?_
          refine AllReadyH.cons (by simp only [List.getElem?_toArray]; rfl) (fun KK hKK => ?_) AllReadyH.nil
          refine wp_store_row 87 (.tmp 8) (.tmp 31) rfl K8 (resA sh F) (by kernel_rfl) (by kernel_rfl) _ _ r8 (by rw [resA_size]; kernel_rfl) (by rw [resA_size, resA_size]) (resA_all _ _ (rowS_one hSh)) ?_
          have hSh := owns_mod hSh (mod_setRow wn4 K8 (resA sh F)) (fun k hk h => hneq k hk h)
          have r8 := r8.row_ sh F
          have hbx := hbx.trans ((mod_setRow wn4 K8 (resA sh F)).below hbx.size (fun i hi h => by have h : i = K8 := h; omega))
          refine hKK.out _ _ ?_ (fun hHeld => ?_)
          · exact hbx
          clear hKK KK
          refine wpAnyH_done (by kernel_rfl) ?_ _
          try simp only [Act.put]
          go_wp2_with fail
          go_meet
          exact ⟨K8, sh, _, rfl, rfl, r8, hSh, hown, hb8, hbx⟩
        · skip
          refine wp_alR rfl ?_
          obtain ⟨wn5, hw_⟩ : ∃ wn5, wn5 = wn2.alloc (.cells (resA (.slice none 0 0) zS) 87) := ⟨_, rfl⟩
          have hn5 : Below wn2.heap.size wn2 wn5 := by rw [hw_]; exact below_alloc1 _ _
          have r8 : BoxR wn5 wn2.heap.size (.slice none 0 0) zS := by rw [hw_]; exact BoxR.new_ _ _ _
          rw [← hw_]
          clear hw_
          have hb8 : wc.heap.size ≤ wn2.heap.size := hbx.size
          obtain ⟨K8, hK8⟩ : ∃ K8, K8 = wn2.heap.size := ⟨_, rfl⟩
          rw [← hK8] at r8 hb8 ⊢
          have hk8 := r8.lt
          clear hK8
          replace hsl7 := Sl.ext hsl7 hn5
          replace hlt7 := Nat.lt_of_lt_of_le hlt7 hn5.size
          replace hbx := hbx.trans (hn5.mono hbx.size)
          clear hn5
          refine hKK.out _ _ ?_ (fun hHeld => ?_)
          · exact hbx
          clear hKK KK
          refine wpAnyH_ready (rs := [13]) (by kernel_rfl) (by simp) ?_
          refine AllReadyH.cons (by simp only [List.getElem?_toArray]; rfl) (fun KK hKK => ?_) AllReadyH.nil
          refine wp_callF 35 #[.slice s.A' g.K.length s.c', .agg (bdL st.L), .agg #[.int .u64 (st.d : Int)], .slice A7 (cntL g M).length c7, .int .u32 (T1 : Int), .int .u32 (al : Int)] (by kernel_rfl) ?_
          refine (hRn wn5 A7 c7 b7 hbx hsl7 hlt7).mono ?_
          rintro e wn6 ⟨sh, rfl, hSh, hn6⟩
          refine ⟨_, rfl, ?_⟩
          have hneq : ∀ k, sh.ownBlock = some k → k ≠ K8 := fun k hk => by have := (World.ownsRow.lt hSh k hk).1; omega
          have hown : ∀ k, sh.ownBlock = some k → wc.heap.size ≤ k := fun k hk => by have := (World.ownsRow.lt hSh k hk).1; have := hbx.size; omega
          replace hSh := owns_low hSh (show B ≤ wn5.heap.size by have := hbx.size; omega)
          replace hsl7 := Sl.ext hsl7 hn6
          replace hlt7 := Nat.lt_of_lt_of_le hlt7 hn6.size
          replace r8 := r8.ext hn6
          replace hk8 := Nat.lt_of_lt_of_le hk8 hn6.size
          replace hbx := hbx.trans (hn6.mono hbx.size)
          clear hn6
          refine hKK.out _ _ ?_ (fun hHeld => ?_)
          · exact hbx
          clear hKK KK
          try simp only [Act.put, List.setIfInBounds_toArray, List.set_cons_zero, List.set_cons_succ]
          refine wpAnyH_ready (rs := [15]) (by kernel_rfl) (by simp) ?_
          refine AllReadyH.cons (by simp only [List.getElem?_toArray]; rfl) (fun KK hKK => ?_) AllReadyH.nil
          refine wp_store_row 87 (.tmp 8) (.tmp 31) rfl K8 (resA sh F) (by kernel_rfl) (by kernel_rfl) _ _ r8 (by rw [resA_size]; kernel_rfl) (by rw [resA_size, resA_size]) (resA_all _ _ (rowS_one hSh)) ?_
          have hSh := owns_mod hSh (mod_setRow wn6 K8 (resA sh F)) (fun k hk h => hneq k hk h)
          have r8 := r8.row_ sh F
          have hbx := hbx.trans ((mod_setRow wn6 K8 (resA sh F)).below hbx.size (fun i hi h => by have h : i = K8 := h; omega))
          refine hKK.out _ _ ?_ (fun hHeld => ?_)
          · exact hbx
          clear hKK KK
          refine wpAnyH_done (by kernel_rfl) ?_ _
          try simp only [Act.put]
          go_wp2_with fail
          go_meet
          exact ⟨K8, sh, _, rfl, rfl, r8, hSh, hown, hb8, hbx⟩
      · skip
        refine wp_alR rfl ?_
        obtain ⟨wn7, hw_⟩ : ∃ wn7, wn7 = wn1.alloc (.cells (resA (.slice none 0 0) zS) 87) := ⟨_, rfl⟩
        have hn7 : Below wn1.heap.size wn1 wn7 := by rw [hw_]; exact below_alloc1 _ _
        have r8 : BoxR wn7 wn1.heap.size (.slice none 0 0) zS := by rw [hw_]; exact BoxR.new_ _ _ _
        rw [← hw_]
        clear hw_
        have hb8 : wc.heap.size ≤ wn1.heap.size := hbx.size
        obtain ⟨K8, hK8⟩ : ∃ K8, K8 = wn1.heap.size := ⟨_, rfl⟩
        rw [← hK8] at r8 hb8 ⊢
        have hk8 := r8.lt
        clear hK8
        replace hsl7 := Sl.ext hsl7 hn7
        replace hlt7 := Nat.lt_of_lt_of_le hlt7 hn7.size
        replace hbx := hbx.trans (hn7.mono hbx.size)
        clear hn7
        refine hKK.out _ _ ?_ (fun hHeld => ?_)
        · exact hbx
        clear hKK KK
        refine wpAnyH_ready (rs := [12]) (by kernel_rfl) (by simp) ?_
        refine AllReadyH.cons (by simp only [List.getElem?_toArray]; rfl) (fun KK hKK => ?_) AllReadyH.nil
        refine wp_callF 37 #[.agg (gmA g s)] (by kernel_rfl) ?_
        refine (hA wn7).mono ?_
        rintro e wn8 ⟨rfl, hn8⟩
        refine ⟨_, rfl, ?_⟩
        replace hsl7 := Sl.ext hsl7 hn8
        replace hlt7 := Nat.lt_of_lt_of_le hlt7 hn8.size
        replace r8 := r8.ext hn8
        replace hk8 := Nat.lt_of_lt_of_le hk8 hn8.size
        replace hbx := hbx.trans (hn8.mono hbx.size)
        clear hn8
        refine hKK.out _ _ ?_ (fun hHeld => ?_)
        · exact hbx
        clear hKK KK
        refine wpAnyH_ready (rs := [13]) (by kernel_rfl) (by simp) ?_
        refine AllReadyH.cons (by simp only [List.getElem?_toArray]; rfl) (fun KK hKK => ?_) AllReadyH.nil
        refine wp_callF 35 #[.slice s.A' g.K.length s.c', .agg (bdL st.L), .agg #[.int .u64 (st.d : Int)], .slice A7 (cntL g M).length c7, .int .u32 (T1 : Int), .int .u32 (al : Int)] (by kernel_rfl) ?_
        refine (hRn wn8 A7 c7 b7 hbx hsl7 hlt7).mono ?_
        rintro e wn9 ⟨sh, rfl, hSh, hn9⟩
        refine ⟨_, rfl, ?_⟩
        have hneq : ∀ k, sh.ownBlock = some k → k ≠ K8 := fun k hk => by have := (World.ownsRow.lt hSh k hk).1; omega
        have hown : ∀ k, sh.ownBlock = some k → wc.heap.size ≤ k := fun k hk => by have := (World.ownsRow.lt hSh k hk).1; have := hbx.size; omega
        replace hSh := owns_low hSh (show B ≤ wn8.heap.size by have := hbx.size; omega)
        replace hsl7 := Sl.ext hsl7 hn9
        replace hlt7 := Nat.lt_of_lt_of_le hlt7 hn9.size
        replace r8 := r8.ext hn9
        replace hk8 := Nat.lt_of_lt_of_le hk8 hn9.size
        replace hbx := hbx.trans (hn9.mono hbx.size)
        clear hn9
        refine hKK.out _ _ ?_ (fun hHeld => ?_)
        · exact hbx
        clear hKK KK
        try simp only [Act.put, List.setIfInBounds_toArray, List.set_cons_zero, List.set_cons_succ]
        refine wpAnyH_ready (rs := [15]) (by kernel_rfl) (by simp) ?_
        refine AllReadyH.cons (by simp only [List.getElem?_toArray]; rfl) (fun KK hKK => ?_) AllReadyH.nil
        refine wp_store_row 87 (.tmp 8) (.tmp 31) rfl K8 (resA sh F) (by kernel_rfl) (by kernel_rfl) _ _ r8 (by rw [resA_size]; kernel_rfl) (by rw [resA_size, resA_size]) (resA_all _ _ (rowS_one hSh)) ?_
        have hSh := owns_mod hSh (mod_setRow wn9 K8 (resA sh F)) (fun k hk h => hneq k hk h)
        have r8 := r8.row_ sh F
        have hbx := hbx.trans ((mod_setRow wn9 K8 (resA sh F)).below hbx.size (fun i hi h => by have h : i = K8 := h; omega))
        refine hKK.out _ _ ?_ (fun hHeld => ?_)
        · exact hbx
        clear hKK KK
        refine wpAnyH_done (by kernel_rfl) ?_ _
        try simp only [Act.put]
        go_wp2_with fail
        go_meet
        exact ⟨K8, sh, _, rfl, rfl, r8, hSh, hown, hb8, hbx⟩
    · skip
      refine wp_alR rfl ?_
      obtain ⟨wn10, hw_⟩ : ∃ wn10, wn10 = wd0.alloc (.cells (resA (.slice none 0 0) zS) 87) := ⟨_, rfl⟩
      have hn10 : Below wd0.heap.size wd0 wn10 := by rw [hw_]; exact below_alloc1 _ _
      have r8 : BoxR wn10 wd0.heap.size (.slice none 0 0) zS := by rw [hw_]; exact BoxR.new_ _ _ _
      rw [← hw_]
      clear hw_
      have hb8 : wc.heap.size ≤ wd0.heap.size := hbx.size
      obtain ⟨K8, hK8⟩ : ∃ K8, K8 = wd0.heap.size := ⟨_, rfl⟩
      rw [← hK8] at r8 hb8 ⊢
      have hk8 := r8.lt
      clear hK8
      replace hbx := hbx.trans (hn10.mono hbx.size)
      clear hn10
      refine hKK.out _ _ ?_ (fun hHeld => ?_)
      · exact hbx
      clear hKK KK
      refine wpAnyH_ready (rs := [8]) (by kernel_rfl) (by simp) ?_
      refine AllReadyH.cons (by simp only [List.getElem?_toArray]; rfl) (fun KK hKK => ?_) AllReadyH.nil
      refine wp_callF 36 #[.agg (gmA g s), .slice MA M.length mc] (by kernel_rfl) ?_
      refine (hCt wn10 hbx).mono ?_
      rintro e wn11 ⟨v7, rfl, hv7, hn11⟩
      refine ⟨_, rfl, ?_⟩
      replace r8 := r8.ext hn11
      replace hk8 := Nat.lt_of_lt_of_le hk8 hn11.size
      replace hbx := hbx.trans (hn11.mono hbx.size)
      clear hn11
      obtain ⟨A7, c7, b7, rfl, hc7, -, hsl7⟩ := own_sl hv7
      have hlt7 : b7 < wn11.heap.size := Sl.lt hsl7 (hne7)
      clear hv7
      refine hKK.out _ _ ?_ (fun hHeld => ?_)
      · exact hbx
      clear hKK KK
      refine wpAnyH_ready (rs := [12]) (by kernel_rfl) (by simp) ?_
      refine AllReadyH.cons (by simp only [List.getElem?_toArray]; rfl) (fun KK hKK => ?_) AllReadyH.nil
      refine wp_callF 37 #[.agg (gmA g s)] (by kernel_rfl) ?_
      refine (hA wn11).mono ?_
      rintro e wn12 ⟨rfl, hn12⟩
      refine ⟨_, rfl, ?_⟩
      replace r8 := r8.ext hn12
      replace hk8 := Nat.lt_of_lt_of_le hk8 hn12.size
      replace hsl7 := Sl.ext hsl7 hn12
      replace hlt7 := Nat.lt_of_lt_of_le hlt7 hn12.size
      replace hbx := hbx.trans (hn12.mono hbx.size)
      clear hn12
      refine hKK.out _ _ ?_ (fun hHeld => ?_)
      · exact hbx
      clear hKK KK
      refine wpAnyH_ready (rs := [13]) (by kernel_rfl) (by simp) ?_
      refine AllReadyH.cons (by simp only [List.getElem?_toArray]; rfl) (fun KK hKK => ?_) AllReadyH.nil
      refine wp_callF 35 #[.slice s.A' g.K.length s.c', .agg (bdL st.L), .agg #[.int .u64 (st.d : Int)], .slice A7 (cntL g M).length c7, .int .u32 (T1 : Int), .int .u32 (al : Int)] (by kernel_rfl) ?_
      refine (hRn wn12 A7 c7 b7 hbx hsl7 hlt7).mono ?_
      rintro e wn13 ⟨sh, rfl, hSh, hn13⟩
      refine ⟨_, rfl, ?_⟩
      have hneq : ∀ k, sh.ownBlock = some k → k ≠ K8 := fun k hk => by have := (World.ownsRow.lt hSh k hk).1; omega
      have hown : ∀ k, sh.ownBlock = some k → wc.heap.size ≤ k := fun k hk => by have := (World.ownsRow.lt hSh k hk).1; have := hbx.size; omega
      replace hSh := owns_low hSh (show B ≤ wn12.heap.size by have := hbx.size; omega)
      replace r8 := r8.ext hn13
      replace hk8 := Nat.lt_of_lt_of_le hk8 hn13.size
      replace hsl7 := Sl.ext hsl7 hn13
      replace hlt7 := Nat.lt_of_lt_of_le hlt7 hn13.size
      replace hbx := hbx.trans (hn13.mono hbx.size)
      clear hn13
      refine hKK.out _ _ ?_ (fun hHeld => ?_)
      · exact hbx
      clear hKK KK
      try simp only [Act.put, List.setIfInBounds_toArray, List.set_cons_zero, List.set_cons_succ]
      refine wpAnyH_ready (rs := [15]) (by kernel_rfl) (by simp) ?_
      refine AllReadyH.cons (by simp only [List.getElem?_toArray]; rfl) (fun KK hKK => ?_) AllReadyH.nil
      refine wp_store_row 87 (.tmp 8) (.tmp 31) rfl K8 (resA sh F) (by kernel_rfl) (by kernel_rfl) _ _ r8 (by rw [resA_size]; kernel_rfl) (by rw [resA_size, resA_size]) (resA_all _ _ (rowS_one hSh)) ?_
      have hSh := owns_mod hSh (mod_setRow wn13 K8 (resA sh F)) (fun k hk h => hneq k hk h)
      have r8 := r8.row_ sh F
      have hbx := hbx.trans ((mod_setRow wn13 K8 (resA sh F)).below hbx.size (fun i hi h => by have h : i = K8 := h; omega))
      refine hKK.out _ _ ?_ (fun hHeld => ?_)
      · exact hbx
      clear hKK KK
      refine wpAnyH_done (by kernel_rfl) ?_ _
      try simp only [Act.put]
      go_wp2_with fail
      go_meet
      exact ⟨K8, sh, _, rfl, rfl, r8, hSh, hown, hb8, hbx⟩
  case rest =>
    obtain ⟨K8, sh, wz, rfl, rfl, r8, hSh, hown, hb8, hbx⟩ := hcut
    have q3 := q3.ext hbx
    have q4 := q4.ext hbx
    have q6 := q6.ext hbx
    have q7 := q7.ext hbx
    have hb := hb.trans (hbx.mono (by omega))
    obtain ⟨A8, c8, b8, rfl, hc8, hm8, -⟩ := rowS_sl hSh
    have hz8 : B + 4 ≤ K8 := by omega
    have hown : ∀ k, (Value.slice A8 F.sh.length c8).ownBlock = some k → B + 4 ≤ k := fun k hk => by have := hown k hk; omega
    clear hCt hA hRn hsk hbx hb8 hzc hbc hne7 q3
    have hbz : B + 4 ≤ wz.heap.size := by have := r8.lt; omega
    go_wp2_with fail
    refine wp_region_held_drew (S := fun w' => BoxR w' K8 (.slice A8 F.sh.length c8) F) (by kernel_rfl) ?_ (fun hHeld => ?_)
    · exact r8
    obtain ⟨wd1, hwd⟩ : ∃ wd1, wd1 = World.drew wz := ⟨_, rfl⟩
    have hd : Below wz.heap.size wz wd1 := by rw [hwd]; exact below_drew (Below.refl _ _)
    rw [← hwd] at hHeld ⊢
    have q4 := q4.ext hd
    have q6 := q6.ext hd
    have q7 := q7.ext hd
    have r8 := r8.ext hd
    have hSh := rows_ext hSh hd
    have hb := hb.trans (hd.mono (by omega))
    have hbz := Nat.le_trans hbz hd.size
    clear hwd hd
    refine wpAnyH_take (i := 0) (by simp only [List.getElem?_toArray]; rfl) (by kernel_rfl) (by kernel_rfl) (by kernel_rfl) (by exact fun _ _ _ h => h) (by exact yk (.pointer (some ⟨K8, 0, none⟩)) (by kernel_rfl) (fun _ => by kernel_rfl)) hHeld ?_
    refine wpAnyH_take (i := 1) (by simp only [List.getElem?_toArray]; rfl) (by kernel_rfl) (by kernel_rfl) (by kernel_rfl) (by exact fun _ _ _ h => h) (by exact yieldsIf_ldRB (by kernel_rfl) (.tmp 32) rfl K8 (by kernel_rfl) (fun _ h => h)) hHeld ?_
    refine wpAnyH_take (i := 2) (by simp only [List.getElem?_toArray]; rfl) (by kernel_rfl) (by kernel_rfl) (by kernel_rfl) (by exact fun _ _ _ h => h) (by exact yk (.pointer (some ⟨K8, 97, none⟩)) (by kernel_rfl) (fun _ => by kernel_rfl)) hHeld ?_
    refine wpAnyH_take (i := 3) (by simp only [List.getElem?_toArray]; rfl) (by kernel_rfl) (by kernel_rfl) (by kernel_rfl) (by exact fun _ _ _ h => h) (by exact yk_ldD (by kernel_rfl) (.tmp 34) rfl ⟨K8, 97, none⟩ (.int .u64 (F.d : Int)) (by kernel_rfl) (fun w h => h.cD)) hHeld ?_
    refine wpAnyH_take (i := 4) (by simp only [List.getElem?_toArray]; rfl) (by kernel_rfl) (by kernel_rfl) (by kernel_rfl) (by exact fun _ _ _ h => h) (by exact yk (.pointer (some ⟨B + 1, 0, none⟩)) (by kernel_rfl) (fun _ => by kernel_rfl)) hHeld ?_
    try simp only [Act.put, List.setIfInBounds_toArray, List.set_cons_zero, List.set_cons_succ]
    refine wpAnyH_ready (rs := [5]) (by kernel_rfl) (by simp) ?_
    refine AllReadyH.cons (by simp only [List.getElem?_toArray]; rfl) (fun KK hKK => ?_) AllReadyH.nil
    refine wp_stSB (.tmp 36) (.tmp 33) rfl (B + 1) F.L (by kernel_rfl) (by kernel_rfl) q4 ?_
    obtain ⟨ws1, hws⟩ : ∃ ws1, ws1 = wd1.setCells (B + 1) 0 (bdL F.L).toList := ⟨_, rfl⟩
    have hm := mod_setCells wd1 (B + 1) 0 (bdL F.L).toList
    have q4 := q4.sL F.L
    rw [← hws] at hm q4 ⊢
    clear hws
    have q6 := q6.mod hm (by show ¬ B + 2 = B + 1; omega)
    have q7 := q7.mod hm (by show ¬ B + 3 = B + 1; omega)
    have r8 := r8.mod hm (by show ¬ K8 = B + 1; omega)
    have hSh := owns_mod hSh hm (fun k hk h => by have := hown k hk; have h : k = B + 1 := h; omega)
    have hb := hb.trans (hm.below (by have := hm.size; have := hbz; omega) (fun i hi h => by have h : i = B + 1 := h; omega))
    have hbz := Nat.le_trans hbz hm.size
    clear hm
    refine hKK.out _ _ ?_ (fun hHeld => ?_)
    · exact r8
    clear hKK KK
    refine wpAnyH_take (i := 6) (by simp only [List.getElem?_toArray]; rfl) (by kernel_rfl) (by kernel_rfl) (by kernel_rfl) (by exact fun _ _ _ h => h) (by exact yk (.pointer (some ⟨B + 1, 97, none⟩)) (by kernel_rfl) (fun _ => by kernel_rfl)) hHeld ?_
    try simp only [Act.put, List.setIfInBounds_toArray, List.set_cons_zero, List.set_cons_succ]
    refine wpAnyH_ready (rs := [7]) (by kernel_rfl) (by simp) ?_
    refine AllReadyH.cons (by simp only [List.getElem?_toArray]; rfl) (fun KK hKK => ?_) AllReadyH.nil
    have c9 := q4.cD
    have f9 := q4.free 97
    go_simp
    obtain ⟨ws2, hws⟩ : ∃ ws2, ws2 = ws1.setCell ⟨B + 1, 97, none⟩ (.int .u64 (F.d : Int)) := ⟨_, rfl⟩
    have hm := Mod.setCell ws1 ⟨B + 1, 97, none⟩ (.int .u64 (F.d : Int))
    have q4 := q4.sD F.d
    rw [← hws] at hm q4 ⊢
    clear hws
    have q6 := q6.mod hm (by show ¬ B + 2 = B + 1; omega)
    have q7 := q7.mod hm (by show ¬ B + 3 = B + 1; omega)
    have r8 := r8.mod hm (by show ¬ K8 = B + 1; omega)
    have hSh := owns_mod hSh hm (fun k hk h => by have := hown k hk; have h : k = B + 1 := h; omega)
    have hb := hb.trans (hm.below (by have := hm.size; have := hbz; omega) (fun i hi h => by have h : i = B + 1 := h; omega))
    have hbz := Nat.le_trans hbz hm.size
    clear hm
    clear c9 f9
    refine hKK.out _ _ ?_ (fun hHeld => ?_)
    · exact r8
    clear hKK KK
    refine wpAnyH_done (by kernel_rfl) ?_ _
    try simp only [Act.put]
    go_wp2_with fail
    refine wp_region_held_drew (S := fun w' => BoxS w' (B + 1) ⟨F.L, F.d, T1⟩ ∧ BoxR w' K8 (.slice A8 F.sh.length c8) F) (by kernel_rfl) ?_ (fun hHeld => ?_)
    · exact ⟨q4, r8⟩
    obtain ⟨wd2, hwd⟩ : ∃ wd2, wd2 = World.drew ws2 := ⟨_, rfl⟩
    have hd : Below ws2.heap.size ws2 wd2 := by rw [hwd]; exact below_drew (Below.refl _ _)
    rw [← hwd] at hHeld ⊢
    have q4 := q4.ext hd
    have q6 := q6.ext hd
    have q7 := q7.ext hd
    have r8 := r8.ext hd
    have hSh := rows_ext hSh hd
    have hb := hb.trans (hd.mono (by omega))
    have hbz := Nat.le_trans hbz hd.size
    clear hwd hd
    refine wpAnyH_take (i := 0) (by simp only [List.getElem?_toArray]; rfl) (by kernel_rfl) (by kernel_rfl) (by kernel_rfl) (by exact fun _ _ _ h => h) (by exact yieldsIf_ldS (by kernel_rfl) (.tmp 4) rfl (B + 1) (by kernel_rfl) (fun _ h => h.1)) hHeld ?_
    refine wpAnyH_take (i := 1) (by simp only [List.getElem?_toArray]; rfl) (by kernel_rfl) (by kernel_rfl) (by kernel_rfl) (by exact fun _ _ _ h => h) (by exact yk (.pointer (some ⟨K8, 98, none⟩)) (by kernel_rfl) (fun _ => by kernel_rfl)) hHeld ?_
    refine wpAnyH_take (i := 2) (by simp only [List.getElem?_toArray]; rfl) (by kernel_rfl) (by kernel_rfl) (by kernel_rfl) (by exact fun _ _ _ h => h) (by exact yk_ldU (by kernel_rfl) (.tmp 39) rfl ⟨K8, 98, none⟩ (.int .u64 (F.t : Int)) (by kernel_rfl) (fun w h => h.2.cT)) hHeld ?_
    refine wpAnyH_take (i := 3) (by simp only [List.getElem?_toArray]; rfl) (by kernel_rfl) (by kernel_rfl) (by kernel_rfl) (by exact fun _ _ _ h => h) (by exact yk (.pointer (some ⟨K8, 99, none⟩)) (by kernel_rfl) (fun _ => by kernel_rfl)) hHeld ?_
    refine wpAnyH_take (i := 4) (by simp only [List.getElem?_toArray]; rfl) (by kernel_rfl) (by kernel_rfl) (by kernel_rfl) (by exact fun _ _ _ h => h) (by exact yk_ldS (by kernel_rfl) (.tmp 41) rfl ⟨K8, 99, none⟩ ((.slice A8 F.sh.length c8)) (by kernel_rfl) (fun w h => h.2.cS)) hHeld ?_
    refine wpAnyH_take (i := 5) (by simp only [List.getElem?_toArray]; rfl) (by kernel_rfl) (by kernel_rfl) (by kernel_rfl) (by exact fun _ _ _ h => h) (by exact yk (.pointer (some ⟨K8, 101, none⟩)) (by kernel_rfl) (fun _ => by kernel_rfl)) hHeld ?_
    refine wpAnyH_take (i := 6) (by simp only [List.getElem?_toArray]; rfl) (by kernel_rfl) (by kernel_rfl) (by kernel_rfl) (by exact fun _ _ _ h => h) (by exact yk_ldE (by kernel_rfl) (.tmp 43) rfl ⟨K8, 101, none⟩ (.int .i64 (F.e : Int)) (by kernel_rfl) (fun w h => h.2.cE)) hHeld ?_
    refine wpAnyH_take (i := 7) (by simp only [List.getElem?_toArray]; rfl) (by kernel_rfl) (by kernel_rfl) (by kernel_rfl) (by exact fun _ _ _ h => h) (by exact yk (.agg (otA F.t (.slice A8 F.sh.length c8) F.e)) (by kernel_rfl) (fun _ => by kernel_rfl)) hHeld ?_
    try simp only [Act.put, List.setIfInBounds_toArray, List.set_cons_zero, List.set_cons_succ]
    refine wpAnyH_ready (rs := [8]) (by kernel_rfl) (by simp) ?_
    refine AllReadyH.cons (by simp only [List.getElem?_toArray]; rfl) (fun KK hKK => ?_) AllReadyH.nil
    refine wp_stS (.tmp 6) (.tmp 38) rfl (B + 2) ⟨F.L, F.d, T1⟩ (by kernel_rfl) (by kernel_rfl) q6 ?_
    obtain ⟨ws3, hws⟩ : ∃ ws3, ws3 = wd2.setRow (B + 2) (stA ⟨F.L, F.d, T1⟩) := ⟨_, rfl⟩
    have hm := mod_setRow wd2 (B + 2) (stA ⟨F.L, F.d, T1⟩)
    have q6 := q6.row_ ⟨F.L, F.d, T1⟩
    rw [← hws] at hm q6 ⊢
    clear hws
    have q4 := q4.mod hm (by show ¬ B + 1 = B + 2; omega)
    have q7 := q7.mod hm (by show ¬ B + 3 = B + 2; omega)
    have r8 := r8.mod hm (by show ¬ K8 = B + 2; omega)
    have hSh := owns_mod hSh hm (fun k hk h => by have := hown k hk; have h : k = B + 2 := h; omega)
    have hb := hb.trans (hm.below (by have := hm.size; have := hbz; omega) (fun i hi h => by have h : i = B + 2 := h; omega))
    have hbz := Nat.le_trans hbz hm.size
    clear hm
    refine hKK.out _ _ ?_ (fun hHeld => ?_)
    · exact ⟨q4, r8⟩
    clear hKK KK
    try simp only [Act.put]
    refine wpAnyH_ready (rs := [9]) (by kernel_rfl) (by simp) ?_
    refine AllReadyH.cons (by simp only [List.getElem?_toArray]; rfl) (fun KK hKK => ?_) AllReadyH.nil
    refine wp_stO (.tmp 7) (.tmp 45) rfl (B + 3) F.t (.slice A8 F.sh.length c8) F.e (by kernel_rfl) (by kernel_rfl) rfl q7 ?_
    obtain ⟨ws4, hws⟩ : ∃ ws4, ws4 = ws3.setRow (B + 3) (otA F.t (.slice A8 F.sh.length c8) F.e) := ⟨_, rfl⟩
    have hm := mod_setRow ws3 (B + 3) (otA F.t (.slice A8 F.sh.length c8) F.e)
    have q7 := q7.row_ F.t (.slice A8 F.sh.length c8) F.e
    rw [← hws] at hm q7 ⊢
    clear hws
    have q4 := q4.mod hm (by show ¬ B + 1 = B + 3; omega)
    have q6 := q6.mod hm (by show ¬ B + 2 = B + 3; omega)
    have r8 := r8.mod hm (by show ¬ K8 = B + 3; omega)
    have hSh := owns_mod hSh hm (fun k hk h => by have := hown k hk; have h : k = B + 3 := h; omega)
    have hb := hb.trans (hm.below (by have := hm.size; have := hbz; omega) (fun i hi h => by have h : i = B + 3 := h; omega))
    have hbz := Nat.le_trans hbz hm.size
    clear hm
    refine hKK.out _ _ ?_ (fun hHeld => ?_)
    · exact ⟨q4, r8⟩
    clear hKK KK
    refine wpAnyH_done (by kernel_rfl) ?_ _
    try simp only [Act.put]
    go_wp2_with fail
    have e6 := q6
    have e7 := q7
    refine bodyPost_ret (results_cc (P := Tryd.prog) rfl _ _ (B + 2) (B + 3) _ _ _ _ (0, 0) (0, 0) _ _ rfl e6 Tryd.underlying40 rfl (by rw [stA_size]; kernel_rfl) rfl e7 Tryd.underlying52 rfl (ot_size _ _ _)) rfl ⟨(.slice A8 F.sh.length c8), by rw [← HT1.out], by rw [← HB.out]; exact hSh, by rw [← HB.out]; exact hb⟩
end Go.Proofs.YtnbbglhpjpebhaaDoor
/- What a game begins with, in plain words: hidden values stand in the cells that nobody sees, in order. No condition. -/
namespace Go.Proofs.YtnbbglhpjpebhaaDoor
open Go.RowKit

/-- How many of the first k cells nobody sees. -/
def cntZ (L : List (Int × Nat)) (k : Nat) : Nat := ((L.take k).filter fun c => c.2 == 0).length
theorem cntZ_zero (L : List (Int × Nat)) : cntZ L 0 = 0 := by simp [cntZ]
theorem cntZ_succ {L : List (Int × Nat)} {k : Nat} (h : k < L.length) : cntZ L (k + 1) = cntZ L k + if L[k].2 = 0 then 1 else 0 := by
  unfold cntZ
  rw [List.take_succ_eq_append_getElem h, List.filter_append, List.length_append]
  by_cases h0 : L[k].2 = 0 <;> simp [h0]
theorem cntZ_le (L : List (Int × Nat)) (k : Nat) : cntZ L k ≤ k := by
  unfold cntZ
  have h1 := List.length_filter_le (fun c : Int × Nat => c.2 == 0) (L.take k)
  rw [List.length_take] at h1
  omega
/-- The cell at j, as a game begins. -/
def stAt (L : List (Int × Nat)) (H : List Int) (c : Int × Nat) (j : Nat) : Int × Nat := if c.2 = 0 ∧ cntZ L j < H.length then (H.getD (cntZ L j) 0, c.2) else c
/-- The first k cells so. -/
def stK (L : List (Int × Nat)) (H : List Int) (k : Nat) : List (Int × Nat) := L.mapIdx fun j c => if j < k then stAt L H c j else c
section
variable {L : List (Int × Nat)} {H : List Int} {k : Nat}
@[simp] theorem stK_length (L : List (Int × Nat)) (H : List Int) (k : Nat) : (stK L H k).length = L.length := by simp [stK]
theorem stK_zero (L : List (Int × Nat)) (H : List Int) : stK L H 0 = L := by
  apply List.ext_getElem (by simp)
  intro j h1 h2
  simp [stK]
theorem stK_at {j : Nat} (h : j < L.length) (hk : k ≤ j) : (stK L H k)[j]'(by simpa using h) = L[j] := by
  simp [stK, Nat.not_lt.2 hk]
theorem stK_got {j : Nat} (h : j < L.length) (hk : j < k) : (stK L H k)[j]'(by simpa using h) = stAt L H L[j] j := by
  simp [stK, hk]
theorem stK_set (h : k < L.length) : (stK L H k).set k (stAt L H L[k] k) = stK L H (k + 1) := by
  apply List.ext_getElem (by simp)
  intro j h1 h2
  rw [List.getElem_set]
  by_cases e : k = j
  · subst e
    simp [stK]
  · rw [if_neg e]
    simp only [stK, List.getElem_mapIdx]
    have : j < k + 1 ↔ j < k := by omega
    simp only [this]
theorem stK_same (h : k < L.length) (hc : ¬(L[k].2 = 0 ∧ cntZ L k < H.length)) : stK L H k = stK L H (k + 1) := by
  rw [← stK_set h]
  have : stAt L H L[k] k = (stK L H k)[k]'(by simpa using h) := by
    rw [stK_at h (Nat.le_refl _)]
    unfold stAt
    rw [if_neg hc]
  rw [this, List.set_getElem_self]
theorem stK_ok (k : Nat) (hok : okC L) (hv : ∀ x ∈ H, -2147483648 ≤ x ∧ x ≤ 2147483647) : okC (stK L H k) := by
  intro c hc
  obtain ⟨j, hj, rfl⟩ := List.getElem_of_mem hc
  have hj' : j < L.length := by simpa using hj
  have h0 := okC_get hok hj'
  simp only [stK, List.getElem_mapIdx]
  split
  · unfold stAt
    split
    · rename_i h
      refine ⟨?_, h0.2⟩
      have : H.getD (cntZ L j) 0 = H[cntZ L j]'h.2 := by simp [List.getD, h.2]
      simp only [this]
      exact hv _ (List.getElem_mem _)
    · exact h0
  · exact h0
theorem stK_lab (k j : Nat) (h : j < L.length) : ((stK L H k)[j]'(by simpa using h)).2 = L[j].2 := by
  simp only [stK, List.getElem_mapIdx]
  split
  · unfold stAt
    split <;> rfl
  · rfl
end
/-- What a game begins with. -/
def startC (g : Gm) (H : List Int) : List (Int × Nat) := stK g.L H g.L.length
end Go.Proofs.YtnbbglhpjpebhaaDoor
