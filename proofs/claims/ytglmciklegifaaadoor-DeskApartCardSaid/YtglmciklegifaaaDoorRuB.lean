/- A game in a variable; rightCells. Conditions: the numbers fit. -/
import Derived.Test.YtglmciklegifaaaDoorRuA
namespace Go.Proofs.YtglmciklegifaaaDoor
open Go.RowKit

def GBox (w : World) (k : Nat) (g : Gm) (s : Gs) : Prop := w.heap[k]? = some (.cells (gmA g s) 26 (0, 0))
namespace GBox
variable {w w' : World} {k : Nat} {g : Gm} {s : Gs}
theorem new_ (w : World) (g : Gm) (s : Gs) : GBox (w.alloc (.cells (gmA g s) 26)) w.heap.size g s := heap_alloc_new w _
theorem lt (h : GBox w k g s) : k < w.heap.size := (Array.getElem?_eq_some_iff.1 h).1
theorem ext (h : GBox w k g s) (hb : Below w.heap.size w w') : GBox w' k g s := (hb.block k h.lt).trans h
theorem at_ (h : GBox w k g s) {i : Nat} {v : Value} (hv : (gmA g s)[i]? = some v) : w.cell? ⟨k, i, none⟩ = some v := by
  rw [cell_of_row w k i _ _ _ h]
  exact hv
theorem c0 (h : GBox w k g s) : w.cell? ⟨k, 0, none⟩ = some (.int .i64 g.ob) := h.at_ rfl
theorem c1 (h : GBox w k g s) : w.cell? ⟨k, 1, none⟩ = some (.int .i64 g.pl) := h.at_ rfl
theorem c2 (h : GBox w k g s) : w.cell? ⟨k, 2, none⟩ = some (.int .u32 (g.mv : Int)) := h.at_ rfl
theorem c3 (h : GBox w k g s) : w.cell? ⟨k, 3, none⟩ = some (.int .u32 (g.df : Int)) := h.at_ rfl
theorem c4 (h : GBox w k g s) : w.cell? ⟨k, 4, none⟩ = some (.slice s.A g.L.length s.c) := h.at_ rfl
theorem c5 (h : GBox w k g s) : w.cell? ⟨k, 5, none⟩ = some (.slice s.A' g.K.length s.c') := h.at_ rfl
theorem free (h : GBox w k g s) (j : Nat) : w.frozen? ⟨k, j, none⟩ = false := frozen_of_row w k j _ _ h
end GBox
theorem yk_ldG {ops : Array Oper} {S : World → Prop} {op : Oper} {a : Act} (hw : Region.wanted op (yielded ops a.tmps) = true) (x : Operand) (ho : op.op = .load 26 x) (k : Nat) (g : Gm) (s : Gs) (hx : a.eval x = .pointer (some ⟨k, 0, none⟩)) (hS : ∀ w, S w → GBox w k g s) : YieldsIf Tryd.prog ops S op (.agg (gmA g s)) a :=
  .inl ⟨hw, fun w h => by
    have c0 := (hS w h).c0
    have c1 := (hS w h).c1
    have c2 := (hS w h).c2
    have c3 := (hS w h).c3
    have c4 := (hS w h).c4
    have c5 := (hS w h).c5
    unfold execOp
    simp only [ho, hx]
    go_simp⟩
theorem sl_two1 {w : World} {X : Nat} {u v : Value} (h : Sl w X (some ⟨X, 0, none⟩) [u, v]) : w.cell? ⟨X, 1, none⟩ = some v := by
  have := sl_at h (k := 1) (u := v) rfl
  simpa using this
theorem sl_two0 {w : World} {X : Nat} {u v : Value} (h : Sl w X (some ⟨X, 0, none⟩) [u, v]) : w.cell? ⟨X, 0, none⟩ = some u := by
  have := sl_at h (k := 0) (u := u) rfl
  simpa using this
set_option maxHeartbeats 4000000 in
set_option maxRecDepth 20000 in
theorem RightCells_calls (g : Gm) (s : Gs) (w : World) (hin : GIn w g s) (hok : GOk g s) :
    Calls Tryd.prog 29 #[.agg (gmA g s)] w fun e w' => e = .returned (.bool (rcB g)) ∧ Below w.heap.size w w' := by
  have hb := below_alloc1 w (.cells (gmA g s) 26)
  have hG := GBox.new_ w g s
  have hin := hin.ext hb
  have sc := hin.sc
  have hlc := hok.hL
  have h55 := hok.lL
  have hA := fun W => AllG_calls g s W
  have al32 := allN_lt g.ob
  have hgood := @rcB_good g
  have hbad := @rcB_bad g
  obtain ⟨al, hal⟩ : ∃ al, al = allN g.ob := ⟨_, rfl⟩
  rw [← hal] at hA al32 hgood hbad
  have HGOOD := Lib.hid hgood
  have HBAD := Lib.hid (show ∀ k (hk : k < g.L.length), lessN g.L[k].2 al ≠ 0 → rcB g = false from fun k hk => hbad hk)
  have HOK := Lib.hid hok.oL
  have HF := Lib.hid (show ¬ g.L.length ≤ 48 → rcB g = false from fun h => by unfold rcB; rw [decide_eq_false h, Bool.false_and])
  obtain ⟨wb, hwb⟩ : ∃ wb, wb = w.alloc (.cells (gmA g s) 26) := ⟨_, rfl⟩
  obtain ⟨B, hB⟩ : ∃ B, B = w.heap.size := ⟨_, rfl⟩
  rw [← hwb] at hb hG sc
  have hG0 := hG
  rw [← hB] at hG
  have HB := Lib.hid hB.symm
  have HG := Lib.hid hG
  have HWB := Lib.hid hwb
  clear hal hgood hbad hok hin hB hG0
  by_cases h48 : g.L.length ≤ 48
  · have e48 : ¬ (48 : Int) < (g.L.length : Int) := by omega
    have e48' : decide ((48 : Int) < (g.L.length : Int)) = false := by simp; omega
    clear hwb hG
    go_enter Tryd.func29, Tryd.ntmps29
    go_wp2_with fail
    rw [← HWB.out, HB.out]
    have hbz := hb.size
    go_loopw [4, 12] (fun _ i wr => ∃ k : Nat, k ≤ g.L.length ∧ i = .int .i64 k ∧ (∀ j (hj : j < g.L.length), j < k → lessN g.L[j].2 al = 0) ∧ Below wb.heap.size wb wr) (fun _ i _ => g.L.length - (intOf i).toNat)
    case atStart => exact ⟨0, Nat.zero_le _, rfl, fun j _ h => by omega, Below.refl _ _⟩
    case round =>
      obtain ⟨k, hk, rfl, hno, hbr⟩ := hrel
      by_cases hlt : k < g.L.length
      · have ej : (k : Int) < (g.L.length : Int) := by omega
        obtain ⟨off, eA, hc⟩ := (Sl.ext sc hbr) (by intro h0; have h5 := congrArg List.length h0; simp at h5; omega)
        have k0 := hc (k * 2) _ (cv_val hlt)
        have k1 := hc (k * 2 + 1) _ (cv_lab hlt)
        rw [← Nat.add_assoc] at k1
        have hy := (okC_get HOK.out hlt).2
        have HNO := Lib.hid hno
        have HBK := Lib.hid (HBAD.out k hlt)
        have HST := Lib.hid (show lessN g.L[k].2 al = 0 → ∀ j (hj : j < g.L.length), j < k + 1 → lessN g.L[j].2 al = 0 from fun h0 j hj hjk => by
          by_cases e : j = k
          · subst e; exact h0
          · exact hno j hj (by omega))
        obtain ⟨X, hX⟩ : ∃ X, X = g.L[k].1 := ⟨_, rfl⟩
        obtain ⟨Y, hY⟩ : ∃ Y, Y = g.L[k].2 := ⟨_, rfl⟩
        rw [← hX] at k0
        rw [← hY] at k1 hy HBK HST
        have hWi := fun W => MWithin_calls Y al W hy al32
        obtain ⟨V, hV⟩ : ∃ V, V = decide (lessN Y al = 0) := ⟨_, rfl⟩
        rw [← hV] at hWi
        have HV := Lib.hid hV
        have kx : Sl (wr.alloc (.cells #[.int .i32 X, .int .u32 (Y : Int)] 67)) wr.heap.size (some ⟨wr.heap.size, 0, none⟩) [.int .i32 X, .int .u32 (Y : Int)] := Sl.cells_new wr _ _
        have ky := sl_two1 kx
        have hb9 := below_alloc1 wr (.cells #[.int .i32 X, .int .u32 (Y : Int)] 67)
        have hbr2 := hbr.trans (hb9.mono hbr.size)
        have hG9 := HG.out.ext hbr2
        have eA' : s.A = some ⟨s.b, off, none⟩ := eA
        clear hX hY hy hno hc eA hV kx hb9
        go_wp2_with fail
        obtain ⟨W, hW⟩ : ∃ W, W = wr.heap.size := ⟨_, rfl⟩
        obtain ⟨wr9, hwr9⟩ : ∃ wr9, wr9 = wr.alloc (.cells #[.int .i32 X, .int .u32 (Y : Int)] 67) := ⟨_, rfl⟩
        rw [← hwr9] at hbr2 hG9 ky ⊢
        rw [← hW] at ky ⊢
        have hbr := Below.refl wr9.heap.size wr9
        have hb2 := hb.trans (hbr2.mono hbz)
        clear hwr9 hW k0 k1 eA'
        cases V with
        | true =>
          refine wp_region_held_drew (S := fun w' => Below wr9.heap.size wr9 w') (by kernel_rfl) ?_ (fun hHeld => ?_)
          · exact (by repeat (first | exact Below.refl _ _ | refine below_drew ?_))
          refine wpAnyH_take (i := 0) (by simp only [List.getElem?_toArray]; rfl) (by kernel_rfl) (by kernel_rfl) (by kernel_rfl) (by exact fun _ _ _ h => h) (by exact yk (.pointer (some ⟨W, 1, none⟩)) (by kernel_rfl) (fun _ => by kernel_rfl)) hHeld ?_
          refine wpAnyH_take (i := 1) (by simp only [List.getElem?_toArray]; rfl) (by kernel_rfl) (by kernel_rfl) (by kernel_rfl) (by exact fun _ _ _ h => h) (by exact yk_ldM (by kernel_rfl) (.tmp 16) rfl ⟨W, 1, none⟩ (.int .u32 (Y : Int)) (by kernel_rfl) (fun w h => sl_same h ky)) hHeld ?_
          refine wpAnyH_take (i := 2) (by simp only [List.getElem?_toArray]; rfl) (by kernel_rfl) (by kernel_rfl) (by kernel_rfl) (by exact fun _ _ _ h => h) (by exact yk_ldG (by kernel_rfl) (.tmp 1) rfl B g s (by kernel_rfl) (fun w h => hG9.ext h)) hHeld ?_
          refine wpAnyH_ready (rs := [3]) (by kernel_rfl) (by simp) ?_
          refine AllReadyH.cons (by simp only [List.getElem?_toArray]; rfl) (fun KK hKK => ?_) AllReadyH.nil
          refine wp_callF 37 #[.agg (gmA g s)] (by kernel_rfl) ?_
          refine (hA _).mono ?_
          rintro e wa ⟨rfl, ha⟩
          have ha := below_undrew2 ha
          refine ⟨_, rfl, ?_⟩
          have hbr := hbr.trans (ha.mono hbr.size)
          refine hKK.out _ _ ?_ (fun hHeld => ?_)
          · exact hbr
          clear hKK KK
          refine wpAnyH_ready (rs := [4]) (by kernel_rfl) (by simp) ?_
          refine AllReadyH.cons (by simp only [List.getElem?_toArray]; rfl) (fun KK hKK => ?_) AllReadyH.nil
          refine wp_callF 36 #[.int .u32 (Y : Int), .int .u32 (al : Int)] (by kernel_rfl) ?_
          refine (hWi _).mono ?_
          rintro e wx ⟨rfl, hwx⟩
          subst hwx
          refine ⟨_, rfl, ?_⟩
          refine hKK.out _ _ ?_ (fun hHeld => ?_)
          · exact hbr
          clear hKK KK
          refine wpAnyH_take (i := 5) (by simp only [List.getElem?_toArray]; rfl) (by kernel_rfl) (by kernel_rfl) (by kernel_rfl) (by exact fun _ _ _ h => h) (by exact yk (.bool false) (by kernel_rfl) (fun _ => by kernel_rfl)) hHeld ?_
          refine wpAnyH_done (by kernel_rfl) ?_ _
          try simp only [Act.put, List.setIfInBounds_toArray, List.set_cons_zero, List.set_cons_succ]
          go_wp2_with fail
          go_roundw
          case rel => exact ⟨k + 1, by omega, by go_num, HST.out (by simpa using HV.out.symm), hbr2.trans ((show Below wr9.heap.size wr9 _ from (by repeat (first | exact hbr | refine below_drew ?_))).mono hbr2.size)⟩
          case measure => simp [intOf]; omega
        | false =>
          refine wp_region_held_drew (S := fun w' => Below wr9.heap.size wr9 w') (by kernel_rfl) ?_ (fun hHeld => ?_)
          · exact (by repeat (first | exact Below.refl _ _ | refine below_drew ?_))
          refine wpAnyH_take (i := 0) (by simp only [List.getElem?_toArray]; rfl) (by kernel_rfl) (by kernel_rfl) (by kernel_rfl) (by exact fun _ _ _ h => h) (by exact yk (.pointer (some ⟨W, 1, none⟩)) (by kernel_rfl) (fun _ => by kernel_rfl)) hHeld ?_
          refine wpAnyH_take (i := 1) (by simp only [List.getElem?_toArray]; rfl) (by kernel_rfl) (by kernel_rfl) (by kernel_rfl) (by exact fun _ _ _ h => h) (by exact yk_ldM (by kernel_rfl) (.tmp 16) rfl ⟨W, 1, none⟩ (.int .u32 (Y : Int)) (by kernel_rfl) (fun w h => sl_same h ky)) hHeld ?_
          refine wpAnyH_take (i := 2) (by simp only [List.getElem?_toArray]; rfl) (by kernel_rfl) (by kernel_rfl) (by kernel_rfl) (by exact fun _ _ _ h => h) (by exact yk_ldG (by kernel_rfl) (.tmp 1) rfl B g s (by kernel_rfl) (fun w h => hG9.ext h)) hHeld ?_
          refine wpAnyH_ready (rs := [3]) (by kernel_rfl) (by simp) ?_
          refine AllReadyH.cons (by simp only [List.getElem?_toArray]; rfl) (fun KK hKK => ?_) AllReadyH.nil
          refine wp_callF 37 #[.agg (gmA g s)] (by kernel_rfl) ?_
          refine (hA _).mono ?_
          rintro e wa ⟨rfl, ha⟩
          have ha := below_undrew2 ha
          refine ⟨_, rfl, ?_⟩
          have hbr := hbr.trans (ha.mono hbr.size)
          refine hKK.out _ _ ?_ (fun hHeld => ?_)
          · exact hbr
          clear hKK KK
          refine wpAnyH_ready (rs := [4]) (by kernel_rfl) (by simp) ?_
          refine AllReadyH.cons (by simp only [List.getElem?_toArray]; rfl) (fun KK hKK => ?_) AllReadyH.nil
          refine wp_callF 36 #[.int .u32 (Y : Int), .int .u32 (al : Int)] (by kernel_rfl) ?_
          refine (hWi _).mono ?_
          rintro e wx ⟨rfl, hwx⟩
          subst hwx
          refine ⟨_, rfl, ?_⟩
          refine hKK.out _ _ ?_ (fun hHeld => ?_)
          · exact hbr
          clear hKK KK
          refine wpAnyH_take (i := 5) (by simp only [List.getElem?_toArray]; rfl) (by kernel_rfl) (by kernel_rfl) (by kernel_rfl) (by exact fun _ _ _ h => h) (by exact yk (.bool true) (by kernel_rfl) (fun _ => by kernel_rfl)) hHeld ?_
          refine wpAnyH_done (by kernel_rfl) ?_ _
          try simp only [Act.put, List.setIfInBounds_toArray, List.set_cons_zero, List.set_cons_succ]
          go_wp2_with fail
          have e9 := HBK.out (by simpa using HV.out.symm)
          go_ret
          exact ⟨by rw [e9]; rfl, hb2.trans ((show Below wr9.heap.size wr9 _ from (by repeat (first | exact hbr | refine below_drew ?_))).mono hb2.size)⟩
      · obtain hke : k = g.L.length := by omega
        have e9 := HGOOD.out h48 (fun j hj => hno j hj (by omega))
        have eA9 := Lib.hid e9
        have ej : ¬ (k : Int) < (g.L.length : Int) := by omega
        clear hno e9 hke
        go_wp2_with fail
        go_ret
        exact ⟨by rw [eA9.out]; rfl, hb.trans (hbr.mono hbz)⟩
  · have e48 : (48 : Int) < (g.L.length : Int) := by omega
    have e48' : decide ((48 : Int) < (g.L.length : Int)) = true := by simp; omega
    have e9 := HF.out h48
    have eA9 := Lib.hid e9
    clear hwb hG e9 h48
    go_enter Tryd.func29, Tryd.ntmps29
    go_wp2_with fail
    go_ret
    rw [← HWB.out]
    exact ⟨by rw [eA9.out]; rfl, hb⟩
end Go.Proofs.YtglmciklegifaaaDoor
