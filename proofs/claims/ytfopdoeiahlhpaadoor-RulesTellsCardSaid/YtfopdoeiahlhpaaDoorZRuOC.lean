/- Whether a game may be, as the document says. Conditions: the numbers fit. -/
import Derived.Test.YtfopdoeiahlhpaaDoorZRuOB
namespace Go.Proofs.YtfopdoeiahlhpaaDoor
open Go.RowKit
set_option linter.unusedVariables false

section
variable {ops : Array Oper} {S : World → Prop} {op : Oper} {a : Act}
theorem yk_less (hw : Region.wanted op (yielded ops a.tmps) = true) (x y : Operand) (ho : op.op = .binOp .andNot 22 x y 22) (m n : Nat) (hm : m < 4294967296) (hn : n < 4294967296) (hx : a.eval x = .int .u32 (m : Int)) (hy : a.eval y = .int .u32 (n : Int)) : YieldsIf Tryd.prog ops S op (.int .u32 ((lessN m n : Nat) : Int)) a :=
  .inl ⟨hw, fun w _ => by
    have h := u32_andNot_nat m n hm hn
    unfold execOp
    simp only [ho, hx, hy]
    go_simp
    rfl⟩
theorem yk_gt0 (hw : Region.wanted op (yielded ops a.tmps) = true) (x : Operand) (ho : op.op = .binOp .gtr 22 x (.const (.int .u32 0)) 22) (n : Int) (hx : a.eval x = .int .u32 n) (d : Bool) (hd : decide (0 < n) = d) : YieldsIf Tryd.prog ops S op (.bool d) a :=
  .inl ⟨hw, fun w _ => by
    have e : a.eval (.const (.int .u32 0)) = .int .u32 0 := rfl
    unfold execOp
    simp only [ho, hx, e]
    go_simp⟩
end
set_option maxHeartbeats 8000000 in
set_option maxRecDepth 20000 in
theorem RRightG_calls (g : Gm) (s : Gs) (w : World) (hin : GIn w g s) (hok : GOk g s) :
    Calls Tryd.prog 16 #[.agg (gmA g s)] w fun e w' => e = .returned (.bool (rightB g)) ∧ Below w.heap.size w w' := by
  have hb := below_alloc1 w (.cells (gmA g s) 35)
  have hin1 := hin.ext hb
  obtain ⟨Z, hZ⟩ : ∃ Z, Z = rightB g := ⟨_, rfl⟩
  have HZ := Lib.hid (show Z = (decide (1 ≤ g.ob) && (decide (g.ob ≤ 32) && (decide (1 ≤ g.pl) && (decide (g.pl ≤ min 6 g.ob) && (decide (g.df < g.mv) && (rcB g && (checkV g.K (g.L.length : Int) g.pl).2)))))) from hZ)
  rw [← hZ]
  clear hZ
  by_cases h1 : g.ob < 1
  · have HF := Lib.hid (show Z = false by rw [HZ.out, decide_eq_false (show ¬ 1 ≤ g.ob by omega)]; rfl)
    clear HZ hin hin1 hok
    go_enter Tryd.func16, Tryd.ntmps16
    go_wp2_with fail
    go_ret
    exact ⟨by rw [HF.out]; rfl, hb⟩
  have e1 : ¬ g.ob < 1 := h1
  clear h1
  by_cases h2 : 32 < g.ob
  · have HF := Lib.hid (show Z = false by rw [HZ.out, decide_eq_false (show ¬ g.ob ≤ 32 by omega)]; simp)
    clear HZ hin hin1 hok
    go_enter Tryd.func16, Tryd.ntmps16
    go_wp2_with fail
    go_ret
    exact ⟨by rw [HF.out]; rfl, hb⟩
  have e2 : ¬ 32 < g.ob := h2
  clear h2
  by_cases h3 : g.pl < 1
  · have HF := Lib.hid (show Z = false by rw [HZ.out, decide_eq_false (show ¬ 1 ≤ g.pl by omega)]; simp)
    clear HZ hin hin1 hok
    go_enter Tryd.func16, Tryd.ntmps16
    go_wp2_with fail
    go_ret
    exact ⟨by rw [HF.out]; rfl, hb⟩
  have e3 : ¬ g.pl < 1 := h3
  clear h3
  by_cases h4 : 6 < g.pl
  · have HF := Lib.hid (show Z = false by rw [HZ.out, decide_eq_false (show ¬ g.pl ≤ min 6 g.ob by omega)]; simp)
    clear HZ hin hin1 hok
    go_enter Tryd.func16, Tryd.ntmps16
    go_wp2_with fail
    go_ret
    exact ⟨by rw [HF.out]; rfl, hb⟩
  have e4 : ¬ 6 < g.pl := h4
  clear h4
  by_cases h5 : g.ob < g.pl
  · have HF := Lib.hid (show Z = false by rw [HZ.out, decide_eq_false (show ¬ g.pl ≤ min 6 g.ob by omega)]; simp)
    clear HZ hin hin1 hok
    go_enter Tryd.func16, Tryd.ntmps16
    go_wp2_with fail
    go_ret
    exact ⟨by rw [HF.out]; rfl, hb⟩
  have e5 : ¬ g.ob < g.pl := h5
  clear h5
  by_cases h6 : g.mv ≤ g.df
  · have HF := Lib.hid (show Z = false by rw [HZ.out, decide_eq_false (show ¬ g.df < g.mv by omega)]; simp)
    have h6i : (g.mv : Int) ≤ (g.df : Int) := by omega
    clear HZ hin hin1 hok
    go_enter Tryd.func16, Tryd.ntmps16
    go_wp2_with fail
    go_ret
    exact ⟨by rw [HF.out]; rfl, hb⟩
  have e6 : ¬ (g.mv : Int) ≤ (g.df : Int) := by omega
  have e6n : ¬ g.mv ≤ g.df := h6
  by_cases h7 : 48 < g.L.length
  · have HF := Lib.hid (show Z = false by rw [HZ.out]; unfold rcB; rw [decide_eq_false (show ¬ g.L.length ≤ 48 by omega)]; simp)
    have h7i : (48 : Int) < (g.L.length : Int) := by omega
    clear HZ hin hin1 hok
    go_enter Tryd.func16, Tryd.ntmps16
    go_wp2_with fail
    go_ret
    exact ⟨by rw [HF.out]; rfl, hb⟩
  have e7 : ¬ (48 : Int) < (g.L.length : Int) := by omega
  have e7n : ¬ 48 < g.L.length := h7
  have h48 : g.L.length ≤ 48 := by omega
  have HG := Lib.hid (show Z = (rcB g && (checkV g.K (g.L.length : Int) g.pl).2) by rw [HZ.out, decide_eq_true (show 1 ≤ g.ob by omega), decide_eq_true (show g.ob ≤ 32 by omega), decide_eq_true (show 1 ≤ g.pl by omega), decide_eq_true (show g.pl ≤ min 6 g.ob by omega), decide_eq_true (show g.df < g.mv by omega)]; simp)
  have hq := RG.new_ w g (.slice s.A g.L.length s.c) (.slice s.A' g.K.length s.c')
  have hA := fun W => RAll_calls g.ob W hok.o0 hok.o1
  have al32 := allN_lt g.ob
  have hgood := @rcB_good g h48
  have hbad := fun k (hk : k < g.L.length) (h : lessN g.L[k].2 (allN g.ob) ≠ 0) => rcB_bad hk h
  obtain ⟨al, hal⟩ : ∃ al, al = allN g.ob := ⟨_, rfl⟩
  rw [← hal] at hA al32
  simp only [← hal] at hgood hbad
  have HGOOD := Lib.hid hgood
  have HBAD := Lib.hid hbad
  have hoL := hok.oL
  have hK1 := hok.lK
  have hoK := hok.oK
  clear hal hgood hbad h6 h7
  go_enter Tryd.func16, Tryd.ntmps16
  go_upto_region 1 with fail
  obtain ⟨B, hB⟩ : ∃ B, B = w.heap.size := ⟨_, rfl⟩
  obtain ⟨wb, hwb⟩ : ∃ wb, wb = w.alloc (.cells #[.int .i64 g.ob, .int .i64 g.pl, .int .u32 (g.mv : Int), .int .u32 (g.df : Int), .slice s.A g.L.length s.c, .slice s.A' g.K.length s.c'] 35) := ⟨_, rfl⟩
  have hwb' : wb = w.alloc (.cells (gmA g s) 35) := hwb
  have hwb2 : wb = w.alloc (.cells (rgA g (.slice s.A g.L.length s.c) (.slice s.A' g.K.length s.c')) 35) := hwb
  rw [← hwb]
  rw [← hwb'] at hb hin1
  rw [← hwb2] at hq
  rw [← hB]
  rw [← hB] at hq
  have HB := Lib.hid hB
  clear hwb hwb' hwb2 hB
  obtain ⟨CA, hCA⟩ : ∃ CA, CA = s.A := ⟨_, rfl⟩
  obtain ⟨nL, hnL⟩ : ∃ nL, nL = g.L.length := ⟨_, rfl⟩
  have hsc := hin1.sc
  have hsk := hin1.sk
  have hq4 := hq.c4
  rw [← hCA] at hsc hq4
  rw [← hnL] at hq4 e7 e7n h48
  have q0 := hq.c0
  have q1 := hq.c1
  have q2 := hq.c2
  have q3 := hq.c3
  have q5 := hq.c5
  have HNL := Lib.hid hnL
  have HCA := Lib.hid hCA
  have hBl := hq.lt
  clear hCA hnL hin hin1 HZ
  go_wp2_with fail
  go_loopw [4, 46] (fun _ i wr => ∃ k : Nat, k ≤ nL ∧ i = .int .i64 k ∧ (∀ j (hj : j < k) (hj2 : j < g.L.length), lessN g.L[j].2 al = 0) ∧ Below wb.heap.size wb wr) (fun _ i _ => nL - (intOf i).toNat)
  case atStart => exact ⟨0, Nat.zero_le _, rfl, fun j hj => by omega, Below.refl _ _⟩
  case round =>
    obtain ⟨k, hk, rfl, hall, hbk⟩ := hrel
    have HA := Lib.hid hall
    clear hall
    by_cases hlt : k < nL
    · have ej : (k : Int) < (nL : Int) := by omega
      have hkL : k < g.L.length := by rw [← HNL.out]; exact hlt
      obtain ⟨off, rfl, hce⟩ := (Sl.ext hsc hbk) (by intro h0; have h1 := congrArg List.length h0; rw [cv_length, List.length_nil] at h1; omega)
      have hc0 := hce (k * 2) _ (cv_val hkL)
      have hc1 := hce (k * 2 + 1) _ (cv_lab hkL)
      rw [← Nat.add_assoc] at hc1
      have HBk := Lib.hid (HBAD.out k hkL)
      have hy := (okC_get hoL hkL).2
      have HNX := Lib.hid (show lessN g.L[k].2 al = 0 → ∀ j (hj : j < k + 1) (hj2 : j < g.L.length), lessN g.L[j].2 al = 0 from fun h j hj hj2 => by
        by_cases e : j = k
        · subst e; exact h
        · exact HA.out j (by omega) hj2)
      obtain ⟨⟨x, y⟩, hxy⟩ : ∃ q, q = g.L[k] := ⟨_, rfl⟩
      rw [← hxy] at hc0 hc1 HBk HNX hy
      simp only at hc0 hc1 hy
      clear hxy hce hkL
      go_upto_region 6 with fail
      have h1 := below_alloc1 wr (.cells #[.int .i32 x, .int .u32 (y : Int)] 110)
      have hb2 := hbk.trans (h1.mono hbk.size)
      have hk1 : (wr.alloc (.cells #[.int .i32 x, .int .u32 (y : Int)] 110)).cell? ⟨wr.heap.size, 1, none⟩ = some (.int .u32 (y : Int)) := by
        rw [cell_of_row _ wr.heap.size 1 _ _ _ (heap_alloc_new wr (.cells #[.int .i32 x, .int .u32 (y : Int)] 110))]
        rfl
      obtain ⟨w8, hw8⟩ : ∃ w8, w8 = wr.alloc (.cells #[.int .i32 x, .int .u32 (y : Int)] 110) := ⟨_, rfl⟩
      obtain ⟨B1, hB1⟩ : ∃ B1, B1 = wr.heap.size := ⟨_, rfl⟩
      rw [← hw8] at hb2 hk1 ⊢
      rw [← hB1] at hk1 ⊢
      clear hw8 hB1 h1 hc0 hc1
      have hq8 := (hq.ext hb2).c0
      obtain ⟨z, hz⟩ : ∃ z, z = lessN y al := ⟨_, rfl⟩
      have hzz : lessN (x, y).2 al = z := hz.symm
      rw [hzz] at HBk HNX
      have HZ := Lib.hid hz
      clear hz hzz
      by_cases h0 : z = 0
      · have ez : decide ((0 : Int) < (z : Int)) = false := by simp; omega
        have HN2 := Lib.hid (HNX.out h0)
        clear h0
        refine wp_region_held_drew (S := fun w' => Below w8.heap.size w8 w') (by kernel_rfl) ?_ (fun hHeld => ?_)
        · exact below_drew (Below.refl _ _)
        refine wpAnyH_take (i := 0) (by simp only [List.getElem?_toArray]; rfl) (by kernel_rfl) (by kernel_rfl) (by kernel_rfl) (by exact fun _ _ _ h => h) (by exact yk (.pointer (some ⟨B1, 1, none⟩)) (by kernel_rfl) (fun _ => by kernel_rfl)) hHeld ?_
        refine wpAnyH_take (i := 1) (by simp only [List.getElem?_toArray]; rfl) (by kernel_rfl) (by kernel_rfl) (by kernel_rfl) (by exact fun _ _ _ h => h) (by exact yk_ldW (by kernel_rfl) (.tmp 50) rfl ⟨B1, 1, none⟩ (.int .u32 (y : Int)) (by kernel_rfl) (fun _ h => sl_same h hk1)) hHeld ?_
        refine wpAnyH_take (i := 2) (by simp only [List.getElem?_toArray]; rfl) (by kernel_rfl) (by kernel_rfl) (by kernel_rfl) (by exact fun _ _ _ h => h) (by exact yk (.pointer (some ⟨B, 0, none⟩)) (by kernel_rfl) (fun _ => by kernel_rfl)) hHeld ?_
        refine wpAnyH_take (i := 3) (by simp only [List.getElem?_toArray]; rfl) (by kernel_rfl) (by kernel_rfl) (by kernel_rfl) (by exact fun _ _ _ h => h) (by exact yk_ldI (by kernel_rfl) (.tmp 52) rfl ⟨B, 0, none⟩ (.int .i64 g.ob) (by kernel_rfl) (fun _ h => sl_same h hq8)) hHeld ?_
        refine wpAnyH_ready (rs := [4]) (by kernel_rfl) (by simp) ?_
        refine AllReadyH.cons (by simp only [List.getElem?_toArray]; rfl) (fun KK hKK => ?_) AllReadyH.nil
        rw [if_pos (by kernel_rfl)]
        refine wp_callF 36 #[.int .i64 g.ob] (by kernel_rfl) ?_
        refine (hA _).mono ?_
        rintro e wx ⟨rfl, hwx⟩
        subst hwx
        refine ⟨_, rfl, ?_⟩
        refine hKK.out _ _ ?_ (fun hHeld => ?_)
        · exact below_drew (Below.refl _ _)
        clear hKK KK
        refine wpAnyH_take (i := 5) (by simp only [List.getElem?_toArray]; rfl) (by kernel_rfl) (by kernel_rfl) (by kernel_rfl) (by exact fun _ _ _ h => h) (by exact yk_less (by kernel_rfl) (.tmp 51) (.tmp 54) rfl y al hy al32 (by kernel_rfl) (by kernel_rfl)) hHeld ?_
        refine wpAnyH_take (i := 6) (by simp only [List.getElem?_toArray]; rfl) (by kernel_rfl) (by kernel_rfl) (by kernel_rfl) (by exact fun _ _ _ h => h) (by exact yk_gt0 (by kernel_rfl) (.tmp 55) rfl (lessN y al : Nat) (by kernel_rfl) false (by rw [← HZ.out]; exact ez)) hHeld ?_
        refine wpAnyH_done (by kernel_rfl) ?_ _
        try simp only [Act.put, List.setIfInBounds_toArray, List.set_cons_zero, List.set_cons_succ]
        have hbr : Below w8.heap.size w8 (World.drew w8) := below_drew (Below.refl _ _)
        have hb3 := hb2.trans (hbr.mono hb2.size)
        go_wp2_with fail
        go_roundw
        case rel => exact ⟨k + 1, by omega, by go_num, HN2.out, hb3⟩
        case measure => simp [intOf]; omega
      · have ez : decide ((0 : Int) < (z : Int)) = true := by simp; omega
        have HF := Lib.hid (show Z = false by rw [HG.out, HBk.out h0]; rfl)
        clear h0
        refine wp_region_held_drew (S := fun w' => Below w8.heap.size w8 w') (by kernel_rfl) ?_ (fun hHeld => ?_)
        · exact below_drew (Below.refl _ _)
        refine wpAnyH_take (i := 0) (by simp only [List.getElem?_toArray]; rfl) (by kernel_rfl) (by kernel_rfl) (by kernel_rfl) (by exact fun _ _ _ h => h) (by exact yk (.pointer (some ⟨B1, 1, none⟩)) (by kernel_rfl) (fun _ => by kernel_rfl)) hHeld ?_
        refine wpAnyH_take (i := 1) (by simp only [List.getElem?_toArray]; rfl) (by kernel_rfl) (by kernel_rfl) (by kernel_rfl) (by exact fun _ _ _ h => h) (by exact yk_ldW (by kernel_rfl) (.tmp 50) rfl ⟨B1, 1, none⟩ (.int .u32 (y : Int)) (by kernel_rfl) (fun _ h => sl_same h hk1)) hHeld ?_
        refine wpAnyH_take (i := 2) (by simp only [List.getElem?_toArray]; rfl) (by kernel_rfl) (by kernel_rfl) (by kernel_rfl) (by exact fun _ _ _ h => h) (by exact yk (.pointer (some ⟨B, 0, none⟩)) (by kernel_rfl) (fun _ => by kernel_rfl)) hHeld ?_
        refine wpAnyH_take (i := 3) (by simp only [List.getElem?_toArray]; rfl) (by kernel_rfl) (by kernel_rfl) (by kernel_rfl) (by exact fun _ _ _ h => h) (by exact yk_ldI (by kernel_rfl) (.tmp 52) rfl ⟨B, 0, none⟩ (.int .i64 g.ob) (by kernel_rfl) (fun _ h => sl_same h hq8)) hHeld ?_
        refine wpAnyH_ready (rs := [4]) (by kernel_rfl) (by simp) ?_
        refine AllReadyH.cons (by simp only [List.getElem?_toArray]; rfl) (fun KK hKK => ?_) AllReadyH.nil
        rw [if_pos (by kernel_rfl)]
        refine wp_callF 36 #[.int .i64 g.ob] (by kernel_rfl) ?_
        refine (hA _).mono ?_
        rintro e wx ⟨rfl, hwx⟩
        subst hwx
        refine ⟨_, rfl, ?_⟩
        refine hKK.out _ _ ?_ (fun hHeld => ?_)
        · exact below_drew (Below.refl _ _)
        clear hKK KK
        refine wpAnyH_take (i := 5) (by simp only [List.getElem?_toArray]; rfl) (by kernel_rfl) (by kernel_rfl) (by kernel_rfl) (by exact fun _ _ _ h => h) (by exact yk_less (by kernel_rfl) (.tmp 51) (.tmp 54) rfl y al hy al32 (by kernel_rfl) (by kernel_rfl)) hHeld ?_
        refine wpAnyH_take (i := 6) (by simp only [List.getElem?_toArray]; rfl) (by kernel_rfl) (by kernel_rfl) (by kernel_rfl) (by exact fun _ _ _ h => h) (by exact yk_gt0 (by kernel_rfl) (.tmp 55) rfl (lessN y al : Nat) (by kernel_rfl) true (by rw [← HZ.out]; exact ez)) hHeld ?_
        refine wpAnyH_done (by kernel_rfl) ?_ _
        try simp only [Act.put, List.setIfInBounds_toArray, List.set_cons_zero, List.set_cons_succ]
        have hbr : Below w8.heap.size w8 (World.drew w8) := below_drew (Below.refl _ _)
        have hb3 := hb.trans ((hb2.trans (hbr.mono hb2.size)).mono hb.size)
        go_wp2_with fail
        go_ret
        exact ⟨by rw [HF.out]; rfl, hb3⟩
    · obtain rfl : nL = k := by omega
      have HRC := Lib.hid (HGOOD.out (fun j hj => HA.out j (by rw [HNL.out]; exact hj) hj))
      have hCk := fun W h => RCheck_calls s.A' g.K g.K.length s.c' s.b' (nL : Int) g.pl W h rfl (by simp only [maxLen]; omega) hoK (by omega) (by omega)
      obtain ⟨V, hV⟩ : ∃ V, V = checkV g.K (nL : Int) g.pl := ⟨_, rfl⟩
      rw [← hV] at hCk
      have HV := Lib.hid (show Z = V.2 by rw [HG.out, HRC.out, hV, HNL.out]; rfl)
      have hq9 := hq.ext hbk
      have r1 := hq9.c1
      have r4 := hq9.c4
      have r5 := hq9.c5
      rw [← HCA.out, ← HNL.out] at r4
      have hskw := Sl.ext hsk hbk
      clear hV hq9 hlt hk
      cases hv2 : V.2 with
      | false =>
        rw [hv2] at hCk
        have hCk : ∀ W, Sl W s.b' s.A' (kv g.K) → Calls Tryd.prog 44 #[.slice s.A' g.K.length s.c', .int .i64 (nL : Int), .int .i64 g.pl] W fun e w' => e = .returned (.int .i64 ((V.1 : Nat) : Int)) ∧ Below W.heap.size W w' := hCk
        obtain ⟨vn, hvn⟩ : ∃ vn, vn = V.1 := ⟨_, rfl⟩
        rw [← hvn] at hCk
        have HF := Lib.hid (show Z = false by rw [HV.out, hv2])
        have en : ¬ (vn : Int) < 0 := by omega
        clear hv2 hvn
        go_wp2_with fail
        refine (hCk _ hskw).mono ?_
        rintro e w6 ⟨rfl, h6⟩
        have hb6 := hb.trans ((hbk.trans (h6.mono hbk.size)).mono hb.size)
        clear hCk h6 r1 r4 r5
        go_wp2_with fail
        go_ret
        exact ⟨by rw [HF.out]; rfl, hb6⟩
      | true =>
        rw [hv2] at hCk
        have hCk : ∀ W, Sl W s.b' s.A' (kv g.K) → Calls Tryd.prog 44 #[.slice s.A' g.K.length s.c', .int .i64 (nL : Int), .int .i64 g.pl] W fun e w' => e = .returned (.int .i64 (-1)) ∧ Below W.heap.size W w' := hCk
        have HF := Lib.hid (show Z = true by rw [HV.out, hv2])
        clear hv2
        go_wp2_with fail
        refine (hCk _ hskw).mono ?_
        rintro e w6 ⟨rfl, h6⟩
        have hb6 := hb.trans ((hbk.trans (h6.mono hbk.size)).mono hb.size)
        clear hCk h6 r1 r4 r5
        go_wp2_with fail
        go_ret
        exact ⟨by rw [HF.out]; rfl, hb6⟩
end Go.Proofs.YtfopdoeiahlhpaaDoor
