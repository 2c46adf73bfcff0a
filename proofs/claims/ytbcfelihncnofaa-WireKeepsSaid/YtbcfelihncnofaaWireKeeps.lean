/- WireKeeps: frames that come at the next Take come as they were put, in that order; with no faults all do. No condition. -/
import Derived.Test.YtbcfelihncnofaaWiH
import Derived.Test.YtbcfelihncnofaaWiF
namespace Go.Proofs.Ytbcfelihncnofaa
open Go.RowKit
set_option linter.unusedVariables false

theorem TMod.boxT {T1 T2 : TypeId} {B : Nat} {w w' : World} (h : TMod T1 T2 B w w') {g : Nat} {a b : Value} (q : BoxT w g a b) (h1 : 34 ≠ T1) (h2 : 34 ≠ T2) : BoxT w' g a b := (h.keep g _ _ _ q h1 h2).trans q
theorem few_small (ls : List (List UInt8)) (k : Nat) : ∀ l ∈ fewL ls k, l.length ≤ 40 := by
  intro l hl
  unfold fewL at hl
  obtain ⟨x, _, rfl⟩ := List.mem_map.1 hl
  rw [List.length_take]
  omega
theorem wp_bsB0 {op : Oper} {a : Act} {w : World} {K : Act → World → Prop} {Q : Exit → Act → World → Prop} (ho : op.op = .buildSlice 31 0 #[])
    (h : K (a.put op.dst (.slice (some ⟨w.heap.size, 0, none⟩) 0 0)) (w.alloc (.cells #[] 46))) : op.wp Try.prog a w K Q := by
  have hr : (Instr.buildSlice 31 0 #[]).run Try.prog w = .ok (.slice (some ⟨w.heap.size, 0, none⟩) 0 0) (w.alloc (.cells #[] 46)) := by kernel_rfl
  unfold Oper.wp execOp
  simp only [ho, List.map_toArray, List.map_nil, Sem.run_bind, hr, Result.andThen_ok, Sem.run_pure]
  exact h
theorem rows_one {us : List Value} {w : World} {ls : List (List UInt8)} (h : Bss w us ls) : ∀ u ∈ us, u.oneCell' = true := by
  intro u hu
  obtain ⟨i, hi, rfl⟩ := List.getElem_of_mem hu
  obtain ⟨A, c, b, h1, _⟩ := h.2 i _ (List.getElem?_eq_getElem (by rw [← h.1]; exact hi))
  rw [List.getElem?_eq_getElem hi] at h1
  injection h1 with h1
  rw [h1]
  rfl
theorem BssT.append {w : World} {us vs : List Value} {ls ms : List (List UInt8)} (h : BssT w us ls) (k : BssT w vs ms) : BssT w (us ++ vs) (ls ++ ms) :=
  ⟨by simp [h.1, k.1], fun i l hl => by
    by_cases hi : i < ls.length
    · rw [List.getElem?_append_left hi] at hl
      obtain ⟨A, c, b, h1, h2⟩ := h.2 i l hl
      exact ⟨A, c, b, by rw [List.getElem?_append_left (by rw [h.1]; exact hi)]; exact h1, h2⟩
    · rw [List.getElem?_append_right (by omega)] at hl
      obtain ⟨A, c, b, h1, h2⟩ := k.2 _ l hl
      exact ⟨A, c, b, by rw [List.getElem?_append_right (by rw [h.1]; omega), h.1]; exact h1, h2⟩⟩
theorem res_sl2 {w : World} {B D n : Nat} {vo : Value} {us : List Value} {ls : List (List UInt8)} (h : RowS w B vo us) (hi : RowsIn w D us ls) (hn : ls.length = n) : ∃ A c b, vo = .slice A n c ∧ B ≤ b ∧ SlT 46 w b A us ∧ BssT w us ls := by
  have hl : us.length = n := hi.1.trans hn
  obtain ⟨A, c, b, hv, hc, -, hB, hs, -⟩ := SlT.of_own h
  exact ⟨A, c, b, by rw [hv, hl], hB, hs, hi.bssT⟩
theorem SlT.ne2 {e : TypeId} {w w' : World} {b : Nat} {A : Option Addr} {xs : List Value} (h : SlT e w b A xs) {S : Nat → Prop} (hm : Mod S w w') (hs : xs ≠ [] → ¬ S b) : SlT e w' b A xs := by
  by_cases h0 : xs = []
  · subst h0; exact SlT.nil_ _ _ _ _
  · exact h.mod hm (fun _ _ _ => hs h0)
theorem BssT.row {w w' : World} {us : List Value} {ls : List (List UInt8)} (h : BssT w us ls) {B n sz : Nat} {e : TypeId} {v : Value} {xs : List Value} (hr : w.ownsRow B e sz v n xs) (he : 5 ≠ e) (hm : Mod (fun i => v.ownBlock = some i) w w') : BssT w' us ls :=
  ⟨h.1, fun i l hl => by
    obtain ⟨A, c, b, h1, h2⟩ := h.2 i l hl
    exact ⟨A, c, b, h1, h2.mod hm (fun cur fr hc => row_apart hr hc he)⟩⟩
theorem Wi.row {B D g : Nat} {w w' : World} {ks : List (List UInt8 × Int)} (h : Wi B D g w ks) {C n sz : Nat} {v : Value} {xs : List Value} (hr : w.ownsRow C 46 sz v n xs) (hm : Mod (fun i => v.ownBlock = some i) w w') : Wi B D g w' ks := by
  obtain ⟨u, ps, q, hrow, hk, hx, ha⟩ := h.out
  exact ⟨u, ps, q.mod hm (row_apart hr q (by decide)), own_mod hrow hm (fun k h1 h2 => own_apart hr hrow (by decide) h2 h1), hk, fun x hx2 => (hx x hx2).mod hm (fun k h1 h2 => own_apart hr (hx x hx2) (by decide) h2 h1), ha⟩
set_option maxHeartbeats 8000000 in
set_option maxRecDepth 20000 in
theorem WireKeeps_walk (A1 : Option Addr) (ls1 : List (List UInt8)) (vs1 : List Value) (n1 c1 b1 : Nat) (A2 : Option Addr) (ls2 : List (List UInt8)) (vs2 : List Value) (n2 c2 b2 : Nat) (w : World) (hs1 : Sl w b1 A1 vs1) (hv1 : Bss w vs1 ls1) (hz1 : ∀ l ∈ ls1, l.length ≤ maxLen) (hn1 : ls1.length = n1) (hm1 : n1 ≤ maxLen) (hs2 : Sl w b2 A2 vs2) (hv2 : Bss w vs2 ls2) (hz2 : ∀ l ∈ ls2, l.length ≤ maxLen) (hn2 : ls2.length = n2) (hm2 : n2 ≤ maxLen) :
    Calls Try.prog 7 #[.slice A1 n1 c1, .slice A2 n2 c2] w fun e w' => e = .returned (.bool true) ∧ Below w.heap.size w w' := by
  have hF1 := fun W h1 h2 => few_calls A1 vs1 ls1 n1 c1 b1 none [] 0 0 0 W h1 h2 hn1 hm1 hz1 (Sl.nil_ _ _ _) rfl (by simp [maxLen])
  have hF2 := fun W h1 h2 => few_calls A2 vs2 ls2 n2 c2 b2 none [] 0 0 0 W h1 h2 hn2 hm2 hz2 (Sl.nil_ _ _ _) rfl (by simp [maxLen])
  clear hn1 hn2 hz1 hz2 hm1 hm2
  go_enter Try.func7, Try.ntmps7
  go_wp2_with fail
  refine (awake_calls _).mono ?_
  rintro e w1 ⟨rfl, hb⟩
  replace hs1 := Sl.ext hs1 hb
  replace hs2 := Sl.ext hs2 hb
  replace hv1 := hv1.ext hb
  replace hv2 := hv2.ext hb
  go_wp2_with fail
  refine (hF1 _ hs1 hv1).mono ?_
  rintro e w2 ⟨x1, x2, x3, rfl, ⟨us1, hr1, hi1, ha1, -, hb2⟩⟩
  obtain ⟨M1, hM1⟩ : ∃ M1, M1 = fewL ls1 ls1.length := ⟨_, rfl⟩
  have hl1 : M1.length ≤ 8 := by rw [hM1]; exact fewL_length _ _
  have hz1 : ∀ l ∈ M1, l.length ≤ 40 := by rw [hM1]; exact few_small _ _
  rw [← hM1] at hi1
  obtain ⟨m1, hm1⟩ : ∃ m1, M1.length = m1 := ⟨_, rfl⟩
  obtain ⟨B1, d1, e1, rfl, -, r1, t1⟩ := res_sl hr1 hi1 hm1
  obtain ⟨B9, d9, e9, hv9, -⟩ := own_sl ha1
  subst hv9
  replace hs2 := Sl.ext hs2 hb2
  replace hv2 := hv2.ext hb2
  replace hb := hb.trans (hb2.mono hb.size)
  have HM1 := Lib.hid hm1
  rw [hm1] at hl1
  clear hF1 hs1 hv1 hr1 hi1 ha1 hM1 hm1 hb2
  obtain ⟨z9, hz9⟩ : ∃ z9, z9 = (fewF ([] : List Ft) ([] : List Ft).length).length := ⟨_, rfl⟩
  rw [← hz9]
  clear hz9
  have xs0 : w2.heap.size = w2.heap.size := rfl
  have xb1 := below_alloc1 w2 (.cells #[.slice B1 m1 d1, .slice B9 z9 d9] 34)
  have xf1 := SlT.new2 w2 #[.slice B1 m1 d1, .slice B9 z9 d9] 34 _ xs0
  have xs1 : (w2.alloc (.cells #[.slice B1 m1 d1, .slice B9 z9 d9] 34)).heap.size = w2.heap.size + 1 := by simp
  obtain ⟨xw1, xe1⟩ : ∃ xw1, xw1 = w2.alloc (.cells #[.slice B1 m1 d1, .slice B9 z9 d9] 34) := ⟨_, rfl⟩
  rw [← xe1] at xb1 xf1 xs1
  have xB := xb1
  clear xb1
  have q5 : BoxT xw1 w2.heap.size (.slice B1 m1 d1) (.slice B9 z9 d9) := by rw [xe1]; exact heap_alloc_new w2 _
  replace r1 := r1.ext xB
  replace t1 := t1.ext xB
  replace hs2 := Sl.ext hs2 xB
  replace hv2 := hv2.ext xB
  replace hb := hb.trans (xB.mono hb.size)
  clear xf1 xB
  go_wp2_with fail
  rw [← xe1]
  refine (hF2 _ hs2 hv2).mono ?_
  clear xe1 xs1 xs0
  rintro e w3 ⟨y1, y2, y3, rfl, ⟨us2, hr2, hi2, ha2, -, hb3⟩⟩
  obtain ⟨M2, hM2⟩ : ∃ M2, M2 = fewL ls2 ls2.length := ⟨_, rfl⟩
  have hl2 : M2.length ≤ 8 := by rw [hM2]; exact fewL_length _ _
  have hz2 : ∀ l ∈ M2, l.length ≤ 40 := by rw [hM2]; exact few_small _ _
  rw [← hM2] at hi2
  obtain ⟨m2, hm2⟩ : ∃ m2, M2.length = m2 := ⟨_, rfl⟩
  obtain ⟨B2, d2, e2, rfl, -, r2, t2⟩ := res_sl hr2 hi2 hm2
  obtain ⟨B8, d8, e8, hv8, -⟩ := own_sl ha2
  subst hv8
  replace q5 := q5.ext hb3
  replace r1 := r1.ext hb3
  replace t1 := t1.ext hb3
  replace hb := hb.trans (hb3.mono hb.size)
  have HM2 := Lib.hid hm2
  rw [hm2] at hl2
  obtain ⟨g5, hg5⟩ : ∃ g5, g5 = w2.heap.size := ⟨_, rfl⟩
  rw [← hg5] at q5 ⊢
  clear hF2 hs2 hv2 hr2 hi2 ha2 hM2 hm2 hb3 hg5
  obtain ⟨z8, hz8⟩ : ∃ z8, z8 = (fewF ([] : List Ft) ([] : List Ft).length).length := ⟨_, rfl⟩
  rw [← hz8]
  clear hz8
  have ys0 : w3.heap.size = w3.heap.size := rfl
  have yb1 := below_alloc1 w3 (.cells #[.slice B2 m2 d2, .slice B8 z8 d8] 34)
  have yf1 := SlT.new2 w3 #[.slice B2 m2 d2, .slice B8 z8 d8] 34 _ ys0
  have ys1 : (w3.alloc (.cells #[.slice B2 m2 d2, .slice B8 z8 d8] 34)).heap.size = w3.heap.size + 1 := by simp
  obtain ⟨yw1, ye1⟩ : ∃ yw1, yw1 = w3.alloc (.cells #[.slice B2 m2 d2, .slice B8 z8 d8] 34) := ⟨_, rfl⟩
  rw [← ye1] at yb1 yf1 ys1
  have yB := yb1
  have yb2 := below_alloc1 yw1 (.cells #[.slice none 0 0] 26)
  have yf2 := SlT.new2 yw1 #[.slice none 0 0] 26 _ ys1
  have ys2 : (yw1.alloc (.cells #[.slice none 0 0] 26)).heap.size = w3.heap.size + 1 + 1 := by simp [ys1]
  obtain ⟨yw2, ye2⟩ : ∃ yw2, yw2 = yw1.alloc (.cells #[.slice none 0 0] 26) := ⟨_, rfl⟩
  rw [← ye2] at yb2 yf2 ys2
  replace yf1 := yf1.ext yb2
  replace yB := yB.trans (yb2.mono yB.size)
  clear yb1 yb2
  have q7 : BoxT yw2 w3.heap.size (.slice B2 m2 d2) (.slice B8 z8 d8) := by
    have h1 : BoxT yw1 w3.heap.size (.slice B2 m2 d2) (.slice B8 z8 d8) := by rw [ye1]; exact heap_alloc_new w3 _
    have h2 : Below yw1.heap.size yw1 yw2 := by rw [ye2]; exact below_alloc1 _ _
    exact h1.ext h2
  have hq0 : Wi (w3.heap.size + 1) 0 (w3.heap.size + 1) yw2 [] := Wi.new_ (by rw [ye2, ← ys1]; exact Box.new_ _ _ _)
  replace q5 := q5.ext yB
  replace r1 := r1.ext yB
  replace t1 := t1.ext yB
  replace r2 := r2.ext yB
  replace t2 := t2.ext yB
  have hBW : w3.heap.size + 1 ≤ yw2.heap.size := by omega
  have hB3 : w.heap.size ≤ w3.heap.size + 1 := Nat.le_succ_of_le hb.size
  replace hb := hb.trans (yB.mono hb.size)
  have hL1 : ∀ l ∈ M1, l.length ≤ 1000000 := fun l h => Nat.le_trans (hz1 l h) (by decide)
  have hL2 : ∀ l ∈ M2, l.length ≤ 1000000 := fun l h => Nat.le_trans (hz2 l h) (by decide)
  have hP := WPut_calls (w3.heap.size + 1) 0 (w3.heap.size + 1) [] B1 us1 M1 m1 d1 e1 none [] 0 0 0 yw2 hq0 r1 t1 HM1.out hL1 (SlT.nil_ _ _ _ _) rfl (by simp) (by simp; omega) (by decide) hBW (Nat.le_refl _) (Nat.zero_le _)
  rw [List.nil_append, putsN_none M1 m1 (by have := HM1.out; omega), List.take_of_length_le (by have := HM1.out; omega)] at hP
  have c5 := q5.c0
  have gs : w3.heap.size + 1 = w3.heap.size + 1 := rfl
  clear hq0 yf1 yf2 yB
  have HYE := Lib.hid (And.intro ye1 ye2)
  have c5' : World.cell? ((w3.alloc (.cells #[.slice B2 m2 d2, .slice B8 z8 d8] 34)).alloc (.cells #[.slice none 0 0] 26)) ⟨g5, 0, none⟩ = some (.slice B1 m1 d1) := by rw [← ye1, ← ye2]; exact c5
  clear ye1 ye2
  go_wp2_with fail
  rw [← HYE.out.1, ← HYE.out.2]
  refine hP.mono ?_
  rintro e w4 ⟨rfl, hw, hm⟩
  clear hP c5 c5' HYE ys0 ys1 ys2 gs
  replace r1 := hm.slT r1 (by decide) (by decide)
  replace t1 := hm.bssT t1 (by decide) (by decide)
  replace r2 := hm.slT r2 (by decide) (by decide)
  replace t2 := hm.bssT t2 (by decide) (by decide)
  replace q5 := hm.boxT q5 (by decide) (by decide)
  replace q7 := hm.boxT q7 (by decide) (by decide)
  replace hb := hb.trans (hm.bel.mono hB3)
  replace hBW := Nat.le_trans hBW hm.bel.size
  clear hm
  have hP := WPut_calls (w3.heap.size + 1) 0 (w3.heap.size + 1) (M1.map (·, 1)) B2 us2 M2 m2 d2 e2 none [] 0 0 0 w4 hw r2 t2 HM2.out hL2 (SlT.nil_ _ _ _ _) rfl (by simp) (by have := HM1.out; simp; omega) (by decide) hBW (Nat.le_refl _) (Nat.zero_le _)
  rw [putsN_none M2 m2 (by have := HM2.out; omega), List.take_of_length_le (l := M2) (by have := HM2.out; omega), ← List.map_append] at hP
  have c7 := q7.c0
  clear hw
  go_wp2_with fail
  refine hP.mono ?_
  rintro e w5 ⟨rfl, hw, hm⟩
  clear hP c7
  replace r1 := hm.slT r1 (by decide) (by decide)
  replace t1 := hm.bssT t1 (by decide) (by decide)
  replace r2 := hm.slT r2 (by decide) (by decide)
  replace t2 := hm.bssT t2 (by decide) (by decide)
  replace q5 := hm.boxT q5 (by decide) (by decide)
  replace q7 := hm.boxT q7 (by decide) (by decide)
  replace hb := hb.trans (hm.bel.mono hB3)
  replace hBW := Nat.le_trans hBW hm.bel.size
  clear hm
  have hT := fun W h1 h2 => WTake_calls (w3.heap.size + 1) 0 (w3.heap.size + 1) ((M1 ++ M2).map (·, 1)) W h1 (by have := HM1.out; have := HM2.out; simp; omega) (by intro x hx; obtain ⟨y, _, rfl⟩ := List.mem_map.1 hx; simp) h2 (Nat.le_refl _)
  have hMl : (M1 ++ M2).length = m1 + m2 := by rw [List.length_append, HM1.out, HM2.out]
  have hML : ∀ l ∈ M1 ++ M2, l.length ≤ maxLen := fun l h => by
    rcases List.mem_append.1 h with h | h
    · exact Nat.le_trans (hL1 l h) (by simp [maxLen])
    · exact Nat.le_trans (hL2 l h) (by simp [maxLen])
  have HML := Lib.hid hML
  have HMl := Lib.hid hMl
  have hu1 := t1.1
  have hu2 := t2.1
  rw [HM1.out] at hu1
  rw [HM2.out] at hu2
  obtain ⟨gW, hgW⟩ : ∃ gW, gW = w3.heap.size + 1 := ⟨_, rfl⟩
  obtain ⟨g7, hg7⟩ : ∃ g7, g7 = w3.heap.size := ⟨_, rfl⟩
  go_wp2_with fail
  rw [← hgW] at hw hBW hT hB3 ⊢
  rw [← hg7] at q7 ⊢
  obtain ⟨wB, hwB⟩ : ∃ wB, wB = w5.heap.size := ⟨_, rfl⟩
  have hwB1 : wB ≤ w5.heap.size := by omega
  have R1 := Lib.hid (show us1 ≠ [] → e1 < wB from fun h => by have := r1.1.lt h; omega)
  have R2 := Lib.hid (show us2 ≠ [] → e2 < wB from fun h => by have := r2.1.lt h; omega)
  have HWB := Lib.hid (show w.heap.size ≤ wB from by have := hb.size; omega)
  clear hgW hg7 hML hMl hL1 hL2 hz1 hz2 hwB
  refine wp_region_E (fun j => false) (fun w9 => BoxT w9 g5 (.slice B1 m1 d1) (.slice B9 z9 d9) ∧ BoxT w9 g7 (.slice B2 m2 d2) (.slice B8 z8 d8)) (by kernel_rfl) ?_ (fun hHeld => ?_)
  · exact (by first | exact ⟨q5, q7⟩ | exact ⟨q5.ext (below_drew (Below.refl _ _)), q7.ext (below_drew (Below.refl _ _))⟩)
  obtain ⟨wd18', hwd⟩ : ∃ wd18', wd18' = World.drew w5 := ⟨_, rfl⟩
  have h9 : Below w5.heap.size w5 wd18' := by rw [hwd]; exact below_drew (Below.refl _ _)
  rw [← hwd] at hHeld ⊢
  clear hwd
  replace r1 := r1.ext h9
  replace t1 := t1.ext h9
  replace r2 := r2.ext h9
  replace t2 := t2.ext h9
  replace q5 := q5.ext h9
  replace q7 := q7.ext h9
  replace hb := hb.trans (h9.mono hb.size)
  replace hBW := Nat.le_trans hBW h9.size
  replace hwB1 := Nat.le_trans hwB1 h9.size
  replace hw := hw.ext h9
  clear h9
  refine wpAnyE_take (i := 2) (by simp only [List.getElem?_toArray]; rfl) (by kernel_rfl) (by kernel_rfl) (by kernel_rfl) (by kernel_rfl) (by kernel_rfl) (by exact fun _ _ _ h => h) (by exact yk (.pointer (some ⟨g5, 0, none⟩)) (by kernel_rfl) (fun _ => by kernel_rfl)) hHeld ?_
  refine wpAnyE_take (i := 3) (by simp only [List.getElem?_toArray]; rfl) (by kernel_rfl) (by kernel_rfl) (by kernel_rfl) (by kernel_rfl) (by kernel_rfl) (by exact fun _ _ _ h => h) (by exact yk_ldB (by kernel_rfl) (.tmp 32) rfl ⟨g5, 0, none⟩ (.slice B1 m1 d1) (by kernel_rfl) (fun w hh => hh.1.c0)) hHeld ?_
  refine wpAnyE_take (i := 5) (by simp only [List.getElem?_toArray]; rfl) (by kernel_rfl) (by kernel_rfl) (by kernel_rfl) (by kernel_rfl) (by kernel_rfl) (by exact fun _ _ _ h => h) (by exact yk (.pointer (some ⟨g7, 0, none⟩)) (by kernel_rfl) (fun _ => by kernel_rfl)) hHeld ?_
  refine wpAnyE_take (i := 6) (by simp only [List.getElem?_toArray]; rfl) (by kernel_rfl) (by kernel_rfl) (by kernel_rfl) (by kernel_rfl) (by kernel_rfl) (by exact fun _ _ _ h => h) (by exact yk_ldB (by kernel_rfl) (.tmp 35) rfl ⟨g7, 0, none⟩ (.slice B2 m2 d2) (by kernel_rfl) (fun w hh => hh.2.c0)) hHeld ?_
  refine wpAnyE_ready (rs := [0, 1]) (by kernel_rfl) (by simp) ?_
  refine EachE.cons (by rfl) (by simp only [List.getElem?_toArray]; rfl) (fun KK hKK => ?_) (EachE.cons (by rfl) (by simp only [List.getElem?_toArray]; rfl) (fun KK hKK => ?_) EachE.nil)
  ·
   rw [if_pos (by kernel_rfl)]
   refine wp_callF 16 #[.pointer (some ⟨gW, 0, none⟩)] (by kernel_rfl) ?_
   refine (hT _ hw hBW).mono ?_
   rintro e w19' ⟨vo, rfl, ⟨us7, hr7, hi7, -, hw7, h9⟩⟩
   rw [nowK_ones] at hi7
   rw [laterK_ones] at hw7
   obtain ⟨Aa, ca, ba, rfl, hba, ra, ta⟩ := res_sl2 hr7 hi7 HMl.out
   replace hw := hw7
   clear hw7 hr7 hi7 hT hba
   refine ⟨_, rfl, ?_⟩
   replace r1 := h9.slT r1 (by decide) (by decide)
   replace t1 := h9.bssT t1 (by decide) (by decide)
   replace r2 := h9.slT r2 (by decide) (by decide)
   replace t2 := h9.bssT t2 (by decide) (by decide)
   replace q5 := h9.boxT q5 (by decide) (by decide)
   replace q7 := h9.boxT q7 (by decide) (by decide)
   replace hb := hb.trans (h9.bel.mono hB3)
   replace hBW := Nat.le_trans hBW h9.bel.size
   replace hwB1 := Nat.le_trans hwB1 h9.bel.size
   clear h9
   refine hKK.out _ _ ?_ (fun hHeld => ?_)
   · exact (by first | exact ⟨q5, q7⟩ | exact ⟨q5.ext (below_drew (Below.refl _ _)), q7.ext (below_drew (Below.refl _ _))⟩)
   clear hKK KK
   refine wpAnyE_ready (rs := [1]) (by kernel_rfl) (by simp) ?_
   refine EachE.cons (by rfl) (by simp only [List.getElem?_toArray]; rfl) (fun KK hKK => ?_) EachE.nil
   rw [if_pos (by kernel_rfl)]
   refine wp_bsB0 rfl ?_
   have ho : RowS (World.alloc w19' (.cells #[] 46)) wB (.slice (some ⟨w19'.heap.size, 0, none⟩) 0 0) [] := own_low (World.ownsRow_made w19' #[] 0 (Nat.le_refl _) (by simp [maxLen]) rfl) hwB1
   obtain ⟨b6, hb6⟩ : ∃ b6, b6 = w19'.heap.size := ⟨_, rfl⟩
   have hne : us7 ≠ [] → Value.ownBlock (.slice (some ⟨b6, 0, none⟩) 0 0) ≠ some ba := fun h0 h => by have h1 := ra.1.lt h0; have h2 : some b6 = some ba := h; injection h2 with h2; omega
   have h9 := below_alloc1 w19' (.cells #[] 46)
   obtain ⟨w20', e⟩ : ∃ w20', w20' = World.alloc w19' (.cells #[] 46) := ⟨_, rfl⟩
   rw [← e] at ho h9 ⊢
   rw [← hb6] at ho ⊢
   clear e hb6
   replace r1 := r1.ext h9
   replace t1 := t1.ext h9
   replace r2 := r2.ext h9
   replace t2 := t2.ext h9
   replace q5 := q5.ext h9
   replace q7 := q7.ext h9
   replace hb := hb.trans (h9.mono hb.size)
   replace hBW := Nat.le_trans hBW h9.size
   replace hwB1 := Nat.le_trans hwB1 h9.size
   replace ra := ra.ext h9
   replace ta := ta.ext h9
   replace hw := hw.ext h9
   clear h9
   refine hKK.out _ _ ?_ (fun hHeld => ?_)
   · exact (by first | exact ⟨q5, q7⟩ | exact ⟨q5.ext (below_drew (Below.refl _ _)), q7.ext (below_drew (Below.refl _ _))⟩)
   clear hKK KK
   refine wpAnyE_ready (rs := [4]) (by kernel_rfl) (by simp) ?_
   refine EachE.cons (by rfl) (by simp only [List.getElem?_toArray]; rfl) (fun KK hKK => ?_) EachE.nil
   rw [if_pos (by kernel_rfl)]
   refine wp_appB (.tmp 31) (.tmp 33) rfl wB _ _ (by kernel_rfl) ho e1 B1 m1 d1 us1 (by kernel_rfl) r1.1 hu1 (rows_one t1.bss) (by simp; omega) hwB1 ?_
   intro v7 w21' hr7 hm7 hat7
   have hlo := fun i hi => (World.ownsRow.lt ho i hi).1
   have hne7 : us7 ≠ [] → Value.ownBlock v7 ≠ some ba := fun h0 h => by
     rcases hat7 with h1 | h1
     · exact hne h0 (h1.symm.trans h)
     · rw [h1] at h
       injection h with h
       have := ra.1.lt h0
       omega
   replace hb := hb.trans (hm7.below hb.size (fun i hi hh => by have h1 := hlo i hh; have := HWB.out; omega))
   replace hBW := Nat.le_trans hBW hm7.size
   replace hwB1 := Nat.le_trans hwB1 hm7.size
   have k5 := q5.ne_row ho (by decide)
   have k7 := q7.ne_row ho (by decide)
   replace q5 := q5.mod hm7 k5
   replace q7 := q7.mod hm7 k7
   replace t1 := t1.row ho (by decide) hm7
   replace t2 := t2.row ho (by decide) hm7
   replace ta := ta.row ho (by decide) hm7
   replace hw := hw.row ho hm7
   replace ra := SlT.ne2 ra hm7 (fun h hh => hne h hh)
   replace r1 := SlT.ne2 r1 hm7 (fun h hh => by have h1 := hlo _ hh; have h2 := R1.out h; omega)
   replace r2 := SlT.ne2 r2 hm7 (fun h hh => by have h1 := hlo _ hh; have h2 := R2.out h; omega)
   replace hne := hne7
   replace ho := hr7
   clear hr7 hm7 hat7 hlo hne7 k5 k7
   obtain ⟨AV1, cV1, bV1, hv7, -⟩ := own_sl ho
   rw [List.nil_append, hu1] at hv7
   subst hv7
   refine hKK.out _ _ ?_ (fun hHeld => ?_)
   · exact (by first | exact ⟨q5, q7⟩ | exact ⟨q5.ext (below_drew (Below.refl _ _)), q7.ext (below_drew (Below.refl _ _))⟩)
   clear hKK KK
   refine wpAnyE_ready (rs := [7]) (by kernel_rfl) (by simp) ?_
   refine EachE.cons (by rfl) (by simp only [List.getElem?_toArray]; rfl) (fun KK hKK => ?_) EachE.nil
   rw [if_pos (by kernel_rfl)]
   refine wp_appB (.tmp 34) (.tmp 36) rfl wB _ _ (by kernel_rfl) ho e2 B2 m2 d2 us2 (by kernel_rfl) r2.1 hu2 (rows_one t2.bss) (by simp; omega) hwB1 ?_
   intro v7 w22' hr7 hm7 hat7
   have hlo := fun i hi => (World.ownsRow.lt ho i hi).1
   have hne7 : us7 ≠ [] → Value.ownBlock v7 ≠ some ba := fun h0 h => by
     rcases hat7 with h1 | h1
     · exact hne h0 (h1.symm.trans h)
     · rw [h1] at h
       injection h with h
       have := ra.1.lt h0
       omega
   replace hb := hb.trans (hm7.below hb.size (fun i hi hh => by have h1 := hlo i hh; have := HWB.out; omega))
   replace hBW := Nat.le_trans hBW hm7.size
   replace hwB1 := Nat.le_trans hwB1 hm7.size
   have k5 := q5.ne_row ho (by decide)
   have k7 := q7.ne_row ho (by decide)
   replace q5 := q5.mod hm7 k5
   replace q7 := q7.mod hm7 k7
   replace t1 := t1.row ho (by decide) hm7
   replace t2 := t2.row ho (by decide) hm7
   replace ta := ta.row ho (by decide) hm7
   replace hw := hw.row ho hm7
   replace ra := SlT.ne2 ra hm7 (fun h hh => hne h hh)
   replace r1 := SlT.ne2 r1 hm7 (fun h hh => by have h1 := hlo _ hh; have h2 := R1.out h; omega)
   replace r2 := SlT.ne2 r2 hm7 (fun h hh => by have h1 := hlo _ hh; have h2 := R2.out h; omega)
   replace hne := hne7
   replace ho := hr7
   clear hr7 hm7 hat7 hlo hne7 k5 k7
   obtain ⟨AV2, cV2, bV2, hv7, -⟩ := own_sl ho
   rw [List.nil_append, List.length_append, hu1, hu2] at hv7
   subst hv7
   refine hKK.out _ _ ?_ (fun hHeld => ?_)
   · exact (by first | exact ⟨q5, q7⟩ | exact ⟨q5.ext (below_drew (Below.refl _ _)), q7.ext (below_drew (Below.refl _ _))⟩)
   clear hKK KK
   refine wpAnyE_ready (rs := [8]) (by kernel_rfl) (by simp) ?_
   refine EachE.cons (by rfl) (by simp only [List.getElem?_toArray]; rfl) (fun KK hKK => ?_) EachE.nil
   rw [if_pos (by kernel_rfl)]
   obtain ⟨Ao, co, bo, hvo, -, -, -, so, -⟩ := SlT.of_own ho
   have hvo1 := hvo
   rw [List.nil_append, List.length_append, hu1, hu2] at hvo1
   refine wp_callF 15 #[.slice Aa (m1 + m2) ca, .slice AV2 (m1 + m2) cV2] (by kernel_rfl) ?_
   rw [hvo1]
   refine (SameL_calls Aa Ao us7 ([] ++ us1 ++ us2) (M1 ++ M2) (M1 ++ M2) (m1 + m2) (m1 + m2) ca co ba bo _ ra.1 so.1 ta.bss (by rw [List.nil_append]; exact (t1.append t2).bss) HMl.out HMl.out (by omega) HML.out HML.out).mono ?_
   rintro e w23' ⟨rfl, kd, e9⟩
   have h9 : Below w22'.heap.size w22' w23' := by rw [e9]; exact below_drewN (Below.refl _ _) _
   clear e9
   rw [show decide (M1 ++ M2 = M1 ++ M2) = true from decide_eq_true rfl]
   refine ⟨_, rfl, ?_⟩
   clear hvo hvo1 so
   replace r1 := r1.ext h9
   replace t1 := t1.ext h9
   replace r2 := r2.ext h9
   replace t2 := t2.ext h9
   replace q5 := q5.ext h9
   replace q7 := q7.ext h9
   replace hb := hb.trans (h9.mono hb.size)
   replace hBW := Nat.le_trans hBW h9.size
   replace hwB1 := Nat.le_trans hwB1 h9.size
   replace ra := ra.ext h9
   replace ta := ta.ext h9
   replace hw := hw.ext h9
   replace ho := own_ext ho h9
   clear h9
   refine hKK.out _ _ ?_ (fun hHeld => ?_)
   · exact (by first | exact ⟨q5, q7⟩ | exact ⟨q5.ext (below_drew (Below.refl _ _)), q7.ext (below_drew (Below.refl _ _))⟩)
   clear hKK KK
   refine wpAnyE_take (i := 9) (by simp only [List.getElem?_toArray]; rfl) (by kernel_rfl) (by kernel_rfl) (by kernel_rfl) (by kernel_rfl) (by kernel_rfl) (by exact fun _ _ _ h => h) (by exact yk (.bool true) (by kernel_rfl) (fun _ => by kernel_rfl)) hHeld ?_
   refine wpAnyE_ready (rs := [10]) (by kernel_rfl) (by simp) ?_
   refine EachE.cons (by rfl) (by simp only [List.getElem?_toArray]; rfl) (fun KK hKK => ?_) EachE.nil
   rw [if_pos (by kernel_rfl)]
   refine wp_callF 13 #[.pointer (some ⟨gW, 0, none⟩)] (by kernel_rfl) ?_
   refine (WWait_calls _ 0 gW [] _ hw).mono ?_
   rintro e w24' ⟨rfl, e9⟩
   subst e9
   rw [show ((([] : List (List UInt8 × Int)).length : Nat) : Int) = 0 from rfl]
   refine ⟨_, rfl, ?_⟩
   refine hKK.out _ _ ?_ (fun hHeld => ?_)
   · exact (by first | exact ⟨q5, q7⟩ | exact ⟨q5.ext (below_drew (Below.refl _ _)), q7.ext (below_drew (Below.refl _ _))⟩)
   clear hKK KK
   refine wpAnyE_take (i := 11) (by simp only [List.getElem?_toArray]; rfl) (by kernel_rfl) (by kernel_rfl) (by kernel_rfl) (by kernel_rfl) (by kernel_rfl) (by exact fun _ _ _ h => h) (by exact yk (.bool true) (by kernel_rfl) (fun _ => by kernel_rfl)) hHeld ?_
   refine wpAnyE_take (i := 12) (by simp only [List.getElem?_toArray]; rfl) (by kernel_rfl) (by kernel_rfl) (by kernel_rfl) (by kernel_rfl) (by kernel_rfl) (by exact fun _ _ _ h => h) (by exact yk (.bool true) (by kernel_rfl) (fun _ => by kernel_rfl)) hHeld ?_
   refine wpAnyE_take (i := 13) (by simp only [List.getElem?_toArray]; rfl) (by kernel_rfl) (by kernel_rfl) (by kernel_rfl) (by kernel_rfl) (by kernel_rfl) (by exact fun _ _ _ h => h) (by exact yk (.bool true) (by kernel_rfl) (fun _ => by kernel_rfl)) hHeld ?_
   refine wpAnyE_done (by kernel_rfl) ?_ _
   go_wp2_with fail
   go_ret
   exact ⟨by kernel_rfl, hb⟩
  ·
   rw [if_pos (by kernel_rfl)]
   refine wp_bsB0 rfl ?_
   have ho : RowS (World.alloc wd18' (.cells #[] 46)) wB (.slice (some ⟨wd18'.heap.size, 0, none⟩) 0 0) [] := own_low (World.ownsRow_made wd18' #[] 0 (Nat.le_refl _) (by simp [maxLen]) rfl) hwB1
   obtain ⟨b6, hb6⟩ : ∃ b6, b6 = wd18'.heap.size := ⟨_, rfl⟩
   have h9 := below_alloc1 wd18' (.cells #[] 46)
   obtain ⟨w25', e⟩ : ∃ w25', w25' = World.alloc wd18' (.cells #[] 46) := ⟨_, rfl⟩
   rw [← e] at ho h9 ⊢
   rw [← hb6] at ho ⊢
   clear e hb6
   replace r1 := r1.ext h9
   replace t1 := t1.ext h9
   replace r2 := r2.ext h9
   replace t2 := t2.ext h9
   replace q5 := q5.ext h9
   replace q7 := q7.ext h9
   replace hb := hb.trans (h9.mono hb.size)
   replace hBW := Nat.le_trans hBW h9.size
   replace hwB1 := Nat.le_trans hwB1 h9.size
   replace hw := hw.ext h9
   clear h9
   refine hKK.out _ _ ?_ (fun hHeld => ?_)
   · exact (by first | exact ⟨q5, q7⟩ | exact ⟨q5.ext (below_drew (Below.refl _ _)), q7.ext (below_drew (Below.refl _ _))⟩)
   clear hKK KK
   refine wpAnyE_ready (rs := [0]) (by kernel_rfl) (by simp) ?_
   refine EachE.cons (by rfl) (by simp only [List.getElem?_toArray]; rfl) (fun KK hKK => ?_) EachE.nil
   rw [if_pos (by kernel_rfl)]
   refine wp_callF 16 #[.pointer (some ⟨gW, 0, none⟩)] (by kernel_rfl) ?_
   refine (hT _ hw hBW).mono ?_
   rintro e w26' ⟨vo, rfl, ⟨us7, hr7, hi7, -, hw7, h9⟩⟩
   rw [nowK_ones] at hi7
   rw [laterK_ones] at hw7
   obtain ⟨Aa, ca, ba, rfl, hba, ra, ta⟩ := res_sl2 hr7 hi7 HMl.out
   have hne : us7 ≠ [] → Value.ownBlock (.slice (some ⟨b6, 0, none⟩) 0 0) ≠ some ba := fun _ h => by have h1 := (World.ownsRow.lt ho _ h).2; omega
   replace hw := hw7
   clear hw7 hr7 hi7 hT hba
   refine ⟨_, rfl, ?_⟩
   replace r1 := h9.slT r1 (by decide) (by decide)
   replace t1 := h9.bssT t1 (by decide) (by decide)
   replace r2 := h9.slT r2 (by decide) (by decide)
   replace t2 := h9.bssT t2 (by decide) (by decide)
   replace q5 := h9.boxT q5 (by decide) (by decide)
   replace q7 := h9.boxT q7 (by decide) (by decide)
   replace hb := hb.trans (h9.bel.mono hB3)
   replace hBW := Nat.le_trans hBW h9.bel.size
   replace hwB1 := Nat.le_trans hwB1 h9.bel.size
   replace ho := h9.own ho (by decide) (by decide)
   clear h9
   refine hKK.out _ _ ?_ (fun hHeld => ?_)
   · exact (by first | exact ⟨q5, q7⟩ | exact ⟨q5.ext (below_drew (Below.refl _ _)), q7.ext (below_drew (Below.refl _ _))⟩)
   clear hKK KK
   refine wpAnyE_ready (rs := [4]) (by kernel_rfl) (by simp) ?_
   refine EachE.cons (by rfl) (by simp only [List.getElem?_toArray]; rfl) (fun KK hKK => ?_) EachE.nil
   rw [if_pos (by kernel_rfl)]
   refine wp_appB (.tmp 31) (.tmp 33) rfl wB _ _ (by kernel_rfl) ho e1 B1 m1 d1 us1 (by kernel_rfl) r1.1 hu1 (rows_one t1.bss) (by simp; omega) hwB1 ?_
   intro v7 w27' hr7 hm7 hat7
   have hlo := fun i hi => (World.ownsRow.lt ho i hi).1
   have hne7 : us7 ≠ [] → Value.ownBlock v7 ≠ some ba := fun h0 h => by
     rcases hat7 with h1 | h1
     · exact hne h0 (h1.symm.trans h)
     · rw [h1] at h
       injection h with h
       have := ra.1.lt h0
       omega
   replace hb := hb.trans (hm7.below hb.size (fun i hi hh => by have h1 := hlo i hh; have := HWB.out; omega))
   replace hBW := Nat.le_trans hBW hm7.size
   replace hwB1 := Nat.le_trans hwB1 hm7.size
   have k5 := q5.ne_row ho (by decide)
   have k7 := q7.ne_row ho (by decide)
   replace q5 := q5.mod hm7 k5
   replace q7 := q7.mod hm7 k7
   replace t1 := t1.row ho (by decide) hm7
   replace t2 := t2.row ho (by decide) hm7
   replace ta := ta.row ho (by decide) hm7
   replace hw := hw.row ho hm7
   replace ra := SlT.ne2 ra hm7 (fun h hh => hne h hh)
   replace r1 := SlT.ne2 r1 hm7 (fun h hh => by have h1 := hlo _ hh; have h2 := R1.out h; omega)
   replace r2 := SlT.ne2 r2 hm7 (fun h hh => by have h1 := hlo _ hh; have h2 := R2.out h; omega)
   replace hne := hne7
   replace ho := hr7
   clear hr7 hm7 hat7 hlo hne7 k5 k7
   obtain ⟨AV1, cV1, bV1, hv7, -⟩ := own_sl ho
   rw [List.nil_append, hu1] at hv7
   subst hv7
   refine hKK.out _ _ ?_ (fun hHeld => ?_)
   · exact (by first | exact ⟨q5, q7⟩ | exact ⟨q5.ext (below_drew (Below.refl _ _)), q7.ext (below_drew (Below.refl _ _))⟩)
   clear hKK KK
   refine wpAnyE_ready (rs := [7]) (by kernel_rfl) (by simp) ?_
   refine EachE.cons (by rfl) (by simp only [List.getElem?_toArray]; rfl) (fun KK hKK => ?_) EachE.nil
   rw [if_pos (by kernel_rfl)]
   refine wp_appB (.tmp 34) (.tmp 36) rfl wB _ _ (by kernel_rfl) ho e2 B2 m2 d2 us2 (by kernel_rfl) r2.1 hu2 (rows_one t2.bss) (by simp; omega) hwB1 ?_
   intro v7 w28' hr7 hm7 hat7
   have hlo := fun i hi => (World.ownsRow.lt ho i hi).1
   have hne7 : us7 ≠ [] → Value.ownBlock v7 ≠ some ba := fun h0 h => by
     rcases hat7 with h1 | h1
     · exact hne h0 (h1.symm.trans h)
     · rw [h1] at h
       injection h with h
       have := ra.1.lt h0
       omega
   replace hb := hb.trans (hm7.below hb.size (fun i hi hh => by have h1 := hlo i hh; have := HWB.out; omega))
   replace hBW := Nat.le_trans hBW hm7.size
   replace hwB1 := Nat.le_trans hwB1 hm7.size
   have k5 := q5.ne_row ho (by decide)
   have k7 := q7.ne_row ho (by decide)
   replace q5 := q5.mod hm7 k5
   replace q7 := q7.mod hm7 k7
   replace t1 := t1.row ho (by decide) hm7
   replace t2 := t2.row ho (by decide) hm7
   replace ta := ta.row ho (by decide) hm7
   replace hw := hw.row ho hm7
   replace ra := SlT.ne2 ra hm7 (fun h hh => hne h hh)
   replace r1 := SlT.ne2 r1 hm7 (fun h hh => by have h1 := hlo _ hh; have h2 := R1.out h; omega)
   replace r2 := SlT.ne2 r2 hm7 (fun h hh => by have h1 := hlo _ hh; have h2 := R2.out h; omega)
   replace hne := hne7
   replace ho := hr7
   clear hr7 hm7 hat7 hlo hne7 k5 k7
   obtain ⟨AV2, cV2, bV2, hv7, -⟩ := own_sl ho
   rw [List.nil_append, List.length_append, hu1, hu2] at hv7
   subst hv7
   refine hKK.out _ _ ?_ (fun hHeld => ?_)
   · exact (by first | exact ⟨q5, q7⟩ | exact ⟨q5.ext (below_drew (Below.refl _ _)), q7.ext (below_drew (Below.refl _ _))⟩)
   clear hKK KK
   refine wpAnyE_ready (rs := [8]) (by kernel_rfl) (by simp) ?_
   refine EachE.cons (by rfl) (by simp only [List.getElem?_toArray]; rfl) (fun KK hKK => ?_) EachE.nil
   rw [if_pos (by kernel_rfl)]
   obtain ⟨Ao, co, bo, hvo, -, -, -, so, -⟩ := SlT.of_own ho
   have hvo1 := hvo
   rw [List.nil_append, List.length_append, hu1, hu2] at hvo1
   refine wp_callF 15 #[.slice Aa (m1 + m2) ca, .slice AV2 (m1 + m2) cV2] (by kernel_rfl) ?_
   rw [hvo1]
   refine (SameL_calls Aa Ao us7 ([] ++ us1 ++ us2) (M1 ++ M2) (M1 ++ M2) (m1 + m2) (m1 + m2) ca co ba bo _ ra.1 so.1 ta.bss (by rw [List.nil_append]; exact (t1.append t2).bss) HMl.out HMl.out (by omega) HML.out HML.out).mono ?_
   rintro e w29' ⟨rfl, kd, e9⟩
   have h9 : Below w28'.heap.size w28' w29' := by rw [e9]; exact below_drewN (Below.refl _ _) _
   clear e9
   rw [show decide (M1 ++ M2 = M1 ++ M2) = true from decide_eq_true rfl]
   refine ⟨_, rfl, ?_⟩
   clear hvo hvo1 so
   replace r1 := r1.ext h9
   replace t1 := t1.ext h9
   replace r2 := r2.ext h9
   replace t2 := t2.ext h9
   replace q5 := q5.ext h9
   replace q7 := q7.ext h9
   replace hb := hb.trans (h9.mono hb.size)
   replace hBW := Nat.le_trans hBW h9.size
   replace hwB1 := Nat.le_trans hwB1 h9.size
   replace ra := ra.ext h9
   replace ta := ta.ext h9
   replace hw := hw.ext h9
   replace ho := own_ext ho h9
   clear h9
   refine hKK.out _ _ ?_ (fun hHeld => ?_)
   · exact (by first | exact ⟨q5, q7⟩ | exact ⟨q5.ext (below_drew (Below.refl _ _)), q7.ext (below_drew (Below.refl _ _))⟩)
   clear hKK KK
   refine wpAnyE_take (i := 9) (by simp only [List.getElem?_toArray]; rfl) (by kernel_rfl) (by kernel_rfl) (by kernel_rfl) (by kernel_rfl) (by kernel_rfl) (by exact fun _ _ _ h => h) (by exact yk (.bool true) (by kernel_rfl) (fun _ => by kernel_rfl)) hHeld ?_
   refine wpAnyE_ready (rs := [10]) (by kernel_rfl) (by simp) ?_
   refine EachE.cons (by rfl) (by simp only [List.getElem?_toArray]; rfl) (fun KK hKK => ?_) EachE.nil
   rw [if_pos (by kernel_rfl)]
   refine wp_callF 13 #[.pointer (some ⟨gW, 0, none⟩)] (by kernel_rfl) ?_
   refine (WWait_calls _ 0 gW [] _ hw).mono ?_
   rintro e w30' ⟨rfl, e9⟩
   subst e9
   rw [show ((([] : List (List UInt8 × Int)).length : Nat) : Int) = 0 from rfl]
   refine ⟨_, rfl, ?_⟩
   refine hKK.out _ _ ?_ (fun hHeld => ?_)
   · exact (by first | exact ⟨q5, q7⟩ | exact ⟨q5.ext (below_drew (Below.refl _ _)), q7.ext (below_drew (Below.refl _ _))⟩)
   clear hKK KK
   refine wpAnyE_take (i := 11) (by simp only [List.getElem?_toArray]; rfl) (by kernel_rfl) (by kernel_rfl) (by kernel_rfl) (by kernel_rfl) (by kernel_rfl) (by exact fun _ _ _ h => h) (by exact yk (.bool true) (by kernel_rfl) (fun _ => by kernel_rfl)) hHeld ?_
   refine wpAnyE_take (i := 12) (by simp only [List.getElem?_toArray]; rfl) (by kernel_rfl) (by kernel_rfl) (by kernel_rfl) (by kernel_rfl) (by kernel_rfl) (by exact fun _ _ _ h => h) (by exact yk (.bool true) (by kernel_rfl) (fun _ => by kernel_rfl)) hHeld ?_
   refine wpAnyE_take (i := 13) (by simp only [List.getElem?_toArray]; rfl) (by kernel_rfl) (by kernel_rfl) (by kernel_rfl) (by kernel_rfl) (by kernel_rfl) (by exact fun _ _ _ h => h) (by exact yk (.bool true) (by kernel_rfl) (fun _ => by kernel_rfl)) hHeld ?_
   refine wpAnyE_done (by kernel_rfl) ?_ _
   go_wp2_with fail
   go_ret
   exact ⟨by kernel_rfl, hb⟩
end Go.Proofs.Ytbcfelihncnofaa
