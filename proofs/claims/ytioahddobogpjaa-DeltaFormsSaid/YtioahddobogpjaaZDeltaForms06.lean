/- Parts of one proof, in their order. -/
import Derived.Test.YtioahddobogpjaaZDeltaForms05
import Derived.Deep.DeepCutAuto
import Derived.Laws.BitsAllLaws
import Derived.Test.YtioahddobogpjaaRows
import Derived.ProofKit
import Derived.OpenShut
import Derived.ShutString
import Derived.ChangeOld
/- The first of a delta's places and cells, apart. Conditions: those said. -/
namespace Go.Proofs.Ytioahddobogpjaa
open Go.RowKit
set_option linter.unusedVariables false

set_option maxHeartbeats 16000000 in
set_option maxRecDepth 40000 in
theorem Small_calls (t h : Nat) (Ap : Option Addr) (ps : List UInt8) (np cp bp : Nat) (Ac : Option Addr) (cs : List (Int × Nat)) (nc cc bc : Nat) (w : World) (hp : Bs w bp Ap ps) (hpn : ps.length = np) (hpm : np ≤ maxLen) (hc : Sl w bc Ac (cv cs)) (hcn : cs.length = nc) (hcc : nc ≤ cc) (hcm : nc ≤ maxLen) :
    Calls Try.prog 22 #[.agg (dA t h Ap np cp Ac nc cc)] w fun e w' => ∃ vp vc, e = .returned (.agg #[.int .u32 (t : Int), .int .u32 (h : Int), vp, vc]) ∧ Row w' w.heap.size vp (ps.take 60) ∧ RowC 29 w' w.heap.size vc (cs.take 60) ∧ Below w.heap.size w w' := by
  have hCut := fun W hs => Cut_calls Ap ps np cp bp 60 W hs hpn hpm (by rw [List.length_take]; exact Nat.le_trans (Nat.min_le_left _ _) (by decide))
  rw [show (60 : Int).toNat = 60 from rfl] at hCut
  obtain ⟨Kn, hKn⟩ : ∃ Kn, Kn = min nc 60 := ⟨_, rfl⟩
  have hmin : (if (60 : Int) < (nc : Int) then (60 : Int) else (nc : Int)) = (Kn : Int) := by split <;> omega
  have hKc : (Kn : Int) ≤ (cc : Int) := by omega
  have hlt : cs.take 60 = cs.take Kn := by
    rw [hKn, ← hcn, ← List.take_take]
    exact (List.take_of_length_le (by rw [List.length_take]; omega)).symm
  have hpl : (cs.take Kn).length = Kn := by rw [List.length_take, hcn]; omega
  have hcK : Sl w bc Ac (cv (cs.take Kn)) := by
    have h1 := Sl.take hc (Kn * 2)
    rwa [cv_take] at h1
  rw [hlt]
  have hK60 : Kn ≤ 60 := by omega
  obtain ⟨ck, hck⟩ : ∃ ck, ck = cs.take Kn := ⟨_, rfl⟩
  rw [← hck] at hcK hpl ⊢
  obtain ⟨pk, hpk⟩ : ∃ pk, pk = ps.take 60 := ⟨_, rfl⟩
  have hpkl : pk.length ≤ 60 := by rw [hpk, List.length_take]; omega
  rw [← hpk] at hCut ⊢
  have HPL := Lib.hid hpl
  clear hKn hlt hck hpk hpn hpm hc hcn hcc hcm hpl
  have hb := below_alloc2 w (.cells (dA t h Ap np cp Ac nc cc) 38) (.cells #[.int .u32 0, .int .u32 0, .slice none 0 0, .slice none 0 0] 38)
  have z : BoxD ((w.alloc (.cells (dA t h Ap np cp Ac nc cc) 38)).alloc (.cells #[.int .u32 0, .int .u32 0, .slice none 0 0, .slice none 0 0] 38)) w.heap.size t h (.slice Ap np cp) (.slice Ac nc cc) := (BoxD.new_ w t h (.slice Ap np cp) (.slice Ac nc cc)).alloc _
  have q : BoxD ((w.alloc (.cells (dA t h Ap np cp Ac nc cc) 38)).alloc (.cells #[.int .u32 0, .int .u32 0, .slice none 0 0, .slice none 0 0] 38)) (w.heap.size + 1) 0 0 (.slice none 0 0) (.slice none 0 0) := by
    have := BoxD.new_ (w.alloc (.cells (dA t h Ap np cp Ac nc cc) 38)) 0 0 (.slice none 0 0) (.slice none 0 0)
    rwa [show (w.alloc (.cells (dA t h Ap np cp Ac nc cc) 38)).heap.size = w.heap.size + 1 by simp] at this
  replace hp := Sl.ext hp hb
  replace hcK := Sl.ext hcK hb
  obtain ⟨g, hg⟩ : ∃ g, g = w.heap.size := ⟨_, rfl⟩
  obtain ⟨wz, hwz⟩ : ∃ wz, wz = (w.alloc (.cells (dA t h Ap np cp Ac nc cc) 38)).alloc (.cells #[.int .u32 0, .int .u32 0, .slice none 0 0, .slice none 0 0] 38) := ⟨_, rfl⟩
  go_enter Try.func22, Try.ntmps22
  go_wp2_with fail
  rw [← hwz] at hb hp hcK z q ⊢
  rw [← hg] at z q ⊢
  have hbg : Below w.heap.size w wz := hb
  have hgw : w.heap.size ≤ g := by omega
  have hgs : g + 2 ≤ wz.heap.size := by rw [hwz, hg]; simp
  clear hwz hb
  clear hg
  obtain ⟨wB, hwB⟩ : ∃ wB, wB = wz.heap.size := ⟨_, rfl⟩
  have hzB : wB ≤ wz.heap.size := by omega
  have hgB : g + 2 ≤ wB := by omega
  clear hwB hgs
  refine wp_region_E (fun j => j == 13 || j == 14 || j == 15) (fun w9 => BoxD w9 g t h (.slice Ap np cp) (.slice Ac nc cc)) (by kernel_rfl) ?_ (fun hHeld => ?_)
  · exact (by first | exact z | exact z.ext (below_drew (Below.refl _ _)))
  obtain ⟨wd1', hwd⟩ : ∃ wd1', wd1' = World.drew wz := ⟨_, rfl⟩
  have h9 : Below wz.heap.size wz wd1' := by rw [hwd]; exact below_drew (Below.refl _ _)
  rw [← hwd] at hHeld ⊢
  clear hwd
  replace z := z.ext h9
  replace q := q.ext h9
  replace hbg := hbg.trans (h9.mono hbg.size)
  replace hzB := Nat.le_trans hzB h9.size
  replace hp := Sl.ext hp h9
  replace hcK := Sl.ext hcK h9
  clear h9
  refine wpAnyE_take (i := 0) (by simp only [List.getElem?_toArray]; rfl) (by kernel_rfl) (by kernel_rfl) (by kernel_rfl) (by kernel_rfl) (by kernel_rfl) (by exact fun _ _ _ h => h) (by exact yk (.pointer (some ⟨g, 2, none⟩)) (by kernel_rfl) (fun _ => by kernel_rfl)) hHeld ?_
  refine wpAnyE_take (i := 1) (by simp only [List.getElem?_toArray]; rfl) (by kernel_rfl) (by kernel_rfl) (by kernel_rfl) (by kernel_rfl) (by kernel_rfl) (by exact fun _ _ _ h => h) (by exact yk_ldP (by kernel_rfl) (.tmp 3) rfl ⟨g, 2, none⟩ (.slice Ap np cp) (by kernel_rfl) (fun w hh => hh.c2)) hHeld ?_
  refine wpAnyE_take (i := 4) (by simp only [List.getElem?_toArray]; rfl) (by kernel_rfl) (by kernel_rfl) (by kernel_rfl) (by kernel_rfl) (by kernel_rfl) (by exact fun _ _ _ h => h) (by exact yk (.pointer (some ⟨g, 3, none⟩)) (by kernel_rfl) (fun _ => by kernel_rfl)) hHeld ?_
  refine wpAnyE_take (i := 5) (by simp only [List.getElem?_toArray]; rfl) (by kernel_rfl) (by kernel_rfl) (by kernel_rfl) (by kernel_rfl) (by kernel_rfl) (by exact fun _ _ _ h => h) (by exact yk_ldC (by kernel_rfl) (.tmp 7) rfl ⟨g, 3, none⟩ (.slice Ac nc cc) (by kernel_rfl) (fun w hh => hh.c3)) hHeld ?_
  refine wpAnyE_take (i := 6) (by simp only [List.getElem?_toArray]; rfl) (by kernel_rfl) (by kernel_rfl) (by kernel_rfl) (by kernel_rfl) (by kernel_rfl) (by exact fun _ _ _ h => h) (by exact yk (.pointer (some ⟨g, 3, none⟩)) (by kernel_rfl) (fun _ => by kernel_rfl)) hHeld ?_
  refine wpAnyE_take (i := 7) (by simp only [List.getElem?_toArray]; rfl) (by kernel_rfl) (by kernel_rfl) (by kernel_rfl) (by kernel_rfl) (by kernel_rfl) (by exact fun _ _ _ h => h) (by exact yk_ldC (by kernel_rfl) (.tmp 9) rfl ⟨g, 3, none⟩ (.slice Ac nc cc) (by kernel_rfl) (fun w hh => hh.c3)) hHeld ?_
  refine wpAnyE_take (i := 8) (v := .int .i64 (nc : Int)) (by simp only [List.getElem?_toArray]; rfl) (by kernel_rfl) (by kernel_rfl) (by kernel_rfl) (by kernel_rfl) (by kernel_rfl) (by exact fun _ _ _ h => h) (.inl ⟨by kernel_rfl, fun ww hSw => by clear hSw; go_simp⟩) hHeld ?_
  refine wpAnyE_take (i := 9) (v := .int .i64 (Kn : Int)) (by simp only [List.getElem?_toArray]; rfl) (by kernel_rfl) (by kernel_rfl) (by kernel_rfl) (by kernel_rfl) (by kernel_rfl) (by exact fun _ _ _ h => h) (.inl ⟨by kernel_rfl, fun ww hSw => by clear hSw; go_simp; omega⟩) hHeld ?_
  refine wpAnyE_take (i := 10) (v := .slice Ac Kn cc) (by simp only [List.getElem?_toArray]; rfl) (by kernel_rfl) (by kernel_rfl) (by kernel_rfl) (by kernel_rfl) (by kernel_rfl) (by exact fun _ _ _ h => h) (.inl ⟨by kernel_rfl, fun ww hSw => by clear hSw; go_simp⟩) hHeld ?_
  refine wpAnyE_ready (rs := [2, 3]) (by kernel_rfl) (by simp) ?_
  refine EachE.cons (by rfl) (by simp only [List.getElem?_toArray]; rfl) (fun KK hKK => ?_) (EachE.cons (by rfl) (by simp only [List.getElem?_toArray]; rfl) (fun KK hKK => ?_) EachE.nil)
  ·
   rw [if_pos (by kernel_rfl)]
   refine wp_callF 23 #[.slice Ap np cp, .int .i64 60] (by kernel_rfl) ?_
   refine (hCut _ hp).mono ?_
   rintro e w2' ⟨v5, rfl, hpr, h9⟩
   obtain ⟨Ap5, cp5, bp5, hve, -⟩ := Row.sl hpr
   obtain ⟨N5, hN5⟩ : ∃ N5, pk.length = N5 := ⟨_, rfl⟩
   rw [hN5] at hve
   subst hve
   clear hN5
   have hpr := owns_low hpr hzB
   refine ⟨_, rfl, ?_⟩
   replace z := z.ext h9
   replace q := q.ext h9
   replace hbg := hbg.trans (h9.mono hbg.size)
   replace hzB := Nat.le_trans hzB h9.size
   replace hp := Sl.ext hp h9
   replace hcK := Sl.ext hcK h9
   clear h9
   refine hKK.out _ _ ?_ (fun hHeld => ?_)
   · exact (by first | exact z | exact z.ext (below_drew (Below.refl _ _)))
   clear hKK KK
   refine wpAnyE_take (i := 12) (by simp only [List.getElem?_toArray]; rfl) (by kernel_rfl) (by kernel_rfl) (by kernel_rfl) (by kernel_rfl) (by kernel_rfl) (by exact fun _ _ _ h => h) (by exact yk (.pointer (some ⟨g, 2, none⟩)) (by kernel_rfl) (fun _ => by kernel_rfl)) hHeld ?_
   refine wpAnyE_ready (rs := [3]) (by kernel_rfl) (by simp) ?_
   refine EachE.cons (by rfl) (by simp only [List.getElem?_toArray]; rfl) (fun KK hKK => ?_) EachE.nil
   rw [if_pos (by kernel_rfl)]
   refine wp_bsC0 rfl ?_
   have ho0 : RowC 29 (World.alloc w2' (.cells #[] 29)) wB (.slice (some ⟨w2'.heap.size, 0, none⟩) 0 0) [] := owns_low (World.ownsRow_made w2' #[] 0 (Nat.le_refl _) (by simp [maxLen]) rfl) hzB
   obtain ⟨b6, hb6⟩ : ∃ b6, b6 = w2'.heap.size := ⟨_, rfl⟩
   have h9 := below_alloc1 w2' (.cells #[] 29)
   obtain ⟨w3', e⟩ : ∃ w3', w3' = World.alloc w2' (.cells #[] 29) := ⟨_, rfl⟩
   rw [← e] at ho0 h9 ⊢
   rw [← hb6] at ho0 ⊢
   clear e hb6
   replace z := z.ext h9
   replace q := q.ext h9
   replace hbg := hbg.trans (h9.mono hbg.size)
   replace hzB := Nat.le_trans hzB h9.size
   replace hcK := Sl.ext hcK h9
   replace hpr := Row.ext hpr h9
   clear h9
   refine hKK.out _ _ ?_ (fun hHeld => ?_)
   · exact (by first | exact z | exact z.ext (below_drew (Below.refl _ _)))
   clear hKK KK
   refine wpAnyE_ready (rs := [11]) (by kernel_rfl) (by simp) ?_
   refine EachE.cons (by rfl) (by simp only [List.getElem?_toArray]; rfl) (fun KK hKK => ?_) EachE.nil
   rw [if_pos (by kernel_rfl)]
   refine wp_appC (.tmp 6) (.tmp 13) rfl wB _ [] (by kernel_rfl) ho0 bc Ac Kn cc ck (by kernel_rfl) hcK HPL.out (by simp; omega) hzB ?_
   intro v14 w4' hcr hm
   rw [List.nil_append] at hcr
   have hlo := fun i hi => (World.ownsRow.lt ho0 i hi).1
   replace z := z.mod hm (fun hh => by have := hlo _ hh; omega)
   replace q := q.mod hm (fun hh => by have := hlo _ hh; omega)
   replace hbg := hbg.trans (hm.below hbg.size (fun i hi hh => by have := hlo _ hh; omega))
   replace hzB := Nat.le_trans hzB hm.size
   replace hpr := Row.mod hpr hm (fun i hi hh => rows_ne hpr ho0 hi hh)
   obtain ⟨A14, c14, b14, hve, -⟩ := RowC.sl hcr
   obtain ⟨N14, hN14⟩ : ∃ N14, ck.length = N14 := ⟨_, rfl⟩
   rw [hN14] at hve
   subst hve
   clear hm ho0 hlo hN14 hcK
   refine hKK.out _ _ ?_ (fun hHeld => ?_)
   · exact (by first | exact z | exact z.ext (below_drew (Below.refl _ _)))
   clear hKK KK
   try simp only [Act.put, List.setIfInBounds_toArray, List.set_cons_zero, List.set_cons_succ]
   refine wpAnyE_ready (rs := [13]) (by kernel_rfl) (by simp) ?_
   refine EachE.last (by rfl) (by simp only [List.getElem?_toArray]; rfl) (fun KK hKK => ?_)
   rw [if_pos (by kernel_rfl)]
   refine wp_stP (.tmp 15) (.tmp 5) rfl ⟨g, 2, none⟩ Ap5 N5 cp5 (by kernel_rfl) (by kernel_rfl) _ z.c2 (z.fr 2) ?_
   have hm := Mod.setCell w4' ⟨g, 2, none⟩ (.slice Ap5 N5 cp5)
   replace z := z.set2 (.slice Ap5 N5 cp5)
   replace q := q.mod hm (by show ¬ g + 1 = g; omega)
   replace hpr := Row.mod hpr hm (fun i hi hh => by have := (World.ownsRow.lt hpr i hi).1; have hh : i = g := hh; omega)
   replace hcr := RowC.mod hcr hm (fun i hi hh => by have := (World.ownsRow.lt hcr i hi).1; have hh : i = g := hh; omega)
   replace hbg := hbg.trans (hm.below hbg.size (fun i hi hh => by have hh : i = g := hh; omega))
   replace hzB := Nat.le_trans hzB hm.size
   obtain ⟨w5', e⟩ : ∃ w5', w5' = World.setCell w4' ⟨g, 2, none⟩ (.slice Ap5 N5 cp5) := ⟨_, rfl⟩
   rw [← e] at z q hpr hcr hbg hzB ⊢
   clear e hm
   refine hKK.out _ _ ?_
   clear hKK KK
   try simp only [Act.put]
   refine wpAnyE_ready (rs := [14]) (by kernel_rfl) (by simp) ?_
   refine EachE.last (by rfl) (by simp only [List.getElem?_toArray]; rfl) (fun KK hKK => ?_)
   rw [if_pos (by kernel_rfl)]
   refine wp_pure (.pointer (some ⟨g, 3, none⟩)) (fun _ => by kernel_rfl) ?_
   refine hKK.out _ _ ?_
   clear hKK KK
   try simp only [Act.put]
   refine wpAnyE_ready (rs := [15]) (by kernel_rfl) (by simp) ?_
   refine EachE.last (by rfl) (by simp only [List.getElem?_toArray]; rfl) (fun KK hKK => ?_)
   rw [if_pos (by kernel_rfl)]
   refine wp_stC (.tmp 16) (.tmp 14) rfl ⟨g, 3, none⟩ A14 N14 c14 (by kernel_rfl) (by kernel_rfl) _ z.c3 (z.fr 3) ?_
   have hm := Mod.setCell w5' ⟨g, 3, none⟩ (.slice A14 N14 c14)
   replace z := z.set3 (.slice A14 N14 c14)
   replace q := q.mod hm (by show ¬ g + 1 = g; omega)
   replace hpr := Row.mod hpr hm (fun i hi hh => by have := (World.ownsRow.lt hpr i hi).1; have hh : i = g := hh; omega)
   replace hcr := RowC.mod hcr hm (fun i hi hh => by have := (World.ownsRow.lt hcr i hi).1; have hh : i = g := hh; omega)
   replace hbg := hbg.trans (hm.below hbg.size (fun i hi hh => by have hh : i = g := hh; omega))
   replace hzB := Nat.le_trans hzB hm.size
   obtain ⟨w6', e⟩ : ∃ w6', w6' = World.setCell w5' ⟨g, 3, none⟩ (.slice A14 N14 c14) := ⟨_, rfl⟩
   rw [← e] at z q hpr hcr hbg hzB ⊢
   clear e hm
   refine hKK.out _ _ ?_
   clear hKK KK
   refine wpAnyE_done (by kernel_rfl) ?_ _
   obtain ⟨e0, e1, e2, e3⟩ := And.intro z.c0 (And.intro z.c1 (And.intro z.c2 z.c3))
   obtain ⟨y0, y1, y2, y3⟩ := And.intro q.c0 (And.intro q.c1 (And.intro q.c2 q.c3))
   have f0 := q.fr 0
   have f1 := q.fr 1
   have f2 := q.fr 2
   have f3 := q.fr 3
   have hq4 := four_setD w6' (g + 1) (.int .u32 (t : Int)) (.int .u32 (h : Int)) (.slice Ap5 N5 cp5) (.slice A14 N14 c14) q
   have hm4 := mod_set4 w6' (g + 1) (.int .u32 (t : Int)) (.int .u32 (h : Int)) (.slice Ap5 N5 cp5) (.slice A14 N14 c14)
   have rp4 := Row.mod hpr hm4 (fun i hi hh => by have := (World.ownsRow.lt hpr i hi).1; have hh : i = g + 1 := hh; omega)
   have rc4 := RowC.mod hcr hm4 (fun i hi hh => by have := (World.ownsRow.lt hcr i hi).1; have hh : i = g + 1 := hh; omega)
   have hb4 := hbg.trans (hm4.below hbg.size (fun i hi hh => by have hh : i = g + 1 := hh; omega))
   have HR1 := Lib.hid rp4
   have HR2 := Lib.hid rc4
   have HB4 := Lib.hid hb4
   clear hpr hcr rp4 rc4 hm4 hb4 hbg
   go_wp2_with fail
   refine bodyPost_ret (results_cell_row (P := Try.prog) rfl _ _ (g + 1) _ _ (0, 0) _ rfl hq4 Try.underlying38 rfl (by kernel_rfl)) rfl ⟨_, _, rfl, ?_, ?_, ?_⟩
   · exact owns_low HR1.out (by omega)
   · exact owns_low HR2.out (by omega)
   · exact HB4.out
  ·
   rw [if_pos (by kernel_rfl)]
   refine wp_bsC0 rfl ?_
   have ho0 : RowC 29 (World.alloc wd1' (.cells #[] 29)) wB (.slice (some ⟨wd1'.heap.size, 0, none⟩) 0 0) [] := owns_low (World.ownsRow_made wd1' #[] 0 (Nat.le_refl _) (by simp [maxLen]) rfl) hzB
   obtain ⟨b6, hb6⟩ : ∃ b6, b6 = wd1'.heap.size := ⟨_, rfl⟩
   have h9 := below_alloc1 wd1' (.cells #[] 29)
   obtain ⟨w7', e⟩ : ∃ w7', w7' = World.alloc wd1' (.cells #[] 29) := ⟨_, rfl⟩
   rw [← e] at ho0 h9 ⊢
   rw [← hb6] at ho0 ⊢
   clear e hb6
   replace z := z.ext h9
   replace q := q.ext h9
   replace hbg := hbg.trans (h9.mono hbg.size)
   replace hzB := Nat.le_trans hzB h9.size
   replace hp := Sl.ext hp h9
   replace hcK := Sl.ext hcK h9
   clear h9
   refine hKK.out _ _ ?_ (fun hHeld => ?_)
   · exact (by first | exact z | exact z.ext (below_drew (Below.refl _ _)))
   clear hKK KK
   refine wpAnyE_ready (rs := [2]) (by kernel_rfl) (by simp) ?_
   refine EachE.cons (by rfl) (by simp only [List.getElem?_toArray]; rfl) (fun KK hKK => ?_) EachE.nil
   rw [if_pos (by kernel_rfl)]
   refine wp_callF 23 #[.slice Ap np cp, .int .i64 60] (by kernel_rfl) ?_
   refine (hCut _ hp).mono ?_
   rintro e w8' ⟨v5, rfl, hpr, h9⟩
   obtain ⟨Ap5, cp5, bp5, hve, -⟩ := Row.sl hpr
   obtain ⟨N5, hN5⟩ : ∃ N5, pk.length = N5 := ⟨_, rfl⟩
   rw [hN5] at hve
   subst hve
   clear hN5
   have hpr := owns_low hpr hzB
   refine ⟨_, rfl, ?_⟩
   replace z := z.ext h9
   replace q := q.ext h9
   replace hbg := hbg.trans (h9.mono hbg.size)
   replace hzB := Nat.le_trans hzB h9.size
   replace hp := Sl.ext hp h9
   replace hcK := Sl.ext hcK h9
   replace ho0 := RowC.ext ho0 h9
   clear h9
   refine hKK.out _ _ ?_ (fun hHeld => ?_)
   · exact (by first | exact z | exact z.ext (below_drew (Below.refl _ _)))
   clear hKK KK
   refine wpAnyE_take (i := 12) (by simp only [List.getElem?_toArray]; rfl) (by kernel_rfl) (by kernel_rfl) (by kernel_rfl) (by kernel_rfl) (by kernel_rfl) (by exact fun _ _ _ h => h) (by exact yk (.pointer (some ⟨g, 2, none⟩)) (by kernel_rfl) (fun _ => by kernel_rfl)) hHeld ?_
   refine wpAnyE_ready (rs := [11]) (by kernel_rfl) (by simp) ?_
   refine EachE.cons (by rfl) (by simp only [List.getElem?_toArray]; rfl) (fun KK hKK => ?_) EachE.nil
   rw [if_pos (by kernel_rfl)]
   refine wp_appC (.tmp 6) (.tmp 13) rfl wB _ [] (by kernel_rfl) ho0 bc Ac Kn cc ck (by kernel_rfl) hcK HPL.out (by simp; omega) hzB ?_
   intro v14 w9' hcr hm
   rw [List.nil_append] at hcr
   have hlo := fun i hi => (World.ownsRow.lt ho0 i hi).1
   replace z := z.mod hm (fun hh => by have := hlo _ hh; omega)
   replace q := q.mod hm (fun hh => by have := hlo _ hh; omega)
   replace hbg := hbg.trans (hm.below hbg.size (fun i hi hh => by have := hlo _ hh; omega))
   replace hzB := Nat.le_trans hzB hm.size
   replace hpr := Row.mod hpr hm (fun i hi hh => rows_ne hpr ho0 hi hh)
   obtain ⟨A14, c14, b14, hve, -⟩ := RowC.sl hcr
   obtain ⟨N14, hN14⟩ : ∃ N14, ck.length = N14 := ⟨_, rfl⟩
   rw [hN14] at hve
   subst hve
   clear hm ho0 hlo hN14 hcK
   refine hKK.out _ _ ?_ (fun hHeld => ?_)
   · exact (by first | exact z | exact z.ext (below_drew (Below.refl _ _)))
   clear hKK KK
   try simp only [Act.put, List.setIfInBounds_toArray, List.set_cons_zero, List.set_cons_succ]
   refine wpAnyE_ready (rs := [13]) (by kernel_rfl) (by simp) ?_
   refine EachE.last (by rfl) (by simp only [List.getElem?_toArray]; rfl) (fun KK hKK => ?_)
   rw [if_pos (by kernel_rfl)]
   refine wp_stP (.tmp 15) (.tmp 5) rfl ⟨g, 2, none⟩ Ap5 N5 cp5 (by kernel_rfl) (by kernel_rfl) _ z.c2 (z.fr 2) ?_
   have hm := Mod.setCell w9' ⟨g, 2, none⟩ (.slice Ap5 N5 cp5)
   replace z := z.set2 (.slice Ap5 N5 cp5)
   replace q := q.mod hm (by show ¬ g + 1 = g; omega)
   replace hpr := Row.mod hpr hm (fun i hi hh => by have := (World.ownsRow.lt hpr i hi).1; have hh : i = g := hh; omega)
   replace hcr := RowC.mod hcr hm (fun i hi hh => by have := (World.ownsRow.lt hcr i hi).1; have hh : i = g := hh; omega)
   replace hbg := hbg.trans (hm.below hbg.size (fun i hi hh => by have hh : i = g := hh; omega))
   replace hzB := Nat.le_trans hzB hm.size
   obtain ⟨w10', e⟩ : ∃ w10', w10' = World.setCell w9' ⟨g, 2, none⟩ (.slice Ap5 N5 cp5) := ⟨_, rfl⟩
   rw [← e] at z q hpr hcr hbg hzB ⊢
   clear e hm
   refine hKK.out _ _ ?_
   clear hKK KK
   try simp only [Act.put]
   refine wpAnyE_ready (rs := [14]) (by kernel_rfl) (by simp) ?_
   refine EachE.last (by rfl) (by simp only [List.getElem?_toArray]; rfl) (fun KK hKK => ?_)
   rw [if_pos (by kernel_rfl)]
   refine wp_pure (.pointer (some ⟨g, 3, none⟩)) (fun _ => by kernel_rfl) ?_
   refine hKK.out _ _ ?_
   clear hKK KK
   try simp only [Act.put]
   refine wpAnyE_ready (rs := [15]) (by kernel_rfl) (by simp) ?_
   refine EachE.last (by rfl) (by simp only [List.getElem?_toArray]; rfl) (fun KK hKK => ?_)
   rw [if_pos (by kernel_rfl)]
   refine wp_stC (.tmp 16) (.tmp 14) rfl ⟨g, 3, none⟩ A14 N14 c14 (by kernel_rfl) (by kernel_rfl) _ z.c3 (z.fr 3) ?_
   have hm := Mod.setCell w10' ⟨g, 3, none⟩ (.slice A14 N14 c14)
   replace z := z.set3 (.slice A14 N14 c14)
   replace q := q.mod hm (by show ¬ g + 1 = g; omega)
   replace hpr := Row.mod hpr hm (fun i hi hh => by have := (World.ownsRow.lt hpr i hi).1; have hh : i = g := hh; omega)
   replace hcr := RowC.mod hcr hm (fun i hi hh => by have := (World.ownsRow.lt hcr i hi).1; have hh : i = g := hh; omega)
   replace hbg := hbg.trans (hm.below hbg.size (fun i hi hh => by have hh : i = g := hh; omega))
   replace hzB := Nat.le_trans hzB hm.size
   obtain ⟨w11', e⟩ : ∃ w11', w11' = World.setCell w10' ⟨g, 3, none⟩ (.slice A14 N14 c14) := ⟨_, rfl⟩
   rw [← e] at z q hpr hcr hbg hzB ⊢
   clear e hm
   refine hKK.out _ _ ?_
   clear hKK KK
   refine wpAnyE_done (by kernel_rfl) ?_ _
   obtain ⟨e0, e1, e2, e3⟩ := And.intro z.c0 (And.intro z.c1 (And.intro z.c2 z.c3))
   obtain ⟨y0, y1, y2, y3⟩ := And.intro q.c0 (And.intro q.c1 (And.intro q.c2 q.c3))
   have f0 := q.fr 0
   have f1 := q.fr 1
   have f2 := q.fr 2
   have f3 := q.fr 3
   have hq4 := four_setD w11' (g + 1) (.int .u32 (t : Int)) (.int .u32 (h : Int)) (.slice Ap5 N5 cp5) (.slice A14 N14 c14) q
   have hm4 := mod_set4 w11' (g + 1) (.int .u32 (t : Int)) (.int .u32 (h : Int)) (.slice Ap5 N5 cp5) (.slice A14 N14 c14)
   have rp4 := Row.mod hpr hm4 (fun i hi hh => by have := (World.ownsRow.lt hpr i hi).1; have hh : i = g + 1 := hh; omega)
   have rc4 := RowC.mod hcr hm4 (fun i hi hh => by have := (World.ownsRow.lt hcr i hi).1; have hh : i = g + 1 := hh; omega)
   have hb4 := hbg.trans (hm4.below hbg.size (fun i hi hh => by have hh : i = g + 1 := hh; omega))
   have HR1 := Lib.hid rp4
   have HR2 := Lib.hid rc4
   have HB4 := Lib.hid hb4
   clear hpr hcr rp4 rc4 hm4 hb4 hbg
   go_wp2_with fail
   refine bodyPost_ret (results_cell_row (P := Try.prog) rfl _ _ (g + 1) _ _ (0, 0) _ rfl hq4 Try.underlying38 rfl (by kernel_rfl)) rfl ⟨_, _, rfl, ?_, ?_, ?_⟩
   · exact owns_low HR1.out (by omega)
   · exact owns_low HR2.out (by omega)
   · exact HB4.out
end Go.Proofs.Ytioahddobogpjaa
/- awake: the document's example. No condition. -/
namespace Go.Proofs.Ytioahddobogpjaa
open Go.RowKit

theorem okC_two : okC [(7, 1), (8, 0)] := fun c hc => by
  simp only [List.mem_cons, List.not_mem_nil, or_false] at hc
  rcases hc with rfl | rfl
  · exact ⟨⟨by omega, by omega⟩, by omega⟩
  · exact ⟨⟨by omega, by omega⟩, by omega⟩
theorem okC_zero : okC [(0, 0)] := fun c hc => by
  simp only [List.mem_singleton] at hc
  subst hc
  exact ⟨⟨by omega, by omega⟩, by omega⟩
theorem sum_lt (L : List (Int × Nat)) : hashL L < 4294967296 := sumN_lt _
set_option maxHeartbeats 8000000 in
set_option maxRecDepth 20000 in
theorem Awake_calls (w : World) : Calls Try.prog 8 #[] w fun e w' => e = .returned (.bool true) ∧ Below w.heap.size w w' := by
  have hN := fun W b h => New_in (some ⟨b, 0, none⟩) [(7, 1), (8, 0)] 2 2 b W h rfl (by omega)
  have hO := fun W => Of_calls [(7, 1), (8, 0)] 2 0 5 W (by decide) okC_two (by omega) (by omega)
  rw [show placesB 2 [((7 : Int), 1), (8, 0)].length = [1] by decide, show cellsTo (viewL 0 [((7 : Int), 1), (8, 0)]) 2 [((7 : Int), 1), (8, 0)].length = [(0, 0)] by decide] at hO
  have hhl := sum_lt (viewL 0 [(7, 1), (8, 0)])
  obtain ⟨H, hH⟩ : ∃ H, H = hashL (viewL 0 [((7 : Int), 1), (8, 0)]) := ⟨_, rfl⟩
  rw [← hH] at hO hhl
  clear hH
  obtain ⟨L0, hL0⟩ : ∃ L0, L0 = [((7 : Int), 1), (8, 0)] := ⟨_, rfl⟩
  have hS := Sl.cells_new w #[.int .i32 7, .int .u32 1, .int .i32 8, .int .u32 0] 29
  have hS : Sl (w.alloc (.cells #[.int .i32 7, .int .u32 1, .int .i32 8, .int .u32 0] 29)) w.heap.size (some ⟨w.heap.size, 0, none⟩) (cv [(7, 1), (8, 0)]) := hS
  rw [← hL0] at hN hO hS
  clear hL0
  go_enter Try.func8, Try.ntmps8
  have hb := below_alloc1 w (.cells #[.int .i32 7, .int .u32 1, .int .i32 8, .int .u32 0] 29)
  go_wp2_with fail
  refine (hN _ _ hS).mono ?_
  rintro e w1 ⟨rfl, hb1⟩
  replace hb := hb.trans (hb1.mono hb.size)
  clear hb1
  clear hN hS
  replace hb := hb.alloc hb.size (.cells (bdL L0) 32)
  have q1 := BoxL.new_ w1 L0
  go_wp2_with (first | ((with_reducible refine at_al 32 1 ?_); refine wpList_al rfl rfl (some 1) rfl w1.heap.size rfl ?_) | ((with_reducible refine at_st 32 1 9 ?_); refine wpList_put rfl (.tmp 1) (.tmp 9) rfl rfl L0 rfl rfl ?_) | ((with_reducible refine at_ld 32 1 ?_); refine wpList_ld rfl (.tmp 1) rfl w1.heap.size rfl L0 q1 ?_))
  refine (hO _).mono ?_
  rintro e w2 ⟨vp, vc, rfl, hp, hc, hb2⟩
  replace q1 := q1.ext hb2
  replace hb := hb.trans (hb2.mono hb.size)
  clear hb2
  clear hO
  obtain ⟨Ap, cp, bp, rfl, _, _, _, _, hps, _⟩ := Row.sl hp
  obtain ⟨Ac, cc, bc, rfl, _, _, _, _, hcs, _⟩ := RowC.sl hc
  simp only [List.length_cons, List.length_nil, Nat.zero_add] at hb hps hcs ⊢
  clear hp hc q1
  have z := BoxD.new_ w2 5 H (.slice Ap 1 cp) (.slice Ac 1 cc)
  replace hps := Sl.alloc hps (.cells #[.int .u32 5, .int .u32 (H : Int), .slice Ap 1 cp, .slice Ac 1 cc] 38)
  replace hcs := Sl.alloc hcs (.cells #[.int .u32 5, .int .u32 (H : Int), .slice Ap 1 cp, .slice Ac 1 cc] 38)
  replace hb := hb.alloc hb.size (.cells #[.int .u32 5, .int .u32 (H : Int), .slice Ap 1 cp, .slice Ac 1 cc] 38)
  obtain ⟨e0, e1, e2, e3⟩ := And.intro z.c0 (And.intro z.c1 (And.intro z.c2 z.c3))
  rw [show ((5 : Nat) : Int) = 5 from rfl] at e0
  go_wp2_with fail
  clear e0 e1 e2 e3
  refine (Bytes_yes 5 H Ap [1] 1 cp bp Ac [(0, 0)] cc bc _ hps rfl hcs rfl (by omega) (by decide) okC_zero (by omega) hhl).mono ?_
  rintro e w3 ⟨v, rfl, hrow, hb3⟩
  replace hps := Sl.ext hps hb3
  replace hcs := Sl.ext hcs hb3
  replace z := z.ext hb3
  replace hb := hb.trans (hb3.mono hb.size)
  clear hb3
  obtain ⟨Av, cb, bb, hv, _⟩ := Row.sl hrow
  rw [dB_len _ _ _ _ rfl] at hv
  simp only [List.length_cons, List.length_nil, Nat.zero_add, Nat.mul_one, Nat.reduceAdd] at hv
  subst hv
  clear hrow
  obtain ⟨op, rfl, f0⟩ := Bs.at_ hps (k := 0) (by decide)
  have f0 := f0 0 (by decide)
  obtain ⟨oc, rfl, f1, f2⟩ := sl_off hcs (i := 0) (by decide)
  obtain ⟨e0, e1, e2, e3⟩ := And.intro z.c0 (And.intro z.c1 (And.intro z.c2 z.c3))
  rw [show ((5 : Nat) : Int) = 5 from rfl] at e0
  simp at f0 f1 f2
  go_wp2_with fail
  go_ret
  exact ⟨rfl, hb⟩
end Go.Proofs.Ytioahddobogpjaa
/- ref07.Bytes of a delta that may be: the same bytes. Conditions: those said. -/
namespace Go.Proofs.Ytioahddobogpjaa
open Go.RowKit
set_option linter.unusedVariables false

section
variable {op : Oper} {a : Act} {w : World} {K : Act → World → Prop} {Q : Exit → Act → World → Prop}
theorem wp_bs3 (x y z : Operand) (ho : op.op = .buildSlice 64 3 #[(0, x), (1, y), (2, z)]) (A1 : Option Addr) (n1 c1 : Nat) (A2 : Option Addr) (n2 c2 : Nat) (A3 : Option Addr) (n3 c3 : Nat) (hx : a.eval x = .slice A1 n1 c1) (hy : a.eval y = .slice A2 n2 c2) (hz : a.eval z = .slice A3 n3 c3)
    (h : K (a.put op.dst (.slice (some ⟨w.heap.size, 0, none⟩) 3 3)) (w.alloc (.cells #[.slice A1 n1 c1, .slice A2 n2 c2, .slice A3 n3 c3] 36))) : op.wp Try.prog a w K Q := by
  have hr : (Instr.buildSlice 64 3 #[(0, .slice A1 n1 c1), (1, .slice A2 n2 c2), (2, .slice A3 n3 c3)]).run Try.prog w = .ok (.slice (some ⟨w.heap.size, 0, none⟩) 3 3) (w.alloc (.cells #[.slice A1 n1 c1, .slice A2 n2 c2, .slice A3 n3 c3] 36)) := by kernel_rfl
  unfold Oper.wp execOp
  simp only [ho, List.map_toArray, List.map_cons, List.map_nil, hx, hy, hz, Sem.run_bind, hr, Result.andThen_ok, Sem.run_pure]
  exact h
end
theorem Row.sl_bs {w : World} {B : Nat} {v : Value} {l : List UInt8} (h : Row w B v l) : ∃ (A : Option Addr) (c b : Nat), v = .slice A l.length c ∧ Bs w b A l := by
  obtain ⟨A, c, b, hv, -, -, -, -, hs, -⟩ := h.sl
  exact ⟨A, c, b, hv, hs⟩
set_option maxHeartbeats 16000000 in
set_option maxRecDepth 40000 in
theorem RDBytes_yes (t h : Nat) (Ap : Option Addr) (ps : List UInt8) (np cp bp : Nat) (Ac : Option Addr) (cs : List (Int × Nat)) (cc bc : Nat) (w : World)
    (hps : Bs w bp Ap ps) (hpn : ps.length = np) (hcs : Sl w bc Ac (cv cs)) (hcn : cs.length = np) (hl : np ≤ 48) (hpc : np ≤ cp) (hoc : okC cs) (ht : t < 4294967296) (hh : h < 4294967296) :
    Calls Try.prog 28 #[.agg (dA t h Ap np cp Ac np cc)] w fun e w' => ∃ v, e = .returned v ∧ Row w' w.heap.size v (dB t h ps cs) ∧ Below w.heap.size w w' := by
  have q := BoxE.new_ w t h (.slice Ap np cp) (.slice Ac np cc)
  have hb := below_alloc1 w (.cells (dA t h Ap np cp Ac np cc) 44)
  have hps := Sl.ext hps hb
  have hcs := Sl.ext hcs hb
  have HPN := Lib.hid hpn
  have HCN := Lib.hid hcn
  have HOC := Lib.hid hoc
  clear hpn hcn hoc
  obtain ⟨w1, hw1⟩ : ∃ w1, w1 = w.alloc (.cells (dA t h Ap np cp Ac np cc) 44) := ⟨_, rfl⟩
  have e1 : IntKind.u64.wrap (t : Int) = (t : Int) := IntWalk.u64_in _ (by omega)
  have e2 : IntKind.u64.wrap (h : Int) = (h : Int) := IntWalk.u64_in _ (by omega)
  have e3 : IntKind.u8.wrap (np : Int) = (np : Int) := IntWalk.u8_in _ (by omega)
  have hby : ∀ W : World, Bs (W.alloc (.cells #[.int .u8 (np : Int)] 5)) W.heap.size (some ⟨W.heap.size, 0, none⟩) (low np 1) := fun W => by
    have hu : (Value.int .u8 (np : Int)) = .int .u8 ((UInt8.ofNat np).toNat : Int) := by rw [u8_ofNat]; congr 1; omega
    unfold Bs
    rw [show bv (low np 1) = [.int .u8 (np : Int)] by rw [hu]; simp [low, bv]]
    exact Sl.one_new W _ _
  have HBY := Lib.hid hby
  clear hby
  rw [← hw1] at q hb hps hcs
  have HW1 := Lib.hid hw1
  clear hw1
  go_enter Try.func28, Try.ntmps28
  go_upto_region 1 with fail
  rw [← HW1.out]
  go_cut [3] (fun p3 w9 => ∃ (wy : World), wy = w9 ∧ BoxE wy w.heap.size t h (.slice Ap np cp) (.slice Ac np cc) ∧ Bs wy bp Ap ps ∧ Sl wy bc Ac (cv cs) ∧ Row wy w.heap.size p3 (dHead t h np) ∧ Below w.heap.size w wy)
  case first =>
    go_wp2_with fail
    refine wp_region_held_drew (S := fun w9 => BoxE w9 w.heap.size t h (.slice Ap np cp) (.slice Ac np cc)) (by kernel_rfl) ?_ (fun hHeld => ?_)
    · exact (by exact q)
    obtain ⟨wd2, hwd2⟩ : ∃ wd2, wd2 = World.drew w1 := ⟨_, rfl⟩
    have h9 : Below w1.heap.size w1 wd2 := by rw [hwd2]; exact below_drew (Below.refl _ _)
    rw [← hwd2] at hHeld ⊢
    replace q := q.ext h9
    replace hps := Sl.ext hps h9
    replace hcs := Sl.ext hcs h9
    replace hb := hb.trans (h9.mono hb.size)
    clear h9
    clear hwd2
    refine wpAnyH_take (i := 0) (v := ?vt13) (by simp only [List.getElem?_toArray]; rfl) (by kernel_rfl) (by kernel_rfl) (by kernel_rfl) (by exact fun _ _ _ h => h) (Or.inl ⟨by kernel_rfl, ?yt13⟩) hHeld ?_
    case yt13 => (intro ww hSw; (try dsimp only at hSw); clear hSw; go_simp; try (with_reducible rfl))
    refine wpAnyH_take (i := 1) (v := ?vt14) (by simp only [List.getElem?_toArray]; rfl) (by kernel_rfl) (by kernel_rfl) (by kernel_rfl) (by exact fun _ _ _ h => h) (Or.inl ⟨by kernel_rfl, ?yt14⟩) hHeld ?_
    case yt14 => (intro ww hSw; (try dsimp only at hSw); (have z0 := hSw.c0; have z1 := hSw.c1; have z2 := hSw.c2; clear hSw); go_simp; try (with_reducible rfl))
    refine wpAnyH_take (i := 2) (v := ?vt15) (by simp only [List.getElem?_toArray]; rfl) (by kernel_rfl) (by kernel_rfl) (by kernel_rfl) (by exact fun _ _ _ h => h) (Or.inl ⟨by kernel_rfl, ?yt15⟩) hHeld ?_
    case yt15 => (intro ww hSw; (try dsimp only at hSw); clear hSw; go_simp; try (with_reducible rfl))
    refine wpAnyH_take (i := 4) (v := ?vt16) (by simp only [List.getElem?_toArray]; rfl) (by kernel_rfl) (by kernel_rfl) (by kernel_rfl) (by exact fun _ _ _ h => h) (Or.inl ⟨by kernel_rfl, ?yt16⟩) hHeld ?_
    case yt16 => (intro ww hSw; (try dsimp only at hSw); clear hSw; go_simp; try (with_reducible rfl))
    refine wpAnyH_take (i := 5) (v := ?vt17) (by simp only [List.getElem?_toArray]; rfl) (by kernel_rfl) (by kernel_rfl) (by kernel_rfl) (by exact fun _ _ _ h => h) (Or.inl ⟨by kernel_rfl, ?yt17⟩) hHeld ?_
    case yt17 => (intro ww hSw; (try dsimp only at hSw); (have z0 := hSw.c0; have z1 := hSw.c1; have z2 := hSw.c2; clear hSw); go_simp; try (with_reducible rfl))
    refine wpAnyH_take (i := 6) (v := ?vt18) (by simp only [List.getElem?_toArray]; rfl) (by kernel_rfl) (by kernel_rfl) (by kernel_rfl) (by exact fun _ _ _ h => h) (Or.inl ⟨by kernel_rfl, ?yt18⟩) hHeld ?_
    case yt18 => (intro ww hSw; (try dsimp only at hSw); clear hSw; go_simp; try (with_reducible rfl))
    refine wpAnyH_take (i := 8) (v := ?vt19) (by simp only [List.getElem?_toArray]; rfl) (by kernel_rfl) (by kernel_rfl) (by kernel_rfl) (by exact fun _ _ _ h => h) (Or.inl ⟨by kernel_rfl, ?yt19⟩) hHeld ?_
    case yt19 => (intro ww hSw; (try dsimp only at hSw); clear hSw; go_simp; try (with_reducible rfl))
    refine wpAnyH_take (i := 9) (v := ?vt110) (by simp only [List.getElem?_toArray]; rfl) (by kernel_rfl) (by kernel_rfl) (by kernel_rfl) (by exact fun _ _ _ h => h) (Or.inl ⟨by kernel_rfl, ?yt110⟩) hHeld ?_
    case yt110 => (intro ww hSw; (try dsimp only at hSw); (have z0 := hSw.c0; have z1 := hSw.c1; have z2 := hSw.c2; clear hSw); go_simp; try (with_reducible rfl))
    refine wpAnyH_take (i := 10) (v := ?vt111) (by simp only [List.getElem?_toArray]; rfl) (by kernel_rfl) (by kernel_rfl) (by kernel_rfl) (by exact fun _ _ _ h => h) (Or.inl ⟨by kernel_rfl, ?yt111⟩) hHeld ?_
    case yt111 => (intro ww hSw; (try dsimp only at hSw); clear hSw; go_simp; try (with_reducible rfl))
    refine wpAnyH_take (i := 11) (v := ?vt112) (by simp only [List.getElem?_toArray]; rfl) (by kernel_rfl) (by kernel_rfl) (by kernel_rfl) (by exact fun _ _ _ h => h) (Or.inl ⟨by kernel_rfl, ?yt112⟩) hHeld ?_
    case yt112 => (intro ww hSw; (try dsimp only at hSw); clear hSw; go_simp; try (with_reducible rfl))
    refine wpAnyH_ready (rs := [3, 12]) (by kernel_rfl) (by simp) ?_
    refine AllReadyH.cons (by simp only [List.getElem?_toArray]; rfl) (fun KK hKK => ?_) (AllReadyH.cons (by simp only [List.getElem?_toArray]; rfl) (fun KK hKK => ?_) AllReadyH.nil)
    · skip
      rw [if_pos (by kernel_rfl)]
      refine wp_callF 50 #[.int .u64 (t : Int), .int .i64 4] (by kernel_rfl) ?_
      refine (Low_calls t 4 _ (by omega) (by omega) (by omega)).mono ?_
      rintro e w13 ⟨v, rfl, hrow, h9⟩
      obtain ⟨A1, c1, b1, hve, s1⟩ := Row.sl_bs hrow
      rw [low_length] at hve
      subst hve
      clear hrow
      refine ⟨_, rfl, ?_⟩
      replace q := q.ext h9
      replace hps := Sl.ext hps h9
      replace hcs := Sl.ext hcs h9
      replace hb := hb.trans (h9.mono hb.size)
      clear h9
      refine hKK.out _ _ ?_ (fun hHeld => ?_)
      · exact (by exact q)
      clear hKK KK
      try simp only [Act.put, List.setIfInBounds_toArray, List.set_cons_zero, List.set_cons_succ]
      refine wpAnyH_ready (rs := [7, 12]) (by kernel_rfl) (by simp) ?_
      refine AllReadyH.cons (by simp only [List.getElem?_toArray]; rfl) (fun KK hKK => ?_) (AllReadyH.cons (by simp only [List.getElem?_toArray]; rfl) (fun KK hKK => ?_) AllReadyH.nil)
      · skip
        rw [if_pos (by kernel_rfl)]
        refine wp_callF 50 #[.int .u64 (h : Int), .int .i64 4] (by kernel_rfl) ?_
        refine (Low_calls h 4 _ (by omega) (by omega) (by omega)).mono ?_
        rintro e w14 ⟨v, rfl, hrow, h9⟩
        obtain ⟨A2, c2, b2, hve, s2⟩ := Row.sl_bs hrow
        rw [low_length] at hve
        subst hve
        clear hrow
        refine ⟨_, rfl, ?_⟩
        replace q := q.ext h9
        replace hps := Sl.ext hps h9
        replace hcs := Sl.ext hcs h9
        replace s1 := Sl.ext s1 h9
        replace hb := hb.trans (h9.mono hb.size)
        clear h9
        refine hKK.out _ _ ?_ (fun hHeld => ?_)
        · exact (by exact q)
        clear hKK KK
        try simp only [Act.put, List.setIfInBounds_toArray, List.set_cons_zero, List.set_cons_succ]
        refine wpAnyH_ready (rs := [12]) (by kernel_rfl) (by simp) ?_
        refine AllReadyH.cons (by simp only [List.getElem?_toArray]; rfl) (fun KK hKK => ?_) AllReadyH.nil
        rw [if_pos (by kernel_rfl)]
        refine wp_bsB (.tmp 17) rfl (np : Int) (by kernel_rfl) ?_
        have h9 := below_alloc1 w14 (.cells #[.int .u8 (np : Int)] 5)
        have s3 := HBY.out w14
        obtain ⟨b3, hq1⟩ : ∃ b3, b3 = w14.heap.size := ⟨_, rfl⟩
        obtain ⟨w15, hwa⟩ : ∃ w15, w15 = w14.alloc (.cells #[.int .u8 (np : Int)] 5) := ⟨_, rfl⟩
        rw [← hwa] at h9 s3 ⊢
        rw [← hq1] at s3 ⊢
        clear hwa hq1
        replace q := q.ext h9
        replace hps := Sl.ext hps h9
        replace hcs := Sl.ext hcs h9
        replace s1 := Sl.ext s1 h9
        replace s2 := Sl.ext s2 h9
        replace hb := hb.trans (h9.mono hb.size)
        clear h9
        refine hKK.out _ _ ?_ (fun hHeld => ?_)
        · exact (by exact q)
        clear hKK KK
        try simp only [Act.put, List.setIfInBounds_toArray, List.set_cons_zero, List.set_cons_succ]
        refine wpAnyH_ready (rs := [13]) (by kernel_rfl) (by simp) ?_
        refine AllReadyH.cons (by simp only [List.getElem?_toArray]; rfl) (fun KK hKK => ?_) AllReadyH.nil
        rw [if_pos (by kernel_rfl)]
        refine wp_bs3 (.tmp 9) (.tmp 13) (.tmp 18) rfl A1 4 c1 A2 4 c2 (some ⟨b3, 0, none⟩) 1 1 (by kernel_rfl) (by kernel_rfl) (by kernel_rfl) ?_
        have h9 := below_alloc1 w15 (.cells #[.slice A1 4 c1, .slice A2 4 c2, .slice (some ⟨b3, 0, none⟩) 1 1] 36)
        have s4 := Sl.cells_new w15 #[.slice A1 4 c1, .slice A2 4 c2, .slice (some ⟨b3, 0, none⟩) 1 1] 36
        obtain ⟨b4, hq1⟩ : ∃ b4, b4 = w15.heap.size := ⟨_, rfl⟩
        obtain ⟨w16, hwa⟩ : ∃ w16, w16 = w15.alloc (.cells #[.slice A1 4 c1, .slice A2 4 c2, .slice (some ⟨b3, 0, none⟩) 1 1] 36) := ⟨_, rfl⟩
        rw [← hwa] at h9 s4 ⊢
        rw [← hq1] at s4 ⊢
        clear hwa hq1
        replace q := q.ext h9
        replace hps := Sl.ext hps h9
        replace hcs := Sl.ext hcs h9
        replace s1 := Sl.ext s1 h9
        replace s2 := Sl.ext s2 h9
        replace s3 := Sl.ext s3 h9
        replace hb := hb.trans (h9.mono hb.size)
        clear h9
        refine hKK.out _ _ ?_ (fun hHeld => ?_)
        · exact (by exact q)
        clear hKK KK
        try simp only [Act.put, List.setIfInBounds_toArray, List.set_cons_zero, List.set_cons_succ]
        refine wpAnyH_ready (rs := [14]) (by kernel_rfl) (by simp) ?_
        refine AllReadyH.cons (by simp only [List.getElem?_toArray]; rfl) (fun KK hKK => ?_) AllReadyH.nil
        rw [if_pos (by kernel_rfl)]
        refine wp_callF 25 #[.slice (some ⟨b4, 0, none⟩) 3 3] (by kernel_rfl) ?_
        have hz := hb.size
        refine (Join_calls _ [.slice A1 4 c1, .slice A2 4 c2, .slice (some ⟨b3, 0, none⟩) 1 1] [low t 4, low h 4, low np 1] 3 3 b4 _ s4 (Bss.cons s1 (by simp) (Bss.cons s2 (by simp) (Bss.cons s3 (by simp) (Bss.nil_ _)))) rfl (by simp [maxLen]) (by simp)).mono ?_
        rintro e w17 ⟨v, rfl, hrow, h9⟩
        have hj := owns_low hrow hz
        clear hrow hz
        refine ⟨_, rfl, ?_⟩
        replace q := q.ext h9
        replace hps := Sl.ext hps h9
        replace hcs := Sl.ext hcs h9
        replace s1 := Sl.ext s1 h9
        replace s2 := Sl.ext s2 h9
        replace s3 := Sl.ext s3 h9
        replace s4 := Sl.ext s4 h9
        replace hb := hb.trans (h9.mono hb.size)
        clear h9
        refine hKK.out _ _ ?_ (fun hHeld => ?_)
        · exact (by exact q)
        clear hKK KK
        try simp only [Act.put, List.setIfInBounds_toArray, List.set_cons_zero, List.set_cons_succ]
        refine wpAnyH_take (i := 15) (v := ?vt118) (by simp only [List.getElem?_toArray]; rfl) (by kernel_rfl) (by kernel_rfl) (by kernel_rfl) (by exact fun _ _ _ h => h) (Or.inl ⟨by kernel_rfl, ?yt118⟩) hHeld ?_
        case yt118 => (intro ww hSw; (try dsimp only at hSw); clear hSw; go_simp; try (with_reducible rfl))
        refine wpAnyH_done (by kernel_rfl) ?_ _
        go_wp2_with fail
        go_meet
        exact ⟨_, rfl, q, hps, hcs, Row.cast hj (by simp [dHead]), hb⟩
      · skip
        rw [if_pos (by kernel_rfl)]
        refine wp_bsB (.tmp 17) rfl (np : Int) (by kernel_rfl) ?_
        have h9 := below_alloc1 w13 (.cells #[.int .u8 (np : Int)] 5)
        have s3 := HBY.out w13
        obtain ⟨b3, hq1⟩ : ∃ b3, b3 = w13.heap.size := ⟨_, rfl⟩
        obtain ⟨w19, hwa⟩ : ∃ w19, w19 = w13.alloc (.cells #[.int .u8 (np : Int)] 5) := ⟨_, rfl⟩
        rw [← hwa] at h9 s3 ⊢
        rw [← hq1] at s3 ⊢
        clear hwa hq1
        replace q := q.ext h9
        replace hps := Sl.ext hps h9
        replace hcs := Sl.ext hcs h9
        replace s1 := Sl.ext s1 h9
        replace hb := hb.trans (h9.mono hb.size)
        clear h9
        refine hKK.out _ _ ?_ (fun hHeld => ?_)
        · exact (by exact q)
        clear hKK KK
        try simp only [Act.put, List.setIfInBounds_toArray, List.set_cons_zero, List.set_cons_succ]
        refine wpAnyH_ready (rs := [7]) (by kernel_rfl) (by simp) ?_
        refine AllReadyH.cons (by simp only [List.getElem?_toArray]; rfl) (fun KK hKK => ?_) AllReadyH.nil
        rw [if_pos (by kernel_rfl)]
        refine wp_callF 50 #[.int .u64 (h : Int), .int .i64 4] (by kernel_rfl) ?_
        refine (Low_calls h 4 _ (by omega) (by omega) (by omega)).mono ?_
        rintro e w20 ⟨v, rfl, hrow, h9⟩
        obtain ⟨A2, c2, b2, hve, s2⟩ := Row.sl_bs hrow
        rw [low_length] at hve
        subst hve
        clear hrow
        refine ⟨_, rfl, ?_⟩
        replace q := q.ext h9
        replace hps := Sl.ext hps h9
        replace hcs := Sl.ext hcs h9
        replace s1 := Sl.ext s1 h9
        replace s3 := Sl.ext s3 h9
        replace hb := hb.trans (h9.mono hb.size)
        clear h9
        refine hKK.out _ _ ?_ (fun hHeld => ?_)
        · exact (by exact q)
        clear hKK KK
        try simp only [Act.put, List.setIfInBounds_toArray, List.set_cons_zero, List.set_cons_succ]
        refine wpAnyH_ready (rs := [13]) (by kernel_rfl) (by simp) ?_
        refine AllReadyH.cons (by simp only [List.getElem?_toArray]; rfl) (fun KK hKK => ?_) AllReadyH.nil
        rw [if_pos (by kernel_rfl)]
        refine wp_bs3 (.tmp 9) (.tmp 13) (.tmp 18) rfl A1 4 c1 A2 4 c2 (some ⟨b3, 0, none⟩) 1 1 (by kernel_rfl) (by kernel_rfl) (by kernel_rfl) ?_
        have h9 := below_alloc1 w20 (.cells #[.slice A1 4 c1, .slice A2 4 c2, .slice (some ⟨b3, 0, none⟩) 1 1] 36)
        have s4 := Sl.cells_new w20 #[.slice A1 4 c1, .slice A2 4 c2, .slice (some ⟨b3, 0, none⟩) 1 1] 36
        obtain ⟨b4, hq1⟩ : ∃ b4, b4 = w20.heap.size := ⟨_, rfl⟩
        obtain ⟨w21, hwa⟩ : ∃ w21, w21 = w20.alloc (.cells #[.slice A1 4 c1, .slice A2 4 c2, .slice (some ⟨b3, 0, none⟩) 1 1] 36) := ⟨_, rfl⟩
        rw [← hwa] at h9 s4 ⊢
        rw [← hq1] at s4 ⊢
        clear hwa hq1
        replace q := q.ext h9
        replace hps := Sl.ext hps h9
        replace hcs := Sl.ext hcs h9
        replace s1 := Sl.ext s1 h9
        replace s3 := Sl.ext s3 h9
        replace s2 := Sl.ext s2 h9
        replace hb := hb.trans (h9.mono hb.size)
        clear h9
        refine hKK.out _ _ ?_ (fun hHeld => ?_)
        · exact (by exact q)
        clear hKK KK
        try simp only [Act.put, List.setIfInBounds_toArray, List.set_cons_zero, List.set_cons_succ]
        refine wpAnyH_ready (rs := [14]) (by kernel_rfl) (by simp) ?_
        refine AllReadyH.cons (by simp only [List.getElem?_toArray]; rfl) (fun KK hKK => ?_) AllReadyH.nil
        rw [if_pos (by kernel_rfl)]
        refine wp_callF 25 #[.slice (some ⟨b4, 0, none⟩) 3 3] (by kernel_rfl) ?_
        have hz := hb.size
        refine (Join_calls _ [.slice A1 4 c1, .slice A2 4 c2, .slice (some ⟨b3, 0, none⟩) 1 1] [low t 4, low h 4, low np 1] 3 3 b4 _ s4 (Bss.cons s1 (by simp) (Bss.cons s2 (by simp) (Bss.cons s3 (by simp) (Bss.nil_ _)))) rfl (by simp [maxLen]) (by simp)).mono ?_
        rintro e w22 ⟨v, rfl, hrow, h9⟩
        have hj := owns_low hrow hz
        clear hrow hz
        refine ⟨_, rfl, ?_⟩
        replace q := q.ext h9
        replace hps := Sl.ext hps h9
        replace hcs := Sl.ext hcs h9
        replace s1 := Sl.ext s1 h9
        replace s3 := Sl.ext s3 h9
        replace s2 := Sl.ext s2 h9
        replace s4 := Sl.ext s4 h9
        replace hb := hb.trans (h9.mono hb.size)
        clear h9
        refine hKK.out _ _ ?_ (fun hHeld => ?_)
        · exact (by exact q)
        clear hKK KK
        try simp only [Act.put, List.setIfInBounds_toArray, List.set_cons_zero, List.set_cons_succ]
        refine wpAnyH_take (i := 15) (v := ?vt123) (by simp only [List.getElem?_toArray]; rfl) (by kernel_rfl) (by kernel_rfl) (by kernel_rfl) (by exact fun _ _ _ h => h) (Or.inl ⟨by kernel_rfl, ?yt123⟩) hHeld ?_
        case yt123 => (intro ww hSw; (try dsimp only at hSw); clear hSw; go_simp; try (with_reducible rfl))
        refine wpAnyH_done (by kernel_rfl) ?_ _
        go_wp2_with fail
        go_meet
        exact ⟨_, rfl, q, hps, hcs, Row.cast hj (by simp [dHead]), hb⟩
    · skip
      rw [if_pos (by kernel_rfl)]
      refine wp_bsB (.tmp 17) rfl (np : Int) (by kernel_rfl) ?_
      have h9 := below_alloc1 wd2 (.cells #[.int .u8 (np : Int)] 5)
      have s3 := HBY.out wd2
      obtain ⟨b3, hq1⟩ : ∃ b3, b3 = wd2.heap.size := ⟨_, rfl⟩
      obtain ⟨w24, hwa⟩ : ∃ w24, w24 = wd2.alloc (.cells #[.int .u8 (np : Int)] 5) := ⟨_, rfl⟩
      rw [← hwa] at h9 s3 ⊢
      rw [← hq1] at s3 ⊢
      clear hwa hq1
      replace q := q.ext h9
      replace hps := Sl.ext hps h9
      replace hcs := Sl.ext hcs h9
      replace hb := hb.trans (h9.mono hb.size)
      clear h9
      refine hKK.out _ _ ?_ (fun hHeld => ?_)
      · exact (by exact q)
      clear hKK KK
      try simp only [Act.put, List.setIfInBounds_toArray, List.set_cons_zero, List.set_cons_succ]
      refine wpAnyH_ready (rs := [3]) (by kernel_rfl) (by simp) ?_
      refine AllReadyH.cons (by simp only [List.getElem?_toArray]; rfl) (fun KK hKK => ?_) AllReadyH.nil
      rw [if_pos (by kernel_rfl)]
      refine wp_callF 50 #[.int .u64 (t : Int), .int .i64 4] (by kernel_rfl) ?_
      refine (Low_calls t 4 _ (by omega) (by omega) (by omega)).mono ?_
      rintro e w25 ⟨v, rfl, hrow, h9⟩
      obtain ⟨A1, c1, b1, hve, s1⟩ := Row.sl_bs hrow
      rw [low_length] at hve
      subst hve
      clear hrow
      refine ⟨_, rfl, ?_⟩
      replace q := q.ext h9
      replace hps := Sl.ext hps h9
      replace hcs := Sl.ext hcs h9
      replace s3 := Sl.ext s3 h9
      replace hb := hb.trans (h9.mono hb.size)
      clear h9
      refine hKK.out _ _ ?_ (fun hHeld => ?_)
      · exact (by exact q)
      clear hKK KK
      try simp only [Act.put, List.setIfInBounds_toArray, List.set_cons_zero, List.set_cons_succ]
      refine wpAnyH_ready (rs := [7]) (by kernel_rfl) (by simp) ?_
      refine AllReadyH.cons (by simp only [List.getElem?_toArray]; rfl) (fun KK hKK => ?_) AllReadyH.nil
      rw [if_pos (by kernel_rfl)]
      refine wp_callF 50 #[.int .u64 (h : Int), .int .i64 4] (by kernel_rfl) ?_
      refine (Low_calls h 4 _ (by omega) (by omega) (by omega)).mono ?_
      rintro e w26 ⟨v, rfl, hrow, h9⟩
      obtain ⟨A2, c2, b2, hve, s2⟩ := Row.sl_bs hrow
      rw [low_length] at hve
      subst hve
      clear hrow
      refine ⟨_, rfl, ?_⟩
      replace q := q.ext h9
      replace hps := Sl.ext hps h9
      replace hcs := Sl.ext hcs h9
      replace s3 := Sl.ext s3 h9
      replace s1 := Sl.ext s1 h9
      replace hb := hb.trans (h9.mono hb.size)
      clear h9
      refine hKK.out _ _ ?_ (fun hHeld => ?_)
      · exact (by exact q)
      clear hKK KK
      try simp only [Act.put, List.setIfInBounds_toArray, List.set_cons_zero, List.set_cons_succ]
      refine wpAnyH_ready (rs := [13]) (by kernel_rfl) (by simp) ?_
      refine AllReadyH.cons (by simp only [List.getElem?_toArray]; rfl) (fun KK hKK => ?_) AllReadyH.nil
      rw [if_pos (by kernel_rfl)]
      refine wp_bs3 (.tmp 9) (.tmp 13) (.tmp 18) rfl A1 4 c1 A2 4 c2 (some ⟨b3, 0, none⟩) 1 1 (by kernel_rfl) (by kernel_rfl) (by kernel_rfl) ?_
      have h9 := below_alloc1 w26 (.cells #[.slice A1 4 c1, .slice A2 4 c2, .slice (some ⟨b3, 0, none⟩) 1 1] 36)
      have s4 := Sl.cells_new w26 #[.slice A1 4 c1, .slice A2 4 c2, .slice (some ⟨b3, 0, none⟩) 1 1] 36
      obtain ⟨b4, hq1⟩ : ∃ b4, b4 = w26.heap.size := ⟨_, rfl⟩
      obtain ⟨w27, hwa⟩ : ∃ w27, w27 = w26.alloc (.cells #[.slice A1 4 c1, .slice A2 4 c2, .slice (some ⟨b3, 0, none⟩) 1 1] 36) := ⟨_, rfl⟩
      rw [← hwa] at h9 s4 ⊢
      rw [← hq1] at s4 ⊢
      clear hwa hq1
      replace q := q.ext h9
      replace hps := Sl.ext hps h9
      replace hcs := Sl.ext hcs h9
      replace s3 := Sl.ext s3 h9
      replace s1 := Sl.ext s1 h9
      replace s2 := Sl.ext s2 h9
      replace hb := hb.trans (h9.mono hb.size)
      clear h9
      refine hKK.out _ _ ?_ (fun hHeld => ?_)
      · exact (by exact q)
      clear hKK KK
      try simp only [Act.put, List.setIfInBounds_toArray, List.set_cons_zero, List.set_cons_succ]
      refine wpAnyH_ready (rs := [14]) (by kernel_rfl) (by simp) ?_
      refine AllReadyH.cons (by simp only [List.getElem?_toArray]; rfl) (fun KK hKK => ?_) AllReadyH.nil
      rw [if_pos (by kernel_rfl)]
      refine wp_callF 25 #[.slice (some ⟨b4, 0, none⟩) 3 3] (by kernel_rfl) ?_
      have hz := hb.size
      refine (Join_calls _ [.slice A1 4 c1, .slice A2 4 c2, .slice (some ⟨b3, 0, none⟩) 1 1] [low t 4, low h 4, low np 1] 3 3 b4 _ s4 (Bss.cons s1 (by simp) (Bss.cons s2 (by simp) (Bss.cons s3 (by simp) (Bss.nil_ _)))) rfl (by simp [maxLen]) (by simp)).mono ?_
      rintro e w28 ⟨v, rfl, hrow, h9⟩
      have hj := owns_low hrow hz
      clear hrow hz
      refine ⟨_, rfl, ?_⟩
      replace q := q.ext h9
      replace hps := Sl.ext hps h9
      replace hcs := Sl.ext hcs h9
      replace s3 := Sl.ext s3 h9
      replace s1 := Sl.ext s1 h9
      replace s2 := Sl.ext s2 h9
      replace s4 := Sl.ext s4 h9
      replace hb := hb.trans (h9.mono hb.size)
      clear h9
      refine hKK.out _ _ ?_ (fun hHeld => ?_)
      · exact (by exact q)
      clear hKK KK
      try simp only [Act.put, List.setIfInBounds_toArray, List.set_cons_zero, List.set_cons_succ]
      refine wpAnyH_take (i := 15) (v := ?vt129) (by simp only [List.getElem?_toArray]; rfl) (by kernel_rfl) (by kernel_rfl) (by kernel_rfl) (by exact fun _ _ _ h => h) (Or.inl ⟨by kernel_rfl, ?yt129⟩) hHeld ?_
      case yt129 => (intro ww hSw; (try dsimp only at hSw); clear hSw; go_simp; try (with_reducible rfl))
      refine wpAnyH_done (by kernel_rfl) ?_ _
      go_wp2_with fail
      go_meet
      exact ⟨_, rfl, q, hps, hcs, Row.cast hj (by simp [dHead]), hb⟩
  case rest =>
    obtain ⟨wy, rfl, q, hps, hcs, hp, hb⟩ := hcut
    have q3 := q.c3
    go_wp2_with fail
    go_loopw [3, 4, 5, 24] (fun p _ _ i wr => ∃ k, k ≤ np ∧ i = .int .i64 k ∧ BoxE wr w.heap.size t h (.slice Ap np cp) (.slice Ac np cc) ∧ Bs wr bp Ap ps ∧ Sl wr bc Ac (cv cs) ∧ Row wr w.heap.size p (dHead t h np ++ dRows ps cs k) ∧ Below w.heap.size w wr) (fun _ _ _ i _ => np - (intOf i).toNat)
    case atStart => exact ⟨0, Nat.zero_le _, rfl, q, hps, hcs, hp.cast (by simp [dRows]), hb⟩
    case round =>
      clear q hps hcs hp hb q3
      obtain ⟨k, hk, rfl, q, hps, hcs, hp, hb⟩ := hrel
      by_cases hlt : k < np
      · have hkc : k < cs.length := by rw [HCN.out]; exact hlt
        have hkp : k < ps.length := by rw [HPN.out]; exact hlt
        obtain ⟨offc, rfl, f0, f1⟩ := sl_off hcs hkc
        obtain ⟨off, rfl, hc⟩ := Bs.at_ hps hkp
        have hy := (HOC.out cs[k] (List.getElem_mem _)).2
        obtain ⟨⟨x, y⟩, hxy⟩ : ∃ p, p = cs[k] := ⟨_, rfl⟩
        obtain ⟨z, hz⟩ : ∃ z, z = ps[k] := ⟨_, rfl⟩
        have hsub : ∀ W : World, Bs W bp (some ⟨bp, off, none⟩) ps → Bs W bp (some ⟨bp, off + k, none⟩) [z] := fun W hW => by
          have h8 := bs_at hW hkp
          rw [← hz] at h8
          intro _
          refine ⟨off + k, rfl, fun j v hj => ?_⟩
          match j, hj with
          | 0, hj => rw [Nat.add_zero, h8]; simpa [bv] using hj
        have HSUB := Lib.hid hsub
        rw [← hxy] at f0 f1 hy
        simp only at f0 f1 hy
        have hrs : dRows ps cs (k + 1) = dRows ps cs k ++ ([z] ++ cellB (x, y)) := by rw [dRows_succ hkp hkc, ← hz, ← hxy]; simp [low]
        have HRS := Lib.hid hrs
        have ej : (k : Int) < (np : Int) := by omega
        have ec : (k : Int) + 1 ≤ (cp : Int) := by omega
        have ek1 : IntKind.i64.wrap ((k : Int) + 1) = (k : Int) + 1 := IntWalk.i64_in _ (by omega)
        have ek2 : ((k : Int) + 1).toNat = k + 1 := by omega
        have ek3 : ¬ cp = k := by omega
        have ek4 : (0 : Int) ≤ (k : Int) + 1 := by omega
        obtain ⟨Aq, cq, bq, hv, sq⟩ := Row.sl_bs hp
        obtain ⟨N, hN⟩ : ∃ N, N = (dHead t h np ++ dRows ps cs k).length := ⟨_, rfl⟩
        have hNl : N ≤ 1000 := by rw [hN, List.length_append, dHead_len, dRows_len _ _ _ (by omega) (by omega)]; omega
        rw [← hN] at hv
        subst hv
        have HN := Lib.hid hN
        have h9 := below_alloc1 wr (.cells #[.int .i32 x, .int .u32 (y : Int)] 83)
        have kx := BoxR6.new_ wr x y
        clear hN hxy hz hp hc hsub hrs hkc hkp
        replace q := q.ext h9
        replace hps := Sl.ext hps h9
        replace hcs := Sl.ext hcs h9
        replace sq := Sl.ext sq h9
        replace hb := hb.trans (h9.mono hb.size)
        clear h9
        go_upto_region 5 with fail
        clear f0 f1
        obtain ⟨wz, hwz⟩ : ∃ wz, wz = wr.alloc (.cells #[.int .i32 x, .int .u32 (y : Int)] 83) := ⟨_, rfl⟩
        obtain ⟨Bx, hBx⟩ : ∃ Bx, Bx = wr.heap.size := ⟨_, rfl⟩
        rw [← hwz] at q hps hcs sq hb kx ⊢
        rw [← hBx] at kx ⊢
        clear hwz hBx
        refine wp_region_held_drew (S := fun w9 => BoxE w9 w.heap.size t h (.slice (some ⟨bp, off, none⟩) np cp) (.slice (some ⟨bc, offc, none⟩) np cc) ∧ BoxR6 w9 Bx x y) (by kernel_rfl) ?_ (fun hHeld => ?_)
        · exact ⟨q, kx⟩
        obtain ⟨wd31, hwd31⟩ : ∃ wd31, wd31 = World.drew wz := ⟨_, rfl⟩
        have h9 : Below wz.heap.size wz wd31 := by rw [hwd31]; exact below_drew (Below.refl _ _)
        rw [← hwd31] at hHeld ⊢
        replace q := q.ext h9
        replace kx := kx.ext h9
        replace hps := Sl.ext hps h9
        replace hcs := Sl.ext hcs h9
        replace sq := Sl.ext sq h9
        replace hb := hb.trans (h9.mono hb.size)
        clear h9
        clear hwd31
        refine wpAnyH_take (i := 0) (v := ?vt3032) (by simp only [List.getElem?_toArray]; rfl) (by kernel_rfl) (by kernel_rfl) (by kernel_rfl) (by exact fun _ _ _ h => h) (Or.inl ⟨by kernel_rfl, ?yt3032⟩) hHeld ?_
        case yt3032 => (intro ww hSw; (try dsimp only at hSw); clear hSw; go_simp; try (with_reducible rfl))
        refine wpAnyH_take (i := 1) (v := ?vt3033) (by simp only [List.getElem?_toArray]; rfl) (by kernel_rfl) (by kernel_rfl) (by kernel_rfl) (by exact fun _ _ _ h => h) (Or.inl ⟨by kernel_rfl, ?yt3033⟩) hHeld ?_
        case yt3033 => (intro ww hSw; (try dsimp only at hSw); clear hSw; go_simp; try (with_reducible rfl))
        refine wpAnyH_take (i := 2) (v := ?vt3034) (by simp only [List.getElem?_toArray]; rfl) (by kernel_rfl) (by kernel_rfl) (by kernel_rfl) (by exact fun _ _ _ h => h) (Or.inl ⟨by kernel_rfl, ?yt3034⟩) hHeld ?_
        case yt3034 => (intro ww hSw; (try dsimp only at hSw); (obtain ⟨qq, kk⟩ := hSw; have z2 := qq.c2; have z5 := kk.c0; have z6 := kk.c1; clear qq kk); go_simp; try (with_reducible rfl))
        refine wpAnyH_take (i := 3) (v := ?vt3035) (by simp only [List.getElem?_toArray]; rfl) (by kernel_rfl) (by kernel_rfl) (by kernel_rfl) (by exact fun _ _ _ h => h) (Or.inl ⟨by kernel_rfl, ?yt3035⟩) hHeld ?_
        case yt3035 => (intro ww hSw; (try dsimp only at hSw); clear hSw; go_simp; try (with_reducible rfl))
        refine wpAnyH_take (i := 4) (v := ?vt3036) (by simp only [List.getElem?_toArray]; rfl) (by kernel_rfl) (by kernel_rfl) (by kernel_rfl) (by exact fun _ _ _ h => h) (Or.inl ⟨by kernel_rfl, ?yt3036⟩) hHeld ?_
        case yt3036 => (intro ww hSw; (try dsimp only at hSw); clear hSw; go_simp; try (with_reducible rfl))
        refine wpAnyH_take (i := 5) (v := ?vt3037) (by simp only [List.getElem?_toArray]; rfl) (by kernel_rfl) (by kernel_rfl) (by kernel_rfl) (by exact fun _ _ _ h => h) (Or.inl ⟨by kernel_rfl, ?yt3037⟩) hHeld ?_
        case yt3037 => (intro ww hSw; (try dsimp only at hSw); clear hSw; go_simp; try (with_reducible rfl))
        refine wpAnyH_take (i := 6) (v := ?vt3038) (by simp only [List.getElem?_toArray]; rfl) (by kernel_rfl) (by kernel_rfl) (by kernel_rfl) (by exact fun _ _ _ h => h) (Or.inl ⟨by kernel_rfl, ?yt3038⟩) hHeld ?_
        case yt3038 => (intro ww hSw; (try dsimp only at hSw); clear hSw; go_simp; try (with_reducible rfl))
        refine wpAnyH_take (i := 7) (v := ?vt3039) (by simp only [List.getElem?_toArray]; rfl) (by kernel_rfl) (by kernel_rfl) (by kernel_rfl) (by exact fun _ _ _ h => h) (Or.inl ⟨by kernel_rfl, ?yt3039⟩) hHeld ?_
        case yt3039 => (intro ww hSw; (try dsimp only at hSw); (obtain ⟨qq, kk⟩ := hSw; have z2 := qq.c2; have z5 := kk.c0; have z6 := kk.c1; clear qq kk); go_simp; try (with_reducible rfl))
        refine wpAnyH_ready (rs := [8]) (by kernel_rfl) (by simp) ?_
        refine AllReadyH.cons (by simp only [List.getElem?_toArray]; rfl) (fun KK hKK => ?_) AllReadyH.nil
        rw [if_pos (by kernel_rfl)]
        refine wp_callF 51 #[.agg #[.int .i32 x, .int .u32 (y : Int)]] (by kernel_rfl) ?_
        refine (RefBytes_calls x y _ hy).mono ?_
        rintro e w40 ⟨v, rfl, hrow, h9⟩
        obtain ⟨A8, c8, b8, hve, s8⟩ := Row.sl_bs hrow
        rw [cellB_len] at hve
        subst hve
        clear hrow
        refine ⟨_, rfl, ?_⟩
        replace q := q.ext h9
        replace kx := kx.ext h9
        replace hps := Sl.ext hps h9
        replace hcs := Sl.ext hcs h9
        replace sq := Sl.ext sq h9
        replace hb := hb.trans (h9.mono hb.size)
        clear h9
        refine hKK.out _ _ ?_ (fun hHeld => ?_)
        · exact ⟨q, kx⟩
        clear hKK KK
        try simp only [Act.put, List.setIfInBounds_toArray, List.set_cons_zero, List.set_cons_succ]
        refine wpAnyH_ready (rs := [9]) (by kernel_rfl) (by simp) ?_
        refine AllReadyH.cons (by simp only [List.getElem?_toArray]; rfl) (fun KK hKK => ?_) AllReadyH.nil
        rw [if_pos (by kernel_rfl)]
        refine wp_bs3 (.tmp 29) (.tmp 35) (.tmp 37) rfl Aq N cq (some ⟨bp, off + k, none⟩) 1 (cp - k) A8 8 c8 (by kernel_rfl) (by kernel_rfl) (by kernel_rfl) ?_
        have h9 := below_alloc1 w40 (.cells #[.slice Aq N cq, .slice (some ⟨bp, off + k, none⟩) 1 (cp - k), .slice A8 8 c8] 36)
        have s4 := Sl.cells_new w40 #[.slice Aq N cq, .slice (some ⟨bp, off + k, none⟩) 1 (cp - k), .slice A8 8 c8] 36
        obtain ⟨b4, hq1⟩ : ∃ b4, b4 = w40.heap.size := ⟨_, rfl⟩
        obtain ⟨w41, hwa⟩ : ∃ w41, w41 = w40.alloc (.cells #[.slice Aq N cq, .slice (some ⟨bp, off + k, none⟩) 1 (cp - k), .slice A8 8 c8] 36) := ⟨_, rfl⟩
        rw [← hwa] at h9 s4 ⊢
        rw [← hq1] at s4 ⊢
        clear hwa hq1
        replace q := q.ext h9
        replace kx := kx.ext h9
        replace hps := Sl.ext hps h9
        replace hcs := Sl.ext hcs h9
        replace sq := Sl.ext sq h9
        replace s8 := Sl.ext s8 h9
        replace hb := hb.trans (h9.mono hb.size)
        clear h9
        refine hKK.out _ _ ?_ (fun hHeld => ?_)
        · exact ⟨q, kx⟩
        clear hKK KK
        try simp only [Act.put, List.setIfInBounds_toArray, List.set_cons_zero, List.set_cons_succ]
        refine wpAnyH_ready (rs := [10]) (by kernel_rfl) (by simp) ?_
        refine AllReadyH.cons (by simp only [List.getElem?_toArray]; rfl) (fun KK hKK => ?_) AllReadyH.nil
        rw [if_pos (by kernel_rfl)]
        refine wp_callF 25 #[.slice (some ⟨b4, 0, none⟩) 3 3] (by kernel_rfl) ?_
        have hz := hb.size
        refine (Join_calls _ [.slice Aq N cq, .slice (some ⟨bp, off + k, none⟩) 1 (cp - k), .slice A8 8 c8] [dHead t h np ++ dRows ps cs k, [z], cellB (x, y)] 3 3 b4 _ s4 (Bss.cons sq HN.out.symm (Bss.cons (HSUB.out _ hps) (by simp) (Bss.cons s8 (by simp [cellB_len]) (Bss.nil_ _)))) rfl (by simp [maxLen]) (by have h0 := HN.out; simp only [List.flatten_cons, List.flatten_nil, List.length_append, List.length_cons, List.length_nil, cellB_len] at h0 ⊢; omega)).mono ?_
        rintro e w42 ⟨v, rfl, hrow, h9⟩
        have hj := owns_low hrow hz
        clear hrow hz
        refine ⟨_, rfl, ?_⟩
        replace q := q.ext h9
        replace kx := kx.ext h9
        replace hps := Sl.ext hps h9
        replace hcs := Sl.ext hcs h9
        replace sq := Sl.ext sq h9
        replace s8 := Sl.ext s8 h9
        replace s4 := Sl.ext s4 h9
        replace hb := hb.trans (h9.mono hb.size)
        clear h9
        refine hKK.out _ _ ?_ (fun hHeld => ?_)
        · exact ⟨q, kx⟩
        clear hKK KK
        try simp only [Act.put, List.setIfInBounds_toArray, List.set_cons_zero, List.set_cons_succ]
        refine wpAnyH_take (i := 11) (v := ?vt3043) (by simp only [List.getElem?_toArray]; rfl) (by kernel_rfl) (by kernel_rfl) (by kernel_rfl) (by exact fun _ _ _ h => h) (Or.inl ⟨by kernel_rfl, ?yt3043⟩) hHeld ?_
        case yt3043 => (intro ww hSw; (try dsimp only at hSw); clear hSw; go_simp; try (with_reducible rfl))
        refine wpAnyH_done (by kernel_rfl) ?_ _
        go_wp2_with fail
        go_roundw
        case rel => exact ⟨k + 1, by omega, by go_num, q, hps, hcs, Row.cast hj (by rw [HRS.out]; simp), hb⟩
        case measure => simp [intOf]; omega
      · obtain rfl : k = np := by omega
        have hfin : dHead t h k ++ dRows ps cs k = dB t h ps cs := by unfold dB; rw [HPN.out]
        rw [hfin] at hp
        clear hfin
        go_wp2_with fail
        go_ret
        exact ⟨_, rfl, hp, hb⟩
end Go.Proofs.Ytioahddobogpjaa
/- slices.Equal at bytes and at cells; delta.Same of two that are alike. Conditions: those said. -/
namespace Go.Proofs.Ytioahddobogpjaa
open Go.RowKit

set_option maxHeartbeats 400000 in
theorem EqB_calls (A B : Option Addr) (a b : List UInt8) (n m ca cb ba bb : Nat) (w : World) (ha : Bs w ba A a) (hb : Bs w bb B b) (hn : a.length = n) (hm : b.length = m) (h1 : n ≤ maxLen) (_h2 : m ≤ maxLen) :
    Calls Try.prog 52 #[.slice A n ca, .slice B m cb] w fun e w' => e = .returned (.bool (decide (a = b))) ∧ ∃ k, w' = w.drewN k := by
  unfold maxLen at h1
  by_cases hlen : n = m
  · subst hlen
    have hne : ((n : Int) != (n : Int)) = false := by simp
    have HN := Lib.hid hn
    have HM := Lib.hid hm
    clear hn hm
    go_enter Try.func52, Try.ntmps52
    go_wp2
    go_loopw [13] (fun i wr => ∃ k : Nat, k ≤ n ∧ i = .int .i64 k ∧ Hid (a.take k = b.take k) ∧ ∃ d, wr = w.drewN d) (fun i _ => n - (intOf i).toNat)
    case atStart => exact ⟨0, Nat.zero_le _, rfl, rfl, 0, rfl⟩
    case round =>
      obtain ⟨k, hk, rfl, hpre, d, rfl⟩ := hrel
      by_cases hlt : k < n
      · obtain ⟨oa, rfl, hca⟩ := ha.at_ (k := k) (by rw [HN.out]; exact hlt)
        obtain ⟨ob, rfl, hcb⟩ := hb.at_ (k := k) (by rw [HM.out]; exact hlt)
        have ca := hca k (by rw [HN.out]; exact hlt)
        have cb := hcb k (by rw [HM.out]; exact hlt)
        have ka : k < a.length := by rw [HN.out]; exact hlt
        have kb : k < b.length := by rw [HM.out]; exact hlt
        have ts := Lib.hid (take_succ_eq a b k ka kb)
        clear hca hcb
        have e18 : ((n : Int) ≤ 9223372036854775807) := by omega
        by_cases hx : a[k] = b[k]
        · have hq : ((a[k].toNat : Int) != (b[k].toNat : Int)) = false := by simp [hx]
          go_wp2
          go_quiet (fail)
          go_wp2
          go_roundw
          case rel => exact ⟨k + 1, by omega, by go_num, Lib.hid (ts.out.2 ⟨hpre.out, hx⟩), _, rfl⟩
          case measure => simp [intOf]; omega
        · have hq : ((a[k].toNat : Int) != (b[k].toNat : Int)) = true := by
            simp only [bne_iff_ne, ne_eq]
            intro he
            exact hx (UInt8.toNat_inj.1 (by omega))
          go_wp2
          go_quiet (fail)
          go_wp2
          go_ret
          have hab : decide (a = b) = false := by
            simp only [decide_eq_false_iff_not]
            rintro rfl
            exact hx rfl
          exact ⟨by rw [hab]; rfl, _, by first | rfl | exact World.drewN_drewN _ _ _⟩
      · go_wp2
        go_ret
        have hkn : k = n := by omega
        have hab : decide (a = b) = true := by
          simp only [decide_eq_true_eq]
          have := hpre.out
          rw [hkn, List.take_of_length_le (by rw [HN.out]; exact Nat.le_refl _), List.take_of_length_le (by rw [HM.out]; exact Nat.le_refl _)] at this
          exact this
        exact ⟨by rw [hab]; rfl, _, by first | rfl | exact World.drewN_drewN _ _ _⟩
  · have hne : ((n : Int) != (m : Int)) = true := by simp only [bne_iff_ne, ne_eq]; omega
    have hd : decide (a = b) = false := by simp only [decide_eq_false_iff_not]; rintro rfl; omega
    go_enter Try.func52, Try.ntmps52
    go_wp2
    go_ret
    exact ⟨by rw [hd]; rfl, 0, rfl⟩
set_option maxHeartbeats 4000000 in
set_option maxRecDepth 20000 in
theorem EqC_calls (A A' : Option Addr) (L M : List (Int × Nat)) (n c b n' c' b' : Nat) (w : World) (hs : Sl w b A (cv L)) (hs' : Sl w b' A' (cv M)) (hn : L.length = n) (hn' : M.length = n') (hm : n ≤ 1000000) (hm' : n' ≤ 1000000) :
    Calls Try.prog 53 #[.slice A n c, .slice A' n' c'] w fun e w' => e = .returned (.bool (decide (L = M))) ∧ Below w.heap.size w w' := by
  subst hn hn'
  obtain ⟨r, hr⟩ : ∃ r, r = decide (L = M) := ⟨_, rfl⟩
  rw [← hr]
  have HR := Lib.hid hr
  clear hr
  by_cases hl : L.length = M.length
  · have hne : ((L.length : Int) != (M.length : Int)) = false := by simp [hl]
    have HL := Lib.hid hl
    clear hl
    go_enter Try.func53, Try.ntmps53
    go_wp2_with fail
    clear hne
    go_loopw [5, 13] (fun v i wr => ∃ k : Nat, k ≤ L.length ∧ i = .int .i64 k ∧ Hid (L.take k = M.take k) ∧ Below w.heap.size w wr) (fun _ i _ => L.length - (intOf i).toNat)
    case atStart => exact ⟨0, Nat.zero_le _, rfl, Lib.hid rfl, Below.refl _ _⟩
    case round =>
      obtain ⟨k, hk, rfl, HT, hb⟩ := hrel
      rename_i v0 _
      by_cases hlt : k < L.length
      · have hlt' : k < M.length := by have := HL.out; omega
        obtain ⟨off, rfl, h0, h1⟩ := sl_off (Sl.ext hs hb) hlt
        obtain ⟨off', rfl, h0', h1'⟩ := sl_off (Sl.ext hs' hb) hlt'
        have hA := Lib.hid (take_next hlt)
        have hB := Lib.hid (take_next hlt')
        obtain ⟨p, hp⟩ : ∃ p, p = L[k] := ⟨_, rfl⟩
        obtain ⟨q, hq⟩ : ∃ q, q = M[k] := ⟨_, rfl⟩
        rw [← hp] at h0 h1 hA
        rw [← hq] at h0' h1' hB
        obtain ⟨x, y⟩ := p
        obtain ⟨x', y'⟩ := q
        have hp := Lib.hid hp
        have hq := Lib.hid hq
        have ej : (k : Int) < (L.length : Int) := by omega
        have ej' : (k : Int) < (M.length : Int) := by omega
        simp only at h0 h1 h0' h1'
        by_cases e1 : x = x'
        · subst e1
          by_cases e2 : y = y'
          · subst e2
            go_wp2_with fail
            go_quiet (fail)
            go_wp2_with fail
            go_roundw
            case rel => exact ⟨k + 1, by omega, by go_num, Lib.hid (by rw [hA.out, hB.out, HT.out]), below_drewN hb _⟩
            case measure => simp [intOf]; omega
          · have e3 : ((y : Int) == (y' : Int)) = false := by simp; omega
            have e4 : ((y : Int) = (y' : Int)) = False := by simp; omega
            go_wp2_with fail
            go_quiet (fail)
            go_wp2_with fail
            go_ret
            refine ⟨?_, below_drewN hb _⟩
            rw [HR.out, decide_eq_false (fun h => by subst h; have := hp.out.trans hq.out.symm; injection this with _ h2; exact e2 h2)]
            rfl
        · have e3 : (x == x') = false := by simp; omega
          go_wp2_with fail
          go_quiet (fail)
          go_wp2_with fail
          go_ret
          refine ⟨?_, below_drewN hb _⟩
          rw [HR.out, decide_eq_false (fun h => by subst h; have := hp.out.trans hq.out.symm; injection this with h2 _; exact e1 h2)]
          rfl
      · obtain rfl : k = L.length := by omega
        go_wp2_with fail
        go_ret
        refine ⟨?_, hb⟩
        have h1 := HT.out
        rw [List.take_length, HL.out, List.take_length] at h1
        rw [HR.out, decide_eq_true h1]
        rfl
  · have hne : ((L.length : Int) != (M.length : Int)) = true := by simp; omega
    go_enter Try.func53, Try.ntmps53
    go_wp2_with fail
    go_ret
    exact ⟨by rw [HR.out, decide_eq_false (fun h => hl (by rw [h]))]; rfl, Below.refl _ _⟩
set_option maxHeartbeats 16000000 in
set_option maxRecDepth 20000 in
/-- Two deltas as the document has them that are alike. -/
theorem DSame_yes (t h : Nat) (Ap : Option Addr) (ps : List UInt8) (np cp bp : Nat) (Ac : Option Addr) (cs : List (Int × Nat)) (nc cc bc : Nat) (Ap' : Option Addr) (cp' bp' : Nat) (Ac' : Option Addr) (cc' bc' : Nat) (w : World)
    (h1 : Bs w bp Ap ps) (h2 : Bs w bp' Ap' ps) (h3 : Sl w bc Ac (cv cs)) (h4 : Sl w bc' Ac' (cv cs)) (hn : ps.length = np) (hc : cs.length = nc) (hm : np ≤ 1000000) (hm' : nc ≤ 1000000) :
    Calls Try.prog 29 #[.agg #[.int .u32 (t : Int), .int .u32 (h : Int), .slice Ap np cp, .slice Ac nc cc], .agg #[.int .u32 (t : Int), .int .u32 (h : Int), .slice Ap' np cp', .slice Ac' nc cc']] w fun e w' => e = .returned (.bool true) ∧ Below w.heap.size w w' := by
  have hS := fun W a b => EqB_calls Ap Ap' ps ps np np cp cp' bp bp' W a b hn hn (by simp only [maxLen]; omega) (by simp only [maxLen]; omega)
  have hR := fun W a b => EqC_calls Ac Ac' cs cs nc cc bc nc cc' bc' W a b hc hc hm' hm'
  simp only [decide_true] at hS hR
  have hb := below_alloc2 w (.cells #[.int .u32 (t : Int), .int .u32 (h : Int), .slice Ap np cp, .slice Ac nc cc] 38) (.cells #[.int .u32 (t : Int), .int .u32 (h : Int), .slice Ap' np cp', .slice Ac' nc cc'] 38)
  have h1 := Sl.ext h1 hb
  have h2 := Sl.ext h2 hb
  have h3 := Sl.ext h3 hb
  have h4 := Sl.ext h4 hb
  go_enter Try.func29, Try.ntmps29
  go_wp2_with fail
  refine (hS _ h1 h2).mono ?_
  rintro e w2 ⟨rfl, k, rfl⟩
  go_wp2_with fail
  refine (hR _ (Sl.drewN h3 k) (Sl.drewN h4 k)).mono ?_
  rintro e w3 ⟨rfl, h9⟩
  have hb3 := hb.trans ((Below.trans (below_drewN (Below.refl _ _) k) (h9.mono (Nat.le_refl _))).mono hb.size)
  clear h9
  go_wp2
  go_ret
  exact ⟨rfl, hb3⟩
end Go.Proofs.Ytioahddobogpjaa
/- A byte of a row of the call's own, written. No condition. -/
namespace Go.Proofs.Ytioahddobogpjaa
open Go.RowKit

theorem Row.set_ {w : World} {B k : Nat} {v : Value} {l : List UInt8} (h : Row w B v l) (hk : k < l.length) :
    ∃ g cap, v = .slice (some ⟨g, 0, none⟩) l.length cap ∧ B ≤ g ∧ g < w.heap.size ∧ w.cell? ⟨g, k, none⟩ = some (.int .u8 (l[k].toNat : Int)) ∧ w.frozen? ⟨g, k, none⟩ = false ∧
      ∀ (q : UInt8) (m : Nat) w', m = q.toNat → w'.heap[g]? = (w.setCell ⟨g, k, none⟩ (.int .u8 (m : Int))).heap[g]? → Row w' B v (l.set k q) := by
  rcases h.2 with ⟨_, hn⟩ | ⟨g, cap, cur, hv, hg, hh, hnc, hcm, hcs, hct⟩
  · omega
  · have hlt : k < cur.size := by omega
    have hct' : cur.toList.take l.length = bv l := by simpa using hct
    refine ⟨g, cap, hv, hg, (Array.getElem?_eq_some_iff.1 hh).1, ?_, frozen_of_row w g k _ _ hh, fun q m w' hm hw => ?_⟩
    · rw [cell_of_row w g k _ _ _ hh]
      have h1 : (cur.toList.take l.length)[k]? = some (.int .u8 (l[k].toNat : Int)) := by
        rw [hct', List.getElem?_eq_getElem (by simpa using hk), bv_get]
      rw [List.getElem?_take, if_pos hk] at h1
      simpa using h1
    · subst hm
      rw [heap_setCell_same w g k cur _ _ hh] at hw
      refine ⟨by simp, .inr ⟨g, cap, _, by rw [hv]; simp, hg, hw, by simpa using hnc, hcm, by simpa using hcs, ?_⟩⟩
      have h2 : (cur.setIfInBounds k (.int .u8 (q.toNat : Int))).toList = cur.toList.set k (.int .u8 (q.toNat : Int)) := by simp
      rw [h2]
      simp only [Nat.mul_one, List.length_set]
      rw [List.take_set, hct']
      simp [bv, List.map_set]
theorem Row.bs_ {w : World} {B g n cap : Nat} {l : List UInt8} (h : Row w B (.slice (some ⟨g, 0, none⟩) n cap) l) : l.length = n ∧ n ≤ cap ∧ Bs w g (some ⟨g, 0, none⟩) l := by
  rcases h.2 with ⟨hv, _⟩ | ⟨g', cap', cur, hv, hb, _, hnc, hcm, _⟩
  · cases hv
  · injection hv with h1 h2 h3
    injection h1 with h1
    injection h1 with h1 _ _
    subst h1 h2 h3
    refine ⟨rfl, hnc, fun _ => ⟨0, rfl, fun j u hu => ?_⟩⟩
    have := h.cells (g := g) rfl j u hu
    simpa [Addr.add_lit] using this
end Go.Proofs.Ytioahddobogpjaa
/- DeltaForms: the walk. Conditions: the numbers fit, the cells fit. -/
namespace Go.Proofs.Ytioahddobogpjaa
open Go.RowKit
set_option linter.unusedVariables false

section
variable {ops : Array Oper} {S : World → Prop} {op : Oper} {a : Act}
theorem yk_ldE (hw : Region.wanted op (yielded ops a.tmps) = true) (x : Operand) (ho : op.op = .load 44 x) (b t h : Nat) (vp vc : Value) (hx : a.eval x = .pointer (some ⟨b, 0, none⟩)) (hS : ∀ w, S w → BoxE w b t h vp vc) : YieldsIf Try.prog ops S op (.agg #[.int .u32 (t : Int), .int .u32 (h : Int), vp, vc]) a :=
  .inl ⟨hw, fun w hw' => by
    have c0 := (hS w hw').c0
    have c1 := (hS w hw').c1
    have c2 := (hS w hw').c2
    have c3 := (hS w hw').c3
    unfold execOp
    simp only [ho, hx]
    go_simp⟩
end
theorem BSame_yes (A B : Option Addr) (a : List UInt8) (n ca cb ba bb : Nat) (w : World) (ha : Bs w ba A a) (hb : Bs w bb B a) (hn : a.length = n) (h1 : n ≤ 1000) :
    Calls Try.prog 27 #[.slice A n ca, .slice B n cb] w fun e w' => e = .returned (.bool true) ∧ Below w.heap.size w w' :=
  (Same_calls A B a a n n ca cb ba bb w ha hb hn hn (by simp only [maxLen]; omega) (by simp only [maxLen]; omega)).mono fun e w' h => by
    obtain ⟨rfl, k, rfl⟩ := h
    exact ⟨by simp, below_drewN (Below.refl _ _) k⟩
/-- The three texts, as they lie. -/
def TextsAt (w : World) (vb : Nat) : Prop := vb < w.heap.size ∧ ∀ k, k < 3 → ∃ A l n c b, w.cell? ⟨vb, k, none⟩ = some (.slice A n c) ∧ Bs w b A l ∧ l.length = n ∧ n ≤ c ∧ n ≤ 1000
theorem TextsAt.ext {w w' : World} {vb : Nat} (h : TextsAt w vb) (hb : Below w.heap.size w w') : TextsAt w' vb :=
  ⟨Nat.lt_of_lt_of_le h.1 hb.size, fun k hk => by
    obtain ⟨A, l, n, c, b, h1, h2, h3⟩ := h.2 k hk
    exact ⟨A, l, n, c, b, (World.cell?_of_block (hb.block vb h.1)).trans h1, Sl.ext h2 hb, h3⟩⟩
theorem TextsAt.mk3 {w : World} {vb : Nat} {t : TypeId} {A1 A2 A3 : Option Addr} {l1 l2 l3 : List UInt8} {n1 n2 n3 c1 c2 c3 b1 b2 b3 : Nat} (h : w.heap[vb]? = some (.cells #[.slice A1 n1 c1, .slice A2 n2 c2, .slice A3 n3 c3] t (0, 0)))
    (s1 : Bs w b1 A1 l1) (s2 : Bs w b2 A2 l2) (s3 : Bs w b3 A3 l3) (e1 : l1.length = n1 ∧ n1 ≤ c1 ∧ n1 ≤ 1000) (e2 : l2.length = n2 ∧ n2 ≤ c2 ∧ n2 ≤ 1000) (e3 : l3.length = n3 ∧ n3 ≤ c3 ∧ n3 ≤ 1000) : TextsAt w vb := by
  refine ⟨(Array.getElem?_eq_some_iff.1 h).1, fun k hk => ?_⟩
  have h3 : k = 0 ∨ k = 1 ∨ k = 2 := by omega
  rcases h3 with rfl | rfl | rfl
  · exact ⟨A1, l1, n1, c1, b1, by rw [cell_of_row w vb _ _ _ _ h]; rfl, s1, e1⟩
  · exact ⟨A2, l2, n2, c2, b2, by rw [cell_of_row w vb _ _ _ _ h]; rfl, s2, e2⟩
  · exact ⟨A3, l3, n3, c3, b3, by rw [cell_of_row w vb _ _ _ _ h]; rfl, s3, e3⟩
/-- The delta that is looked at, as it lies. -/
structure FD (w : World) (t h : Nat) (A2 : Option Addr) (ps : List UInt8) (np c2 b2 : Nat) (A3 : Option Addr) (cs : List (Int × Nat)) (nc c3 b3 : Nat) (W : World) : Prop where
  q : BoxD W w.heap.size t h (.slice A2 np c2) (.slice A3 nc c3)
  sp : Bs W b2 A2 ps
  sc : Sl W b3 A3 (cv cs)
  bl : Below w.heap.size w W
namespace FD
variable {w W W0 W' : World} {t h np c2 b2 nc c3 b3 gg : Nat} {A2 A3 : Option Addr} {ps : List UInt8} {cs : List (Int × Nat)}
theorem ext (f : FD w t h A2 ps np c2 b2 A3 cs nc c3 b3 W) (x : Below W.heap.size W W') : FD w t h A2 ps np c2 b2 A3 cs nc c3 b3 W' := ⟨f.q.ext x, Sl.ext f.sp x, Sl.ext f.sc x, f.bl.trans (x.mono f.bl.size)⟩
theorem past (f0 : FD w t h A2 ps np c2 b2 A3 cs nc c3 b3 W0) (f : FD w t h A2 ps np c2 b2 A3 cs nc c3 b3 W) (hm : Mod (fun i => i = gg) W W') (hg : W0.heap.size ≤ gg) : FD w t h A2 ps np c2 b2 A3 cs nc c3 b3 W' :=
  have h0 := f0.bl.size
  have h1 := f0.q.lt
  ⟨f.q.mod hm (by omega), Bs.modne f.sp hm (fun hne e => by have := Bs.lt f0.sp hne; omega), sl_modne f.sc hm (fun hne e => by have := Sl.lt f0.sc (by rintro h5; have h6 := congrArg List.length h5; rw [cv_length, List.length_nil] at h6; exact hne (List.eq_nil_of_length_eq_zero (by omega))); omega), f.bl.trans (hm.below (B := w.heap.size) f.bl.size (fun i hi e => by omega))⟩
end FD
set_option maxHeartbeats 32000000 in
set_option maxRecDepth 40000 in
theorem DeltaForms_walk (t h : Nat) (Ap : Option Addr) (ps0 : List UInt8) (cp bp0 : Nat) (Ac : Option Addr) (cs0 : List (Int × Nat)) (cc bc0 : Nat) (Ar : Option Addr) (rw_ : List UInt8) (nr cr br : Nat) (at_ tn : Nat) (w : World) (ht : t < 4294967296) (hh : h < 4294967296) (hpm : ps0.length ≤ maxLen) (hsp0 : Bs w bp0 Ap ps0) (hcm : cs0.length ≤ maxLen) (hcc : cs0.length ≤ cc) (hok0 : okC cs0) (hsc0 : Sl w bc0 Ac (cv cs0)) (hsR : Bs w br Ar rw_) (hRn : rw_.length = nr) (hRm : nr ≤ maxLen) (hat : at_ ≤ 65535) (htn : tn ≤ 255) :
    Calls Try.prog 4 #[.agg (dA t h Ap ps0.length cp Ac cs0.length cc), .slice Ar nr cr, .int .u16 (at_ : Int), .int .u8 (tn : Int)] w fun e w' => e = .returned (.bool true) ∧ Below w.heap.size w w' := by
  obtain ⟨np0, hnp0⟩ : ∃ np0, np0 = ps0.length := ⟨_, rfl⟩
  obtain ⟨nc0, hnc0⟩ : ∃ nc0, nc0 = cs0.length := ⟨_, rfl⟩
  rw [← hnp0] at hpm ⊢
  rw [← hnc0] at hcm hcc ⊢
  have q := BoxD.new_ w t h (.slice Ap np0 cp) (.slice Ac nc0 cc)
  have hb := below_alloc1 w (.cells (dA t h Ap np0 cp Ac nc0 cc) 38)
  replace hsp0 := Sl.ext hsp0 hb
  replace hsc0 := Sl.ext hsc0 hb
  replace hsR := Sl.ext hsR hb
  have hSm := fun W a b => Small_calls t h Ap ps0 np0 cp bp0 Ac cs0 nc0 cc bc0 W a hnp0.symm hpm b hnc0.symm hcc hcm
  have hCu := fun W a => Cut_calls Ar rw_ nr cr br 60 W a hRn hRm (by rw [List.length_take]; exact Nat.le_trans (Nat.min_le_left _ _) (by decide))
  rw [show (60 : Int).toNat = 60 from rfl] at hCu
  obtain ⟨ps, hps⟩ : ∃ d, d = ps0.take 60 := ⟨_, rfl⟩
  obtain ⟨cs, hcs⟩ : ∃ d, d = cs0.take 60 := ⟨_, rfl⟩
  obtain ⟨ra, hra⟩ : ∃ d, d = rw_.take 60 := ⟨_, rfl⟩
  have hpl : ps.length ≤ 60 := by rw [hps, List.length_take]; omega
  have hcl : cs.length ≤ 60 := by rw [hcs, List.length_take]; omega
  have hral : ra.length ≤ 60 := by rw [hra, List.length_take]; omega
  have hok : okC cs := by rw [hcs]; exact okC_take hok0 60
  rw [← hps, ← hcs] at hSm
  rw [← hra] at hCu
  clear hnp0 hnc0 hps hcs hra hok0 hpm hcm hcc hRn hRm
  go_enter Try.func4, Try.ntmps4
  go_wp2_with fail
  refine (Awake_calls _).mono ?_
  rintro e w1 ⟨rfl, h1⟩
  replace q := q.ext h1
  replace hsp0 := Sl.ext hsp0 h1
  replace hsc0 := Sl.ext hsc0 h1
  replace hsR := Sl.ext hsR h1
  replace hb := hb.trans (h1.mono hb.size)
  clear h1
  obtain ⟨k0, k1, k2, k3⟩ := And.intro q.c0 (And.intro q.c1 (And.intro q.c2 q.c3))
  go_wp2_with fail
  refine (hSm _ hsp0 hsc0).mono ?_
  rintro e w2 ⟨vp, vc, rfl, hrp, hrc, h1⟩
  obtain ⟨A2, c2, b2, hve, hc2, -, -, -, hs2, -⟩ := Row.sl hrp
  obtain ⟨np, hnp⟩ : ∃ np, np = ps.length := ⟨_, rfl⟩
  rw [← hnp] at hve hc2
  subst hve
  have HNP := Lib.hid hnp.symm
  clear hnp
  obtain ⟨A3, c3, b3, hve, -, -, -, -, hs3, -⟩ := RowC.sl hrc
  obtain ⟨nc, hnc⟩ : ∃ nc, nc = cs.length := ⟨_, rfl⟩
  rw [← hnc] at hve
  subst hve
  have HNC := Lib.hid hnc.symm
  clear hnc
  have hql := q.lt
  have hs2l : ps ≠ [] → b2 ≠ w.heap.size := fun hne e => by
    have hx := hrp
    obtain ⟨A9, c9, b9, hv9, -, -, -, hb9, hs9, ho9⟩ := Row.sl hx
    obtain ⟨off, e1, -⟩ := Bs.at_ hs2 (k := 0) (List.length_pos_iff.2 hne)
    have h5 := (World.ownsRow.lt hrp b2 (by rw [e1]; rfl)).1
    omega
  have hs3l : cs ≠ [] → b3 ≠ w.heap.size := fun hne e => by
    obtain ⟨off, e1, -⟩ := sl_off hs3 (i := 0) (List.length_pos_iff.2 hne)
    have h5 := (World.ownsRow.lt hrc b3 (by rw [e1]; rfl)).1
    omega
  replace q := q.ext h1
  replace hsR := Sl.ext hsR h1
  replace hb := hb.trans (h1.mono hb.size)
  clear h1 hsp0 hsc0 hSm hrp hrc k0 k1 k2 k3
  go_wp2_with fail
  refine (hCu _ hsR).mono ?_
  rintro e w3 ⟨v, rfl, hrow, h1⟩
  obtain ⟨A4, c4, b4, rfl, hrc4, -, -, hb4, hsR, -⟩ := Row.sl hrow
  have hl3 := q.lt
  have hs4l : ra ≠ [] → b4 ≠ w.heap.size := fun hne e => by omega
  replace q := q.ext h1
  replace hs2 := Sl.ext hs2 h1
  replace hs3 := Sl.ext hs3 h1
  replace hb := hb.trans (h1.mono hb.size)
  clear h1 hrow hCu hl3 hb4
  obtain ⟨k0, k1, k2, k3⟩ := And.intro q.c0 (And.intro q.c1 (And.intro q.c2 q.c3))
  obtain ⟨f0, f1, f2, f3⟩ := And.intro (q.fr 0) (And.intro (q.fr 1) (And.intro (q.fr 2) (q.fr 3)))
  have hq4 := four_setD w3 w.heap.size (.int .u32 (t : Int)) (.int .u32 (h : Int)) (.slice A2 np c2) (.slice A3 nc c3) q
  have hm4 := mod_set4 w3 w.heap.size (.int .u32 (t : Int)) (.int .u32 (h : Int)) (.slice A2 np c2) (.slice A3 nc c3)
  go_upto_region 4 with fail
  obtain ⟨w4, hw4⟩ : ∃ w4, w4 = (((w3.setCell ⟨w.heap.size, 0, none⟩ (.int .u32 (t : Int))).setCell ⟨w.heap.size, 1, none⟩ (.int .u32 (h : Int))).setCell ⟨w.heap.size, 2, none⟩ (.slice A2 np c2)).setCell ⟨w.heap.size, 3, none⟩ (.slice A3 nc c3) := ⟨_, rfl⟩
  rw [← hw4] at hq4 hm4 ⊢
  have f : FD w t h A2 ps np c2 b2 A3 cs nc c3 b3 w4 := ⟨hq4, Bs.modne hs2 hm4 (fun hne e => hs2l hne e), sl_modne hs3 hm4 (fun hne e => hs3l hne e), hb.trans (hm4.below hb.size (fun i hi e => by have e : i = w.heap.size := e; omega))⟩
  replace hsR := Bs.modne hsR hm4 (fun hne e => hs4l hne e)
  clear hw4 hq4 hm4 q hs2 hs3 hb k0 k1 k2 k3 f0 f1 f2 f3 hs2l hs3l hs4l hql
  obtain ⟨z, hz⟩ : ∃ z, z = rightB ps nc := ⟨_, rfl⟩
  obtain ⟨P, hP⟩ : ∃ P, P = if z then dB t h ps cs else [] := ⟨_, rfl⟩
  have hnp := HNP.out.symm
  have hnc := HNC.out.symm
  have hzp : z = true → np = nc ∧ np ≤ 48 ∧ risesB ps = true := fun hz1 => by
    rw [hz1] at hz
    obtain ⟨h1, h2⟩ := rightB_len hz.symm
    have h3 := rises_len h2
    exact ⟨by omega, by omega, h2⟩
  have hPl : P.length = if z then 9 + 9 * np else 0 := by
    rw [hP]
    cases hz2 : z
    · rfl
    · have h1 := hzp hz2
      simp only [if_true]
      rw [dB_len _ _ _ _ (by omega), hnp]
  have hBy : ∀ W, FD w t h A2 ps np c2 b2 A3 cs nc c3 b3 W → Calls Try.prog 20 #[.agg (dA t h A2 np c2 A3 nc c3)] W fun e w' => ∃ v, e = .returned v ∧ Row w' W.heap.size v P ∧ Below W.heap.size W w' := fun W f => by
    rw [hP]
    cases hz2 : z
    · exact (Bytes_no t h A2 ps np c2 b2 A3 nc c3 W f.sp hnp.symm (by rw [← hz]; exact hz2) (by omega)).mono fun e w' h => ⟨_, h.1, Row.nil_ _ _, h.2⟩
    · obtain ⟨h1, h2, h3⟩ := hzp hz2
      subst h1
      exact Bytes_yes t h A2 ps np c2 b2 A3 cs c3 b3 W f.sp hnp.symm f.sc hnc.symm h2 h3 hok ht hh
  have hOw := fun W (f : FD w t h A2 ps np c2 b2 A3 cs nc c3 b3 W) => DOwn_calls t h A2 np c2 A3 cs nc c3 b3 W f.sc hnc.symm (by omega)
  have hRi := fun W (f : FD w t h A2 ps np c2 b2 A3 cs nc c3 b3 W) Ac cc => Right_any t h A2 ps np c2 b2 Ac nc cc W f.sp hnp.symm (by omega)
  rw [← hz] at hRi
  obtain ⟨m, hm⟩ : ∃ m, m = P.length := ⟨_, rfl⟩
  rw [← hm] at hPl
  have hm500 : m ≤ 500 := by
    rw [hPl]
    cases hz2 : z
    · simp
    · have := hzp hz2
      simp only [if_true]
      omega
  have e1 : decide ((m : Int) > 0) = z := by rw [hPl]; cases z <;> simp <;> omega
  have e2 : decide (0 < m) = z := by rw [← e1, Bool.eq_iff_iff]; simp
  have e3 : decide (0 < (m : Int)) = z := by rw [← e1]
  have HP := Lib.hid (And.intro hP (And.intro hm.symm hPl))
  have HZ := Lib.hid hz
  have HZP := Lib.hid hzp
  clear hz hP hPl hzp hm hnp hnc
  obtain ⟨k0, k1, k2, k3⟩ := And.intro f.q.c0 (And.intro f.q.c1 (And.intro f.q.c2 f.q.c3))
  go_wp2_with fail
  refine (hBy _ f).mono ?_
  rintro e w5 ⟨v, rfl, hrow, h1⟩
  obtain ⟨A5, c5, b5, hve, hc5, -, -, -, hsP, -⟩ := Row.sl hrow
  rw [HP.out.2.1] at hve hc5
  subst hve
  replace f := f.ext h1
  replace hsR := Sl.ext hsR h1
  clear h1 hrow k0 k1 k2 k3
  obtain ⟨k0, k1, k2, k3⟩ := And.intro f.q.c0 (And.intro f.q.c1 (And.intro f.q.c2 f.q.c3))
  go_wp2_with fail
  refine (hOw _ f).mono ?_
  rintro e w6 ⟨v, rfl, hrow, h1⟩
  obtain ⟨A6, c6, b6, hve, -⟩ := RowC.sl hrow
  rw [HNC.out] at hve
  subst hve
  replace f := f.ext h1
  replace hsR := Sl.ext hsR h1
  replace hsP := Sl.ext hsP h1
  clear h1 hrow k0 k1 k2 k3
  go_wp2_with fail
  refine (hRi _ f A6 c6).mono ?_
  rintro e w7 ⟨rfl, h1⟩
  replace f := f.ext h1
  replace hsR := Sl.ext hsR h1
  replace hsP := Sl.ext hsP h1
  clear h1 hRi
  have hzz : (z != z) = false := by cases z <;> rfl
  go_upto_region 8 with fail
  clear e1 e2 e3
  have ha := below_alloc1 w7 (.cells #[.slice A4 ra.length c4] 36)
  go_wp2_with fail
  refine (Join_calls _ [.slice A4 ra.length c4] [ra] 1 1 w7.heap.size _ (Sl.cells_new w7 _ _) ((Bss.cons hsR rfl (Bss.nil_ _)).ext ha) rfl (by simp [maxLen]) (by simp; omega)).mono ?_
  rintro e w8 ⟨v, rfl, hrow, h1⟩
  replace hrow := hrow.cast (show [ra].flatten = ra by simp)
  obtain ⟨A8, c8, b8, rfl, hc8, -, -, -, hs8, -⟩ := Row.sl hrow
  replace h1 := ha.trans (h1.mono ha.size)
  replace f := f.ext h1
  replace hsR := Sl.ext hsR h1
  replace hsP := Sl.ext hsP h1
  clear h1 ha hrow
  go_upto_if 39 with fail
  go_cut [11] (fun s11 wx => ∃ (wz : World) (T : List UInt8) (A9 : Option Addr) (n9 c9 b9 : Nat), wz = wx ∧ s11 = .slice A9 n9 c9 ∧ T.length = n9 ∧ FD w t h A2 ps np c2 b2 A3 cs nc c3 b3 wz ∧ Bs wz b4 A4 ra ∧ Bs wz b5 A5 P ∧ Bs wz b9 A9 T ∧ n9 ≤ c9 ∧ n9 ≤ 600)
  case first =>
    cases z with
    | false =>
      go_wp2_with fail
      go_meet
      exact ⟨_, ra, A8, _, c8, b8, rfl, rfl, rfl, f, hsR, hsP, hs8, hc8, by omega⟩
    | true =>
      obtain ⟨hnn, hn48, hrs⟩ := HZP.out rfl
      have hPd : P = dB t h ps cs := HP.out.1
      have hPm := HP.out.2.1
      have hm9 : 9 ≤ m := by have := HP.out.2.2; simp only [if_true] at this; omega
      have hlen := HNP.out
      have hlenc := HNC.out
      subst hnn
      have hgo := gotD_own ht hh (ps := ps) (cs := cs) (by omega) hok (by omega)
      have hPa := fun W A c b a => Parse_any A P m c b W a hPm (by omega) t h ps cs 0 (by rw [hPd, hgo]; simp [PD.ok, hrs])
      have hRB := fun W A c b a b' => RDBytes_yes t h A2 ps np c2 b2 A cs c b W a hlen b' hlenc hn48 hc2 hok ht hh
      rw [← hPd] at hRB
      clear hPd hgo hs8 hc8 hBy
      go_wp2_with fail
      refine (hPa _ A5 c5 b5 hsP).mono ?_
      rintro e w9 ⟨vp, vc, rfl, hrp, hrc, h1⟩
      obtain ⟨A10, c10, b10, hve, -, -, -, -, hs10, -⟩ := Row.sl hrp
      rw [hlen] at hve
      subst hve
      obtain ⟨A11, c11, b11, hve, -, -, -, -, hs11, -⟩ := RowC.sl hrc
      rw [hlenc] at hve
      subst hve
      replace f := f.ext h1
      replace hsR := Sl.ext hsR h1
      replace hsP := Sl.ext hsP h1
      clear h1 hrp hrc hPa
      have q12 := BoxD.new_ w9 t h (.slice A10 np c10) (.slice A11 np c11)
      have h1 := below_alloc1 w9 (.cells #[.int .u32 (t : Int), .int .u32 (h : Int), .slice A10 np c10, .slice A11 np c11] 38)
      replace f := f.ext h1
      replace hsR := Sl.ext hsR h1
      replace hsP := Sl.ext hsP h1
      replace hs10 := Sl.ext hs10 h1
      replace hs11 := Sl.ext hs11 h1
      clear h1
      obtain ⟨k0, k1, k2, k3⟩ := And.intro f.q.c0 (And.intro f.q.c1 (And.intro f.q.c2 f.q.c3))
      have HLN := Lib.hid (And.intro hlen hlenc)
      have HPM := Lib.hid hPm
      clear hlen hlenc hPm
      go_wp2_with fail
      refine (hOw _ f).mono ?_
      rintro e w10 ⟨v, rfl, hrow, h1⟩
      obtain ⟨A12, c12, b12, hve, -, -, -, -, hs12, -⟩ := RowC.sl hrow
      rw [HNC.out] at hve
      subst hve
      replace f := f.ext h1
      replace hsR := Sl.ext hsR h1
      replace hsP := Sl.ext hsP h1
      replace hs10 := Sl.ext hs10 h1
      replace hs11 := Sl.ext hs11 h1
      replace q12 := q12.ext h1
      clear h1 hrow k0 k1 k2 k3
      go_wp2_with fail
      refine (hRB _ A12 c12 b12 f.sp hs12).mono ?_
      rintro e w11 ⟨v, rfl, hrow, h1⟩
      obtain ⟨A13, c13, b13, hve, -, -, -, -, hs13, -⟩ := Row.sl hrow
      rw [HPM.out] at hve
      subst hve
      replace f := f.ext h1
      replace hsR := Sl.ext hsR h1
      replace hsP := Sl.ext hsP h1
      replace hs10 := Sl.ext hs10 h1
      replace hs11 := Sl.ext hs11 h1
      replace q12 := q12.ext h1
      clear h1 hrow hs12 hRB
      have hSm := fun W a b => BSame_yes A5 A13 P m c5 c13 b5 b13 W a b HPM.out (by omega)
      go_wp2_with fail
      refine (hSm _ hsP hs13).mono ?_
      rintro e w12 ⟨rfl, h1⟩
      replace f := f.ext h1
      replace hsR := Sl.ext hsR h1
      replace hsP := Sl.ext hsP h1
      replace hs10 := Sl.ext hs10 h1
      replace hs11 := Sl.ext hs11 h1
      replace q12 := q12.ext h1
      clear h1 hs13 hSm
      obtain ⟨k0, k1, k2, k3⟩ := And.intro f.q.c0 (And.intro f.q.c1 (And.intro f.q.c2 f.q.c3))
      obtain ⟨j0, j1, j2, j3⟩ := And.intro q12.c0 (And.intro q12.c1 (And.intro q12.c2 q12.c3))
      have hDS := fun W a1 a2 a3 a4 => DSame_yes t h A10 ps np c10 b10 A11 cs np c11 b11 A2 c2 b2 A3 c3 b3 W a1 a2 a3 a4 HLN.out.1 HLN.out.2 (by omega) (by omega)
      go_wp2_with fail
      refine (hDS _ hs10 f.sp hs11 f.sc).mono ?_
      rintro e w13 ⟨rfl, h1⟩
      replace f := f.ext h1
      replace hsR := Sl.ext hsR h1
      replace hsP := Sl.ext hsP h1
      clear h1 hs10 hs11 q12 hDS k0 k1 k2 k3 j0 j1 j2 j3
      have ha := below_alloc1 w13 (.cells #[.slice A5 m c5] 36)
      go_wp2_with fail
      refine (Join_calls _ [.slice A5 m c5] [P] 1 1 w13.heap.size _ (Sl.cells_new w13 _ _) ((Bss.cons hsP HPM.out (Bss.nil_ _)).ext ha) rfl (by simp [maxLen]) (by have := HPM.out; simp; omega)).mono ?_
      rintro e w14 ⟨v, rfl, hrow, h1⟩
      have hwl : w13.heap.size ≤ (w13.alloc (.cells #[.slice A5 m c5] 36)).heap.size := by simp
      replace hrow := (owns_low hrow hwl)
      replace hrow := Row.cast hrow (show [P].flatten = P by simp)
      replace h1 := ha.trans (h1.mono ha.size)
      have F0 := f
      have hsR0 := hsR
      have hsP0 := hsP
      replace f := f.ext h1
      replace hsR := Sl.ext hsR h1
      replace hsP := Sl.ext hsP h1
      obtain ⟨I, hI⟩ : ∃ I, I = at_ % m := ⟨_, rfl⟩
      have hPm := HPM.out
      have hIl : I < P.length := by rw [hI, hPm]; exact Nat.mod_lt _ (by omega)
      have hIt : (at_ : Int).tmod (m : Int) = (I : Int) := by rw [hI, Int.tmod_eq_emod_of_nonneg (Int.natCast_nonneg _)]; simp
      have hIt2 : (at_ : Int) % (m : Int) = (I : Int) := by rw [hI]; simp
      have hIm : I < m := by rw [← hPm]; exact hIl
      obtain ⟨gg, cap, hv, hBg, hgl, hc, hf, hset⟩ := Row.set_ hrow (k := I) hIl
      rw [hPm] at hv
      subst hv
      have hnc0 : m ≤ cap := (Row.bs_ hrow).2.1
      obtain ⟨x, hx⟩ : ∃ x, x = P[I] := ⟨_, rfl⟩
      rw [← hx] at hc
      have x8 := x.toNat_lt
      have hxo : bits .xor .u8 (x.toNat : Int) (tn : Int) = ((x.toNat ^^^ tn : Nat) : Int) := u8_xor_nat x.toNat tn (by omega) (by omega)
      have HSet := Lib.hid hset
      have HG := Lib.hid hBg
      clear hset hrow hx hI h1 ha hBg hgl hwl hPm
      go_wp2_with fail
      obtain ⟨W, hW⟩ : ∃ W, W = w14.setCell ⟨gg, I, none⟩ (.int .u8 ((x.toNat ^^^ tn : Nat) : Int)) := ⟨_, rfl⟩
      rw [← hW]
      obtain ⟨u, hu8⟩ : ∃ u : UInt8, u.toNat = tn := ⟨UInt8.ofNat tn, by simp; omega⟩
      have hrow9 : Row W w13.heap.size (.slice (some ⟨gg, 0, none⟩) m cap) (P.set I (x ^^^ u)) := HSet.out (x ^^^ u) (x.toNat ^^^ tn) W (by rw [UInt8.toNat_xor, hu8]) (by rw [hW])
      obtain ⟨hl9, hnc9, hs9⟩ := Row.bs_ hrow9
      have hsm := Mod.setCell w14 ⟨gg, I, none⟩ (.int .u8 ((x.toNat ^^^ tn : Nat) : Int))
      rw [← hW] at hsm
      have hBg := HG.out
      replace f := FD.past F0 f hsm hBg
      replace hsR := Bs.modne hsR hsm (fun hne e => by have e : b4 = gg := e; have := Bs.lt hsR0 hne; omega)
      replace hsP := Bs.modne hsP hsm (fun hne e => by have e : b5 = gg := e; have := Bs.lt hsP0 hne; omega)
      clear hW hrow9 hsm hc hf hxo hu8
      go_meet
      exact ⟨W, _, _, m, cap, gg, rfl, rfl, hl9, f, hsR, hsP, hs9, hnc9, by omega⟩
  case rest =>
    clear f hsR hsP hs8 hc8 hBy hOw HZP
    obtain ⟨w9, T, A9, n9, c9, b9, rfl, rfl, hT9, f, hsR, hsP, hsT, hTc, hTl⟩ := hcut
    have HT9 := Lib.hid hT9
    clear hT9
    have ha := below_alloc1 w9 (.cells #[.slice A5 m c5, .slice A4 ra.length c4] 36)
    go_wp2_with fail
    refine (Join_calls _ [.slice A5 m c5, .slice A4 ra.length c4] [P, ra] 2 2 w9.heap.size _ (Sl.cells_new w9 _ _) ((Bss.cons hsP HP.out.2.1 (Bss.cons hsR rfl (Bss.nil_ _))).ext ha) rfl (by simp [maxLen]) (by simp; have := HP.out.2.1; omega)).mono ?_
    rintro e w10 ⟨v, rfl, hrow, h1⟩
    obtain ⟨J, hJ⟩ : ∃ J, J = P ++ ra := ⟨_, rfl⟩
    replace hrow := Row.cast hrow (show [P, ra].flatten = J by simp [hJ])
    have hJl : J.length ≤ 600 := by rw [hJ, List.length_append]; have := HP.out.2.1; omega
    obtain ⟨A10, c10, b10, rfl, hJc, -, -, -, hsJ, -⟩ := Row.sl hrow
    replace h1 := ha.trans (h1.mono ha.size)
    have hb := f.bl
    replace hb := hb.trans (h1.mono hb.size)
    replace hsR := Sl.ext hsR h1
    replace hsT := Sl.ext hsT h1
    clear h1 ha hrow hJ hsP f
    obtain ⟨nj, hnj⟩ : ∃ nj, nj = J.length := ⟨_, rfl⟩
    obtain ⟨nr2, hnr2⟩ : ∃ nr2, nr2 = ra.length := ⟨_, rfl⟩
    have hq3 := heap_alloc_new w10 (.cells #[.slice A9 n9 c9, .slice A4 ra.length c4, .slice A10 J.length c10] 36)
    have h1 := below_alloc1 w10 (.cells #[.slice A9 n9 c9, .slice A4 ra.length c4, .slice A10 J.length c10] 36)
    have hx := TextsAt.mk3 hq3 (Sl.ext hsT h1) (Sl.ext hsR h1) (Sl.ext hsJ h1) ⟨HT9.out, hTc, by omega⟩ ⟨rfl, hrc4, by omega⟩ ⟨rfl, hJc, by omega⟩
    replace hb := hb.trans (h1.mono hb.size)
    clear h1 hq3 hsT hsR hsJ hnj hnr2

    go_wp2_with fail
    go_loopw [83] (fun i wr => ∃ k : Nat, k ≤ 3 ∧ i = .int .i64 (k : Int) ∧ TextsAt wr w10.heap.size ∧ Below w.heap.size w wr) (fun i _ => 3 - (intOf i).toNat)
    case atStart => exact ⟨0, by omega, rfl, hx, hb⟩
    case round =>
      clear hx hb
      obtain ⟨k, hk, rfl, hx, hb⟩ := hrel
      by_cases hlt : k < 3
      · obtain ⟨A, l, n, c, b, hcell, hs, hln, hnc, hn1000⟩ := hx.2 k hlt
        have ej : (k : Int) < 3 := by omega
        have hPc := fun W a => Parse_r A l n c b W a hln (by omega)
        have hRc := fun W a => RParse_r A l n c b W a hln hnc
        obtain ⟨hl1, hl2⟩ := rP_len l
        obtain ⟨G, hG⟩ : ∃ G, G = (gotD l).ok := ⟨_, rfl⟩
        have hE : rE l = if G then 0 else 2 := by rw [hG]; rfl
        rw [← hG] at hRc
        obtain ⟨tt, htt⟩ : ∃ x, x = rT l := ⟨_, rfl⟩
        obtain ⟨hv, hhv⟩ : ∃ x, x = rH l := ⟨_, rfl⟩
        obtain ⟨Q, hQ⟩ : ∃ x, x = rP l := ⟨_, rfl⟩
        obtain ⟨D, hD⟩ : ∃ x, x = rC l := ⟨_, rfl⟩
        obtain ⟨EE, hEE⟩ : ∃ x, x = rE l := ⟨_, rfl⟩
        rw [← htt, ← hhv, ← hQ, ← hD, ← hEE] at hPc
        rw [← htt, ← hhv, ← hQ, ← hD] at hRc
        rw [← hQ] at hl1
        rw [← hQ, ← hD] at hl2
        rw [← hEE] at hE
        obtain ⟨N, hN⟩ : ∃ N, N = Q.length := ⟨_, rfl⟩
        rw [← hN] at hl1 hl2
        have HQN := Lib.hid hN.symm
        have HDN := Lib.hid hl2
        have HE := Lib.hid hE
        clear hG htt hhv hQ hD hEE hN hl2 hln hE
        go_wp2_with fail
        refine (hPc _ hs).mono ?_
        rintro e w11 ⟨vp, vc, rfl, hrp, hrc, h1⟩
        obtain ⟨Ax, cx, bx, hve, -, -, -, -, hsx, -⟩ := Row.sl hrp
        rw [HQN.out] at hve
        subst hve
        obtain ⟨Ay, cy, by_, hve, -, -, -, -, hsy, -⟩ := RowC.sl hrc
        rw [HDN.out] at hve
        subst hve
        replace hx := hx.ext h1
        replace hs := Sl.ext hs h1
        replace hb := hb.trans (h1.mono hb.size)
        clear h1 hrp hrc hPc hcell
        have qx := BoxD.new_ w11 tt hv (.slice Ax N cx) (.slice Ay N cy)
        have h1 := below_alloc1 w11 (.cells #[.int .u32 (tt : Int), .int .u32 (hv : Int), .slice Ax N cx, .slice Ay N cy] 38)
        replace hx := hx.ext h1
        replace hs := Sl.ext hs h1
        replace hb := hb.trans (h1.mono hb.size)
        replace hsx := Sl.ext hsx h1
        replace hsy := Sl.ext hsy h1
        clear h1
        obtain ⟨X, hX⟩ : ∃ X, X = w11.heap.size := ⟨_, rfl⟩
        go_wp2_with fail
        refine (hRc _ hs).mono ?_
        rintro e w12 ⟨vp, vc, rfl, hrp, hrc, h1⟩
        obtain ⟨Au, cu, bu, hve, -, -, -, -, hsu, -⟩ := Row.sl hrp
        rw [HQN.out] at hve
        subst hve
        obtain ⟨Av, cv_, bv_, hve, -, -, -, -, hsv, -⟩ := RowC.sl hrc
        rw [HDN.out] at hve
        subst hve
        replace hx := hx.ext h1
        replace hb := hb.trans (h1.mono hb.size)
        replace hsx := Sl.ext hsx h1
        replace hsy := Sl.ext hsy h1
        replace qx := qx.ext h1
        clear h1 hrp hrc hRc hs
        have qy := BoxE.new_ w12 tt hv (.slice Au N cu) (.slice Av N cv_)
        have h1 := below_alloc1 w12 (.cells #[.int .u32 (tt : Int), .int .u32 (hv : Int), .slice Au N cu, .slice Av N cv_] 44)
        replace hx := hx.ext h1
        replace hb := hb.trans (h1.mono hb.size)
        replace hsx := Sl.ext hsx h1
        replace hsy := Sl.ext hsy h1
        replace hsu := Sl.ext hsu h1
        replace hsv := Sl.ext hsv h1
        replace qx := qx.ext h1
        clear h1
        rw [← hX] at qx
        have hDO := fun W a => DOwn_calls tt hv Ax N cx Ay D N cy by_ W a HDN.out (by omega)
        have hDS := fun A6 c6 b6 W a1 a2 a3 a4 => RDSame_yes tt hv Ax Q N cx bx A6 D N c6 b6 Au cu bu Av cv_ bv_ W a1 a2 a3 a4 HQN.out HDN.out (by omega) (by omega)
        cases G with
        | true =>
          obtain rfl : EE = 0 := HE.out
          go_upto_region 20 with fail
          rw [← hX]
          clear hX
          obtain ⟨Y, hY⟩ : ∃ Y, Y = w12.heap.size := ⟨_, rfl⟩
          obtain ⟨wz, hwz⟩ : ∃ wz, wz = w12.alloc (.cells #[.int .u32 (tt : Int), .int .u32 (hv : Int), .slice Au N cu, .slice Av N cv_] 44) := ⟨_, rfl⟩
          rw [← hwz] at hx hb hsx hsy hsu hsv qx qy ⊢
          rw [← hY] at qy ⊢
          clear hY hwz
          go_wp2_with fail
          refine wp_region_E (fun j => false) (fun w9 => BoxD w9 X tt hv (.slice Ax N cx) (.slice Ay N cy) ∧ BoxE w9 Y tt hv (.slice Au N cu) (.slice Av N cv_)) (by kernel_rfl) ?_ (fun hHeld => ?_)
          · exact (by first | exact ⟨qx, qy⟩ | exact ⟨qx.ext (below_drew (Below.refl _ _)), qy.ext (below_drew (Below.refl _ _))⟩)
          obtain ⟨wd1', hwd⟩ : ∃ wd1', wd1' = World.drew wz := ⟨_, rfl⟩
          have h9 : Below wz.heap.size wz wd1' := by rw [hwd]; exact below_drew (Below.refl _ _)
          rw [← hwd] at hHeld ⊢
          clear hwd
          replace hx := hx.ext h9
          replace hb := hb.trans (h9.mono hb.size)
          replace hsx := Sl.ext hsx h9
          replace hsy := Sl.ext hsy h9
          replace hsu := Sl.ext hsu h9
          replace hsv := Sl.ext hsv h9
          replace qx := qx.ext h9
          replace qy := qy.ext h9
          clear h9
          refine wpAnyE_take (i := 0) (by simp only [List.getElem?_toArray]; rfl) (by kernel_rfl) (by kernel_rfl) (by kernel_rfl) (by kernel_rfl) (by kernel_rfl) (by exact fun _ _ _ h => h) (by exact yk (.int .i64 0) (by kernel_rfl) (fun _ => by kernel_rfl)) hHeld ?_
          refine wpAnyE_take (i := 1) (by simp only [List.getElem?_toArray]; rfl) (by kernel_rfl) (by kernel_rfl) (by kernel_rfl) (by kernel_rfl) (by kernel_rfl) (by exact fun _ _ _ h => h) (by exact yk (.bool true) (by kernel_rfl) (fun _ => by kernel_rfl)) hHeld ?_
          refine wpAnyE_take (i := 2) (by simp only [List.getElem?_toArray]; rfl) (by kernel_rfl) (by kernel_rfl) (by kernel_rfl) (by kernel_rfl) (by kernel_rfl) (by exact fun _ _ _ h => h) (by exact yk (.bool true) (by kernel_rfl) (fun _ => by kernel_rfl)) hHeld ?_
          refine wpAnyE_take (i := 3) (by simp only [List.getElem?_toArray]; rfl) (by kernel_rfl) (by kernel_rfl) (by kernel_rfl) (by kernel_rfl) (by kernel_rfl) (by exact fun _ _ _ h => h) (by exact yk (.bool false) (by kernel_rfl) (fun _ => by kernel_rfl)) hHeld ?_
          refine wpAnyE_take (i := 4) (by simp only [List.getElem?_toArray]; rfl) (by kernel_rfl) (by kernel_rfl) (by kernel_rfl) (by kernel_rfl) (by kernel_rfl) (by exact fun _ _ _ h => h) (by exact yk (.bool false) (by kernel_rfl) (fun _ => by kernel_rfl)) hHeld ?_
          refine wpAnyE_take (i := 5) (by simp only [List.getElem?_toArray]; rfl) (by kernel_rfl) (by kernel_rfl) (by kernel_rfl) (by kernel_rfl) (by kernel_rfl) (by exact fun _ _ _ h => h) (by exact yk (.bool true) (by kernel_rfl) (fun _ => by kernel_rfl)) hHeld ?_
          refine wpAnyE_take (i := 6) (by simp only [List.getElem?_toArray]; rfl) (by kernel_rfl) (by kernel_rfl) (by kernel_rfl) (by kernel_rfl) (by kernel_rfl) (by exact fun _ _ _ h => h) (by exact yk (.bool false) (by kernel_rfl) (fun _ => by kernel_rfl)) hHeld ?_
          refine wpAnyE_take (i := 7) (by simp only [List.getElem?_toArray]; rfl) (by kernel_rfl) (by kernel_rfl) (by kernel_rfl) (by kernel_rfl) (by kernel_rfl) (by exact fun _ _ _ h => h) (by exact yk (.bool false) (by kernel_rfl) (fun _ => by kernel_rfl)) hHeld ?_
          refine wpAnyE_take (i := 8) (by simp only [List.getElem?_toArray]; rfl) (by kernel_rfl) (by kernel_rfl) (by kernel_rfl) (by kernel_rfl) (by kernel_rfl) (by exact fun _ _ _ h => h) (by exact yk_no (by kernel_rfl)) hHeld ?_
          refine wpAnyE_take (i := 9) (by simp only [List.getElem?_toArray]; rfl) (by kernel_rfl) (by kernel_rfl) (by kernel_rfl) (by kernel_rfl) (by kernel_rfl) (by exact fun _ _ _ h => h) (by exact yk_no (by kernel_rfl)) hHeld ?_
          refine wpAnyE_take (i := 10) (by simp only [List.getElem?_toArray]; rfl) (by kernel_rfl) (by kernel_rfl) (by kernel_rfl) (by kernel_rfl) (by kernel_rfl) (by exact fun _ _ _ h => h) (by exact yk (.bool false) (by kernel_rfl) (fun _ => by kernel_rfl)) hHeld ?_
          refine wpAnyE_take (i := 11) (by simp only [List.getElem?_toArray]; rfl) (by kernel_rfl) (by kernel_rfl) (by kernel_rfl) (by kernel_rfl) (by kernel_rfl) (by exact fun _ _ _ h => h) (by exact yk (.bool false) (by kernel_rfl) (fun _ => by kernel_rfl)) hHeld ?_
          refine wpAnyE_take (i := 12) (by simp only [List.getElem?_toArray]; rfl) (by kernel_rfl) (by kernel_rfl) (by kernel_rfl) (by kernel_rfl) (by kernel_rfl) (by exact fun _ _ _ h => h) (by exact yk (.bool false) (by kernel_rfl) (fun _ => by kernel_rfl)) hHeld ?_
          refine wpAnyE_take (i := 13) (by simp only [List.getElem?_toArray]; rfl) (by kernel_rfl) (by kernel_rfl) (by kernel_rfl) (by kernel_rfl) (by kernel_rfl) (by exact fun _ _ _ h => h) (by exact yk_ldDl (by kernel_rfl) (.tmp 16) rfl X tt hv _ _ (by kernel_rfl) (fun w hh => hh.1)) hHeld ?_
          refine wpAnyE_take (i := 15) (by simp only [List.getElem?_toArray]; rfl) (by kernel_rfl) (by kernel_rfl) (by kernel_rfl) (by kernel_rfl) (by kernel_rfl) (by exact fun _ _ _ h => h) (by exact yk_ldE (by kernel_rfl) (.tmp 18) rfl Y tt hv _ _ (by kernel_rfl) (fun w hh => hh.2)) hHeld ?_
          try simp only [Act.put, List.setIfInBounds_toArray, List.set_cons_zero, List.set_cons_succ]
          refine wpAnyE_ready (rs := [14]) (by kernel_rfl) (by simp) ?_
          refine EachE.cons (by rfl) (by simp only [List.getElem?_toArray]; rfl) (fun KK hKK => ?_) EachE.nil
          rw [if_pos (by kernel_rfl)]
          refine wp_callF 14 #[.agg (dA tt hv Ax N cx Ay N cy)] (by kernel_rfl) ?_
          refine (hDO _ hsy).mono ?_
          rintro e w2' ⟨v6, rfl, hrow, h9⟩
          obtain ⟨A6, c6, b6, hve, -, -, -, -, hs6, -⟩ := RowC.sl hrow
          rw [HDN.out] at hve
          subst hve
          refine ⟨_, rfl, ?_⟩
          replace hx := hx.ext h9
          replace hb := hb.trans (h9.mono hb.size)
          replace hsx := Sl.ext hsx h9
          replace hsy := Sl.ext hsy h9
          replace hsu := Sl.ext hsu h9
          replace hsv := Sl.ext hsv h9
          replace qx := qx.ext h9
          replace qy := qy.ext h9
          clear h9 hrow
          refine hKK.out _ _ ?_ (fun hHeld => ?_)
          · exact (by first | exact ⟨qx, qy⟩ | exact ⟨qx.ext (below_drew (Below.refl _ _)), qy.ext (below_drew (Below.refl _ _))⟩)
          clear hKK KK
          try simp only [Act.put, List.setIfInBounds_toArray, List.set_cons_zero, List.set_cons_succ]
          refine wpAnyE_ready (rs := [16]) (by kernel_rfl) (by simp) ?_
          refine EachE.cons (by rfl) (by simp only [List.getElem?_toArray]; rfl) (fun KK hKK => ?_) EachE.nil
          rw [if_pos (by kernel_rfl)]
          refine wp_callF 13 #[.agg #[.int .u32 (tt : Int), .int .u32 (hv : Int), .slice Ax N cx, .slice A6 N c6], .agg #[.int .u32 (tt : Int), .int .u32 (hv : Int), .slice Au N cu, .slice Av N cv_]] (by kernel_rfl) ?_
          refine (hDS A6 c6 b6 _ hsx hsu hs6 hsv).mono ?_
          rintro e w3' ⟨rfl, h9⟩
          refine ⟨_, rfl, ?_⟩
          replace hx := hx.ext h9
          replace hb := hb.trans (h9.mono hb.size)
          replace hsx := Sl.ext hsx h9
          replace hsy := Sl.ext hsy h9
          replace hsu := Sl.ext hsu h9
          replace hsv := Sl.ext hsv h9
          replace qx := qx.ext h9
          replace qy := qy.ext h9
          clear h9 hs6
          refine hKK.out _ _ ?_ (fun hHeld => ?_)
          · exact (by first | exact ⟨qx, qy⟩ | exact ⟨qx.ext (below_drew (Below.refl _ _)), qy.ext (below_drew (Below.refl _ _))⟩)
          clear hKK KK
          refine wpAnyE_take (i := 17) (by simp only [List.getElem?_toArray]; rfl) (by kernel_rfl) (by kernel_rfl) (by kernel_rfl) (by kernel_rfl) (by kernel_rfl) (by exact fun _ _ _ h => h) (by exact yk (.bool false) (by kernel_rfl) (fun _ => by kernel_rfl)) hHeld ?_
          refine wpAnyE_take (i := 18) (by simp only [List.getElem?_toArray]; rfl) (by kernel_rfl) (by kernel_rfl) (by kernel_rfl) (by kernel_rfl) (by kernel_rfl) (by exact fun _ _ _ h => h) (by exact yk (.bool false) (by kernel_rfl) (fun _ => by kernel_rfl)) hHeld ?_
          refine wpAnyE_done (by kernel_rfl) ?_ _
          go_wp2_with fail
          go_roundw
          case rel => exact ⟨k + 1, by omega, by go_num, hx, hb⟩
          case measure => simp [intOf]; omega
        | false =>
          obtain rfl : EE = 2 := HE.out
          go_upto_region 20 with fail
          rw [← hX]
          clear hX
          obtain ⟨Y, hY⟩ : ∃ Y, Y = w12.heap.size := ⟨_, rfl⟩
          obtain ⟨wz, hwz⟩ : ∃ wz, wz = w12.alloc (.cells #[.int .u32 (tt : Int), .int .u32 (hv : Int), .slice Au N cu, .slice Av N cv_] 44) := ⟨_, rfl⟩
          rw [← hwz] at hx hb hsx hsy hsu hsv qx qy ⊢
          rw [← hY] at qy ⊢
          clear hY hwz
          go_wp2_with fail
          refine wp_region_E (fun j => false) (fun w9 => BoxD w9 X tt hv (.slice Ax N cx) (.slice Ay N cy) ∧ BoxE w9 Y tt hv (.slice Au N cu) (.slice Av N cv_)) (by kernel_rfl) ?_ (fun hHeld => ?_)
          · exact (by first | exact ⟨qx, qy⟩ | exact ⟨qx.ext (below_drew (Below.refl _ _)), qy.ext (below_drew (Below.refl _ _))⟩)
          obtain ⟨wd4', hwd⟩ : ∃ wd4', wd4' = World.drew wz := ⟨_, rfl⟩
          have h9 : Below wz.heap.size wz wd4' := by rw [hwd]; exact below_drew (Below.refl _ _)
          rw [← hwd] at hHeld ⊢
          clear hwd
          replace hx := hx.ext h9
          replace hb := hb.trans (h9.mono hb.size)
          replace hsx := Sl.ext hsx h9
          replace hsy := Sl.ext hsy h9
          replace hsu := Sl.ext hsu h9
          replace hsv := Sl.ext hsv h9
          replace qx := qx.ext h9
          replace qy := qy.ext h9
          clear h9
          refine wpAnyE_take (i := 0) (by simp only [List.getElem?_toArray]; rfl) (by kernel_rfl) (by kernel_rfl) (by kernel_rfl) (by kernel_rfl) (by kernel_rfl) (by exact fun _ _ _ h => h) (by exact yk (.int .i64 2) (by kernel_rfl) (fun _ => by kernel_rfl)) hHeld ?_
          refine wpAnyE_take (i := 1) (by simp only [List.getElem?_toArray]; rfl) (by kernel_rfl) (by kernel_rfl) (by kernel_rfl) (by kernel_rfl) (by kernel_rfl) (by exact fun _ _ _ h => h) (by exact yk (.bool false) (by kernel_rfl) (fun _ => by kernel_rfl)) hHeld ?_
          refine wpAnyE_take (i := 2) (by simp only [List.getElem?_toArray]; rfl) (by kernel_rfl) (by kernel_rfl) (by kernel_rfl) (by kernel_rfl) (by kernel_rfl) (by exact fun _ _ _ h => h) (by exact yk (.bool false) (by kernel_rfl) (fun _ => by kernel_rfl)) hHeld ?_
          refine wpAnyE_take (i := 3) (by simp only [List.getElem?_toArray]; rfl) (by kernel_rfl) (by kernel_rfl) (by kernel_rfl) (by kernel_rfl) (by kernel_rfl) (by exact fun _ _ _ h => h) (by exact yk (.bool false) (by kernel_rfl) (fun _ => by kernel_rfl)) hHeld ?_
          refine wpAnyE_take (i := 4) (by simp only [List.getElem?_toArray]; rfl) (by kernel_rfl) (by kernel_rfl) (by kernel_rfl) (by kernel_rfl) (by kernel_rfl) (by exact fun _ _ _ h => h) (by exact yk (.bool false) (by kernel_rfl) (fun _ => by kernel_rfl)) hHeld ?_
          refine wpAnyE_take (i := 5) (by simp only [List.getElem?_toArray]; rfl) (by kernel_rfl) (by kernel_rfl) (by kernel_rfl) (by kernel_rfl) (by kernel_rfl) (by exact fun _ _ _ h => h) (by exact yk (.bool false) (by kernel_rfl) (fun _ => by kernel_rfl)) hHeld ?_
          refine wpAnyE_take (i := 6) (by simp only [List.getElem?_toArray]; rfl) (by kernel_rfl) (by kernel_rfl) (by kernel_rfl) (by kernel_rfl) (by kernel_rfl) (by exact fun _ _ _ h => h) (by exact yk (.bool true) (by kernel_rfl) (fun _ => by kernel_rfl)) hHeld ?_
          refine wpAnyE_take (i := 7) (by simp only [List.getElem?_toArray]; rfl) (by kernel_rfl) (by kernel_rfl) (by kernel_rfl) (by kernel_rfl) (by kernel_rfl) (by exact fun _ _ _ h => h) (by exact yk (.bool true) (by kernel_rfl) (fun _ => by kernel_rfl)) hHeld ?_
          refine wpAnyE_take (i := 8) (by simp only [List.getElem?_toArray]; rfl) (by kernel_rfl) (by kernel_rfl) (by kernel_rfl) (by kernel_rfl) (by kernel_rfl) (by exact fun _ _ _ h => h) (by exact yk (.int .i64 2) (by kernel_rfl) (fun _ => by kernel_rfl)) hHeld ?_
          refine wpAnyE_take (i := 9) (by simp only [List.getElem?_toArray]; rfl) (by kernel_rfl) (by kernel_rfl) (by kernel_rfl) (by kernel_rfl) (by kernel_rfl) (by exact fun _ _ _ h => h) (by exact yk (.bool false) (by kernel_rfl) (fun _ => by kernel_rfl)) hHeld ?_
          refine wpAnyE_take (i := 10) (by simp only [List.getElem?_toArray]; rfl) (by kernel_rfl) (by kernel_rfl) (by kernel_rfl) (by kernel_rfl) (by kernel_rfl) (by exact fun _ _ _ h => h) (by exact yk (.bool false) (by kernel_rfl) (fun _ => by kernel_rfl)) hHeld ?_
          refine wpAnyE_take (i := 11) (by simp only [List.getElem?_toArray]; rfl) (by kernel_rfl) (by kernel_rfl) (by kernel_rfl) (by kernel_rfl) (by kernel_rfl) (by exact fun _ _ _ h => h) (by exact yk (.bool false) (by kernel_rfl) (fun _ => by kernel_rfl)) hHeld ?_
          refine wpAnyE_take (i := 12) (by simp only [List.getElem?_toArray]; rfl) (by kernel_rfl) (by kernel_rfl) (by kernel_rfl) (by kernel_rfl) (by kernel_rfl) (by exact fun _ _ _ h => h) (by exact yk (.bool false) (by kernel_rfl) (fun _ => by kernel_rfl)) hHeld ?_
          refine wpAnyE_take (i := 13) (by simp only [List.getElem?_toArray]; rfl) (by kernel_rfl) (by kernel_rfl) (by kernel_rfl) (by kernel_rfl) (by kernel_rfl) (by exact fun _ _ _ h => h) (by exact yk_ldDl (by kernel_rfl) (.tmp 16) rfl X tt hv _ _ (by kernel_rfl) (fun w hh => hh.1)) hHeld ?_
          refine wpAnyE_take (i := 15) (by simp only [List.getElem?_toArray]; rfl) (by kernel_rfl) (by kernel_rfl) (by kernel_rfl) (by kernel_rfl) (by kernel_rfl) (by exact fun _ _ _ h => h) (by exact yk_ldE (by kernel_rfl) (.tmp 18) rfl Y tt hv _ _ (by kernel_rfl) (fun w hh => hh.2)) hHeld ?_
          try simp only [Act.put, List.setIfInBounds_toArray, List.set_cons_zero, List.set_cons_succ]
          refine wpAnyE_ready (rs := [14]) (by kernel_rfl) (by simp) ?_
          refine EachE.cons (by rfl) (by simp only [List.getElem?_toArray]; rfl) (fun KK hKK => ?_) EachE.nil
          rw [if_pos (by kernel_rfl)]
          refine wp_callF 14 #[.agg (dA tt hv Ax N cx Ay N cy)] (by kernel_rfl) ?_
          refine (hDO _ hsy).mono ?_
          rintro e w5' ⟨v6, rfl, hrow, h9⟩
          obtain ⟨A6, c6, b6, hve, -, -, -, -, hs6, -⟩ := RowC.sl hrow
          rw [HDN.out] at hve
          subst hve
          refine ⟨_, rfl, ?_⟩
          replace hx := hx.ext h9
          replace hb := hb.trans (h9.mono hb.size)
          replace hsx := Sl.ext hsx h9
          replace hsy := Sl.ext hsy h9
          replace hsu := Sl.ext hsu h9
          replace hsv := Sl.ext hsv h9
          replace qx := qx.ext h9
          replace qy := qy.ext h9
          clear h9 hrow
          refine hKK.out _ _ ?_ (fun hHeld => ?_)
          · exact (by first | exact ⟨qx, qy⟩ | exact ⟨qx.ext (below_drew (Below.refl _ _)), qy.ext (below_drew (Below.refl _ _))⟩)
          clear hKK KK
          try simp only [Act.put, List.setIfInBounds_toArray, List.set_cons_zero, List.set_cons_succ]
          refine wpAnyE_ready (rs := [16]) (by kernel_rfl) (by simp) ?_
          refine EachE.cons (by rfl) (by simp only [List.getElem?_toArray]; rfl) (fun KK hKK => ?_) EachE.nil
          rw [if_pos (by kernel_rfl)]
          refine wp_callF 13 #[.agg #[.int .u32 (tt : Int), .int .u32 (hv : Int), .slice Ax N cx, .slice A6 N c6], .agg #[.int .u32 (tt : Int), .int .u32 (hv : Int), .slice Au N cu, .slice Av N cv_]] (by kernel_rfl) ?_
          refine (hDS A6 c6 b6 _ hsx hsu hs6 hsv).mono ?_
          rintro e w6' ⟨rfl, h9⟩
          refine ⟨_, rfl, ?_⟩
          replace hx := hx.ext h9
          replace hb := hb.trans (h9.mono hb.size)
          replace hsx := Sl.ext hsx h9
          replace hsy := Sl.ext hsy h9
          replace hsu := Sl.ext hsu h9
          replace hsv := Sl.ext hsv h9
          replace qx := qx.ext h9
          replace qy := qy.ext h9
          clear h9 hs6
          refine hKK.out _ _ ?_ (fun hHeld => ?_)
          · exact (by first | exact ⟨qx, qy⟩ | exact ⟨qx.ext (below_drew (Below.refl _ _)), qy.ext (below_drew (Below.refl _ _))⟩)
          clear hKK KK
          refine wpAnyE_take (i := 17) (by simp only [List.getElem?_toArray]; rfl) (by kernel_rfl) (by kernel_rfl) (by kernel_rfl) (by kernel_rfl) (by kernel_rfl) (by exact fun _ _ _ h => h) (by exact yk (.bool false) (by kernel_rfl) (fun _ => by kernel_rfl)) hHeld ?_
          refine wpAnyE_take (i := 18) (by simp only [List.getElem?_toArray]; rfl) (by kernel_rfl) (by kernel_rfl) (by kernel_rfl) (by kernel_rfl) (by kernel_rfl) (by exact fun _ _ _ h => h) (by exact yk (.bool false) (by kernel_rfl) (fun _ => by kernel_rfl)) hHeld ?_
          refine wpAnyE_done (by kernel_rfl) ?_ _
          go_wp2_with fail
          go_roundw
          case rel => exact ⟨k + 1, by omega, by go_num, hx, hb⟩
          case measure => simp [intOf]; omega
      · obtain rfl : k = 3 := by omega
        go_wp2_with fail
        go_ret
        exact ⟨rfl, hb⟩
end Go.Proofs.Ytioahddobogpjaa
/- How an argument that came in reads, in the words of this seat's walks. No condition. -/
namespace Go.Proofs.Ytioahddobogpjaa
open Go.ChangeShapes Go.WideShapes Go.ChangeAt Go.RowKit

theorem own : ownKnob Try.prog.godebug = none := by kernel_rfl
theorem laidOut : laidOutB Try.prog = true := by kernel_rfl
end Go.Proofs.Ytioahddobogpjaa
/- How bytes that came in read, in the words of this seat's walks. No condition. -/
namespace Go.Proofs.Ytioahddobogpjaa
open Go.ChangeShapes Go.WideShapes Go.ChangeAt Go.RowKit

theorem ints_bs {w : World} {x : Addr} {len : Nat} {zs : List Int} (hz : len ≤ zs.length) (hc : ∀ i, i < zs.length → w.cell? (x.add i) = some (.int .u8 (zs.getD i 0))) (hw : ∀ n ∈ zs, (Lit.int .u8 n).wf = true) :
    ∃ b l, l.length = len ∧ Bs w b (some x) l := by
  refine ⟨x.block, (zs.take len).map fun z => UInt8.ofNat z.toNat, by simp; omega, fun hne => ?_⟩
  have h0 : 0 < zs.length := by
    rcases Nat.eq_zero_or_pos len with h | h
    · subst h; simp at hne
    · omega
  obtain ⟨bb, off, spot⟩ := x
  have hspot : spot = none := by simpa [Addr.add] using World.cell?_spot (hc 0 h0)
  subst hspot
  refine ⟨off, rfl, fun j u hu => ?_⟩
  have hj : j < len := by
    have := (List.getElem?_eq_some_iff.1 hu).1
    simp [bv] at this
    omega
  have hjz : j < zs.length := by omega
  have h1 := hc j hjz
  rw [Addr.add_lit] at h1
  rw [h1]
  have hm : zs.getD j 0 = zs[j] := by simp [List.getD, hjz]
  have hb := bounds_u8 (hw zs[j] (List.getElem_mem hjz))
  have h2 : (bv ((zs.take len).map fun z => UInt8.ofNat z.toNat))[j]? = some (.int .u8 ((UInt8.ofNat zs[j].toNat).toNat : Int)) := by
    simp [bv, hj, hjz]
  rw [h2] at hu
  injection hu with hu
  rw [← hu, hm, u8_ofNat]
  congr 2
  omega

set_option maxRecDepth 100000 in
theorem open_bytes {H : Type} {enc : TypeId × Value → H} {W : World} {base b0 : Nat} {spare : Nat → Bool} {held : Bool} {r : Reach} {v : Value} {d : DataW H} {p : List MemPlace} (hv : Value.okWide Try.prog W r base 36 v) (h : DataW.Trod enc Try.prog W b0 spare held 36 v d p) :
    ∃ A n c b l, v = .slice A n c ∧ l.length = n ∧ n ≤ maxLen ∧ Bs W b A l := by
  obtain ⟨a, len, cap, rfl⟩ := okWide_slice Try.underlying36 hv
  obtain ⟨fuel, hf⟩ := h
  rcases open_ints Try.underlying36 Try.underlying5 (by kernel_rfl) hf with ⟨hcs, _⟩ | ⟨x, l, c, zs, hcs, _, hl, hm, hz, _, hcell, hwz⟩
  · simp [Value.cells] at hcs
    obtain ⟨rfl, rfl, rfl⟩ := hcs
    exact ⟨none, 0, 0, 0, [], rfl, rfl, by simp [maxLen], Sl.nil_ _ _ _⟩
  · simp [Value.cells] at hcs
    obtain ⟨rfl, rfl, rfl⟩ := hcs
    obtain ⟨b, l', hl', hs⟩ := ints_bs (by rw [hz]; split <;> omega) hcell hwz
    exact ⟨_, _, _, b, l', rfl, hl', by omega, hs⟩
end Go.Proofs.Ytioahddobogpjaa
