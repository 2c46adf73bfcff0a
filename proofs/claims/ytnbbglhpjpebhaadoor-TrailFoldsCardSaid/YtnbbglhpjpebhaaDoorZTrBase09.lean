/- Parts of one proof, in their order. -/
import Derived.Test.YtnbbglhpjpebhaaDoorZTrBase08
import Derived.Deep.DeepCutAuto
/- Predict. Conditions: the numbers fit; the table lies. -/
namespace Go.Proofs.YtnbbglhpjpebhaaDoor
open Go.RowKit
set_option linter.unusedVariables false

/-- The moves that one thinks are made. -/
def predM (g : Gm) (o : Int) (m : Nat) : List Nat := if 0 ≤ o ∧ o < 6 then (List.replicate 6 g.df).set o.toNat m else List.replicate 6 g.df
theorem predM_len (g : Gm) (o : Int) (m : Nat) : (predM g o m).length = 6 := by unfold predM; split <;> simp
/-- Six words in a variable. -/
def AB (w : World) (k : Nat) (l : List Nat) : Prop := l.length = 6 ∧ w.heap[k]? = some (.cells (ms l).toArray 98 (0, 0))
namespace AB
variable {w w' : World} {k : Nat} {l : List Nat}
theorem lt (h : AB w k l) : k < w.heap.size := (Array.getElem?_eq_some_iff.1 h.2).1
theorem ext (h : AB w k l) (hb : Below w.heap.size w w') : AB w' k l := ⟨h.1, (hb.block k h.lt).trans h.2⟩
theorem at_ (h : AB w k l) {i : Nat} (hi : i < l.length) : w.cell? ⟨k, i, none⟩ = some (.int .u32 ((l[i] : Nat) : Int)) := by
  rw [cell_of_row w k i _ _ _ h.2]
  simp [ms, hi]
theorem free (h : AB w k l) (i : Nat) : w.frozen? ⟨k, i, none⟩ = false := frozen_of_row w k i _ _ h.2
theorem set_ (h : AB w k l) (i m : Nat) : AB (w.setCell ⟨k, i, none⟩ (.int .u32 (m : Int))) k (l.set i m) := by
  refine ⟨by rw [List.length_set]; exact h.1, ?_⟩
  rw [heap_setCell_same w k i _ _ _ h.2]
  simp [ms, List.map_set]
theorem sl (h : AB w k l) : Sl w k (some ⟨k, 0, none⟩) (ms l) := fun _ => ⟨0, rfl, fun j u hu => by
  rw [Nat.zero_add, cell_of_row w k j _ _ _ h.2]
  simpa using hu⟩
end AB
theorem fill_set {k : Nat} (d : Nat) (hk : k < 6) : (List.replicate k d ++ List.replicate (6 - k) 0).set k d = List.replicate (k + 1) d ++ List.replicate (6 - (k + 1)) 0 := by
  rw [List.set_append_right _ _ (by simp)]
  obtain ⟨j, hj⟩ : ∃ j, 6 - k = j + 1 := ⟨5 - k, by omega⟩
  rw [hj, show 6 - (k + 1) = j by omega, List.length_replicate, Nat.sub_self, List.replicate_succ, List.set_cons_zero, List.replicate_succ', List.append_assoc]
  rfl
set_option maxHeartbeats 8000000 in
set_option maxRecDepth 20000 in
theorem Predict_good (g : Gm) (s : Gs) (st : St) (o : Int) (m : Nat) (w : World) (hin : GIn w g s) (hok : GOk g s) (hT : CTab w) (hr : rightB g = true) (hm : m ≤ 4294967295) (hL : st.L.length ≤ 48) (oL : okC st.L) (htk : st.tk ≤ 4294967295) (ho : -9223372036854775808 ≤ o ∧ o ≤ 9223372036854775807) {F : VS} (hF : F = wholeV compN (stepP g st (predM g o m)) st.L st.d) :
    Calls Tryd.prog 28 #[.agg (gmA g s), .agg (stA st), .int .i64 o, .int .u32 (m : Int)] w fun e w' => e = .returned (.agg (stA ⟨viewL o F.L, 0, (st.tk + 1) % 4294967296⟩)) ∧ Below w.heap.size w w' := by
  have z1 : (w.alloc (.cells (gmA g s) 26)).heap.size = w.heap.size + 1 := by simp
  have z2 : ((w.alloc (.cells (gmA g s) 26)).alloc (.cells (stA st) 40)).heap.size = w.heap.size + 2 := by simp
  have z3 : (((w.alloc (.cells (gmA g s) 26)).alloc (.cells (stA st) 40)).alloc (.cells (stA zSt) 40)).heap.size = w.heap.size + 3 := by simp
  have hb := below_alloc3 w (.cells (gmA g s) 26) (.cells (stA st) 40) (.cells (stA zSt) 40)
  have hb := hb.alloc hb.size (.cells (ms (List.replicate 6 0)).toArray 98)
  have h2 := below_alloc3 (w.alloc (.cells (gmA g s) 26)) (.cells (stA st) 40) (.cells (stA zSt) 40) (.cells (ms (List.replicate 6 0)).toArray 98)
  have h3 := below_alloc2 ((w.alloc (.cells (gmA g s) 26)).alloc (.cells (stA st) 40)) (.cells (stA zSt) 40) (.cells (ms (List.replicate 6 0)).toArray 98)
  have h4 := below_alloc1 (((w.alloc (.cells (gmA g s) 26)).alloc (.cells (stA st) 40)).alloc (.cells (stA zSt) 40)) (.cells (ms (List.replicate 6 0)).toArray 98)
  have q3 := (GBox.new_ w g s).ext h2
  have q4 := (BoxS.new_ (w.alloc (.cells (gmA g s) 26)) st).ext h3
  have q8 := (BoxS.new_ ((w.alloc (.cells (gmA g s) 26)).alloc (.cells (stA st) 40)) zSt).ext h4
  have q9 : AB ((((w.alloc (.cells (gmA g s) 26)).alloc (.cells (stA st) 40)).alloc (.cells (stA zSt) 40)).alloc (.cells (ms (List.replicate 6 0)).toArray 98)) (w.heap.size + 3) (List.replicate 6 0) := by
    refine ⟨rfl, ?_⟩
    have h := heap_alloc_new (((w.alloc (.cells (gmA g s) 26)).alloc (.cells (stA st) 40)).alloc (.cells (stA zSt) 40)) (.cells (ms (List.replicate 6 0)).toArray 98)
    rw [z3] at h
    exact h
  rw [z1] at q4
  rw [z2] at q8
  clear h2 h3 h4
  obtain ⟨M, hM⟩ : ∃ M, M = predM g o m := ⟨_, rfl⟩
  have hM6 : M.length = 6 := by rw [hM]; exact predM_len g o m
  have hp := right_parts hr
  have hMf : ∀ x ∈ M, x ≤ 4294967295 := by
    have hd := hok.d1
    intro x hx
    rw [hM] at hx
    unfold predM at hx
    split at hx
    · rcases List.mem_or_eq_of_mem_set hx with h | h
      · rw [List.eq_of_mem_replicate h]; exact hd
      · rw [h]; exact hm
    · rw [List.eq_of_mem_replicate hx]; exact hd
  have hFL := whole_len (P := stepP g st M) (L := st.L) (d := st.d) (allN_lt g.ob) (cntL_fit g M) hok.oK oL
  rw [← hM] at hF
  rw [← hF] at hFL
  have hP := fun (W : World) (mb : Nat) (MA : Option Addr) h1 h2 h3 => Step_good g s st M MA 6 mb W h1 hok h2 h3 hr hMf (by rw [hM6]; simp [maxLen]) hL oL htk hF
  rw [hM6] at hP
  obtain ⟨S1, hS1⟩ : ∃ S1 : St, S1 = ⟨F.L, F.d, (st.tk + 1) % 4294967296⟩ := ⟨_, rfl⟩
  rw [← hS1] at hP
  have hV := fun W => StView_calls S1 o W (by rw [hS1]; show F.L.length ≤ 48; rw [hFL.1]; exact hL) (by rw [hS1]; exact hFL.2)
  obtain ⟨VW, hVW⟩ : ∃ VW : St, VW = ⟨viewL o F.L, 0, (st.tk + 1) % 4294967296⟩ := ⟨_, rfl⟩
  have hVW2 : (⟨viewL o S1.L, 0, S1.tk⟩ : St) = VW := by rw [hVW, hS1]
  rw [hVW2] at hV
  rw [← hVW]
  have HIN := Lib.hid hin
  have HT := Lib.hid hT
  have HM := Lib.hid hM
  clear hin hT hr hp hm hL oL htk hF hFL hMf hS1 hVW hVW2 hM hM6
  go_enter Tryd.func28, Tryd.ntmps28
  go_upto_region 2 with ((with_reducible refine at_al 40 8 ?_); refine wpList_alS rfl rfl (some 8) rfl (w.heap.size + 2) z2 ?_)
  obtain ⟨wb, hwb⟩ : ∃ wb, wb = ((((w.alloc (.cells (gmA g s) 26)).alloc (.cells (stA st) 40)).alloc (.cells (stA zSt) 40)).alloc (.cells #[.int .u32 0, .int .u32 0, .int .u32 0, .int .u32 0, .int .u32 0, .int .u32 0] 98)) := ⟨_, rfl⟩
  have hwb' := hwb
  rw [show (#[.int .u32 0, .int .u32 0, .int .u32 0, .int .u32 0, .int .u32 0, .int .u32 0] : Array Value) = (ms (List.replicate 6 0)).toArray from rfl] at hwb'
  rw [← hwb'] at hb q3 q4 q8 q9
  rw [← hwb]
  obtain ⟨B, hB⟩ : ∃ B, B = w.heap.size := ⟨_, rfl⟩
  rw [← hB] at hb q3 q4 q8 q9 ⊢
  have HB := Lib.hid hB
  have hq9l := q9.lt
  clear hwb hwb' z1 z2 z3 hB
  go_wp2_with fail
  go_loopw [10, 13] (fun _ i wr => ∃ k : Nat, k ≤ 6 ∧ i = .int .i64 k ∧ AB wr (B + 3) (List.replicate k g.df ++ List.replicate (6 - k) 0) ∧ Mod (fun i => i = B + 3) wb wr) (fun _ i _ => 6 - (intOf i).toNat)
  case atStart => exact ⟨0, Nat.zero_le _, rfl, q9, Mod.refl _ _⟩
  case round =>
    clear q9
    obtain ⟨k, hk, rfl, hq, hmw⟩ := hrel
    have q3 : GBox wr B g s := (hmw.block B q3.lt (by show ¬ B = B + 3; omega)).trans q3
    by_cases hlt : k < 6
    · have ej : (k : Int) < 6 := by omega
      have c3 := q3.c3
      have fz := hq.free k
      obtain ⟨vk, ck⟩ : ∃ v, wr.cell? ⟨B + 3, k, none⟩ = some v := ⟨_, hq.at_ (i := k) (by rw [hq.1]; exact hlt)⟩
      have hs := Lib.hid (hq.set_ k g.df)
      have HFS := Lib.hid (fill_set g.df hlt)
      have hm2 := hmw.trans (Mod.setCell wr ⟨B + 3, k, none⟩ (.int .u32 (g.df : Int))) (fun i _ h => h) (fun i _ h => h)
      go_wp2_with fail
      go_roundw
      case rel => exact ⟨k + 1, by omega, by go_num, by rw [← HFS.out]; exact hs.out, hm2⟩
      case measure => simp [intOf]; omega
    · obtain rfl : k = 6 := by omega
      have hq : AB wr (B + 3) (List.replicate 6 g.df) := by simpa using hq
      obtain ⟨wq, hwq⟩ : ∃ wq, wq = wr := ⟨_, rfl⟩
      rw [← hwq] at hq hmw q3 ⊢
      clear hwq
      by_cases h0 : 0 ≤ o
      · by_cases h6 : o < 6
        · obtain ⟨j, rfl⟩ := Int.eq_ofNat_of_zero_le h0
          have hj : j < 6 := by omega
          have e1 : (0 : Int) ≤ (j : Int) := by omega
          have e2 : (j : Int) < 6 := by omega
          have fz := hq.free j
          obtain ⟨vk, ck⟩ : ∃ v, wq.cell? ⟨B + 3, j, none⟩ = some v := ⟨_, hq.at_ (i := j) (by rw [hq.1]; exact hj)⟩
          have hs : AB (wq.setCell ⟨B + 3, j, none⟩ (.int .u32 (m : Int))) (B + 3) M := by
            rw [HM.out]
            unfold predM
            rw [if_pos ⟨e1, e2⟩]
            exact hq.set_ j m
          have hm2 := hmw.trans (Mod.setCell wq ⟨B + 3, j, none⟩ (.int .u32 (m : Int))) (fun i _ h => h) (fun i _ h => h)
          have q3 : GBox (wq.setCell ⟨B + 3, j, none⟩ (.int .u32 (m : Int))) B g s := (hm2.block B (by omega) (by show ¬ B = B + 3; omega)).trans ((hmw.block B (by omega) (by show ¬ B = B + 3; omega)).symm.trans q3)
          clear h0 h6 hq hmw
          go_upto_region 9 with fail
          obtain ⟨wz, hwz⟩ : ∃ wz, wz = wq.setCell ⟨B + 3, j, none⟩ (.int .u32 (m : Int)) := ⟨_, rfl⟩
          rw [← hwz] at hs hm2 q3 ⊢
          clear hwz fz ck
          have q4 := q4.mod hm2 (by show ¬ B + 1 = B + 3; omega)
          have q8 := q8.mod hm2 (by show ¬ B + 2 = B + 3; omega)
          have hbz : Below B w wz := hb.trans (hm2.below (by omega) (fun i hi e => by have e : i = B + 3 := e; omega))
          have hbZ : Below w.heap.size w wz := by rw [← HB.out]; exact hbz
          have hP := fun W (h : Below wz.heap.size wz W) => hP W (B + 3) (some ⟨B + 3, 0, none⟩) ((HIN.out.ext hbZ).ext h) ((HT.out.ext hbZ).ext h) (Sl.ext hs.sl h)
          have hlz : B + 3 < wz.heap.size := hs.lt
          clear hbZ hs hm2
          go_cut [11] (fun p w9 => ∃ (K1 : Nat) (wy : World), wy = w9 ∧ p = .pointer (some ⟨K1, 0, none⟩) ∧ BoxS wy K1 S1 ∧ Below wz.heap.size wz wy)
          case first =>
            have hb9 := hb
            have hb := Below.refl wz.heap.size wz
            go_wp2_with fail
            refine wp_region_held_drew (S := fun w9 => Below wz.heap.size wz w9) (by kernel_rfl) ?_ (fun hHeld => ?_)
            · exact (by first | exact hb | exact below_drew hb)
            obtain ⟨wd2, hwd2⟩ : ∃ wd2, wd2 = World.drew wz := ⟨_, rfl⟩
            have h9 : Below wz.heap.size wz wd2 := by rw [hwd2]; exact below_drew (Below.refl _ _)
            rw [← hwd2] at hHeld ⊢
            replace hb := hb.trans (h9.mono hb.size)
            clear h9
            clear hwd2
            refine wpAnyH_take (i := 0) (by simp only [List.getElem?_toArray]; rfl) (by kernel_rfl) (by kernel_rfl) (by kernel_rfl) (by exact fun _ _ _ h => h) (by exact yk_ldG (by kernel_rfl) (.tmp 4) rfl B g s (by kernel_rfl) (fun _ h => q3.ext h)) hHeld ?_
            try simp only [Act.put, List.setIfInBounds_toArray, List.set_cons_zero, List.set_cons_succ]
            refine wpAnyH_take (i := 1) (by simp only [List.getElem?_toArray]; rfl) (by kernel_rfl) (by kernel_rfl) (by kernel_rfl) (by exact fun _ _ _ h => h) (by exact yieldsIf_ldS (by kernel_rfl) (.tmp 5) rfl (B + 1) (by kernel_rfl) (fun _ h => q4.ext h)) hHeld ?_
            try simp only [Act.put, List.setIfInBounds_toArray, List.set_cons_zero, List.set_cons_succ]
            refine wpAnyH_take (i := 2) (by simp only [List.getElem?_toArray]; rfl) (by kernel_rfl) (by kernel_rfl) (by kernel_rfl) (by exact fun _ _ _ h => h) (by exact yk (.slice (some ⟨B + 3, 0, none⟩) 6 6) (by kernel_rfl) (fun _ => by kernel_rfl)) hHeld ?_
            try simp only [Act.put, List.setIfInBounds_toArray, List.set_cons_zero, List.set_cons_succ]
            refine wpAnyH_ready (rs := [3, 7, 8]) (by kernel_rfl) (by simp) ?_
            refine AllReadyH.cons (by simp only [List.getElem?_toArray]; rfl) (fun KK hKK => ?_) (AllReadyH.cons (by simp only [List.getElem?_toArray]; rfl) (fun KK hKK => ?_) (AllReadyH.cons (by simp only [List.getElem?_toArray]; rfl) (fun KK hKK => ?_) AllReadyH.nil))
            · skip
              rw [if_pos (by kernel_rfl)]
              refine wp_callF 17 #[.agg (gmA g s), .agg (stA st), .slice (some ⟨B + 3, 0, none⟩) 6 6] (by kernel_rfl) ?_
              refine (hP wd2 hb).mono ?_
              rintro e wc3 ⟨sh3, rfl, hsh, h9⟩
              have hs3 : sh3.oneCell' = true := by
                rcases hsh.2 with ⟨rfl, -⟩ | ⟨_, _, _, rfl, -⟩ <;> rfl
              clear hsh
              replace hb := hb.trans (h9.mono hb.size)
              clear h9
              refine ⟨_, rfl, ?_⟩
              refine hKK.out _ _ ?_ (fun hHeld => ?_)
              · exact (by first | exact hb | exact below_drew hb)
              clear hKK KK
              try simp only [Act.put, List.setIfInBounds_toArray, List.set_cons_zero, List.set_cons_succ]
              refine wpAnyH_take (i := 4) (by simp only [List.getElem?_toArray]; rfl) (by kernel_rfl) (by kernel_rfl) (by kernel_rfl) (by exact fun _ _ _ h => h) (by exact yk (.tuple #[.agg (stA S1), .agg (otA F.t sh3 F.e)]) (by kernel_rfl) (fun _ => by kernel_rfl)) hHeld ?_
              try simp only [Act.put, List.setIfInBounds_toArray, List.set_cons_zero, List.set_cons_succ]
              refine wpAnyH_take (i := 5) (by simp only [List.getElem?_toArray]; rfl) (by kernel_rfl) (by kernel_rfl) (by kernel_rfl) (by exact fun _ _ _ h => h) (by exact yk (.agg (stA S1)) (by kernel_rfl) (fun _ => by kernel_rfl)) hHeld ?_
              try simp only [Act.put, List.setIfInBounds_toArray, List.set_cons_zero, List.set_cons_succ]
              refine wpAnyH_take (i := 6) (by simp only [List.getElem?_toArray]; rfl) (by kernel_rfl) (by kernel_rfl) (by kernel_rfl) (by exact fun _ _ _ h => h) (by exact yk (.agg (otA F.t sh3 F.e)) (by kernel_rfl) (fun _ => by kernel_rfl)) hHeld ?_
              try simp only [Act.put, List.setIfInBounds_toArray, List.set_cons_zero, List.set_cons_succ]
              refine wpAnyH_ready (rs := [7, 8]) (by kernel_rfl) (by simp) ?_
              refine AllReadyH.cons (by simp only [List.getElem?_toArray]; rfl) (fun KK hKK => ?_) (AllReadyH.cons (by simp only [List.getElem?_toArray]; rfl) (fun KK hKK => ?_) AllReadyH.nil)
              · skip
                rw [if_pos (by kernel_rfl)]
                have nz_y4 : wz.heap.size ≤ wc3.heap.size := hb.size
                refine wp_alSt rfl ?_
                obtain ⟨wa4, hwa⟩ : ∃ wa4, wa4 = wc3.alloc (.cells (stA zSt) 40) := ⟨_, rfl⟩
                have h9 : Below wc3.heap.size wc3 wa4 := by rw [hwa]; exact below_alloc1 _ _
                have y4 : BoxS wa4 (wc3.heap.size) zSt := by rw [hwa]; exact BoxS.new_ _ _
                rw [← hwa]
                clear hwa
                replace hb := hb.trans (h9.mono hb.size)
                clear h9
                refine hKK.out _ _ ?_ (fun hHeld => ?_)
                · exact (by first | exact hb | exact below_drew hb)
                clear hKK KK
                try simp only [Act.put, List.setIfInBounds_toArray, List.set_cons_zero, List.set_cons_succ]
                refine wpAnyH_ready (rs := [8]) (by kernel_rfl) (by simp) ?_
                refine AllReadyH.cons (by simp only [List.getElem?_toArray]; rfl) (fun KK hKK => ?_) AllReadyH.nil
                rw [if_pos (by kernel_rfl)]
                have ne45 : ¬ wc3.heap.size = wa4.heap.size := by have := y4.lt; omega
                have nz_y5 : wz.heap.size ≤ wa4.heap.size := hb.size
                refine wp_alO rfl ?_
                obtain ⟨wa5, hwa⟩ : ∃ wa5, wa5 = wa4.alloc (.cells (otA 0 (.slice none 0 0) 0) 52) := ⟨_, rfl⟩
                have h9 : Below wa4.heap.size wa4 wa5 := by rw [hwa]; exact below_alloc1 _ _
                have y5 : OBox wa5 (wa4.heap.size) 0 (.slice none 0 0) 0 := by rw [hwa]; exact OBox.new_ _ _ _ _
                rw [← hwa]
                clear hwa
                replace y4 := y4.ext h9
                replace hb := hb.trans (h9.mono hb.size)
                clear h9
                refine hKK.out _ _ ?_ (fun hHeld => ?_)
                · exact (by first | exact hb | exact below_drew hb)
                clear hKK KK
                try simp only [Act.put, List.setIfInBounds_toArray, List.set_cons_zero, List.set_cons_succ]
                refine wpAnyH_ready (rs := [9]) (by kernel_rfl) (by simp) ?_
                refine AllReadyH.cons (by simp only [List.getElem?_toArray]; rfl) (fun KK hKK => ?_) AllReadyH.nil
                rw [if_pos (by kernel_rfl)]
                refine wp_stS (.tmp 11) (.tmp 35) rfl (wc3.heap.size) S1 (by kernel_rfl) (by kernel_rfl) y4 ?_
                replace y4 := y4.row_ S1
                replace y5 := y5.mod (mod_setRow wa5 (wc3.heap.size) (stA S1)) (fun e => ne45 e.symm)
                replace hb := below_setRow hb (wc3.heap.size) (stA S1) nz_y4
                obtain ⟨ws6, hws⟩ : ∃ ws6, ws6 = wa5.setRow (wc3.heap.size) (stA S1) := ⟨_, rfl⟩
                rw [← hws] at y4 y5 hb ⊢
                clear hws
                refine hKK.out _ _ ?_ (fun hHeld => ?_)
                · exact (by first | exact hb | exact below_drew hb)
                clear hKK KK
                try simp only [Act.put]
                refine wpAnyH_ready (rs := [10]) (by kernel_rfl) (by simp) ?_
                refine AllReadyH.cons (by simp only [List.getElem?_toArray]; rfl) (fun KK hKK => ?_) AllReadyH.nil
                rw [if_pos (by kernel_rfl)]
                refine wp_stO (.tmp 12) (.tmp 36) rfl (wa4.heap.size) F.t sh3 F.e (by kernel_rfl) (by kernel_rfl) hs3 y5 ?_
                replace y5 := y5.row_ F.t sh3 F.e
                replace y4 := y4.mod (mod_setRow ws6 (wa4.heap.size) (otA F.t sh3 F.e)) ne45
                replace hb := below_setRow hb (wa4.heap.size) (otA F.t sh3 F.e) nz_y5
                obtain ⟨ws7, hws⟩ : ∃ ws7, ws7 = ws6.setRow (wa4.heap.size) (otA F.t sh3 F.e) := ⟨_, rfl⟩
                rw [← hws] at y4 y5 hb ⊢
                clear hws
                refine hKK.out _ _ ?_ (fun hHeld => ?_)
                · exact (by first | exact hb | exact below_drew hb)
                clear hKK KK
                try simp only [Act.put]
                refine wpAnyH_done (by kernel_rfl) ?_ _
                go_wp2_with fail
                go_meet
                exact ⟨_, _, rfl, rfl, y4, hb⟩
              · skip
                rw [if_pos (by kernel_rfl)]
                have nz_y5 : wz.heap.size ≤ wc3.heap.size := hb.size
                refine wp_alO rfl ?_
                obtain ⟨wa8, hwa⟩ : ∃ wa8, wa8 = wc3.alloc (.cells (otA 0 (.slice none 0 0) 0) 52) := ⟨_, rfl⟩
                have h9 : Below wc3.heap.size wc3 wa8 := by rw [hwa]; exact below_alloc1 _ _
                have y5 : OBox wa8 (wc3.heap.size) 0 (.slice none 0 0) 0 := by rw [hwa]; exact OBox.new_ _ _ _ _
                rw [← hwa]
                clear hwa
                replace hb := hb.trans (h9.mono hb.size)
                clear h9
                refine hKK.out _ _ ?_ (fun hHeld => ?_)
                · exact (by first | exact hb | exact below_drew hb)
                clear hKK KK
                try simp only [Act.put, List.setIfInBounds_toArray, List.set_cons_zero, List.set_cons_succ]
                refine wpAnyH_ready (rs := [7]) (by kernel_rfl) (by simp) ?_
                refine AllReadyH.cons (by simp only [List.getElem?_toArray]; rfl) (fun KK hKK => ?_) AllReadyH.nil
                rw [if_pos (by kernel_rfl)]
                have ne45 : ¬ wa8.heap.size = wc3.heap.size := by have := y5.lt; omega
                have nz_y4 : wz.heap.size ≤ wa8.heap.size := hb.size
                refine wp_alSt rfl ?_
                obtain ⟨wa9, hwa⟩ : ∃ wa9, wa9 = wa8.alloc (.cells (stA zSt) 40) := ⟨_, rfl⟩
                have h9 : Below wa8.heap.size wa8 wa9 := by rw [hwa]; exact below_alloc1 _ _
                have y4 : BoxS wa9 (wa8.heap.size) zSt := by rw [hwa]; exact BoxS.new_ _ _
                rw [← hwa]
                clear hwa
                replace y5 := y5.ext h9
                replace hb := hb.trans (h9.mono hb.size)
                clear h9
                refine hKK.out _ _ ?_ (fun hHeld => ?_)
                · exact (by first | exact hb | exact below_drew hb)
                clear hKK KK
                try simp only [Act.put, List.setIfInBounds_toArray, List.set_cons_zero, List.set_cons_succ]
                refine wpAnyH_ready (rs := [9]) (by kernel_rfl) (by simp) ?_
                refine AllReadyH.cons (by simp only [List.getElem?_toArray]; rfl) (fun KK hKK => ?_) AllReadyH.nil
                rw [if_pos (by kernel_rfl)]
                refine wp_stS (.tmp 11) (.tmp 35) rfl (wa8.heap.size) S1 (by kernel_rfl) (by kernel_rfl) y4 ?_
                replace y4 := y4.row_ S1
                replace y5 := y5.mod (mod_setRow wa9 (wa8.heap.size) (stA S1)) (fun e => ne45 e.symm)
                replace hb := below_setRow hb (wa8.heap.size) (stA S1) nz_y4
                obtain ⟨ws10, hws⟩ : ∃ ws10, ws10 = wa9.setRow (wa8.heap.size) (stA S1) := ⟨_, rfl⟩
                rw [← hws] at y4 y5 hb ⊢
                clear hws
                refine hKK.out _ _ ?_ (fun hHeld => ?_)
                · exact (by first | exact hb | exact below_drew hb)
                clear hKK KK
                try simp only [Act.put]
                refine wpAnyH_ready (rs := [10]) (by kernel_rfl) (by simp) ?_
                refine AllReadyH.cons (by simp only [List.getElem?_toArray]; rfl) (fun KK hKK => ?_) AllReadyH.nil
                rw [if_pos (by kernel_rfl)]
                refine wp_stO (.tmp 12) (.tmp 36) rfl (wc3.heap.size) F.t sh3 F.e (by kernel_rfl) (by kernel_rfl) hs3 y5 ?_
                replace y5 := y5.row_ F.t sh3 F.e
                replace y4 := y4.mod (mod_setRow ws10 (wc3.heap.size) (otA F.t sh3 F.e)) ne45
                replace hb := below_setRow hb (wc3.heap.size) (otA F.t sh3 F.e) nz_y5
                obtain ⟨ws11, hws⟩ : ∃ ws11, ws11 = ws10.setRow (wc3.heap.size) (otA F.t sh3 F.e) := ⟨_, rfl⟩
                rw [← hws] at y4 y5 hb ⊢
                clear hws
                refine hKK.out _ _ ?_ (fun hHeld => ?_)
                · exact (by first | exact hb | exact below_drew hb)
                clear hKK KK
                try simp only [Act.put]
                refine wpAnyH_done (by kernel_rfl) ?_ _
                go_wp2_with fail
                go_meet
                exact ⟨_, _, rfl, rfl, y4, hb⟩
            · skip
              rw [if_pos (by kernel_rfl)]
              have nz_y4 : wz.heap.size ≤ wd2.heap.size := hb.size
              refine wp_alSt rfl ?_
              obtain ⟨wa12, hwa⟩ : ∃ wa12, wa12 = wd2.alloc (.cells (stA zSt) 40) := ⟨_, rfl⟩
              have h9 : Below wd2.heap.size wd2 wa12 := by rw [hwa]; exact below_alloc1 _ _
              have y4 : BoxS wa12 (wd2.heap.size) zSt := by rw [hwa]; exact BoxS.new_ _ _
              rw [← hwa]
              clear hwa
              replace hb := hb.trans (h9.mono hb.size)
              clear h9
              refine hKK.out _ _ ?_ (fun hHeld => ?_)
              · exact (by first | exact hb | exact below_drew hb)
              clear hKK KK
              try simp only [Act.put, List.setIfInBounds_toArray, List.set_cons_zero, List.set_cons_succ]
              refine wpAnyH_ready (rs := [3, 8]) (by kernel_rfl) (by simp) ?_
              refine AllReadyH.cons (by simp only [List.getElem?_toArray]; rfl) (fun KK hKK => ?_) (AllReadyH.cons (by simp only [List.getElem?_toArray]; rfl) (fun KK hKK => ?_) AllReadyH.nil)
              · skip
                rw [if_pos (by kernel_rfl)]
                refine wp_callF 17 #[.agg (gmA g s), .agg (stA st), .slice (some ⟨B + 3, 0, none⟩) 6 6] (by kernel_rfl) ?_
                refine (hP wa12 hb).mono ?_
                rintro e wc13 ⟨sh3, rfl, hsh, h9⟩
                have hs3 : sh3.oneCell' = true := by
                  rcases hsh.2 with ⟨rfl, -⟩ | ⟨_, _, _, rfl, -⟩ <;> rfl
                clear hsh
                replace y4 := y4.ext h9
                replace hb := hb.trans (h9.mono hb.size)
                clear h9
                refine ⟨_, rfl, ?_⟩
                refine hKK.out _ _ ?_ (fun hHeld => ?_)
                · exact (by first | exact hb | exact below_drew hb)
                clear hKK KK
                try simp only [Act.put, List.setIfInBounds_toArray, List.set_cons_zero, List.set_cons_succ]
                refine wpAnyH_take (i := 4) (by simp only [List.getElem?_toArray]; rfl) (by kernel_rfl) (by kernel_rfl) (by kernel_rfl) (by exact fun _ _ _ h => h) (by exact yk (.tuple #[.agg (stA S1), .agg (otA F.t sh3 F.e)]) (by kernel_rfl) (fun _ => by kernel_rfl)) hHeld ?_
                try simp only [Act.put, List.setIfInBounds_toArray, List.set_cons_zero, List.set_cons_succ]
                refine wpAnyH_take (i := 5) (by simp only [List.getElem?_toArray]; rfl) (by kernel_rfl) (by kernel_rfl) (by kernel_rfl) (by exact fun _ _ _ h => h) (by exact yk (.agg (stA S1)) (by kernel_rfl) (fun _ => by kernel_rfl)) hHeld ?_
                try simp only [Act.put, List.setIfInBounds_toArray, List.set_cons_zero, List.set_cons_succ]
                refine wpAnyH_take (i := 6) (by simp only [List.getElem?_toArray]; rfl) (by kernel_rfl) (by kernel_rfl) (by kernel_rfl) (by exact fun _ _ _ h => h) (by exact yk (.agg (otA F.t sh3 F.e)) (by kernel_rfl) (fun _ => by kernel_rfl)) hHeld ?_
                try simp only [Act.put, List.setIfInBounds_toArray, List.set_cons_zero, List.set_cons_succ]
                refine wpAnyH_ready (rs := [8]) (by kernel_rfl) (by simp) ?_
                refine AllReadyH.cons (by simp only [List.getElem?_toArray]; rfl) (fun KK hKK => ?_) AllReadyH.nil
                rw [if_pos (by kernel_rfl)]
                have ne45 : ¬ wd2.heap.size = wc13.heap.size := by have := y4.lt; omega
                have nz_y5 : wz.heap.size ≤ wc13.heap.size := hb.size
                refine wp_alO rfl ?_
                obtain ⟨wa14, hwa⟩ : ∃ wa14, wa14 = wc13.alloc (.cells (otA 0 (.slice none 0 0) 0) 52) := ⟨_, rfl⟩
                have h9 : Below wc13.heap.size wc13 wa14 := by rw [hwa]; exact below_alloc1 _ _
                have y5 : OBox wa14 (wc13.heap.size) 0 (.slice none 0 0) 0 := by rw [hwa]; exact OBox.new_ _ _ _ _
                rw [← hwa]
                clear hwa
                replace y4 := y4.ext h9
                replace hb := hb.trans (h9.mono hb.size)
                clear h9
                refine hKK.out _ _ ?_ (fun hHeld => ?_)
                · exact (by first | exact hb | exact below_drew hb)
                clear hKK KK
                try simp only [Act.put, List.setIfInBounds_toArray, List.set_cons_zero, List.set_cons_succ]
                refine wpAnyH_ready (rs := [9]) (by kernel_rfl) (by simp) ?_
                refine AllReadyH.cons (by simp only [List.getElem?_toArray]; rfl) (fun KK hKK => ?_) AllReadyH.nil
                rw [if_pos (by kernel_rfl)]
                refine wp_stS (.tmp 11) (.tmp 35) rfl (wd2.heap.size) S1 (by kernel_rfl) (by kernel_rfl) y4 ?_
                replace y4 := y4.row_ S1
                replace y5 := y5.mod (mod_setRow wa14 (wd2.heap.size) (stA S1)) (fun e => ne45 e.symm)
                replace hb := below_setRow hb (wd2.heap.size) (stA S1) nz_y4
                obtain ⟨ws15, hws⟩ : ∃ ws15, ws15 = wa14.setRow (wd2.heap.size) (stA S1) := ⟨_, rfl⟩
                rw [← hws] at y4 y5 hb ⊢
                clear hws
                refine hKK.out _ _ ?_ (fun hHeld => ?_)
                · exact (by first | exact hb | exact below_drew hb)
                clear hKK KK
                try simp only [Act.put]
                refine wpAnyH_ready (rs := [10]) (by kernel_rfl) (by simp) ?_
                refine AllReadyH.cons (by simp only [List.getElem?_toArray]; rfl) (fun KK hKK => ?_) AllReadyH.nil
                rw [if_pos (by kernel_rfl)]
                refine wp_stO (.tmp 12) (.tmp 36) rfl (wc13.heap.size) F.t sh3 F.e (by kernel_rfl) (by kernel_rfl) hs3 y5 ?_
                replace y5 := y5.row_ F.t sh3 F.e
                replace y4 := y4.mod (mod_setRow ws15 (wc13.heap.size) (otA F.t sh3 F.e)) ne45
                replace hb := below_setRow hb (wc13.heap.size) (otA F.t sh3 F.e) nz_y5
                obtain ⟨ws16, hws⟩ : ∃ ws16, ws16 = ws15.setRow (wc13.heap.size) (otA F.t sh3 F.e) := ⟨_, rfl⟩
                rw [← hws] at y4 y5 hb ⊢
                clear hws
                refine hKK.out _ _ ?_ (fun hHeld => ?_)
                · exact (by first | exact hb | exact below_drew hb)
                clear hKK KK
                try simp only [Act.put]
                refine wpAnyH_done (by kernel_rfl) ?_ _
                go_wp2_with fail
                go_meet
                exact ⟨_, _, rfl, rfl, y4, hb⟩
              · skip
                rw [if_pos (by kernel_rfl)]
                have ne45 : ¬ wd2.heap.size = wa12.heap.size := by have := y4.lt; omega
                have nz_y5 : wz.heap.size ≤ wa12.heap.size := hb.size
                refine wp_alO rfl ?_
                obtain ⟨wa17, hwa⟩ : ∃ wa17, wa17 = wa12.alloc (.cells (otA 0 (.slice none 0 0) 0) 52) := ⟨_, rfl⟩
                have h9 : Below wa12.heap.size wa12 wa17 := by rw [hwa]; exact below_alloc1 _ _
                have y5 : OBox wa17 (wa12.heap.size) 0 (.slice none 0 0) 0 := by rw [hwa]; exact OBox.new_ _ _ _ _
                rw [← hwa]
                clear hwa
                replace y4 := y4.ext h9
                replace hb := hb.trans (h9.mono hb.size)
                clear h9
                refine hKK.out _ _ ?_ (fun hHeld => ?_)
                · exact (by first | exact hb | exact below_drew hb)
                clear hKK KK
                try simp only [Act.put, List.setIfInBounds_toArray, List.set_cons_zero, List.set_cons_succ]
                refine wpAnyH_ready (rs := [3]) (by kernel_rfl) (by simp) ?_
                refine AllReadyH.cons (by simp only [List.getElem?_toArray]; rfl) (fun KK hKK => ?_) AllReadyH.nil
                rw [if_pos (by kernel_rfl)]
                refine wp_callF 17 #[.agg (gmA g s), .agg (stA st), .slice (some ⟨B + 3, 0, none⟩) 6 6] (by kernel_rfl) ?_
                refine (hP wa17 hb).mono ?_
                rintro e wc18 ⟨sh3, rfl, hsh, h9⟩
                have hs3 : sh3.oneCell' = true := by
                  rcases hsh.2 with ⟨rfl, -⟩ | ⟨_, _, _, rfl, -⟩ <;> rfl
                clear hsh
                replace y4 := y4.ext h9
                replace y5 := y5.ext h9
                replace hb := hb.trans (h9.mono hb.size)
                clear h9
                refine ⟨_, rfl, ?_⟩
                refine hKK.out _ _ ?_ (fun hHeld => ?_)
                · exact (by first | exact hb | exact below_drew hb)
                clear hKK KK
                try simp only [Act.put, List.setIfInBounds_toArray, List.set_cons_zero, List.set_cons_succ]
                refine wpAnyH_take (i := 4) (by simp only [List.getElem?_toArray]; rfl) (by kernel_rfl) (by kernel_rfl) (by kernel_rfl) (by exact fun _ _ _ h => h) (by exact yk (.tuple #[.agg (stA S1), .agg (otA F.t sh3 F.e)]) (by kernel_rfl) (fun _ => by kernel_rfl)) hHeld ?_
                try simp only [Act.put, List.setIfInBounds_toArray, List.set_cons_zero, List.set_cons_succ]
                refine wpAnyH_take (i := 5) (by simp only [List.getElem?_toArray]; rfl) (by kernel_rfl) (by kernel_rfl) (by kernel_rfl) (by exact fun _ _ _ h => h) (by exact yk (.agg (stA S1)) (by kernel_rfl) (fun _ => by kernel_rfl)) hHeld ?_
                try simp only [Act.put, List.setIfInBounds_toArray, List.set_cons_zero, List.set_cons_succ]
                refine wpAnyH_take (i := 6) (by simp only [List.getElem?_toArray]; rfl) (by kernel_rfl) (by kernel_rfl) (by kernel_rfl) (by exact fun _ _ _ h => h) (by exact yk (.agg (otA F.t sh3 F.e)) (by kernel_rfl) (fun _ => by kernel_rfl)) hHeld ?_
                try simp only [Act.put, List.setIfInBounds_toArray, List.set_cons_zero, List.set_cons_succ]
                refine wpAnyH_ready (rs := [9]) (by kernel_rfl) (by simp) ?_
                refine AllReadyH.cons (by simp only [List.getElem?_toArray]; rfl) (fun KK hKK => ?_) AllReadyH.nil
                rw [if_pos (by kernel_rfl)]
                refine wp_stS (.tmp 11) (.tmp 35) rfl (wd2.heap.size) S1 (by kernel_rfl) (by kernel_rfl) y4 ?_
                replace y4 := y4.row_ S1
                replace y5 := y5.mod (mod_setRow wc18 (wd2.heap.size) (stA S1)) (fun e => ne45 e.symm)
                replace hb := below_setRow hb (wd2.heap.size) (stA S1) nz_y4
                obtain ⟨ws19, hws⟩ : ∃ ws19, ws19 = wc18.setRow (wd2.heap.size) (stA S1) := ⟨_, rfl⟩
                rw [← hws] at y4 y5 hb ⊢
                clear hws
                refine hKK.out _ _ ?_ (fun hHeld => ?_)
                · exact (by first | exact hb | exact below_drew hb)
                clear hKK KK
                try simp only [Act.put]
                refine wpAnyH_ready (rs := [10]) (by kernel_rfl) (by simp) ?_
                refine AllReadyH.cons (by simp only [List.getElem?_toArray]; rfl) (fun KK hKK => ?_) AllReadyH.nil
                rw [if_pos (by kernel_rfl)]
                refine wp_stO (.tmp 12) (.tmp 36) rfl (wa12.heap.size) F.t sh3 F.e (by kernel_rfl) (by kernel_rfl) hs3 y5 ?_
                replace y5 := y5.row_ F.t sh3 F.e
                replace y4 := y4.mod (mod_setRow ws19 (wa12.heap.size) (otA F.t sh3 F.e)) ne45
                replace hb := below_setRow hb (wa12.heap.size) (otA F.t sh3 F.e) nz_y5
                obtain ⟨ws20, hws⟩ : ∃ ws20, ws20 = ws19.setRow (wa12.heap.size) (otA F.t sh3 F.e) := ⟨_, rfl⟩
                rw [← hws] at y4 y5 hb ⊢
                clear hws
                refine hKK.out _ _ ?_ (fun hHeld => ?_)
                · exact (by first | exact hb | exact below_drew hb)
                clear hKK KK
                try simp only [Act.put]
                refine wpAnyH_done (by kernel_rfl) ?_ _
                go_wp2_with fail
                go_meet
                exact ⟨_, _, rfl, rfl, y4, hb⟩
            · skip
              rw [if_pos (by kernel_rfl)]
              have nz_y5 : wz.heap.size ≤ wd2.heap.size := hb.size
              refine wp_alO rfl ?_
              obtain ⟨wa21, hwa⟩ : ∃ wa21, wa21 = wd2.alloc (.cells (otA 0 (.slice none 0 0) 0) 52) := ⟨_, rfl⟩
              have h9 : Below wd2.heap.size wd2 wa21 := by rw [hwa]; exact below_alloc1 _ _
              have y5 : OBox wa21 (wd2.heap.size) 0 (.slice none 0 0) 0 := by rw [hwa]; exact OBox.new_ _ _ _ _
              rw [← hwa]
              clear hwa
              replace hb := hb.trans (h9.mono hb.size)
              clear h9
              refine hKK.out _ _ ?_ (fun hHeld => ?_)
              · exact (by first | exact hb | exact below_drew hb)
              clear hKK KK
              try simp only [Act.put, List.setIfInBounds_toArray, List.set_cons_zero, List.set_cons_succ]
              refine wpAnyH_ready (rs := [3, 7]) (by kernel_rfl) (by simp) ?_
              refine AllReadyH.cons (by simp only [List.getElem?_toArray]; rfl) (fun KK hKK => ?_) (AllReadyH.cons (by simp only [List.getElem?_toArray]; rfl) (fun KK hKK => ?_) AllReadyH.nil)
              · skip
                rw [if_pos (by kernel_rfl)]
                refine wp_callF 17 #[.agg (gmA g s), .agg (stA st), .slice (some ⟨B + 3, 0, none⟩) 6 6] (by kernel_rfl) ?_
                refine (hP wa21 hb).mono ?_
                rintro e wc22 ⟨sh3, rfl, hsh, h9⟩
                have hs3 : sh3.oneCell' = true := by
                  rcases hsh.2 with ⟨rfl, -⟩ | ⟨_, _, _, rfl, -⟩ <;> rfl
                clear hsh
                replace y5 := y5.ext h9
                replace hb := hb.trans (h9.mono hb.size)
                clear h9
                refine ⟨_, rfl, ?_⟩
                refine hKK.out _ _ ?_ (fun hHeld => ?_)
                · exact (by first | exact hb | exact below_drew hb)
                clear hKK KK
                try simp only [Act.put, List.setIfInBounds_toArray, List.set_cons_zero, List.set_cons_succ]
                refine wpAnyH_take (i := 4) (by simp only [List.getElem?_toArray]; rfl) (by kernel_rfl) (by kernel_rfl) (by kernel_rfl) (by exact fun _ _ _ h => h) (by exact yk (.tuple #[.agg (stA S1), .agg (otA F.t sh3 F.e)]) (by kernel_rfl) (fun _ => by kernel_rfl)) hHeld ?_
                try simp only [Act.put, List.setIfInBounds_toArray, List.set_cons_zero, List.set_cons_succ]
                refine wpAnyH_take (i := 5) (by simp only [List.getElem?_toArray]; rfl) (by kernel_rfl) (by kernel_rfl) (by kernel_rfl) (by exact fun _ _ _ h => h) (by exact yk (.agg (stA S1)) (by kernel_rfl) (fun _ => by kernel_rfl)) hHeld ?_
                try simp only [Act.put, List.setIfInBounds_toArray, List.set_cons_zero, List.set_cons_succ]
                refine wpAnyH_take (i := 6) (by simp only [List.getElem?_toArray]; rfl) (by kernel_rfl) (by kernel_rfl) (by kernel_rfl) (by exact fun _ _ _ h => h) (by exact yk (.agg (otA F.t sh3 F.e)) (by kernel_rfl) (fun _ => by kernel_rfl)) hHeld ?_
                try simp only [Act.put, List.setIfInBounds_toArray, List.set_cons_zero, List.set_cons_succ]
                refine wpAnyH_ready (rs := [7]) (by kernel_rfl) (by simp) ?_
                refine AllReadyH.cons (by simp only [List.getElem?_toArray]; rfl) (fun KK hKK => ?_) AllReadyH.nil
                rw [if_pos (by kernel_rfl)]
                have ne45 : ¬ wc22.heap.size = wd2.heap.size := by have := y5.lt; omega
                have nz_y4 : wz.heap.size ≤ wc22.heap.size := hb.size
                refine wp_alSt rfl ?_
                obtain ⟨wa23, hwa⟩ : ∃ wa23, wa23 = wc22.alloc (.cells (stA zSt) 40) := ⟨_, rfl⟩
                have h9 : Below wc22.heap.size wc22 wa23 := by rw [hwa]; exact below_alloc1 _ _
                have y4 : BoxS wa23 (wc22.heap.size) zSt := by rw [hwa]; exact BoxS.new_ _ _
                rw [← hwa]
                clear hwa
                replace y5 := y5.ext h9
                replace hb := hb.trans (h9.mono hb.size)
                clear h9
                refine hKK.out _ _ ?_ (fun hHeld => ?_)
                · exact (by first | exact hb | exact below_drew hb)
                clear hKK KK
                try simp only [Act.put, List.setIfInBounds_toArray, List.set_cons_zero, List.set_cons_succ]
                refine wpAnyH_ready (rs := [9]) (by kernel_rfl) (by simp) ?_
                refine AllReadyH.cons (by simp only [List.getElem?_toArray]; rfl) (fun KK hKK => ?_) AllReadyH.nil
                rw [if_pos (by kernel_rfl)]
                refine wp_stS (.tmp 11) (.tmp 35) rfl (wc22.heap.size) S1 (by kernel_rfl) (by kernel_rfl) y4 ?_
                replace y4 := y4.row_ S1
                replace y5 := y5.mod (mod_setRow wa23 (wc22.heap.size) (stA S1)) (fun e => ne45 e.symm)
                replace hb := below_setRow hb (wc22.heap.size) (stA S1) nz_y4
                obtain ⟨ws24, hws⟩ : ∃ ws24, ws24 = wa23.setRow (wc22.heap.size) (stA S1) := ⟨_, rfl⟩
                rw [← hws] at y4 y5 hb ⊢
                clear hws
                refine hKK.out _ _ ?_ (fun hHeld => ?_)
                · exact (by first | exact hb | exact below_drew hb)
                clear hKK KK
                try simp only [Act.put]
                refine wpAnyH_ready (rs := [10]) (by kernel_rfl) (by simp) ?_
                refine AllReadyH.cons (by simp only [List.getElem?_toArray]; rfl) (fun KK hKK => ?_) AllReadyH.nil
                rw [if_pos (by kernel_rfl)]
                refine wp_stO (.tmp 12) (.tmp 36) rfl (wd2.heap.size) F.t sh3 F.e (by kernel_rfl) (by kernel_rfl) hs3 y5 ?_
                replace y5 := y5.row_ F.t sh3 F.e
                replace y4 := y4.mod (mod_setRow ws24 (wd2.heap.size) (otA F.t sh3 F.e)) ne45
                replace hb := below_setRow hb (wd2.heap.size) (otA F.t sh3 F.e) nz_y5
                obtain ⟨ws25, hws⟩ : ∃ ws25, ws25 = ws24.setRow (wd2.heap.size) (otA F.t sh3 F.e) := ⟨_, rfl⟩
                rw [← hws] at y4 y5 hb ⊢
                clear hws
                refine hKK.out _ _ ?_ (fun hHeld => ?_)
                · exact (by first | exact hb | exact below_drew hb)
                clear hKK KK
                try simp only [Act.put]
                refine wpAnyH_done (by kernel_rfl) ?_ _
                go_wp2_with fail
                go_meet
                exact ⟨_, _, rfl, rfl, y4, hb⟩
              · skip
                rw [if_pos (by kernel_rfl)]
                have ne45 : ¬ wa21.heap.size = wd2.heap.size := by have := y5.lt; omega
                have nz_y4 : wz.heap.size ≤ wa21.heap.size := hb.size
                refine wp_alSt rfl ?_
                obtain ⟨wa26, hwa⟩ : ∃ wa26, wa26 = wa21.alloc (.cells (stA zSt) 40) := ⟨_, rfl⟩
                have h9 : Below wa21.heap.size wa21 wa26 := by rw [hwa]; exact below_alloc1 _ _
                have y4 : BoxS wa26 (wa21.heap.size) zSt := by rw [hwa]; exact BoxS.new_ _ _
                rw [← hwa]
                clear hwa
                replace y5 := y5.ext h9
                replace hb := hb.trans (h9.mono hb.size)
                clear h9
                refine hKK.out _ _ ?_ (fun hHeld => ?_)
                · exact (by first | exact hb | exact below_drew hb)
                clear hKK KK
                try simp only [Act.put, List.setIfInBounds_toArray, List.set_cons_zero, List.set_cons_succ]
                refine wpAnyH_ready (rs := [3]) (by kernel_rfl) (by simp) ?_
                refine AllReadyH.cons (by simp only [List.getElem?_toArray]; rfl) (fun KK hKK => ?_) AllReadyH.nil
                rw [if_pos (by kernel_rfl)]
                refine wp_callF 17 #[.agg (gmA g s), .agg (stA st), .slice (some ⟨B + 3, 0, none⟩) 6 6] (by kernel_rfl) ?_
                refine (hP wa26 hb).mono ?_
                rintro e wc27 ⟨sh3, rfl, hsh, h9⟩
                have hs3 : sh3.oneCell' = true := by
                  rcases hsh.2 with ⟨rfl, -⟩ | ⟨_, _, _, rfl, -⟩ <;> rfl
                clear hsh
                replace y5 := y5.ext h9
                replace y4 := y4.ext h9
                replace hb := hb.trans (h9.mono hb.size)
                clear h9
                refine ⟨_, rfl, ?_⟩
                refine hKK.out _ _ ?_ (fun hHeld => ?_)
                · exact (by first | exact hb | exact below_drew hb)
                clear hKK KK
                try simp only [Act.put, List.setIfInBounds_toArray, List.set_cons_zero, List.set_cons_succ]
                refine wpAnyH_take (i := 4) (by simp only [List.getElem?_toArray]; rfl) (by kernel_rfl) (by kernel_rfl) (by kernel_rfl) (by exact fun _ _ _ h => h) (by exact yk (.tuple #[.agg (stA S1), .agg (otA F.t sh3 F.e)]) (by kernel_rfl) (fun _ => by kernel_rfl)) hHeld ?_
                try simp only [Act.put, List.setIfInBounds_toArray, List.set_cons_zero, List.set_cons_succ]
                refine wpAnyH_take (i := 5) (by simp only [List.getElem?_toArray]; rfl) (by kernel_rfl) (by kernel_rfl) (by kernel_rfl) (by exact fun _ _ _ h => h) (by exact yk (.agg (stA S1)) (by kernel_rfl) (fun _ => by kernel_rfl)) hHeld ?_
                try simp only [Act.put, List.setIfInBounds_toArray, List.set_cons_zero, List.set_cons_succ]
                refine wpAnyH_take (i := 6) (by simp only [List.getElem?_toArray]; rfl) (by kernel_rfl) (by kernel_rfl) (by kernel_rfl) (by exact fun _ _ _ h => h) (by exact yk (.agg (otA F.t sh3 F.e)) (by kernel_rfl) (fun _ => by kernel_rfl)) hHeld ?_
                try simp only [Act.put, List.setIfInBounds_toArray, List.set_cons_zero, List.set_cons_succ]
                refine wpAnyH_ready (rs := [9]) (by kernel_rfl) (by simp) ?_
                refine AllReadyH.cons (by simp only [List.getElem?_toArray]; rfl) (fun KK hKK => ?_) AllReadyH.nil
                rw [if_pos (by kernel_rfl)]
                refine wp_stS (.tmp 11) (.tmp 35) rfl (wa21.heap.size) S1 (by kernel_rfl) (by kernel_rfl) y4 ?_
                replace y4 := y4.row_ S1
                replace y5 := y5.mod (mod_setRow wc27 (wa21.heap.size) (stA S1)) (fun e => ne45 e.symm)
                replace hb := below_setRow hb (wa21.heap.size) (stA S1) nz_y4
                obtain ⟨ws28, hws⟩ : ∃ ws28, ws28 = wc27.setRow (wa21.heap.size) (stA S1) := ⟨_, rfl⟩
                rw [← hws] at y4 y5 hb ⊢
                clear hws
                refine hKK.out _ _ ?_ (fun hHeld => ?_)
                · exact (by first | exact hb | exact below_drew hb)
                clear hKK KK
                try simp only [Act.put]
                refine wpAnyH_ready (rs := [10]) (by kernel_rfl) (by simp) ?_
                refine AllReadyH.cons (by simp only [List.getElem?_toArray]; rfl) (fun KK hKK => ?_) AllReadyH.nil
                rw [if_pos (by kernel_rfl)]
                refine wp_stO (.tmp 12) (.tmp 36) rfl (wd2.heap.size) F.t sh3 F.e (by kernel_rfl) (by kernel_rfl) hs3 y5 ?_
                replace y5 := y5.row_ F.t sh3 F.e
                replace y4 := y4.mod (mod_setRow ws28 (wd2.heap.size) (otA F.t sh3 F.e)) ne45
                replace hb := below_setRow hb (wd2.heap.size) (otA F.t sh3 F.e) nz_y5
                obtain ⟨ws29, hws⟩ : ∃ ws29, ws29 = ws28.setRow (wd2.heap.size) (otA F.t sh3 F.e) := ⟨_, rfl⟩
                rw [← hws] at y4 y5 hb ⊢
                clear hws
                refine hKK.out _ _ ?_ (fun hHeld => ?_)
                · exact (by first | exact hb | exact below_drew hb)
                clear hKK KK
                try simp only [Act.put]
                refine wpAnyH_done (by kernel_rfl) ?_ _
                go_wp2_with fail
                go_meet
                exact ⟨_, _, rfl, rfl, y4, hb⟩
          case rest =>
            obtain ⟨K1, wy, rfl, rfl, hk1, hby⟩ := hcut
            have q8 := q8.ext hby
            have hbz := hbz.trans (hby.mono (by omega))
            go_wp2_with ((with_reducible refine at_ld 40 11 ?_); refine wpList_ldS rfl (.tmp 11) rfl K1 rfl hk1 ?_)
            refine (hV _).mono ?_
            rintro e wv ⟨rfl, h1⟩
            have q8 := q8.ext h1
            have hbz := hbz.trans (h1.mono (by have := hby.size; omega))
            go_wp2_with ((with_reducible refine at_st 40 8 39 ?_); refine wpList_stS rfl (.tmp 8) (.tmp 39) rfl (B + 2) VW rfl rfl zSt q8 ?_)
            exact bodyPost_ret (results_cell_row (P := Tryd.prog) rfl _ _ (B + 2) _ _ (0, 0) _ rfl (q8.row_ VW) Tryd.underlying40 rfl (by rw [stA_size]; kernel_rfl)) rfl ⟨rfl, by rw [← HB.out]; exact below_setRow hbz _ _ (by omega)⟩
        · have e1 : (0 : Int) ≤ o := h0
          have e2 : ¬ o < 6 := h6
          have hs : AB wq (B + 3) M := by
            rw [HM.out]
            unfold predM
            rw [if_neg (fun h => h6 h.2)]
            exact hq
          have hm2 := hmw
          clear h0 h6 hq hmw
          go_upto_region 9 with fail
          obtain ⟨wz, hwz⟩ : ∃ wz, wz = wq := ⟨_, rfl⟩
          rw [← hwz] at hs hm2 q3 ⊢
          clear hwz
          have q4 := q4.mod hm2 (by show ¬ B + 1 = B + 3; omega)
          have q8 := q8.mod hm2 (by show ¬ B + 2 = B + 3; omega)
          have hbz : Below B w wz := hb.trans (hm2.below (by omega) (fun i hi e => by have e : i = B + 3 := e; omega))
          have hbZ : Below w.heap.size w wz := by rw [← HB.out]; exact hbz
          have hP := fun W (h : Below wz.heap.size wz W) => hP W (B + 3) (some ⟨B + 3, 0, none⟩) ((HIN.out.ext hbZ).ext h) ((HT.out.ext hbZ).ext h) (Sl.ext hs.sl h)
          have hlz : B + 3 < wz.heap.size := hs.lt
          clear hbZ hs hm2
          go_cut [11] (fun p w9 => ∃ (K1 : Nat) (wy : World), wy = w9 ∧ p = .pointer (some ⟨K1, 0, none⟩) ∧ BoxS wy K1 S1 ∧ Below wz.heap.size wz wy)
          case first =>
            have hb9 := hb
            have hb := Below.refl wz.heap.size wz
            go_wp2_with fail
            refine wp_region_held_drew (S := fun w9 => Below wz.heap.size wz w9) (by kernel_rfl) ?_ (fun hHeld => ?_)
            · exact (by first | exact hb | exact below_drew hb)
            obtain ⟨wd2, hwd2⟩ : ∃ wd2, wd2 = World.drew wz := ⟨_, rfl⟩
            have h9 : Below wz.heap.size wz wd2 := by rw [hwd2]; exact below_drew (Below.refl _ _)
            rw [← hwd2] at hHeld ⊢
            replace hb := hb.trans (h9.mono hb.size)
            clear h9
            clear hwd2
            refine wpAnyH_take (i := 0) (by simp only [List.getElem?_toArray]; rfl) (by kernel_rfl) (by kernel_rfl) (by kernel_rfl) (by exact fun _ _ _ h => h) (by exact yk_ldG (by kernel_rfl) (.tmp 4) rfl B g s (by kernel_rfl) (fun _ h => q3.ext h)) hHeld ?_
            try simp only [Act.put, List.setIfInBounds_toArray, List.set_cons_zero, List.set_cons_succ]
            refine wpAnyH_take (i := 1) (by simp only [List.getElem?_toArray]; rfl) (by kernel_rfl) (by kernel_rfl) (by kernel_rfl) (by exact fun _ _ _ h => h) (by exact yieldsIf_ldS (by kernel_rfl) (.tmp 5) rfl (B + 1) (by kernel_rfl) (fun _ h => q4.ext h)) hHeld ?_
            try simp only [Act.put, List.setIfInBounds_toArray, List.set_cons_zero, List.set_cons_succ]
            refine wpAnyH_take (i := 2) (by simp only [List.getElem?_toArray]; rfl) (by kernel_rfl) (by kernel_rfl) (by kernel_rfl) (by exact fun _ _ _ h => h) (by exact yk (.slice (some ⟨B + 3, 0, none⟩) 6 6) (by kernel_rfl) (fun _ => by kernel_rfl)) hHeld ?_
            try simp only [Act.put, List.setIfInBounds_toArray, List.set_cons_zero, List.set_cons_succ]
            refine wpAnyH_ready (rs := [3, 7, 8]) (by kernel_rfl) (by simp) ?_
            refine AllReadyH.cons (by simp only [List.getElem?_toArray]; rfl) (fun KK hKK => ?_) (AllReadyH.cons (by simp only [List.getElem?_toArray]; rfl) (fun KK hKK => ?_) (AllReadyH.cons (by simp only [List.getElem?_toArray]; rfl) (fun KK hKK => ?_) AllReadyH.nil))
            · skip
              rw [if_pos (by kernel_rfl)]
              refine wp_callF 17 #[.agg (gmA g s), .agg (stA st), .slice (some ⟨B + 3, 0, none⟩) 6 6] (by kernel_rfl) ?_
              refine (hP wd2 hb).mono ?_
              rintro e wc3 ⟨sh3, rfl, hsh, h9⟩
              have hs3 : sh3.oneCell' = true := by
                rcases hsh.2 with ⟨rfl, -⟩ | ⟨_, _, _, rfl, -⟩ <;> rfl
              clear hsh
              replace hb := hb.trans (h9.mono hb.size)
              clear h9
              refine ⟨_, rfl, ?_⟩
              refine hKK.out _ _ ?_ (fun hHeld => ?_)
              · exact (by first | exact hb | exact below_drew hb)
              clear hKK KK
              try simp only [Act.put, List.setIfInBounds_toArray, List.set_cons_zero, List.set_cons_succ]
              refine wpAnyH_take (i := 4) (by simp only [List.getElem?_toArray]; rfl) (by kernel_rfl) (by kernel_rfl) (by kernel_rfl) (by exact fun _ _ _ h => h) (by exact yk (.tuple #[.agg (stA S1), .agg (otA F.t sh3 F.e)]) (by kernel_rfl) (fun _ => by kernel_rfl)) hHeld ?_
              try simp only [Act.put, List.setIfInBounds_toArray, List.set_cons_zero, List.set_cons_succ]
              refine wpAnyH_take (i := 5) (by simp only [List.getElem?_toArray]; rfl) (by kernel_rfl) (by kernel_rfl) (by kernel_rfl) (by exact fun _ _ _ h => h) (by exact yk (.agg (stA S1)) (by kernel_rfl) (fun _ => by kernel_rfl)) hHeld ?_
              try simp only [Act.put, List.setIfInBounds_toArray, List.set_cons_zero, List.set_cons_succ]
              refine wpAnyH_take (i := 6) (by simp only [List.getElem?_toArray]; rfl) (by kernel_rfl) (by kernel_rfl) (by kernel_rfl) (by exact fun _ _ _ h => h) (by exact yk (.agg (otA F.t sh3 F.e)) (by kernel_rfl) (fun _ => by kernel_rfl)) hHeld ?_
              try simp only [Act.put, List.setIfInBounds_toArray, List.set_cons_zero, List.set_cons_succ]
              refine wpAnyH_ready (rs := [7, 8]) (by kernel_rfl) (by simp) ?_
              refine AllReadyH.cons (by simp only [List.getElem?_toArray]; rfl) (fun KK hKK => ?_) (AllReadyH.cons (by simp only [List.getElem?_toArray]; rfl) (fun KK hKK => ?_) AllReadyH.nil)
              · skip
                rw [if_pos (by kernel_rfl)]
                have nz_y4 : wz.heap.size ≤ wc3.heap.size := hb.size
                refine wp_alSt rfl ?_
                obtain ⟨wa4, hwa⟩ : ∃ wa4, wa4 = wc3.alloc (.cells (stA zSt) 40) := ⟨_, rfl⟩
                have h9 : Below wc3.heap.size wc3 wa4 := by rw [hwa]; exact below_alloc1 _ _
                have y4 : BoxS wa4 (wc3.heap.size) zSt := by rw [hwa]; exact BoxS.new_ _ _
                rw [← hwa]
                clear hwa
                replace hb := hb.trans (h9.mono hb.size)
                clear h9
                refine hKK.out _ _ ?_ (fun hHeld => ?_)
                · exact (by first | exact hb | exact below_drew hb)
                clear hKK KK
                try simp only [Act.put, List.setIfInBounds_toArray, List.set_cons_zero, List.set_cons_succ]
                refine wpAnyH_ready (rs := [8]) (by kernel_rfl) (by simp) ?_
                refine AllReadyH.cons (by simp only [List.getElem?_toArray]; rfl) (fun KK hKK => ?_) AllReadyH.nil
                rw [if_pos (by kernel_rfl)]
                have ne45 : ¬ wc3.heap.size = wa4.heap.size := by have := y4.lt; omega
                have nz_y5 : wz.heap.size ≤ wa4.heap.size := hb.size
                refine wp_alO rfl ?_
                obtain ⟨wa5, hwa⟩ : ∃ wa5, wa5 = wa4.alloc (.cells (otA 0 (.slice none 0 0) 0) 52) := ⟨_, rfl⟩
                have h9 : Below wa4.heap.size wa4 wa5 := by rw [hwa]; exact below_alloc1 _ _
                have y5 : OBox wa5 (wa4.heap.size) 0 (.slice none 0 0) 0 := by rw [hwa]; exact OBox.new_ _ _ _ _
                rw [← hwa]
                clear hwa
                replace y4 := y4.ext h9
                replace hb := hb.trans (h9.mono hb.size)
                clear h9
                refine hKK.out _ _ ?_ (fun hHeld => ?_)
                · exact (by first | exact hb | exact below_drew hb)
                clear hKK KK
                try simp only [Act.put, List.setIfInBounds_toArray, List.set_cons_zero, List.set_cons_succ]
                refine wpAnyH_ready (rs := [9]) (by kernel_rfl) (by simp) ?_
                refine AllReadyH.cons (by simp only [List.getElem?_toArray]; rfl) (fun KK hKK => ?_) AllReadyH.nil
                rw [if_pos (by kernel_rfl)]
                refine wp_stS (.tmp 11) (.tmp 35) rfl (wc3.heap.size) S1 (by kernel_rfl) (by kernel_rfl) y4 ?_
                replace y4 := y4.row_ S1
                replace y5 := y5.mod (mod_setRow wa5 (wc3.heap.size) (stA S1)) (fun e => ne45 e.symm)
                replace hb := below_setRow hb (wc3.heap.size) (stA S1) nz_y4
                obtain ⟨ws6, hws⟩ : ∃ ws6, ws6 = wa5.setRow (wc3.heap.size) (stA S1) := ⟨_, rfl⟩
                rw [← hws] at y4 y5 hb ⊢
                clear hws
                refine hKK.out _ _ ?_ (fun hHeld => ?_)
                · exact (by first | exact hb | exact below_drew hb)
                clear hKK KK
                try simp only [Act.put]
                refine wpAnyH_ready (rs := [10]) (by kernel_rfl) (by simp) ?_
                refine AllReadyH.cons (by simp only [List.getElem?_toArray]; rfl) (fun KK hKK => ?_) AllReadyH.nil
                rw [if_pos (by kernel_rfl)]
                refine wp_stO (.tmp 12) (.tmp 36) rfl (wa4.heap.size) F.t sh3 F.e (by kernel_rfl) (by kernel_rfl) hs3 y5 ?_
                replace y5 := y5.row_ F.t sh3 F.e
                replace y4 := y4.mod (mod_setRow ws6 (wa4.heap.size) (otA F.t sh3 F.e)) ne45
                replace hb := below_setRow hb (wa4.heap.size) (otA F.t sh3 F.e) nz_y5
                obtain ⟨ws7, hws⟩ : ∃ ws7, ws7 = ws6.setRow (wa4.heap.size) (otA F.t sh3 F.e) := ⟨_, rfl⟩
                rw [← hws] at y4 y5 hb ⊢
                clear hws
                refine hKK.out _ _ ?_ (fun hHeld => ?_)
                · exact (by first | exact hb | exact below_drew hb)
                clear hKK KK
                try simp only [Act.put]
                refine wpAnyH_done (by kernel_rfl) ?_ _
                go_wp2_with fail
                go_meet
                exact ⟨_, _, rfl, rfl, y4, hb⟩
              · skip
                rw [if_pos (by kernel_rfl)]
                have nz_y5 : wz.heap.size ≤ wc3.heap.size := hb.size
                refine wp_alO rfl ?_
                obtain ⟨wa8, hwa⟩ : ∃ wa8, wa8 = wc3.alloc (.cells (otA 0 (.slice none 0 0) 0) 52) := ⟨_, rfl⟩
                have h9 : Below wc3.heap.size wc3 wa8 := by rw [hwa]; exact below_alloc1 _ _
                have y5 : OBox wa8 (wc3.heap.size) 0 (.slice none 0 0) 0 := by rw [hwa]; exact OBox.new_ _ _ _ _
                rw [← hwa]
                clear hwa
                replace hb := hb.trans (h9.mono hb.size)
                clear h9
                refine hKK.out _ _ ?_ (fun hHeld => ?_)
                · exact (by first | exact hb | exact below_drew hb)
                clear hKK KK
                try simp only [Act.put, List.setIfInBounds_toArray, List.set_cons_zero, List.set_cons_succ]
                refine wpAnyH_ready (rs := [7]) (by kernel_rfl) (by simp) ?_
                refine AllReadyH.cons (by simp only [List.getElem?_toArray]; rfl) (fun KK hKK => ?_) AllReadyH.nil
                rw [if_pos (by kernel_rfl)]
                have ne45 : ¬ wa8.heap.size = wc3.heap.size := by have := y5.lt; omega
                have nz_y4 : wz.heap.size ≤ wa8.heap.size := hb.size
                refine wp_alSt rfl ?_
                obtain ⟨wa9, hwa⟩ : ∃ wa9, wa9 = wa8.alloc (.cells (stA zSt) 40) := ⟨_, rfl⟩
                have h9 : Below wa8.heap.size wa8 wa9 := by rw [hwa]; exact below_alloc1 _ _
                have y4 : BoxS wa9 (wa8.heap.size) zSt := by rw [hwa]; exact BoxS.new_ _ _
                rw [← hwa]
                clear hwa
                replace y5 := y5.ext h9
                replace hb := hb.trans (h9.mono hb.size)
                clear h9
                refine hKK.out _ _ ?_ (fun hHeld => ?_)
                · exact (by first | exact hb | exact below_drew hb)
                clear hKK KK
                try simp only [Act.put, List.setIfInBounds_toArray, List.set_cons_zero, List.set_cons_succ]
                refine wpAnyH_ready (rs := [9]) (by kernel_rfl) (by simp) ?_
                refine AllReadyH.cons (by simp only [List.getElem?_toArray]; rfl) (fun KK hKK => ?_) AllReadyH.nil
                rw [if_pos (by kernel_rfl)]
                refine wp_stS (.tmp 11) (.tmp 35) rfl (wa8.heap.size) S1 (by kernel_rfl) (by kernel_rfl) y4 ?_
                replace y4 := y4.row_ S1
                replace y5 := y5.mod (mod_setRow wa9 (wa8.heap.size) (stA S1)) (fun e => ne45 e.symm)
                replace hb := below_setRow hb (wa8.heap.size) (stA S1) nz_y4
                obtain ⟨ws10, hws⟩ : ∃ ws10, ws10 = wa9.setRow (wa8.heap.size) (stA S1) := ⟨_, rfl⟩
                rw [← hws] at y4 y5 hb ⊢
                clear hws
                refine hKK.out _ _ ?_ (fun hHeld => ?_)
                · exact (by first | exact hb | exact below_drew hb)
                clear hKK KK
                try simp only [Act.put]
                refine wpAnyH_ready (rs := [10]) (by kernel_rfl) (by simp) ?_
                refine AllReadyH.cons (by simp only [List.getElem?_toArray]; rfl) (fun KK hKK => ?_) AllReadyH.nil
                rw [if_pos (by kernel_rfl)]
                refine wp_stO (.tmp 12) (.tmp 36) rfl (wc3.heap.size) F.t sh3 F.e (by kernel_rfl) (by kernel_rfl) hs3 y5 ?_
                replace y5 := y5.row_ F.t sh3 F.e
                replace y4 := y4.mod (mod_setRow ws10 (wc3.heap.size) (otA F.t sh3 F.e)) ne45
                replace hb := below_setRow hb (wc3.heap.size) (otA F.t sh3 F.e) nz_y5
                obtain ⟨ws11, hws⟩ : ∃ ws11, ws11 = ws10.setRow (wc3.heap.size) (otA F.t sh3 F.e) := ⟨_, rfl⟩
                rw [← hws] at y4 y5 hb ⊢
                clear hws
                refine hKK.out _ _ ?_ (fun hHeld => ?_)
                · exact (by first | exact hb | exact below_drew hb)
                clear hKK KK
                try simp only [Act.put]
                refine wpAnyH_done (by kernel_rfl) ?_ _
                go_wp2_with fail
                go_meet
                exact ⟨_, _, rfl, rfl, y4, hb⟩
            · skip
              rw [if_pos (by kernel_rfl)]
              have nz_y4 : wz.heap.size ≤ wd2.heap.size := hb.size
              refine wp_alSt rfl ?_
              obtain ⟨wa12, hwa⟩ : ∃ wa12, wa12 = wd2.alloc (.cells (stA zSt) 40) := ⟨_, rfl⟩
              have h9 : Below wd2.heap.size wd2 wa12 := by rw [hwa]; exact below_alloc1 _ _
              have y4 : BoxS wa12 (wd2.heap.size) zSt := by rw [hwa]; exact BoxS.new_ _ _
              rw [← hwa]
              clear hwa
              replace hb := hb.trans (h9.mono hb.size)
              clear h9
              refine hKK.out _ _ ?_ (fun hHeld => ?_)
              · exact (by first | exact hb | exact below_drew hb)
              clear hKK KK
              try simp only [Act.put, List.setIfInBounds_toArray, List.set_cons_zero, List.set_cons_succ]
              refine wpAnyH_ready (rs := [3, 8]) (by kernel_rfl) (by simp) ?_
              refine AllReadyH.cons (by simp only [List.getElem?_toArray]; rfl) (fun KK hKK => ?_) (AllReadyH.cons (by simp only [List.getElem?_toArray]; rfl) (fun KK hKK => ?_) AllReadyH.nil)
              · skip
                rw [if_pos (by kernel_rfl)]
                refine wp_callF 17 #[.agg (gmA g s), .agg (stA st), .slice (some ⟨B + 3, 0, none⟩) 6 6] (by kernel_rfl) ?_
                refine (hP wa12 hb).mono ?_
                rintro e wc13 ⟨sh3, rfl, hsh, h9⟩
                have hs3 : sh3.oneCell' = true := by
                  rcases hsh.2 with ⟨rfl, -⟩ | ⟨_, _, _, rfl, -⟩ <;> rfl
                clear hsh
                replace y4 := y4.ext h9
                replace hb := hb.trans (h9.mono hb.size)
                clear h9
                refine ⟨_, rfl, ?_⟩
                refine hKK.out _ _ ?_ (fun hHeld => ?_)
                · exact (by first | exact hb | exact below_drew hb)
                clear hKK KK
                try simp only [Act.put, List.setIfInBounds_toArray, List.set_cons_zero, List.set_cons_succ]
                refine wpAnyH_take (i := 4) (by simp only [List.getElem?_toArray]; rfl) (by kernel_rfl) (by kernel_rfl) (by kernel_rfl) (by exact fun _ _ _ h => h) (by exact yk (.tuple #[.agg (stA S1), .agg (otA F.t sh3 F.e)]) (by kernel_rfl) (fun _ => by kernel_rfl)) hHeld ?_
                try simp only [Act.put, List.setIfInBounds_toArray, List.set_cons_zero, List.set_cons_succ]
                refine wpAnyH_take (i := 5) (by simp only [List.getElem?_toArray]; rfl) (by kernel_rfl) (by kernel_rfl) (by kernel_rfl) (by exact fun _ _ _ h => h) (by exact yk (.agg (stA S1)) (by kernel_rfl) (fun _ => by kernel_rfl)) hHeld ?_
                try simp only [Act.put, List.setIfInBounds_toArray, List.set_cons_zero, List.set_cons_succ]
                refine wpAnyH_take (i := 6) (by simp only [List.getElem?_toArray]; rfl) (by kernel_rfl) (by kernel_rfl) (by kernel_rfl) (by exact fun _ _ _ h => h) (by exact yk (.agg (otA F.t sh3 F.e)) (by kernel_rfl) (fun _ => by kernel_rfl)) hHeld ?_
                try simp only [Act.put, List.setIfInBounds_toArray, List.set_cons_zero, List.set_cons_succ]
                refine wpAnyH_ready (rs := [8]) (by kernel_rfl) (by simp) ?_
                refine AllReadyH.cons (by simp only [List.getElem?_toArray]; rfl) (fun KK hKK => ?_) AllReadyH.nil
                rw [if_pos (by kernel_rfl)]
                have ne45 : ¬ wd2.heap.size = wc13.heap.size := by have := y4.lt; omega
                have nz_y5 : wz.heap.size ≤ wc13.heap.size := hb.size
                refine wp_alO rfl ?_
                obtain ⟨wa14, hwa⟩ : ∃ wa14, wa14 = wc13.alloc (.cells (otA 0 (.slice none 0 0) 0) 52) := ⟨_, rfl⟩
                have h9 : Below wc13.heap.size wc13 wa14 := by rw [hwa]; exact below_alloc1 _ _
                have y5 : OBox wa14 (wc13.heap.size) 0 (.slice none 0 0) 0 := by rw [hwa]; exact OBox.new_ _ _ _ _
                rw [← hwa]
                clear hwa
                replace y4 := y4.ext h9
                replace hb := hb.trans (h9.mono hb.size)
                clear h9
                refine hKK.out _ _ ?_ (fun hHeld => ?_)
                · exact (by first | exact hb | exact below_drew hb)
                clear hKK KK
                try simp only [Act.put, List.setIfInBounds_toArray, List.set_cons_zero, List.set_cons_succ]
                refine wpAnyH_ready (rs := [9]) (by kernel_rfl) (by simp) ?_
                refine AllReadyH.cons (by simp only [List.getElem?_toArray]; rfl) (fun KK hKK => ?_) AllReadyH.nil
                rw [if_pos (by kernel_rfl)]
                refine wp_stS (.tmp 11) (.tmp 35) rfl (wd2.heap.size) S1 (by kernel_rfl) (by kernel_rfl) y4 ?_
                replace y4 := y4.row_ S1
                replace y5 := y5.mod (mod_setRow wa14 (wd2.heap.size) (stA S1)) (fun e => ne45 e.symm)
                replace hb := below_setRow hb (wd2.heap.size) (stA S1) nz_y4
                obtain ⟨ws15, hws⟩ : ∃ ws15, ws15 = wa14.setRow (wd2.heap.size) (stA S1) := ⟨_, rfl⟩
                rw [← hws] at y4 y5 hb ⊢
                clear hws
                refine hKK.out _ _ ?_ (fun hHeld => ?_)
                · exact (by first | exact hb | exact below_drew hb)
                clear hKK KK
                try simp only [Act.put]
                refine wpAnyH_ready (rs := [10]) (by kernel_rfl) (by simp) ?_
                refine AllReadyH.cons (by simp only [List.getElem?_toArray]; rfl) (fun KK hKK => ?_) AllReadyH.nil
                rw [if_pos (by kernel_rfl)]
                refine wp_stO (.tmp 12) (.tmp 36) rfl (wc13.heap.size) F.t sh3 F.e (by kernel_rfl) (by kernel_rfl) hs3 y5 ?_
                replace y5 := y5.row_ F.t sh3 F.e
                replace y4 := y4.mod (mod_setRow ws15 (wc13.heap.size) (otA F.t sh3 F.e)) ne45
                replace hb := below_setRow hb (wc13.heap.size) (otA F.t sh3 F.e) nz_y5
                obtain ⟨ws16, hws⟩ : ∃ ws16, ws16 = ws15.setRow (wc13.heap.size) (otA F.t sh3 F.e) := ⟨_, rfl⟩
                rw [← hws] at y4 y5 hb ⊢
                clear hws
                refine hKK.out _ _ ?_ (fun hHeld => ?_)
                · exact (by first | exact hb | exact below_drew hb)
                clear hKK KK
                try simp only [Act.put]
                refine wpAnyH_done (by kernel_rfl) ?_ _
                go_wp2_with fail
                go_meet
                exact ⟨_, _, rfl, rfl, y4, hb⟩
              · skip
                rw [if_pos (by kernel_rfl)]
                have ne45 : ¬ wd2.heap.size = wa12.heap.size := by have := y4.lt; omega
                have nz_y5 : wz.heap.size ≤ wa12.heap.size := hb.size
                refine wp_alO rfl ?_
                obtain ⟨wa17, hwa⟩ : ∃ wa17, wa17 = wa12.alloc (.cells (otA 0 (.slice none 0 0) 0) 52) := ⟨_, rfl⟩
                have h9 : Below wa12.heap.size wa12 wa17 := by rw [hwa]; exact below_alloc1 _ _
                have y5 : OBox wa17 (wa12.heap.size) 0 (.slice none 0 0) 0 := by rw [hwa]; exact OBox.new_ _ _ _ _
                rw [← hwa]
                clear hwa
                replace y4 := y4.ext h9
                replace hb := hb.trans (h9.mono hb.size)
                clear h9
                refine hKK.out _ _ ?_ (fun hHeld => ?_)
                · exact (by first | exact hb | exact below_drew hb)
                clear hKK KK
                try simp only [Act.put, List.setIfInBounds_toArray, List.set_cons_zero, List.set_cons_succ]
                refine wpAnyH_ready (rs := [3]) (by kernel_rfl) (by simp) ?_
                refine AllReadyH.cons (by simp only [List.getElem?_toArray]; rfl) (fun KK hKK => ?_) AllReadyH.nil
                rw [if_pos (by kernel_rfl)]
                refine wp_callF 17 #[.agg (gmA g s), .agg (stA st), .slice (some ⟨B + 3, 0, none⟩) 6 6] (by kernel_rfl) ?_
                refine (hP wa17 hb).mono ?_
                rintro e wc18 ⟨sh3, rfl, hsh, h9⟩
                have hs3 : sh3.oneCell' = true := by
                  rcases hsh.2 with ⟨rfl, -⟩ | ⟨_, _, _, rfl, -⟩ <;> rfl
                clear hsh
                replace y4 := y4.ext h9
                replace y5 := y5.ext h9
                replace hb := hb.trans (h9.mono hb.size)
                clear h9
                refine ⟨_, rfl, ?_⟩
                refine hKK.out _ _ ?_ (fun hHeld => ?_)
                · exact (by first | exact hb | exact below_drew hb)
                clear hKK KK
                try simp only [Act.put, List.setIfInBounds_toArray, List.set_cons_zero, List.set_cons_succ]
                refine wpAnyH_take (i := 4) (by simp only [List.getElem?_toArray]; rfl) (by kernel_rfl) (by kernel_rfl) (by kernel_rfl) (by exact fun _ _ _ h => h) (by exact yk (.tuple #[.agg (stA S1), .agg (otA F.t sh3 F.e)]) (by kernel_rfl) (fun _ => by kernel_rfl)) hHeld ?_
                try simp only [Act.put, List.setIfInBounds_toArray, List.set_cons_zero, List.set_cons_succ]
                refine wpAnyH_take (i := 5) (by simp only [List.getElem?_toArray]; rfl) (by kernel_rfl) (by kernel_rfl) (by kernel_rfl) (by exact fun _ _ _ h => h) (by exact yk (.agg (stA S1)) (by kernel_rfl) (fun _ => by kernel_rfl)) hHeld ?_
                try simp only [Act.put, List.setIfInBounds_toArray, List.set_cons_zero, List.set_cons_succ]
                refine wpAnyH_take (i := 6) (by simp only [List.getElem?_toArray]; rfl) (by kernel_rfl) (by kernel_rfl) (by kernel_rfl) (by exact fun _ _ _ h => h) (by exact yk (.agg (otA F.t sh3 F.e)) (by kernel_rfl) (fun _ => by kernel_rfl)) hHeld ?_
                try simp only [Act.put, List.setIfInBounds_toArray, List.set_cons_zero, List.set_cons_succ]
                refine wpAnyH_ready (rs := [9]) (by kernel_rfl) (by simp) ?_
                refine AllReadyH.cons (by simp only [List.getElem?_toArray]; rfl) (fun KK hKK => ?_) AllReadyH.nil
                rw [if_pos (by kernel_rfl)]
                refine wp_stS (.tmp 11) (.tmp 35) rfl (wd2.heap.size) S1 (by kernel_rfl) (by kernel_rfl) y4 ?_
                replace y4 := y4.row_ S1
                replace y5 := y5.mod (mod_setRow wc18 (wd2.heap.size) (stA S1)) (fun e => ne45 e.symm)
                replace hb := below_setRow hb (wd2.heap.size) (stA S1) nz_y4
                obtain ⟨ws19, hws⟩ : ∃ ws19, ws19 = wc18.setRow (wd2.heap.size) (stA S1) := ⟨_, rfl⟩
                rw [← hws] at y4 y5 hb ⊢
                clear hws
                refine hKK.out _ _ ?_ (fun hHeld => ?_)
                · exact (by first | exact hb | exact below_drew hb)
                clear hKK KK
                try simp only [Act.put]
                refine wpAnyH_ready (rs := [10]) (by kernel_rfl) (by simp) ?_
                refine AllReadyH.cons (by simp only [List.getElem?_toArray]; rfl) (fun KK hKK => ?_) AllReadyH.nil
                rw [if_pos (by kernel_rfl)]
                refine wp_stO (.tmp 12) (.tmp 36) rfl (wa12.heap.size) F.t sh3 F.e (by kernel_rfl) (by kernel_rfl) hs3 y5 ?_
                replace y5 := y5.row_ F.t sh3 F.e
                replace y4 := y4.mod (mod_setRow ws19 (wa12.heap.size) (otA F.t sh3 F.e)) ne45
                replace hb := below_setRow hb (wa12.heap.size) (otA F.t sh3 F.e) nz_y5
                obtain ⟨ws20, hws⟩ : ∃ ws20, ws20 = ws19.setRow (wa12.heap.size) (otA F.t sh3 F.e) := ⟨_, rfl⟩
                rw [← hws] at y4 y5 hb ⊢
                clear hws
                refine hKK.out _ _ ?_ (fun hHeld => ?_)
                · exact (by first | exact hb | exact below_drew hb)
                clear hKK KK
                try simp only [Act.put]
                refine wpAnyH_done (by kernel_rfl) ?_ _
                go_wp2_with fail
                go_meet
                exact ⟨_, _, rfl, rfl, y4, hb⟩
            · skip
              rw [if_pos (by kernel_rfl)]
              have nz_y5 : wz.heap.size ≤ wd2.heap.size := hb.size
              refine wp_alO rfl ?_
              obtain ⟨wa21, hwa⟩ : ∃ wa21, wa21 = wd2.alloc (.cells (otA 0 (.slice none 0 0) 0) 52) := ⟨_, rfl⟩
              have h9 : Below wd2.heap.size wd2 wa21 := by rw [hwa]; exact below_alloc1 _ _
              have y5 : OBox wa21 (wd2.heap.size) 0 (.slice none 0 0) 0 := by rw [hwa]; exact OBox.new_ _ _ _ _
              rw [← hwa]
              clear hwa
              replace hb := hb.trans (h9.mono hb.size)
              clear h9
              refine hKK.out _ _ ?_ (fun hHeld => ?_)
              · exact (by first | exact hb | exact below_drew hb)
              clear hKK KK
              try simp only [Act.put, List.setIfInBounds_toArray, List.set_cons_zero, List.set_cons_succ]
              refine wpAnyH_ready (rs := [3, 7]) (by kernel_rfl) (by simp) ?_
              refine AllReadyH.cons (by simp only [List.getElem?_toArray]; rfl) (fun KK hKK => ?_) (AllReadyH.cons (by simp only [List.getElem?_toArray]; rfl) (fun KK hKK => ?_) AllReadyH.nil)
              · skip
                rw [if_pos (by kernel_rfl)]
                refine wp_callF 17 #[.agg (gmA g s), .agg (stA st), .slice (some ⟨B + 3, 0, none⟩) 6 6] (by kernel_rfl) ?_
                refine (hP wa21 hb).mono ?_
                rintro e wc22 ⟨sh3, rfl, hsh, h9⟩
                have hs3 : sh3.oneCell' = true := by
                  rcases hsh.2 with ⟨rfl, -⟩ | ⟨_, _, _, rfl, -⟩ <;> rfl
                clear hsh
                replace y5 := y5.ext h9
                replace hb := hb.trans (h9.mono hb.size)
                clear h9
                refine ⟨_, rfl, ?_⟩
                refine hKK.out _ _ ?_ (fun hHeld => ?_)
                · exact (by first | exact hb | exact below_drew hb)
                clear hKK KK
                try simp only [Act.put, List.setIfInBounds_toArray, List.set_cons_zero, List.set_cons_succ]
                refine wpAnyH_take (i := 4) (by simp only [List.getElem?_toArray]; rfl) (by kernel_rfl) (by kernel_rfl) (by kernel_rfl) (by exact fun _ _ _ h => h) (by exact yk (.tuple #[.agg (stA S1), .agg (otA F.t sh3 F.e)]) (by kernel_rfl) (fun _ => by kernel_rfl)) hHeld ?_
                try simp only [Act.put, List.setIfInBounds_toArray, List.set_cons_zero, List.set_cons_succ]
                refine wpAnyH_take (i := 5) (by simp only [List.getElem?_toArray]; rfl) (by kernel_rfl) (by kernel_rfl) (by kernel_rfl) (by exact fun _ _ _ h => h) (by exact yk (.agg (stA S1)) (by kernel_rfl) (fun _ => by kernel_rfl)) hHeld ?_
                try simp only [Act.put, List.setIfInBounds_toArray, List.set_cons_zero, List.set_cons_succ]
                refine wpAnyH_take (i := 6) (by simp only [List.getElem?_toArray]; rfl) (by kernel_rfl) (by kernel_rfl) (by kernel_rfl) (by exact fun _ _ _ h => h) (by exact yk (.agg (otA F.t sh3 F.e)) (by kernel_rfl) (fun _ => by kernel_rfl)) hHeld ?_
                try simp only [Act.put, List.setIfInBounds_toArray, List.set_cons_zero, List.set_cons_succ]
                refine wpAnyH_ready (rs := [7]) (by kernel_rfl) (by simp) ?_
                refine AllReadyH.cons (by simp only [List.getElem?_toArray]; rfl) (fun KK hKK => ?_) AllReadyH.nil
                rw [if_pos (by kernel_rfl)]
                have ne45 : ¬ wc22.heap.size = wd2.heap.size := by have := y5.lt; omega
                have nz_y4 : wz.heap.size ≤ wc22.heap.size := hb.size
                refine wp_alSt rfl ?_
                obtain ⟨wa23, hwa⟩ : ∃ wa23, wa23 = wc22.alloc (.cells (stA zSt) 40) := ⟨_, rfl⟩
                have h9 : Below wc22.heap.size wc22 wa23 := by rw [hwa]; exact below_alloc1 _ _
                have y4 : BoxS wa23 (wc22.heap.size) zSt := by rw [hwa]; exact BoxS.new_ _ _
                rw [← hwa]
                clear hwa
                replace y5 := y5.ext h9
                replace hb := hb.trans (h9.mono hb.size)
                clear h9
                refine hKK.out _ _ ?_ (fun hHeld => ?_)
                · exact (by first | exact hb | exact below_drew hb)
                clear hKK KK
                try simp only [Act.put, List.setIfInBounds_toArray, List.set_cons_zero, List.set_cons_succ]
                refine wpAnyH_ready (rs := [9]) (by kernel_rfl) (by simp) ?_
                refine AllReadyH.cons (by simp only [List.getElem?_toArray]; rfl) (fun KK hKK => ?_) AllReadyH.nil
                rw [if_pos (by kernel_rfl)]
                refine wp_stS (.tmp 11) (.tmp 35) rfl (wc22.heap.size) S1 (by kernel_rfl) (by kernel_rfl) y4 ?_
                replace y4 := y4.row_ S1
                replace y5 := y5.mod (mod_setRow wa23 (wc22.heap.size) (stA S1)) (fun e => ne45 e.symm)
                replace hb := below_setRow hb (wc22.heap.size) (stA S1) nz_y4
                obtain ⟨ws24, hws⟩ : ∃ ws24, ws24 = wa23.setRow (wc22.heap.size) (stA S1) := ⟨_, rfl⟩
                rw [← hws] at y4 y5 hb ⊢
                clear hws
                refine hKK.out _ _ ?_ (fun hHeld => ?_)
                · exact (by first | exact hb | exact below_drew hb)
                clear hKK KK
                try simp only [Act.put]
                refine wpAnyH_ready (rs := [10]) (by kernel_rfl) (by simp) ?_
                refine AllReadyH.cons (by simp only [List.getElem?_toArray]; rfl) (fun KK hKK => ?_) AllReadyH.nil
                rw [if_pos (by kernel_rfl)]
                refine wp_stO (.tmp 12) (.tmp 36) rfl (wd2.heap.size) F.t sh3 F.e (by kernel_rfl) (by kernel_rfl) hs3 y5 ?_
                replace y5 := y5.row_ F.t sh3 F.e
                replace y4 := y4.mod (mod_setRow ws24 (wd2.heap.size) (otA F.t sh3 F.e)) ne45
                replace hb := below_setRow hb (wd2.heap.size) (otA F.t sh3 F.e) nz_y5
                obtain ⟨ws25, hws⟩ : ∃ ws25, ws25 = ws24.setRow (wd2.heap.size) (otA F.t sh3 F.e) := ⟨_, rfl⟩
                rw [← hws] at y4 y5 hb ⊢
                clear hws
                refine hKK.out _ _ ?_ (fun hHeld => ?_)
                · exact (by first | exact hb | exact below_drew hb)
                clear hKK KK
                try simp only [Act.put]
                refine wpAnyH_done (by kernel_rfl) ?_ _
                go_wp2_with fail
                go_meet
                exact ⟨_, _, rfl, rfl, y4, hb⟩
              · skip
                rw [if_pos (by kernel_rfl)]
                have ne45 : ¬ wa21.heap.size = wd2.heap.size := by have := y5.lt; omega
                have nz_y4 : wz.heap.size ≤ wa21.heap.size := hb.size
                refine wp_alSt rfl ?_
                obtain ⟨wa26, hwa⟩ : ∃ wa26, wa26 = wa21.alloc (.cells (stA zSt) 40) := ⟨_, rfl⟩
                have h9 : Below wa21.heap.size wa21 wa26 := by rw [hwa]; exact below_alloc1 _ _
                have y4 : BoxS wa26 (wa21.heap.size) zSt := by rw [hwa]; exact BoxS.new_ _ _
                rw [← hwa]
                clear hwa
                replace y5 := y5.ext h9
                replace hb := hb.trans (h9.mono hb.size)
                clear h9
                refine hKK.out _ _ ?_ (fun hHeld => ?_)
                · exact (by first | exact hb | exact below_drew hb)
                clear hKK KK
                try simp only [Act.put, List.setIfInBounds_toArray, List.set_cons_zero, List.set_cons_succ]
                refine wpAnyH_ready (rs := [3]) (by kernel_rfl) (by simp) ?_
                refine AllReadyH.cons (by simp only [List.getElem?_toArray]; rfl) (fun KK hKK => ?_) AllReadyH.nil
                rw [if_pos (by kernel_rfl)]
                refine wp_callF 17 #[.agg (gmA g s), .agg (stA st), .slice (some ⟨B + 3, 0, none⟩) 6 6] (by kernel_rfl) ?_
                refine (hP wa26 hb).mono ?_
                rintro e wc27 ⟨sh3, rfl, hsh, h9⟩
                have hs3 : sh3.oneCell' = true := by
                  rcases hsh.2 with ⟨rfl, -⟩ | ⟨_, _, _, rfl, -⟩ <;> rfl
                clear hsh
                replace y5 := y5.ext h9
                replace y4 := y4.ext h9
                replace hb := hb.trans (h9.mono hb.size)
                clear h9
                refine ⟨_, rfl, ?_⟩
                refine hKK.out _ _ ?_ (fun hHeld => ?_)
                · exact (by first | exact hb | exact below_drew hb)
                clear hKK KK
                try simp only [Act.put, List.setIfInBounds_toArray, List.set_cons_zero, List.set_cons_succ]
                refine wpAnyH_take (i := 4) (by simp only [List.getElem?_toArray]; rfl) (by kernel_rfl) (by kernel_rfl) (by kernel_rfl) (by exact fun _ _ _ h => h) (by exact yk (.tuple #[.agg (stA S1), .agg (otA F.t sh3 F.e)]) (by kernel_rfl) (fun _ => by kernel_rfl)) hHeld ?_
                try simp only [Act.put, List.setIfInBounds_toArray, List.set_cons_zero, List.set_cons_succ]
                refine wpAnyH_take (i := 5) (by simp only [List.getElem?_toArray]; rfl) (by kernel_rfl) (by kernel_rfl) (by kernel_rfl) (by exact fun _ _ _ h => h) (by exact yk (.agg (stA S1)) (by kernel_rfl) (fun _ => by kernel_rfl)) hHeld ?_
                try simp only [Act.put, List.setIfInBounds_toArray, List.set_cons_zero, List.set_cons_succ]
                refine wpAnyH_take (i := 6) (by simp only [List.getElem?_toArray]; rfl) (by kernel_rfl) (by kernel_rfl) (by kernel_rfl) (by exact fun _ _ _ h => h) (by exact yk (.agg (otA F.t sh3 F.e)) (by kernel_rfl) (fun _ => by kernel_rfl)) hHeld ?_
                try simp only [Act.put, List.setIfInBounds_toArray, List.set_cons_zero, List.set_cons_succ]
                refine wpAnyH_ready (rs := [9]) (by kernel_rfl) (by simp) ?_
                refine AllReadyH.cons (by simp only [List.getElem?_toArray]; rfl) (fun KK hKK => ?_) AllReadyH.nil
                rw [if_pos (by kernel_rfl)]
                refine wp_stS (.tmp 11) (.tmp 35) rfl (wa21.heap.size) S1 (by kernel_rfl) (by kernel_rfl) y4 ?_
                replace y4 := y4.row_ S1
                replace y5 := y5.mod (mod_setRow wc27 (wa21.heap.size) (stA S1)) (fun e => ne45 e.symm)
                replace hb := below_setRow hb (wa21.heap.size) (stA S1) nz_y4
                obtain ⟨ws28, hws⟩ : ∃ ws28, ws28 = wc27.setRow (wa21.heap.size) (stA S1) := ⟨_, rfl⟩
                rw [← hws] at y4 y5 hb ⊢
                clear hws
                refine hKK.out _ _ ?_ (fun hHeld => ?_)
                · exact (by first | exact hb | exact below_drew hb)
                clear hKK KK
                try simp only [Act.put]
                refine wpAnyH_ready (rs := [10]) (by kernel_rfl) (by simp) ?_
                refine AllReadyH.cons (by simp only [List.getElem?_toArray]; rfl) (fun KK hKK => ?_) AllReadyH.nil
                rw [if_pos (by kernel_rfl)]
                refine wp_stO (.tmp 12) (.tmp 36) rfl (wd2.heap.size) F.t sh3 F.e (by kernel_rfl) (by kernel_rfl) hs3 y5 ?_
                replace y5 := y5.row_ F.t sh3 F.e
                replace y4 := y4.mod (mod_setRow ws28 (wd2.heap.size) (otA F.t sh3 F.e)) ne45
                replace hb := below_setRow hb (wd2.heap.size) (otA F.t sh3 F.e) nz_y5
                obtain ⟨ws29, hws⟩ : ∃ ws29, ws29 = ws28.setRow (wd2.heap.size) (otA F.t sh3 F.e) := ⟨_, rfl⟩
                rw [← hws] at y4 y5 hb ⊢
                clear hws
                refine hKK.out _ _ ?_ (fun hHeld => ?_)
                · exact (by first | exact hb | exact below_drew hb)
                clear hKK KK
                try simp only [Act.put]
                refine wpAnyH_done (by kernel_rfl) ?_ _
                go_wp2_with fail
                go_meet
                exact ⟨_, _, rfl, rfl, y4, hb⟩
          case rest =>
            obtain ⟨K1, wy, rfl, rfl, hk1, hby⟩ := hcut
            have q8 := q8.ext hby
            have hbz := hbz.trans (hby.mono (by omega))
            go_wp2_with ((with_reducible refine at_ld 40 11 ?_); refine wpList_ldS rfl (.tmp 11) rfl K1 rfl hk1 ?_)
            refine (hV _).mono ?_
            rintro e wv ⟨rfl, h1⟩
            have q8 := q8.ext h1
            have hbz := hbz.trans (h1.mono (by have := hby.size; omega))
            go_wp2_with ((with_reducible refine at_st 40 8 39 ?_); refine wpList_stS rfl (.tmp 8) (.tmp 39) rfl (B + 2) VW rfl rfl zSt q8 ?_)
            exact bodyPost_ret (results_cell_row (P := Tryd.prog) rfl _ _ (B + 2) _ _ (0, 0) _ rfl (q8.row_ VW) Tryd.underlying40 rfl (by rw [stA_size]; kernel_rfl)) rfl ⟨rfl, by rw [← HB.out]; exact below_setRow hbz _ _ (by omega)⟩
      · have e1 : ¬ (0 : Int) ≤ o := h0
        have hs : AB wq (B + 3) M := by
          rw [HM.out]
          unfold predM
          rw [if_neg (fun h => h0 h.1)]
          exact hq
        have hm2 := hmw
        clear h0 hq hmw
        go_upto_region 9 with fail
        obtain ⟨wz, hwz⟩ : ∃ wz, wz = wq := ⟨_, rfl⟩
        rw [← hwz] at hs hm2 q3 ⊢
        clear hwz
        have q4 := q4.mod hm2 (by show ¬ B + 1 = B + 3; omega)
        have q8 := q8.mod hm2 (by show ¬ B + 2 = B + 3; omega)
        have hbz : Below B w wz := hb.trans (hm2.below (by omega) (fun i hi e => by have e : i = B + 3 := e; omega))
        have hbZ : Below w.heap.size w wz := by rw [← HB.out]; exact hbz
        have hP := fun W (h : Below wz.heap.size wz W) => hP W (B + 3) (some ⟨B + 3, 0, none⟩) ((HIN.out.ext hbZ).ext h) ((HT.out.ext hbZ).ext h) (Sl.ext hs.sl h)
        have hlz : B + 3 < wz.heap.size := hs.lt
        clear hbZ hs hm2
        go_cut [11] (fun p w9 => ∃ (K1 : Nat) (wy : World), wy = w9 ∧ p = .pointer (some ⟨K1, 0, none⟩) ∧ BoxS wy K1 S1 ∧ Below wz.heap.size wz wy)
        case first =>
          have hb9 := hb
          have hb := Below.refl wz.heap.size wz
          go_wp2_with fail
          refine wp_region_held_drew (S := fun w9 => Below wz.heap.size wz w9) (by kernel_rfl) ?_ (fun hHeld => ?_)
          · exact (by first | exact hb | exact below_drew hb)
          obtain ⟨wd2, hwd2⟩ : ∃ wd2, wd2 = World.drew wz := ⟨_, rfl⟩
          have h9 : Below wz.heap.size wz wd2 := by rw [hwd2]; exact below_drew (Below.refl _ _)
          rw [← hwd2] at hHeld ⊢
          replace hb := hb.trans (h9.mono hb.size)
          clear h9
          clear hwd2
          refine wpAnyH_take (i := 0) (by simp only [List.getElem?_toArray]; rfl) (by kernel_rfl) (by kernel_rfl) (by kernel_rfl) (by exact fun _ _ _ h => h) (by exact yk_ldG (by kernel_rfl) (.tmp 4) rfl B g s (by kernel_rfl) (fun _ h => q3.ext h)) hHeld ?_
          try simp only [Act.put, List.setIfInBounds_toArray, List.set_cons_zero, List.set_cons_succ]
          refine wpAnyH_take (i := 1) (by simp only [List.getElem?_toArray]; rfl) (by kernel_rfl) (by kernel_rfl) (by kernel_rfl) (by exact fun _ _ _ h => h) (by exact yieldsIf_ldS (by kernel_rfl) (.tmp 5) rfl (B + 1) (by kernel_rfl) (fun _ h => q4.ext h)) hHeld ?_
          try simp only [Act.put, List.setIfInBounds_toArray, List.set_cons_zero, List.set_cons_succ]
          refine wpAnyH_take (i := 2) (by simp only [List.getElem?_toArray]; rfl) (by kernel_rfl) (by kernel_rfl) (by kernel_rfl) (by exact fun _ _ _ h => h) (by exact yk (.slice (some ⟨B + 3, 0, none⟩) 6 6) (by kernel_rfl) (fun _ => by kernel_rfl)) hHeld ?_
          try simp only [Act.put, List.setIfInBounds_toArray, List.set_cons_zero, List.set_cons_succ]
          refine wpAnyH_ready (rs := [3, 7, 8]) (by kernel_rfl) (by simp) ?_
          refine AllReadyH.cons (by simp only [List.getElem?_toArray]; rfl) (fun KK hKK => ?_) (AllReadyH.cons (by simp only [List.getElem?_toArray]; rfl) (fun KK hKK => ?_) (AllReadyH.cons (by simp only [List.getElem?_toArray]; rfl) (fun KK hKK => ?_) AllReadyH.nil))
          · skip
            rw [if_pos (by kernel_rfl)]
            refine wp_callF 17 #[.agg (gmA g s), .agg (stA st), .slice (some ⟨B + 3, 0, none⟩) 6 6] (by kernel_rfl) ?_
            refine (hP wd2 hb).mono ?_
            rintro e wc3 ⟨sh3, rfl, hsh, h9⟩
            have hs3 : sh3.oneCell' = true := by
              rcases hsh.2 with ⟨rfl, -⟩ | ⟨_, _, _, rfl, -⟩ <;> rfl
            clear hsh
            replace hb := hb.trans (h9.mono hb.size)
            clear h9
            refine ⟨_, rfl, ?_⟩
            refine hKK.out _ _ ?_ (fun hHeld => ?_)
            · exact (by first | exact hb | exact below_drew hb)
            clear hKK KK
            try simp only [Act.put, List.setIfInBounds_toArray, List.set_cons_zero, List.set_cons_succ]
            refine wpAnyH_take (i := 4) (by simp only [List.getElem?_toArray]; rfl) (by kernel_rfl) (by kernel_rfl) (by kernel_rfl) (by exact fun _ _ _ h => h) (by exact yk (.tuple #[.agg (stA S1), .agg (otA F.t sh3 F.e)]) (by kernel_rfl) (fun _ => by kernel_rfl)) hHeld ?_
            try simp only [Act.put, List.setIfInBounds_toArray, List.set_cons_zero, List.set_cons_succ]
            refine wpAnyH_take (i := 5) (by simp only [List.getElem?_toArray]; rfl) (by kernel_rfl) (by kernel_rfl) (by kernel_rfl) (by exact fun _ _ _ h => h) (by exact yk (.agg (stA S1)) (by kernel_rfl) (fun _ => by kernel_rfl)) hHeld ?_
            try simp only [Act.put, List.setIfInBounds_toArray, List.set_cons_zero, List.set_cons_succ]
            refine wpAnyH_take (i := 6) (by simp only [List.getElem?_toArray]; rfl) (by kernel_rfl) (by kernel_rfl) (by kernel_rfl) (by exact fun _ _ _ h => h) (by exact yk (.agg (otA F.t sh3 F.e)) (by kernel_rfl) (fun _ => by kernel_rfl)) hHeld ?_
            try simp only [Act.put, List.setIfInBounds_toArray, List.set_cons_zero, List.set_cons_succ]
            refine wpAnyH_ready (rs := [7, 8]) (by kernel_rfl) (by simp) ?_
            refine AllReadyH.cons (by simp only [List.getElem?_toArray]; rfl) (fun KK hKK => ?_) (AllReadyH.cons (by simp only [List.getElem?_toArray]; rfl) (fun KK hKK => ?_) AllReadyH.nil)
            · skip
              rw [if_pos (by kernel_rfl)]
              have nz_y4 : wz.heap.size ≤ wc3.heap.size := hb.size
              refine wp_alSt rfl ?_
              obtain ⟨wa4, hwa⟩ : ∃ wa4, wa4 = wc3.alloc (.cells (stA zSt) 40) := ⟨_, rfl⟩
              have h9 : Below wc3.heap.size wc3 wa4 := by rw [hwa]; exact below_alloc1 _ _
              have y4 : BoxS wa4 (wc3.heap.size) zSt := by rw [hwa]; exact BoxS.new_ _ _
              rw [← hwa]
              clear hwa
              replace hb := hb.trans (h9.mono hb.size)
              clear h9
              refine hKK.out _ _ ?_ (fun hHeld => ?_)
              · exact (by first | exact hb | exact below_drew hb)
              clear hKK KK
              try simp only [Act.put, List.setIfInBounds_toArray, List.set_cons_zero, List.set_cons_succ]
              refine wpAnyH_ready (rs := [8]) (by kernel_rfl) (by simp) ?_
              refine AllReadyH.cons (by simp only [List.getElem?_toArray]; rfl) (fun KK hKK => ?_) AllReadyH.nil
              rw [if_pos (by kernel_rfl)]
              have ne45 : ¬ wc3.heap.size = wa4.heap.size := by have := y4.lt; omega
              have nz_y5 : wz.heap.size ≤ wa4.heap.size := hb.size
              refine wp_alO rfl ?_
              obtain ⟨wa5, hwa⟩ : ∃ wa5, wa5 = wa4.alloc (.cells (otA 0 (.slice none 0 0) 0) 52) := ⟨_, rfl⟩
              have h9 : Below wa4.heap.size wa4 wa5 := by rw [hwa]; exact below_alloc1 _ _
              have y5 : OBox wa5 (wa4.heap.size) 0 (.slice none 0 0) 0 := by rw [hwa]; exact OBox.new_ _ _ _ _
              rw [← hwa]
              clear hwa
              replace y4 := y4.ext h9
              replace hb := hb.trans (h9.mono hb.size)
              clear h9
              refine hKK.out _ _ ?_ (fun hHeld => ?_)
              · exact (by first | exact hb | exact below_drew hb)
              clear hKK KK
              try simp only [Act.put, List.setIfInBounds_toArray, List.set_cons_zero, List.set_cons_succ]
              refine wpAnyH_ready (rs := [9]) (by kernel_rfl) (by simp) ?_
              refine AllReadyH.cons (by simp only [List.getElem?_toArray]; rfl) (fun KK hKK => ?_) AllReadyH.nil
              rw [if_pos (by kernel_rfl)]
              refine wp_stS (.tmp 11) (.tmp 35) rfl (wc3.heap.size) S1 (by kernel_rfl) (by kernel_rfl) y4 ?_
              replace y4 := y4.row_ S1
              replace y5 := y5.mod (mod_setRow wa5 (wc3.heap.size) (stA S1)) (fun e => ne45 e.symm)
              replace hb := below_setRow hb (wc3.heap.size) (stA S1) nz_y4
              obtain ⟨ws6, hws⟩ : ∃ ws6, ws6 = wa5.setRow (wc3.heap.size) (stA S1) := ⟨_, rfl⟩
              rw [← hws] at y4 y5 hb ⊢
              clear hws
              refine hKK.out _ _ ?_ (fun hHeld => ?_)
              · exact (by first | exact hb | exact below_drew hb)
              clear hKK KK
              try simp only [Act.put]
              refine wpAnyH_ready (rs := [10]) (by kernel_rfl) (by simp) ?_
              refine AllReadyH.cons (by simp only [List.getElem?_toArray]; rfl) (fun KK hKK => ?_) AllReadyH.nil
              rw [if_pos (by kernel_rfl)]
              refine wp_stO (.tmp 12) (.tmp 36) rfl (wa4.heap.size) F.t sh3 F.e (by kernel_rfl) (by kernel_rfl) hs3 y5 ?_
              replace y5 := y5.row_ F.t sh3 F.e
              replace y4 := y4.mod (mod_setRow ws6 (wa4.heap.size) (otA F.t sh3 F.e)) ne45
              replace hb := below_setRow hb (wa4.heap.size) (otA F.t sh3 F.e) nz_y5
              obtain ⟨ws7, hws⟩ : ∃ ws7, ws7 = ws6.setRow (wa4.heap.size) (otA F.t sh3 F.e) := ⟨_, rfl⟩
              rw [← hws] at y4 y5 hb ⊢
              clear hws
              refine hKK.out _ _ ?_ (fun hHeld => ?_)
              · exact (by first | exact hb | exact below_drew hb)
              clear hKK KK
              try simp only [Act.put]
              refine wpAnyH_done (by kernel_rfl) ?_ _
              go_wp2_with fail
              go_meet
              exact ⟨_, _, rfl, rfl, y4, hb⟩
            · skip
              rw [if_pos (by kernel_rfl)]
              have nz_y5 : wz.heap.size ≤ wc3.heap.size := hb.size
              refine wp_alO rfl ?_
              obtain ⟨wa8, hwa⟩ : ∃ wa8, wa8 = wc3.alloc (.cells (otA 0 (.slice none 0 0) 0) 52) := ⟨_, rfl⟩
              have h9 : Below wc3.heap.size wc3 wa8 := by rw [hwa]; exact below_alloc1 _ _
              have y5 : OBox wa8 (wc3.heap.size) 0 (.slice none 0 0) 0 := by rw [hwa]; exact OBox.new_ _ _ _ _
              rw [← hwa]
              clear hwa
              replace hb := hb.trans (h9.mono hb.size)
              clear h9
              refine hKK.out _ _ ?_ (fun hHeld => ?_)
              · exact (by first | exact hb | exact below_drew hb)
              clear hKK KK
              try simp only [Act.put, List.setIfInBounds_toArray, List.set_cons_zero, List.set_cons_succ]
              refine wpAnyH_ready (rs := [7]) (by kernel_rfl) (by simp) ?_
              refine AllReadyH.cons (by simp only [List.getElem?_toArray]; rfl) (fun KK hKK => ?_) AllReadyH.nil
              rw [if_pos (by kernel_rfl)]
              have ne45 : ¬ wa8.heap.size = wc3.heap.size := by have := y5.lt; omega
              have nz_y4 : wz.heap.size ≤ wa8.heap.size := hb.size
              refine wp_alSt rfl ?_
              obtain ⟨wa9, hwa⟩ : ∃ wa9, wa9 = wa8.alloc (.cells (stA zSt) 40) := ⟨_, rfl⟩
              have h9 : Below wa8.heap.size wa8 wa9 := by rw [hwa]; exact below_alloc1 _ _
              have y4 : BoxS wa9 (wa8.heap.size) zSt := by rw [hwa]; exact BoxS.new_ _ _
              rw [← hwa]
              clear hwa
              replace y5 := y5.ext h9
              replace hb := hb.trans (h9.mono hb.size)
              clear h9
              refine hKK.out _ _ ?_ (fun hHeld => ?_)
              · exact (by first | exact hb | exact below_drew hb)
              clear hKK KK
              try simp only [Act.put, List.setIfInBounds_toArray, List.set_cons_zero, List.set_cons_succ]
              refine wpAnyH_ready (rs := [9]) (by kernel_rfl) (by simp) ?_
              refine AllReadyH.cons (by simp only [List.getElem?_toArray]; rfl) (fun KK hKK => ?_) AllReadyH.nil
              rw [if_pos (by kernel_rfl)]
              refine wp_stS (.tmp 11) (.tmp 35) rfl (wa8.heap.size) S1 (by kernel_rfl) (by kernel_rfl) y4 ?_
              replace y4 := y4.row_ S1
              replace y5 := y5.mod (mod_setRow wa9 (wa8.heap.size) (stA S1)) (fun e => ne45 e.symm)
              replace hb := below_setRow hb (wa8.heap.size) (stA S1) nz_y4
              obtain ⟨ws10, hws⟩ : ∃ ws10, ws10 = wa9.setRow (wa8.heap.size) (stA S1) := ⟨_, rfl⟩
              rw [← hws] at y4 y5 hb ⊢
              clear hws
              refine hKK.out _ _ ?_ (fun hHeld => ?_)
              · exact (by first | exact hb | exact below_drew hb)
              clear hKK KK
              try simp only [Act.put]
              refine wpAnyH_ready (rs := [10]) (by kernel_rfl) (by simp) ?_
              refine AllReadyH.cons (by simp only [List.getElem?_toArray]; rfl) (fun KK hKK => ?_) AllReadyH.nil
              rw [if_pos (by kernel_rfl)]
              refine wp_stO (.tmp 12) (.tmp 36) rfl (wc3.heap.size) F.t sh3 F.e (by kernel_rfl) (by kernel_rfl) hs3 y5 ?_
              replace y5 := y5.row_ F.t sh3 F.e
              replace y4 := y4.mod (mod_setRow ws10 (wc3.heap.size) (otA F.t sh3 F.e)) ne45
              replace hb := below_setRow hb (wc3.heap.size) (otA F.t sh3 F.e) nz_y5
              obtain ⟨ws11, hws⟩ : ∃ ws11, ws11 = ws10.setRow (wc3.heap.size) (otA F.t sh3 F.e) := ⟨_, rfl⟩
              rw [← hws] at y4 y5 hb ⊢
              clear hws
              refine hKK.out _ _ ?_ (fun hHeld => ?_)
              · exact (by first | exact hb | exact below_drew hb)
              clear hKK KK
              try simp only [Act.put]
              refine wpAnyH_done (by kernel_rfl) ?_ _
              go_wp2_with fail
              go_meet
              exact ⟨_, _, rfl, rfl, y4, hb⟩
          · skip
            rw [if_pos (by kernel_rfl)]
            have nz_y4 : wz.heap.size ≤ wd2.heap.size := hb.size
            refine wp_alSt rfl ?_
            obtain ⟨wa12, hwa⟩ : ∃ wa12, wa12 = wd2.alloc (.cells (stA zSt) 40) := ⟨_, rfl⟩
            have h9 : Below wd2.heap.size wd2 wa12 := by rw [hwa]; exact below_alloc1 _ _
            have y4 : BoxS wa12 (wd2.heap.size) zSt := by rw [hwa]; exact BoxS.new_ _ _
            rw [← hwa]
            clear hwa
            replace hb := hb.trans (h9.mono hb.size)
            clear h9
            refine hKK.out _ _ ?_ (fun hHeld => ?_)
            · exact (by first | exact hb | exact below_drew hb)
            clear hKK KK
            try simp only [Act.put, List.setIfInBounds_toArray, List.set_cons_zero, List.set_cons_succ]
            refine wpAnyH_ready (rs := [3, 8]) (by kernel_rfl) (by simp) ?_
            refine AllReadyH.cons (by simp only [List.getElem?_toArray]; rfl) (fun KK hKK => ?_) (AllReadyH.cons (by simp only [List.getElem?_toArray]; rfl) (fun KK hKK => ?_) AllReadyH.nil)
            · skip
              rw [if_pos (by kernel_rfl)]
              refine wp_callF 17 #[.agg (gmA g s), .agg (stA st), .slice (some ⟨B + 3, 0, none⟩) 6 6] (by kernel_rfl) ?_
              refine (hP wa12 hb).mono ?_
              rintro e wc13 ⟨sh3, rfl, hsh, h9⟩
              have hs3 : sh3.oneCell' = true := by
                rcases hsh.2 with ⟨rfl, -⟩ | ⟨_, _, _, rfl, -⟩ <;> rfl
              clear hsh
              replace y4 := y4.ext h9
              replace hb := hb.trans (h9.mono hb.size)
              clear h9
              refine ⟨_, rfl, ?_⟩
              refine hKK.out _ _ ?_ (fun hHeld => ?_)
              · exact (by first | exact hb | exact below_drew hb)
              clear hKK KK
              try simp only [Act.put, List.setIfInBounds_toArray, List.set_cons_zero, List.set_cons_succ]
              refine wpAnyH_take (i := 4) (by simp only [List.getElem?_toArray]; rfl) (by kernel_rfl) (by kernel_rfl) (by kernel_rfl) (by exact fun _ _ _ h => h) (by exact yk (.tuple #[.agg (stA S1), .agg (otA F.t sh3 F.e)]) (by kernel_rfl) (fun _ => by kernel_rfl)) hHeld ?_
              try simp only [Act.put, List.setIfInBounds_toArray, List.set_cons_zero, List.set_cons_succ]
              refine wpAnyH_take (i := 5) (by simp only [List.getElem?_toArray]; rfl) (by kernel_rfl) (by kernel_rfl) (by kernel_rfl) (by exact fun _ _ _ h => h) (by exact yk (.agg (stA S1)) (by kernel_rfl) (fun _ => by kernel_rfl)) hHeld ?_
              try simp only [Act.put, List.setIfInBounds_toArray, List.set_cons_zero, List.set_cons_succ]
              refine wpAnyH_take (i := 6) (by simp only [List.getElem?_toArray]; rfl) (by kernel_rfl) (by kernel_rfl) (by kernel_rfl) (by exact fun _ _ _ h => h) (by exact yk (.agg (otA F.t sh3 F.e)) (by kernel_rfl) (fun _ => by kernel_rfl)) hHeld ?_
              try simp only [Act.put, List.setIfInBounds_toArray, List.set_cons_zero, List.set_cons_succ]
              refine wpAnyH_ready (rs := [8]) (by kernel_rfl) (by simp) ?_
              refine AllReadyH.cons (by simp only [List.getElem?_toArray]; rfl) (fun KK hKK => ?_) AllReadyH.nil
              rw [if_pos (by kernel_rfl)]
              have ne45 : ¬ wd2.heap.size = wc13.heap.size := by have := y4.lt; omega
              have nz_y5 : wz.heap.size ≤ wc13.heap.size := hb.size
              refine wp_alO rfl ?_
              obtain ⟨wa14, hwa⟩ : ∃ wa14, wa14 = wc13.alloc (.cells (otA 0 (.slice none 0 0) 0) 52) := ⟨_, rfl⟩
              have h9 : Below wc13.heap.size wc13 wa14 := by rw [hwa]; exact below_alloc1 _ _
              have y5 : OBox wa14 (wc13.heap.size) 0 (.slice none 0 0) 0 := by rw [hwa]; exact OBox.new_ _ _ _ _
              rw [← hwa]
              clear hwa
              replace y4 := y4.ext h9
              replace hb := hb.trans (h9.mono hb.size)
              clear h9
              refine hKK.out _ _ ?_ (fun hHeld => ?_)
              · exact (by first | exact hb | exact below_drew hb)
              clear hKK KK
              try simp only [Act.put, List.setIfInBounds_toArray, List.set_cons_zero, List.set_cons_succ]
              refine wpAnyH_ready (rs := [9]) (by kernel_rfl) (by simp) ?_
              refine AllReadyH.cons (by simp only [List.getElem?_toArray]; rfl) (fun KK hKK => ?_) AllReadyH.nil
              rw [if_pos (by kernel_rfl)]
              refine wp_stS (.tmp 11) (.tmp 35) rfl (wd2.heap.size) S1 (by kernel_rfl) (by kernel_rfl) y4 ?_
              replace y4 := y4.row_ S1
              replace y5 := y5.mod (mod_setRow wa14 (wd2.heap.size) (stA S1)) (fun e => ne45 e.symm)
              replace hb := below_setRow hb (wd2.heap.size) (stA S1) nz_y4
              obtain ⟨ws15, hws⟩ : ∃ ws15, ws15 = wa14.setRow (wd2.heap.size) (stA S1) := ⟨_, rfl⟩
              rw [← hws] at y4 y5 hb ⊢
              clear hws
              refine hKK.out _ _ ?_ (fun hHeld => ?_)
              · exact (by first | exact hb | exact below_drew hb)
              clear hKK KK
              try simp only [Act.put]
              refine wpAnyH_ready (rs := [10]) (by kernel_rfl) (by simp) ?_
              refine AllReadyH.cons (by simp only [List.getElem?_toArray]; rfl) (fun KK hKK => ?_) AllReadyH.nil
              rw [if_pos (by kernel_rfl)]
              refine wp_stO (.tmp 12) (.tmp 36) rfl (wc13.heap.size) F.t sh3 F.e (by kernel_rfl) (by kernel_rfl) hs3 y5 ?_
              replace y5 := y5.row_ F.t sh3 F.e
              replace y4 := y4.mod (mod_setRow ws15 (wc13.heap.size) (otA F.t sh3 F.e)) ne45
              replace hb := below_setRow hb (wc13.heap.size) (otA F.t sh3 F.e) nz_y5
              obtain ⟨ws16, hws⟩ : ∃ ws16, ws16 = ws15.setRow (wc13.heap.size) (otA F.t sh3 F.e) := ⟨_, rfl⟩
              rw [← hws] at y4 y5 hb ⊢
              clear hws
              refine hKK.out _ _ ?_ (fun hHeld => ?_)
              · exact (by first | exact hb | exact below_drew hb)
              clear hKK KK
              try simp only [Act.put]
              refine wpAnyH_done (by kernel_rfl) ?_ _
              go_wp2_with fail
              go_meet
              exact ⟨_, _, rfl, rfl, y4, hb⟩
            · skip
              rw [if_pos (by kernel_rfl)]
              have ne45 : ¬ wd2.heap.size = wa12.heap.size := by have := y4.lt; omega
              have nz_y5 : wz.heap.size ≤ wa12.heap.size := hb.size
              refine wp_alO rfl ?_
              obtain ⟨wa17, hwa⟩ : ∃ wa17, wa17 = wa12.alloc (.cells (otA 0 (.slice none 0 0) 0) 52) := ⟨_, rfl⟩
              have h9 : Below wa12.heap.size wa12 wa17 := by rw [hwa]; exact below_alloc1 _ _
              have y5 : OBox wa17 (wa12.heap.size) 0 (.slice none 0 0) 0 := by rw [hwa]; exact OBox.new_ _ _ _ _
              rw [← hwa]
              clear hwa
              replace y4 := y4.ext h9
              replace hb := hb.trans (h9.mono hb.size)
              clear h9
              refine hKK.out _ _ ?_ (fun hHeld => ?_)
              · exact (by first | exact hb | exact below_drew hb)
              clear hKK KK
              try simp only [Act.put, List.setIfInBounds_toArray, List.set_cons_zero, List.set_cons_succ]
              refine wpAnyH_ready (rs := [3]) (by kernel_rfl) (by simp) ?_
              refine AllReadyH.cons (by simp only [List.getElem?_toArray]; rfl) (fun KK hKK => ?_) AllReadyH.nil
              rw [if_pos (by kernel_rfl)]
              refine wp_callF 17 #[.agg (gmA g s), .agg (stA st), .slice (some ⟨B + 3, 0, none⟩) 6 6] (by kernel_rfl) ?_
              refine (hP wa17 hb).mono ?_
              rintro e wc18 ⟨sh3, rfl, hsh, h9⟩
              have hs3 : sh3.oneCell' = true := by
                rcases hsh.2 with ⟨rfl, -⟩ | ⟨_, _, _, rfl, -⟩ <;> rfl
              clear hsh
              replace y4 := y4.ext h9
              replace y5 := y5.ext h9
              replace hb := hb.trans (h9.mono hb.size)
              clear h9
              refine ⟨_, rfl, ?_⟩
              refine hKK.out _ _ ?_ (fun hHeld => ?_)
              · exact (by first | exact hb | exact below_drew hb)
              clear hKK KK
              try simp only [Act.put, List.setIfInBounds_toArray, List.set_cons_zero, List.set_cons_succ]
              refine wpAnyH_take (i := 4) (by simp only [List.getElem?_toArray]; rfl) (by kernel_rfl) (by kernel_rfl) (by kernel_rfl) (by exact fun _ _ _ h => h) (by exact yk (.tuple #[.agg (stA S1), .agg (otA F.t sh3 F.e)]) (by kernel_rfl) (fun _ => by kernel_rfl)) hHeld ?_
              try simp only [Act.put, List.setIfInBounds_toArray, List.set_cons_zero, List.set_cons_succ]
              refine wpAnyH_take (i := 5) (by simp only [List.getElem?_toArray]; rfl) (by kernel_rfl) (by kernel_rfl) (by kernel_rfl) (by exact fun _ _ _ h => h) (by exact yk (.agg (stA S1)) (by kernel_rfl) (fun _ => by kernel_rfl)) hHeld ?_
              try simp only [Act.put, List.setIfInBounds_toArray, List.set_cons_zero, List.set_cons_succ]
              refine wpAnyH_take (i := 6) (by simp only [List.getElem?_toArray]; rfl) (by kernel_rfl) (by kernel_rfl) (by kernel_rfl) (by exact fun _ _ _ h => h) (by exact yk (.agg (otA F.t sh3 F.e)) (by kernel_rfl) (fun _ => by kernel_rfl)) hHeld ?_
              try simp only [Act.put, List.setIfInBounds_toArray, List.set_cons_zero, List.set_cons_succ]
              refine wpAnyH_ready (rs := [9]) (by kernel_rfl) (by simp) ?_
              refine AllReadyH.cons (by simp only [List.getElem?_toArray]; rfl) (fun KK hKK => ?_) AllReadyH.nil
              rw [if_pos (by kernel_rfl)]
              refine wp_stS (.tmp 11) (.tmp 35) rfl (wd2.heap.size) S1 (by kernel_rfl) (by kernel_rfl) y4 ?_
              replace y4 := y4.row_ S1
              replace y5 := y5.mod (mod_setRow wc18 (wd2.heap.size) (stA S1)) (fun e => ne45 e.symm)
              replace hb := below_setRow hb (wd2.heap.size) (stA S1) nz_y4
              obtain ⟨ws19, hws⟩ : ∃ ws19, ws19 = wc18.setRow (wd2.heap.size) (stA S1) := ⟨_, rfl⟩
              rw [← hws] at y4 y5 hb ⊢
              clear hws
              refine hKK.out _ _ ?_ (fun hHeld => ?_)
              · exact (by first | exact hb | exact below_drew hb)
              clear hKK KK
              try simp only [Act.put]
              refine wpAnyH_ready (rs := [10]) (by kernel_rfl) (by simp) ?_
              refine AllReadyH.cons (by simp only [List.getElem?_toArray]; rfl) (fun KK hKK => ?_) AllReadyH.nil
              rw [if_pos (by kernel_rfl)]
              refine wp_stO (.tmp 12) (.tmp 36) rfl (wa12.heap.size) F.t sh3 F.e (by kernel_rfl) (by kernel_rfl) hs3 y5 ?_
              replace y5 := y5.row_ F.t sh3 F.e
              replace y4 := y4.mod (mod_setRow ws19 (wa12.heap.size) (otA F.t sh3 F.e)) ne45
              replace hb := below_setRow hb (wa12.heap.size) (otA F.t sh3 F.e) nz_y5
              obtain ⟨ws20, hws⟩ : ∃ ws20, ws20 = ws19.setRow (wa12.heap.size) (otA F.t sh3 F.e) := ⟨_, rfl⟩
              rw [← hws] at y4 y5 hb ⊢
              clear hws
              refine hKK.out _ _ ?_ (fun hHeld => ?_)
              · exact (by first | exact hb | exact below_drew hb)
              clear hKK KK
              try simp only [Act.put]
              refine wpAnyH_done (by kernel_rfl) ?_ _
              go_wp2_with fail
              go_meet
              exact ⟨_, _, rfl, rfl, y4, hb⟩
          · skip
            rw [if_pos (by kernel_rfl)]
            have nz_y5 : wz.heap.size ≤ wd2.heap.size := hb.size
            refine wp_alO rfl ?_
            obtain ⟨wa21, hwa⟩ : ∃ wa21, wa21 = wd2.alloc (.cells (otA 0 (.slice none 0 0) 0) 52) := ⟨_, rfl⟩
            have h9 : Below wd2.heap.size wd2 wa21 := by rw [hwa]; exact below_alloc1 _ _
            have y5 : OBox wa21 (wd2.heap.size) 0 (.slice none 0 0) 0 := by rw [hwa]; exact OBox.new_ _ _ _ _
            rw [← hwa]
            clear hwa
            replace hb := hb.trans (h9.mono hb.size)
            clear h9
            refine hKK.out _ _ ?_ (fun hHeld => ?_)
            · exact (by first | exact hb | exact below_drew hb)
            clear hKK KK
            try simp only [Act.put, List.setIfInBounds_toArray, List.set_cons_zero, List.set_cons_succ]
            refine wpAnyH_ready (rs := [3, 7]) (by kernel_rfl) (by simp) ?_
            refine AllReadyH.cons (by simp only [List.getElem?_toArray]; rfl) (fun KK hKK => ?_) (AllReadyH.cons (by simp only [List.getElem?_toArray]; rfl) (fun KK hKK => ?_) AllReadyH.nil)
            · skip
              rw [if_pos (by kernel_rfl)]
              refine wp_callF 17 #[.agg (gmA g s), .agg (stA st), .slice (some ⟨B + 3, 0, none⟩) 6 6] (by kernel_rfl) ?_
              refine (hP wa21 hb).mono ?_
              rintro e wc22 ⟨sh3, rfl, hsh, h9⟩
              have hs3 : sh3.oneCell' = true := by
                rcases hsh.2 with ⟨rfl, -⟩ | ⟨_, _, _, rfl, -⟩ <;> rfl
              clear hsh
              replace y5 := y5.ext h9
              replace hb := hb.trans (h9.mono hb.size)
              clear h9
              refine ⟨_, rfl, ?_⟩
              refine hKK.out _ _ ?_ (fun hHeld => ?_)
              · exact (by first | exact hb | exact below_drew hb)
              clear hKK KK
              try simp only [Act.put, List.setIfInBounds_toArray, List.set_cons_zero, List.set_cons_succ]
              refine wpAnyH_take (i := 4) (by simp only [List.getElem?_toArray]; rfl) (by kernel_rfl) (by kernel_rfl) (by kernel_rfl) (by exact fun _ _ _ h => h) (by exact yk (.tuple #[.agg (stA S1), .agg (otA F.t sh3 F.e)]) (by kernel_rfl) (fun _ => by kernel_rfl)) hHeld ?_
              try simp only [Act.put, List.setIfInBounds_toArray, List.set_cons_zero, List.set_cons_succ]
              refine wpAnyH_take (i := 5) (by simp only [List.getElem?_toArray]; rfl) (by kernel_rfl) (by kernel_rfl) (by kernel_rfl) (by exact fun _ _ _ h => h) (by exact yk (.agg (stA S1)) (by kernel_rfl) (fun _ => by kernel_rfl)) hHeld ?_
              try simp only [Act.put, List.setIfInBounds_toArray, List.set_cons_zero, List.set_cons_succ]
              refine wpAnyH_take (i := 6) (by simp only [List.getElem?_toArray]; rfl) (by kernel_rfl) (by kernel_rfl) (by kernel_rfl) (by exact fun _ _ _ h => h) (by exact yk (.agg (otA F.t sh3 F.e)) (by kernel_rfl) (fun _ => by kernel_rfl)) hHeld ?_
              try simp only [Act.put, List.setIfInBounds_toArray, List.set_cons_zero, List.set_cons_succ]
              refine wpAnyH_ready (rs := [7]) (by kernel_rfl) (by simp) ?_
              refine AllReadyH.cons (by simp only [List.getElem?_toArray]; rfl) (fun KK hKK => ?_) AllReadyH.nil
              rw [if_pos (by kernel_rfl)]
              have ne45 : ¬ wc22.heap.size = wd2.heap.size := by have := y5.lt; omega
              have nz_y4 : wz.heap.size ≤ wc22.heap.size := hb.size
              refine wp_alSt rfl ?_
              obtain ⟨wa23, hwa⟩ : ∃ wa23, wa23 = wc22.alloc (.cells (stA zSt) 40) := ⟨_, rfl⟩
              have h9 : Below wc22.heap.size wc22 wa23 := by rw [hwa]; exact below_alloc1 _ _
              have y4 : BoxS wa23 (wc22.heap.size) zSt := by rw [hwa]; exact BoxS.new_ _ _
              rw [← hwa]
              clear hwa
              replace y5 := y5.ext h9
              replace hb := hb.trans (h9.mono hb.size)
              clear h9
              refine hKK.out _ _ ?_ (fun hHeld => ?_)
              · exact (by first | exact hb | exact below_drew hb)
              clear hKK KK
              try simp only [Act.put, List.setIfInBounds_toArray, List.set_cons_zero, List.set_cons_succ]
              refine wpAnyH_ready (rs := [9]) (by kernel_rfl) (by simp) ?_
              refine AllReadyH.cons (by simp only [List.getElem?_toArray]; rfl) (fun KK hKK => ?_) AllReadyH.nil
              rw [if_pos (by kernel_rfl)]
              refine wp_stS (.tmp 11) (.tmp 35) rfl (wc22.heap.size) S1 (by kernel_rfl) (by kernel_rfl) y4 ?_
              replace y4 := y4.row_ S1
              replace y5 := y5.mod (mod_setRow wa23 (wc22.heap.size) (stA S1)) (fun e => ne45 e.symm)
              replace hb := below_setRow hb (wc22.heap.size) (stA S1) nz_y4
              obtain ⟨ws24, hws⟩ : ∃ ws24, ws24 = wa23.setRow (wc22.heap.size) (stA S1) := ⟨_, rfl⟩
              rw [← hws] at y4 y5 hb ⊢
              clear hws
              refine hKK.out _ _ ?_ (fun hHeld => ?_)
              · exact (by first | exact hb | exact below_drew hb)
              clear hKK KK
              try simp only [Act.put]
              refine wpAnyH_ready (rs := [10]) (by kernel_rfl) (by simp) ?_
              refine AllReadyH.cons (by simp only [List.getElem?_toArray]; rfl) (fun KK hKK => ?_) AllReadyH.nil
              rw [if_pos (by kernel_rfl)]
              refine wp_stO (.tmp 12) (.tmp 36) rfl (wd2.heap.size) F.t sh3 F.e (by kernel_rfl) (by kernel_rfl) hs3 y5 ?_
              replace y5 := y5.row_ F.t sh3 F.e
              replace y4 := y4.mod (mod_setRow ws24 (wd2.heap.size) (otA F.t sh3 F.e)) ne45
              replace hb := below_setRow hb (wd2.heap.size) (otA F.t sh3 F.e) nz_y5
              obtain ⟨ws25, hws⟩ : ∃ ws25, ws25 = ws24.setRow (wd2.heap.size) (otA F.t sh3 F.e) := ⟨_, rfl⟩
              rw [← hws] at y4 y5 hb ⊢
              clear hws
              refine hKK.out _ _ ?_ (fun hHeld => ?_)
              · exact (by first | exact hb | exact below_drew hb)
              clear hKK KK
              try simp only [Act.put]
              refine wpAnyH_done (by kernel_rfl) ?_ _
              go_wp2_with fail
              go_meet
              exact ⟨_, _, rfl, rfl, y4, hb⟩
            · skip
              rw [if_pos (by kernel_rfl)]
              have ne45 : ¬ wa21.heap.size = wd2.heap.size := by have := y5.lt; omega
              have nz_y4 : wz.heap.size ≤ wa21.heap.size := hb.size
              refine wp_alSt rfl ?_
              obtain ⟨wa26, hwa⟩ : ∃ wa26, wa26 = wa21.alloc (.cells (stA zSt) 40) := ⟨_, rfl⟩
              have h9 : Below wa21.heap.size wa21 wa26 := by rw [hwa]; exact below_alloc1 _ _
              have y4 : BoxS wa26 (wa21.heap.size) zSt := by rw [hwa]; exact BoxS.new_ _ _
              rw [← hwa]
              clear hwa
              replace y5 := y5.ext h9
              replace hb := hb.trans (h9.mono hb.size)
              clear h9
              refine hKK.out _ _ ?_ (fun hHeld => ?_)
              · exact (by first | exact hb | exact below_drew hb)
              clear hKK KK
              try simp only [Act.put, List.setIfInBounds_toArray, List.set_cons_zero, List.set_cons_succ]
              refine wpAnyH_ready (rs := [3]) (by kernel_rfl) (by simp) ?_
              refine AllReadyH.cons (by simp only [List.getElem?_toArray]; rfl) (fun KK hKK => ?_) AllReadyH.nil
              rw [if_pos (by kernel_rfl)]
              refine wp_callF 17 #[.agg (gmA g s), .agg (stA st), .slice (some ⟨B + 3, 0, none⟩) 6 6] (by kernel_rfl) ?_
              refine (hP wa26 hb).mono ?_
              rintro e wc27 ⟨sh3, rfl, hsh, h9⟩
              have hs3 : sh3.oneCell' = true := by
                rcases hsh.2 with ⟨rfl, -⟩ | ⟨_, _, _, rfl, -⟩ <;> rfl
              clear hsh
              replace y5 := y5.ext h9
              replace y4 := y4.ext h9
              replace hb := hb.trans (h9.mono hb.size)
              clear h9
              refine ⟨_, rfl, ?_⟩
              refine hKK.out _ _ ?_ (fun hHeld => ?_)
              · exact (by first | exact hb | exact below_drew hb)
              clear hKK KK
              try simp only [Act.put, List.setIfInBounds_toArray, List.set_cons_zero, List.set_cons_succ]
              refine wpAnyH_take (i := 4) (by simp only [List.getElem?_toArray]; rfl) (by kernel_rfl) (by kernel_rfl) (by kernel_rfl) (by exact fun _ _ _ h => h) (by exact yk (.tuple #[.agg (stA S1), .agg (otA F.t sh3 F.e)]) (by kernel_rfl) (fun _ => by kernel_rfl)) hHeld ?_
              try simp only [Act.put, List.setIfInBounds_toArray, List.set_cons_zero, List.set_cons_succ]
              refine wpAnyH_take (i := 5) (by simp only [List.getElem?_toArray]; rfl) (by kernel_rfl) (by kernel_rfl) (by kernel_rfl) (by exact fun _ _ _ h => h) (by exact yk (.agg (stA S1)) (by kernel_rfl) (fun _ => by kernel_rfl)) hHeld ?_
              try simp only [Act.put, List.setIfInBounds_toArray, List.set_cons_zero, List.set_cons_succ]
              refine wpAnyH_take (i := 6) (by simp only [List.getElem?_toArray]; rfl) (by kernel_rfl) (by kernel_rfl) (by kernel_rfl) (by exact fun _ _ _ h => h) (by exact yk (.agg (otA F.t sh3 F.e)) (by kernel_rfl) (fun _ => by kernel_rfl)) hHeld ?_
              try simp only [Act.put, List.setIfInBounds_toArray, List.set_cons_zero, List.set_cons_succ]
              refine wpAnyH_ready (rs := [9]) (by kernel_rfl) (by simp) ?_
              refine AllReadyH.cons (by simp only [List.getElem?_toArray]; rfl) (fun KK hKK => ?_) AllReadyH.nil
              rw [if_pos (by kernel_rfl)]
              refine wp_stS (.tmp 11) (.tmp 35) rfl (wa21.heap.size) S1 (by kernel_rfl) (by kernel_rfl) y4 ?_
              replace y4 := y4.row_ S1
              replace y5 := y5.mod (mod_setRow wc27 (wa21.heap.size) (stA S1)) (fun e => ne45 e.symm)
              replace hb := below_setRow hb (wa21.heap.size) (stA S1) nz_y4
              obtain ⟨ws28, hws⟩ : ∃ ws28, ws28 = wc27.setRow (wa21.heap.size) (stA S1) := ⟨_, rfl⟩
              rw [← hws] at y4 y5 hb ⊢
              clear hws
              refine hKK.out _ _ ?_ (fun hHeld => ?_)
              · exact (by first | exact hb | exact below_drew hb)
              clear hKK KK
              try simp only [Act.put]
              refine wpAnyH_ready (rs := [10]) (by kernel_rfl) (by simp) ?_
              refine AllReadyH.cons (by simp only [List.getElem?_toArray]; rfl) (fun KK hKK => ?_) AllReadyH.nil
              rw [if_pos (by kernel_rfl)]
              refine wp_stO (.tmp 12) (.tmp 36) rfl (wd2.heap.size) F.t sh3 F.e (by kernel_rfl) (by kernel_rfl) hs3 y5 ?_
              replace y5 := y5.row_ F.t sh3 F.e
              replace y4 := y4.mod (mod_setRow ws28 (wd2.heap.size) (otA F.t sh3 F.e)) ne45
              replace hb := below_setRow hb (wd2.heap.size) (otA F.t sh3 F.e) nz_y5
              obtain ⟨ws29, hws⟩ : ∃ ws29, ws29 = ws28.setRow (wd2.heap.size) (otA F.t sh3 F.e) := ⟨_, rfl⟩
              rw [← hws] at y4 y5 hb ⊢
              clear hws
              refine hKK.out _ _ ?_ (fun hHeld => ?_)
              · exact (by first | exact hb | exact below_drew hb)
              clear hKK KK
              try simp only [Act.put]
              refine wpAnyH_done (by kernel_rfl) ?_ _
              go_wp2_with fail
              go_meet
              exact ⟨_, _, rfl, rfl, y4, hb⟩
        case rest =>
          obtain ⟨K1, wy, rfl, rfl, hk1, hby⟩ := hcut
          have q8 := q8.ext hby
          have hbz := hbz.trans (hby.mono (by omega))
          go_wp2_with ((with_reducible refine at_ld 40 11 ?_); refine wpList_ldS rfl (.tmp 11) rfl K1 rfl hk1 ?_)
          refine (hV _).mono ?_
          rintro e wv ⟨rfl, h1⟩
          have q8 := q8.ext h1
          have hbz := hbz.trans (h1.mono (by have := hby.size; omega))
          go_wp2_with ((with_reducible refine at_st 40 8 39 ?_); refine wpList_stS rfl (.tmp 8) (.tmp 39) rfl (B + 2) VW rfl rfl zSt q8 ?_)
          exact bodyPost_ret (results_cell_row (P := Tryd.prog) rfl _ _ (B + 2) _ _ (0, 0) _ rfl (q8.row_ VW) Tryd.underlying40 rfl (by rw [stA_size]; kernel_rfl)) rfl ⟨rfl, by rw [← HB.out]; exact below_setRow hbz _ _ (by omega)⟩
end Go.Proofs.YtnbbglhpjpebhaaDoor
