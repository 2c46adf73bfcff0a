/- slices.Delete of the first piece of a row of the call's own. Conditions: those said. -/
import Derived.Test.YtgpedkdebifooaaDoorClipS
import Derived.Test.YtgpedkdebifooaaDoorHeldE
import Derived.ArgAppend
import Derived.Lib.SliceRun
import Derived.Deep.DeepCutAuto
import Derived.BigRegion
namespace Go.Proofs.YtgpedkdebifooaaDoor
open Go.RowKit
set_option linter.unusedVariables false

section
variable {ops : Array Oper} {S : World → Prop} {op : Oper} {a : Act}
theorem yk (v : Value) (hw : Region.wanted op (yielded ops a.tmps) = true) (h : ∀ w, (execOp a.eval op).run Tryd.prog w = .ok (.value v) w) : YieldsIf Tryd.prog ops S op v a := .inl ⟨hw, fun w _ => h w⟩
theorem yk_no (hw : Region.wanted op (yielded ops a.tmps) = false) : YieldsIf Tryd.prog ops S op undef a := .inr ⟨hw, rfl⟩
end
theorem piece_zero (w : World) : (zeroValue 96).run Tryd.prog w = .ok (.agg #[.bool false, .bool false, .slice none 0 0]) w := by kernel_rfl
theorem pvs_one : ∀ (xs : List PV), ∀ u ∈ pvs xs, u.oneCell' = true := fun xs u hu => by
  obtain ⟨x, _, hx⟩ := List.mem_flatMap.1 hu
  simp at hx
  rcases hx with rfl | rfl | rfl <;> rfl
theorem run_clear_piece (w : World) (ty : TypeId) (b o c : Nat) (hc : ∀ j, j < 3 → (w.cell? ⟨b, o + j, none⟩).isSome = true) (hf : ∀ j, j < 3 → w.frozen? ⟨b, o + j, none⟩ = false) :
    (Builtin.clear_ #[82] ty #[.slice (some ⟨b, o, none⟩) 1 c]).run Tryd.prog w = .ok (.tuple #[]) (w.setCells b o [.bool false, .bool false, .slice none 0 0]) := by
  have hst := run_storeCells_cells (P := Tryd.prog) b o [.bool false, .bool false, .slice none 0 0] 0 w (by simpa using hc) (by simpa using hf) (by intro v hv; simp at hv; rcases hv with rfl | rfl <;> rfl)
  simp only [Nat.add_zero] at hst
  have hz : (Builtin.zeroCells (Value.agg #[.bool false, .bool false, .slice none 0 0]).cells 1).toList = [.bool false, .bool false, .slice none 0 0] := by kernel_rfl
  have hz0 : (zeroValue 96).run Tryd.prog w = .ok (.agg #[.bool false, .bool false, .slice none 0 0]) w := piece_zero w
  simp [Builtin.clear_, run_underlying Tryd.underlying82, hz0, hz, hst]
theorem setCells_heap (g : Nat) : ∀ (vs : List Value) (o : Nat) (w : World) (cs : List Value) (t : TypeId), w.heap[g]? = some (.cells cs.toArray t (0, 0)) → o + vs.length ≤ cs.length → (w.setCells g o vs).heap[g]? = some (.cells (cs.take o ++ vs ++ cs.drop (o + vs.length)).toArray t (0, 0))
  | [], o, w, cs, t, h, _ => by simpa [World.setCells] using h
  | v :: vs, o, w, cs, t, h, hl => by
    have h1 := heap_setCell_same w g o _ _ v h
    have e : cs.toArray.setIfInBounds o v = (cs.set o v).toArray := by simp
    rw [e] at h1
    simp only [List.length_cons] at hl
    have ih := setCells_heap g vs (o + 1) _ _ t h1 (by simp; omega)
    rw [World.setCells, ih]
    congr 3
    rw [List.take_set, List.take_add_one, List.getElem?_eq_getElem (by omega), List.drop_set]
    rw [List.set_append_right _ _ (by simp; omega)]
    simp only [List.length_take, Option.toList_some, List.length_cons, List.append_assoc, List.cons_append]
    rw [show o - min o cs.length = 0 by omega, if_pos (by omega), show o + 1 + vs.length = o + (vs.length + 1) by omega]
    rfl
theorem mod_setCells (w : World) (b o : Nat) (vs : List Value) : Mod (fun i => i = b) w (w.setCells b o vs) := by
  induction vs generalizing o w with
  | nil => exact Mod.refl _ _
  | cons v vs ih => exact (Mod.setCell w ⟨b, o, none⟩ v).trans (ih _ _) (fun _ _ h => h) (fun _ _ h => h)
section
variable {w : World} {op : Oper} {a : Act} {K : Act → World → Prop} {Q : Exit → Act → World → Prop}
theorem wp_appRoom (s x : Operand) (ho : op.op = .call { callee := .builtin .append, args := #[s, x], argTypes := #[82, 82] }) (g cap : Nat) (A : Option Addr) (m c : Nat) (xs : List PV) (hs : a.eval s = .slice (some ⟨g, 0, none⟩) 0 cap) (hx : a.eval x = .slice A m c) (hm : xs.length = m) (b : Nat) (hr : Sl w b A (pvs xs)) (hroom : m ≤ cap)
    (hc : ∀ j, j < cap * 3 → (w.cell? ⟨g, j, none⟩).isSome = true) (hf : ∀ j, w.frozen? ⟨g, j, none⟩ = false) (h : K (a.put op.dst (.slice (some ⟨g, 0, none⟩) m cap)) (w.setCells g 0 (pvs xs))) : op.wp Tryd.prog a w K Q := by
  have hrun : (Builtin.append_ #[82, 82] op.type #[.slice (some ⟨g, 0, none⟩) 0 cap, .slice A m c]).run Tryd.prog w = .ok (.slice (some ⟨g, 0, none⟩) m cap) (w.setCells g 0 (pvs xs)) := by
    obtain ⟨i0, hi0, hz0, hz1, hz2⟩ := info_parts piece_info
    have hl : (pvs xs).length = m * 3 := by rw [pvs_length, hm]
    rcases Nat.eq_zero_or_pos m with h0 | h0
    · subst h0
      have hx0 : xs = [] := List.eq_nil_of_length_eq_zero hm
      subst hx0
      have e : w.setCells g 0 (pvs []) = w := rfl
      rw [e]
      cases A with
      | none => simp [Builtin.append_, run_underlying Tryd.underlying82, sizeOf, typeInfo, hi0, Builtin.lenOf, Builtin.firstCells, storeCells]
      | some ad => simp [Builtin.append_, run_underlying Tryd.underlying82, sizeOf, typeInfo, hi0, Builtin.lenOf, Builtin.firstCells, storeCells, loadCells, loadCellsFrom]
    · obtain ⟨off, rfl, hcell⟩ := hr (by intro h5; have h6 := congrArg List.length h5; rw [hl, List.length_nil] at h6; omega)
      have := run_append_room_cells (P := Tryd.prog) w 82 op.type 96 i0 Tryd.underlying82 hi0 g 0 0 cap ⟨b, off, none⟩ m c (pvs xs) (by rw [hz1]; exact hl) (fun j u hu => by rw [Addr.add_lit]; exact hcell j u hu) (pvs_one xs) (by omega) (fun j hj => by rw [hz1]; simp only [Nat.zero_mul, Nat.zero_add, Nat.add_zero]; exact hc j (by rw [hl] at hj; have := Nat.mul_le_mul_right 3 hroom; omega)) (fun j _ => hf _)
      rw [hz1] at this
      simpa using this
  unfold Oper.wp execOp
  simp only [ho, resolve, invoke, builtin, Sem.run_bind, Sem.run_pure, Result.andThen_ok, List.map_toArray, List.map_cons, List.map_nil, hs, hx, hrun]
  exact h
end
set_option maxHeartbeats 8000000 in
set_option maxRecDepth 20000 in
theorem Delete_calls (B : Nat) (v : Value) (x : PV) (xs : List PV) (w : World) (h : RowP 96 w B v (x :: xs)) (hl : xs.length ≤ 1000000) :
    Calls Tryd.prog 67 #[v, .int .i64 0, .int .i64 1] w fun e w' => ∃ v', e = .returned v' ∧ RowP 96 w' B v' xs ∧ v'.ownBlock = v.ownBlock ∧ Mod (fun i => v.ownBlock = some i) w w' := by
  rcases h.2 with ⟨_, hn⟩ | ⟨g, cap, cur, hv, hBg, hh, hnc, hcm, hcs, hct⟩
  · simp at hn
  · subst hv
    obtain ⟨N, hN⟩ : ∃ N, N = (x :: xs).length := ⟨_, rfl⟩
    obtain ⟨m, hm⟩ : ∃ m, m = xs.length := ⟨_, rfl⟩
    have hNm : N = m + 1 := by rw [hN, hm]; simp
    rw [← hN] at hnc hct ⊢
    have hcell : ∀ j u, (pvs (x :: xs))[j]? = some u → w.cell? ⟨g, j, none⟩ = some u := fun j u hu => by
      rw [cell_of_row w g j _ _ _ hh]
      rw [← hct, List.getElem?_take] at hu
      split at hu
      · simpa using hu
      · cases hu
    have hcj : ∀ j, j < cap * 3 → (w.cell? ⟨g, j, none⟩).isSome = true := fun j hj => by
      rw [cell_of_row w g j _ _ _ hh, Array.getElem?_eq_getElem (by omega)]
      rfl
    have hfr : ∀ j, w.frozen? ⟨g, j, none⟩ = false := fun j => frozen_of_row w g j _ _ hh
    have hsl : Sl w g (if cap = 1 then some ⟨g, 0, none⟩ else some ⟨g, 3, none⟩) (pvs xs) := fun hne => by
      have hx0 : 0 < xs.length := by
        refine List.length_pos_iff.2 ?_
        rintro rfl
        exact hne rfl
      rw [if_neg (by omega)]
      refine ⟨3, rfl, fun j u hu => hcell (3 + j) u ?_⟩
      rw [pvs_cons, List.getElem?_append_right (by simp)]
      simpa using hu
    have e1 : (1 : Int) ≤ (N : Int) := by omega
    have e2 : (N : Int) ≤ (cap : Int) := by omega
    have e3 : (1 : Int) ≤ (cap : Int) := by omega
    have e4 : (N : Int) - 1 = (m : Int) := by omega
    have HNM := Lib.hid hNm
    have HCS := Lib.hid hcs
    have HCT := Lib.hid hct
    have HM := Lib.hid hm
    have hgl : g < w.heap.size := (Array.getElem?_eq_some_iff.1 hh).1
    have hNc : N ≤ cap := hnc
    have hN1 : 1 ≤ N := by omega
    clear hcj hfr hct hcell hcs h hN hNm hm hnc e4
    go_enter Tryd.func67, Tryd.ntmps67
    go_upto_region 5 with fail
    go_wp2_with fail
    refine wp_region_E (fun j => false) (fun w9 => w.heap.size ≤ w9.heap.size) (by kernel_rfl) ?_ (fun hHeld => ?_)
    · exact (by first | exact Nat.le_refl _ | exact hmw.size)
    obtain ⟨wd1', hwd⟩ : ∃ wd1', wd1' = World.drew w := ⟨_, rfl⟩
    have h9 : Below w.heap.size w wd1' := by rw [hwd]; exact below_drew (Below.refl _ _)
    rw [← hwd] at hHeld ⊢
    clear hwd
    have hmw : Mod (fun i => g = i) w wd1' := Mod.of_below h9 |>.mono (fun i hi h => absurd hi (by omega))
    replace hsl := Sl.ext hsl h9
    replace hh := (h9.block g hgl).trans hh
    clear h9
    refine wpAnyE_take (i := 0) (by simp only [List.getElem?_toArray]; rfl) (by kernel_rfl) (by kernel_rfl) (by kernel_rfl) (by kernel_rfl) (by kernel_rfl) (by exact fun _ _ _ h => h) (by exact yk (.slice (some ⟨g, 0, none⟩) N cap) (by kernel_rfl) (fun _ => by kernel_rfl)) hHeld ?_
    refine wpAnyE_take (i := 1) (by simp only [List.getElem?_toArray]; rfl) (by kernel_rfl) (by kernel_rfl) (by kernel_rfl) (by kernel_rfl) (by kernel_rfl) (by exact fun _ _ _ h => h) (by exact yk (.int .i64 0) (by kernel_rfl) (fun _ => by kernel_rfl)) hHeld ?_
    refine wpAnyE_take (i := 2) (v := .slice (some ⟨g, 0, none⟩) 0 cap) (by simp only [List.getElem?_toArray]; rfl) (by kernel_rfl) (by kernel_rfl) (by kernel_rfl) (by kernel_rfl) (by kernel_rfl) (by exact fun _ _ _ h => h) (.inl ⟨by kernel_rfl, fun ww hSw => by clear hSw; go_simp⟩) hHeld ?_
    refine wpAnyE_take (i := 3) (by simp only [List.getElem?_toArray]; rfl) (by kernel_rfl) (by kernel_rfl) (by kernel_rfl) (by kernel_rfl) (by kernel_rfl) (by exact fun _ _ _ h => h) (by exact yk (.slice (some ⟨g, 0, none⟩) N cap) (by kernel_rfl) (fun _ => by kernel_rfl)) hHeld ?_
    refine wpAnyE_take (i := 4) (by simp only [List.getElem?_toArray]; rfl) (by kernel_rfl) (by kernel_rfl) (by kernel_rfl) (by kernel_rfl) (by kernel_rfl) (by exact fun _ _ _ h => h) (by exact yk (.int .i64 1) (by kernel_rfl) (fun _ => by kernel_rfl)) hHeld ?_
    refine wpAnyE_take (i := 5) (v := .slice (if cap = 1 then some ⟨g, 0, none⟩ else some ⟨g, 3, none⟩) (N - 1) (cap - 1)) (by simp only [List.getElem?_toArray]; rfl) (by kernel_rfl) (by kernel_rfl) (by kernel_rfl) (by kernel_rfl) (by kernel_rfl) (by exact fun _ _ _ h => h) (.inl ⟨by kernel_rfl, fun ww hSw => by clear hSw; go_simp⟩) hHeld ?_
    refine wpAnyE_ready (rs := [6]) (by kernel_rfl) (by simp) ?_
    refine EachE.cons (by rfl) (by simp only [List.getElem?_toArray]; rfl) (fun KK hKK => ?_) EachE.nil
    rw [if_pos (by kernel_rfl)]
    have hcj : ∀ j, j < cap * 3 → (World.cell? wd1' ⟨g, j, none⟩).isSome = true := fun j hj => by rw [cell_of_row wd1' g j _ _ _ hh, Array.getElem?_eq_getElem (by have := HCS.out; omega)]; rfl
    have hfr : ∀ j, World.frozen? wd1' ⟨g, j, none⟩ = false := fun j => frozen_of_row wd1' g j _ _ hh
    refine wp_appRoom (.tmp 22) (.tmp 25) rfl g cap (if cap = 1 then some ⟨g, 0, none⟩ else some ⟨g, 3, none⟩) (N - 1) (cap - 1) xs (by kernel_rfl) (by kernel_rfl) (by have := HNM.out; have := HM.out; omega) g hsl (by omega) hcj hfr ?_
    have hx1 := setCells_heap g (pvs xs) 0 wd1' cur.toList 96 (by simpa using hh) (by rw [pvs_length]; have := HNM.out; have := HM.out; have := HCS.out; simp; omega)
    have hm1 := mod_setCells wd1' g 0 (pvs xs)
    obtain ⟨w2', e⟩ : ∃ w2', w2' = World.setCells wd1' g 0 (pvs xs) := ⟨_, rfl⟩
    rw [← e] at hx1 hm1 ⊢
    replace hmw := hmw.trans hm1 (fun i hi h => h) (fun i hi h => h.symm)
    clear e hm1 hcj hfr
    refine hKK.out _ _ ?_ (fun hHeld => ?_)
    · exact (by first | exact Nat.le_refl _ | exact hmw.size)
    clear hKK KK
    refine wpAnyE_take (i := 7) (by simp only [List.getElem?_toArray]; rfl) (by kernel_rfl) (by kernel_rfl) (by kernel_rfl) (by kernel_rfl) (by kernel_rfl) (by exact fun _ _ _ h => h) (by exact yk (.slice (some ⟨g, 0, none⟩) (N - 1) cap) (by kernel_rfl) (fun _ => by kernel_rfl)) hHeld ?_
    refine wpAnyE_done (by kernel_rfl) ?_ _
    generalize (if cap = 1 then (some ⟨g, 0, none⟩ : Option Addr) else some ⟨g, 3, none⟩) = AD
    obtain ⟨n1, hn1⟩ : ∃ n1, n1 = N - 1 := ⟨_, rfl⟩
    rw [← hn1]
    have hn1' : N = n1 + 1 := by omega
    have f1 : (n1 : Int) ≤ (N : Int) := by omega
    have f2 : (N : Int) ≤ (cap : Int) := by omega
    have f3 : ¬ cap = n1 := by omega
    have f4 : N - n1 = 1 := by omega
    have hcc : ∀ j, j < 3 → (World.cell? w2' ⟨g, n1 * 3 + j, none⟩).isSome = true := fun j hj => by
      rw [cell_of_row w2' g _ _ _ _ hx1, Array.getElem?_eq_getElem (by have := HCS.out; have := HNM.out; have := HM.out; simp [pvs_length]; omega)]
      rfl
    have hff : ∀ j, j < 3 → World.frozen? w2' ⟨g, n1 * 3 + j, none⟩ = false := fun j _ => frozen_of_row w2' g _ _ _ hx1
    have hcl := fun ty => run_clear_piece w2' ty g (n1 * 3) (cap - n1) hcc hff
    have HN1 := Lib.hid hn1'
    have hxl : (pvs xs).length = n1 * 3 := by rw [pvs_length]; have := HM.out; have := HNM.out; omega
    have hx2 := setCells_heap g [.bool false, .bool false, .slice none 0 0] (n1 * 3) w2' _ 96 hx1 (by have := HCS.out; simp [hxl]; omega)
    have hm2 := mod_setCells w2' g (n1 * 3) [.bool false, .bool false, .slice none 0 0]
    have HX2 := Lib.hid hx2
    have HM2 := Lib.hid (hmw.trans hm2 (fun i hi h => h) (fun i hi h => h.symm))
    have HXL := Lib.hid hxl
    clear hn1 hn1' hcc hff hx1 hx2 hm2 hmw hxl hh hsl
    go_wp2_with fail
    go_ret
    have hl1 := HXL.out
    have h1 := HM.out
    have h2 := HNM.out
    have h3 := HN1.out
    have h4 := HCS.out
    refine ⟨.slice (some ⟨g, 0, none⟩) n1 cap, rfl, ⟨by rw [hl1]; omega, .inr ⟨g, cap, _, by rw [show n1 = xs.length by omega], hBg, HX2.out, by omega, hcm, ?_, ?_⟩⟩, rfl, HM2.out.mono (fun i _ h => by have h : g = i := h; rw [h]; rfl)⟩
    · simp [hl1]; omega
    · simp only [List.take_zero, List.nil_append, Nat.zero_add]
      rw [show xs.length * 3 = n1 * 3 by omega]
      simp [hl1]
end Go.Proofs.YtgpedkdebifooaaDoor
