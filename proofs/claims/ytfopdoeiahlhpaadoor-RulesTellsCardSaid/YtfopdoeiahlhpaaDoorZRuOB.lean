/- A game as the document has it. Conditions: the numbers fit. -/
import Derived.Test.YtfopdoeiahlhpaaDoorZRuOA
import Derived.Deep.DeepCutAuto
namespace Go.Proofs.YtfopdoeiahlhpaaDoor
open Go.RowKit
set_option linter.unusedVariables false

abbrev rgA (g : Gm) (v4 v5 : Value) : Array Value := #[.int .i64 g.ob, .int .i64 g.pl, .int .u32 (g.mv : Int), .int .u32 (g.df : Int), v4, v5]
abbrev zGm : Gm := ⟨0, 0, 0, 0, [], []⟩
/-- A game of the document's in a variable. -/
def RG (w : World) (k : Nat) (g : Gm) (v4 v5 : Value) : Prop := w.heap[k]? = some (.cells (rgA g v4 v5) 35 (0, 0))
namespace RG
variable {w w' : World} {k : Nat} {g : Gm} {v4 v5 : Value}
theorem lt (h : RG w k g v4 v5) : k < w.heap.size := (Array.getElem?_eq_some_iff.1 h).1
theorem ext (h : RG w k g v4 v5) (hb : Below w.heap.size w w') : RG w' k g v4 v5 := (hb.block k h.lt).trans h
theorem mod {S : Nat → Prop} (h : RG w k g v4 v5) (hm : Mod S w w') (hs : ¬ S k) : RG w' k g v4 v5 := (hm.block k h.lt hs).trans h
theorem new_ (w : World) (g : Gm) (v4 v5 : Value) : RG (w.alloc (.cells (rgA g v4 v5) 35)) w.heap.size g v4 v5 := heap_alloc_new w _
theorem at_ (h : RG w k g v4 v5) {i : Nat} {v : Value} (hv : (rgA g v4 v5)[i]? = some v) : w.cell? ⟨k, i, none⟩ = some v := by
  rw [cell_of_row w k i _ _ _ h]
  exact hv
theorem c0 (h : RG w k g v4 v5) : w.cell? ⟨k, 0, none⟩ = some (.int .i64 g.ob) := h.at_ rfl
theorem c1 (h : RG w k g v4 v5) : w.cell? ⟨k, 1, none⟩ = some (.int .i64 g.pl) := h.at_ rfl
theorem c2 (h : RG w k g v4 v5) : w.cell? ⟨k, 2, none⟩ = some (.int .u32 (g.mv : Int)) := h.at_ rfl
theorem c3 (h : RG w k g v4 v5) : w.cell? ⟨k, 3, none⟩ = some (.int .u32 (g.df : Int)) := h.at_ rfl
theorem c4 (h : RG w k g v4 v5) : w.cell? ⟨k, 4, none⟩ = some v4 := h.at_ rfl
theorem c5 (h : RG w k g v4 v5) : w.cell? ⟨k, 5, none⟩ = some v5 := h.at_ rfl
theorem free (h : RG w k g v4 v5) (j : Nat) : w.frozen? ⟨k, j, none⟩ = false := frozen_of_row w k j _ _ h
theorem s5 (h : RG w k g v4 v5) (v : Value) : RG (w.setCell ⟨k, 5, none⟩ v) k g v4 v := by
  unfold RG
  rw [heap_setCell_same w k 5 _ _ _ h]
  rfl
theorem row_ (h : RG w k g v4 v5) (g' : Gm) (v4' v5' : Value) : RG (w.setRow k (rgA g' v4' v5')) k g' v4' v5' := setRow_heap w k _ _ _ _ h
end RG
theorem rg_size (g : Gm) (v4 v5 : Value) : (Tryd.prog.info? 35).map (·.size) = some (rgA g v4 v5).size := by
  rw [show (rgA g v4 v5).size = 6 from rfl]
  kernel_rfl
theorem rg_all (g : Gm) (v4 v5 : Value) (h4 : v4.oneCell' = true) (h5 : v5.oneCell' = true) : (rgA g v4 v5).all (·.oneCell') = true := by
  refine Array.all_eq_true_iff_forall_mem.2 fun v hv => ?_
  simp only [rgA, List.mem_toArray, List.mem_cons, List.not_mem_nil, or_false] at hv
  rcases hv with rfl | rfl | rfl | rfl | rfl | rfl
  · rfl
  · rfl
  · rfl
  · rfl
  · exact h4
  · exact h5
theorem own_one {w : World} {B n sz : Nat} {e : TypeId} {v : Value} {xs : List Value} (h : w.ownsRow B e sz v n xs) : v.oneCell' = true := by
  rcases h.2 with ⟨rfl, _⟩ | ⟨_, _, _, rfl, _⟩ <;> rfl
section
variable {ops : Array Oper} {rest : List Oper} {o : Oper} {a : Act} {w : World} {Q : Exit → Act → World → Prop} {S : World → Prop} {K : Act → World → Prop}
theorem yk_ldCs (hw : Region.wanted o (yielded ops a.tmps) = true) (x : Operand) (ho : o.op = .load 23 x) (p : Addr) (v : Value) (hx : a.eval x = .pointer (some p)) (hS : ∀ w, S w → w.cell? p = some v) : YieldsIf Tryd.prog ops S o v a :=
  .inl ⟨hw, fun w h => by
    have hc := hS w h
    unfold execOp
    simp only [ho, hx]
    go_simp⟩
theorem wp_alRG (ho : o.op = .alloc 35) (h : K (a.put o.dst (.pointer (some ⟨w.heap.size, 0, none⟩))) (w.alloc (.cells (rgA zGm (.slice none 0 0) (.slice none 0 0)) 35))) : o.wp Tryd.prog a w K Q := by
  have hz : (zeroValue 35).run Tryd.prog w = .ok (.agg (rgA zGm (.slice none 0 0) (.slice none 0 0))) w := by kernel_rfl
  unfold Oper.wp execOp
  simp only [ho, Instr.alloc, newVar, newRow, run_newObj_alloc, Sem.run_bind, Sem.run_pure, Result.andThen_ok, hz, Value.cells]
  exact h
theorem wp_stRG (x y : Operand) (ho : o.op = .store 35 x y) (k : Nat) (g' : Gm) (v4' v5' : Value) (hx : a.eval x = .pointer (some ⟨k, 0, none⟩)) (hy : a.eval y = .agg (rgA g' v4' v5')) (h4 : v4'.oneCell' = true) (h5 : v5'.oneCell' = true) {g : Gm} {v4 v5 : Value} (q : RG w k g v4 v5)
    (h : K (a.put o.dst undef) (w.setRow k (rgA g' v4' v5'))) : o.wp Tryd.prog a w K Q :=
  wp_store_row 35 x y ho k _ hx hy _ _ q (rg_size _ _ _) rfl (rg_all _ _ _ h4 h5) h
theorem wpList_stRG (hg : o.guard = none) (x y : Operand) (ho : o.op = .store 35 x y) (k : Nat) (g' : Gm) (v4' v5' : Value) (hx : a.eval x = .pointer (some ⟨k, 0, none⟩)) (hy : a.eval y = .agg (rgA g' v4' v5')) (h4 : v4'.oneCell' = true) (h5 : v5'.oneCell' = true) {g : Gm} {v4 v5 : Value} (q : RG w k g v4 v5)
    (h : wpList Tryd.prog ops Q rest (a.put o.dst undef) (w.setRow k (rgA g' v4' v5'))) : wpList Tryd.prog ops Q (o :: rest) a w :=
  wpList_store_row hg 35 x y ho k _ hx hy _ _ q (rg_size _ _ _) rfl (rg_all _ _ _ h4 h5) h
end
set_option maxHeartbeats 8000000 in
set_option maxRecDepth 20000 in
theorem ROwn_calls (g : Gm) (s : Gs) (w : World) (hin : GIn w g s) (hok : GOk g s) :
    Calls Tryd.prog 14 #[.agg (gmA g s)] w fun e w' => ∃ s', e = .returned (.agg (gmA g s')) ∧ GIn w' g s' ∧ GOk g s' ∧ Below w.heap.size w w' := by
  have hz1 : (w.alloc (.cells (gmA g s) 26)).heap.size = w.heap.size + 1 := by simp
  have hb := below_alloc2 w (.cells (gmA g s) 26) (.cells (rgA zGm (.slice none 0 0) (.slice none 0 0)) 35)
  have hG := (GBox.new_ w g s).ext (below_alloc1 _ (.cells (rgA zGm (.slice none 0 0) (.slice none 0 0)) 35))
  have hR := RG.new_ (w.alloc (.cells (gmA g s) 26)) zGm (.slice none 0 0) (.slice none 0 0)
  rw [hz1] at hR
  have hC := fun W h => RCells_calls s.A g.L g.L.length s.c s.b W h rfl (by have := hok.lL; omega)
  go_enter Tryd.func14, Tryd.ntmps14
  go_upto_region 1 with fail
  obtain ⟨B, hB⟩ : ∃ B, B = w.heap.size := ⟨_, rfl⟩
  obtain ⟨wa, hwa⟩ : ∃ wa, wa = (w.alloc (.cells (gmA g s) 26)).alloc (.cells #[.int .i64 0, .int .i64 0, .int .u32 0, .int .u32 0, .slice none 0 0, .slice none 0 0] 35) := ⟨_, rfl⟩
  have hwa' := hwa
  rw [show (#[.int .i64 0, .int .i64 0, .int .u32 0, .int .u32 0, .slice none 0 0, .slice none 0 0] : Array Value) = rgA zGm (.slice none 0 0) (.slice none 0 0) from rfl] at hwa'
  rw [← hwa'] at hb hG hR
  rw [← hwa, ← hB]
  have hbB : Below B w wa := by rw [hB]; exact hb
  rw [← hB] at hG hR
  have HB := Lib.hid hB
  clear hwa hwa' hz1 hB hb
  have hsc := Sl.ext hin.sc (by rw [← HB.out]; exact hbB)
  have hwz := hG.lt
  have hRl := hR.lt
  go_cut [3] (fun p w9 => ∃ (K3 : Nat) (v4 : Value) (wy : World), wy = w9 ∧ p = .pointer (some ⟨K3, 0, none⟩) ∧ wa.heap.size ≤ K3 ∧ RG wy K3 g v4 (.slice none 0 0) ∧ RowC 110 wy wa.heap.size v4 g.L ∧ (∀ k, v4.ownBlock = some k → ¬ k = K3) ∧ Below wa.heap.size wa wy)
  case first =>
    go_wp2_with fail
    refine wp_region_held_drew (S := fun w' => Below wa.heap.size wa w') (by kernel_rfl) ?_ (fun hHeld => ?_)
    · exact below_drew (Below.refl _ _)
    obtain ⟨wd, hwd⟩ : ∃ wd, wd = World.drew wa := ⟨_, rfl⟩
    have hbx : Below wa.heap.size wa wd := by rw [hwd]; exact below_drew (Below.refl _ _)
    rw [← hwd] at hHeld ⊢
    clear hwd
    refine wpAnyH_take (i := 0) (by simp only [List.getElem?_toArray]; rfl) (by kernel_rfl) (by kernel_rfl) (by kernel_rfl) (by exact fun _ _ _ h => h) (by exact yk (.pointer (some ⟨B, 0, none⟩)) (by kernel_rfl) (fun _ => by kernel_rfl)) hHeld ?_
    refine wpAnyH_take (i := 1) (by simp only [List.getElem?_toArray]; rfl) (by kernel_rfl) (by kernel_rfl) (by kernel_rfl) (by exact fun _ _ _ h => h) (by exact yk_ldI (by kernel_rfl) (.tmp 6) rfl ⟨B, 0, none⟩ (.int .i64 g.ob) (by kernel_rfl) (fun _ h => (hG.ext h).c0)) hHeld ?_
    refine wpAnyH_take (i := 2) (by simp only [List.getElem?_toArray]; rfl) (by kernel_rfl) (by kernel_rfl) (by kernel_rfl) (by exact fun _ _ _ h => h) (by exact yk (.pointer (some ⟨B, 1, none⟩)) (by kernel_rfl) (fun _ => by kernel_rfl)) hHeld ?_
    refine wpAnyH_take (i := 3) (by simp only [List.getElem?_toArray]; rfl) (by kernel_rfl) (by kernel_rfl) (by kernel_rfl) (by exact fun _ _ _ h => h) (by exact yk_ldI (by kernel_rfl) (.tmp 8) rfl ⟨B, 1, none⟩ (.int .i64 g.pl) (by kernel_rfl) (fun _ h => (hG.ext h).c1)) hHeld ?_
    refine wpAnyH_take (i := 4) (by simp only [List.getElem?_toArray]; rfl) (by kernel_rfl) (by kernel_rfl) (by kernel_rfl) (by exact fun _ _ _ h => h) (by exact yk (.pointer (some ⟨B, 2, none⟩)) (by kernel_rfl) (fun _ => by kernel_rfl)) hHeld ?_
    refine wpAnyH_take (i := 5) (by simp only [List.getElem?_toArray]; rfl) (by kernel_rfl) (by kernel_rfl) (by kernel_rfl) (by exact fun _ _ _ h => h) (by exact yk_ldW (by kernel_rfl) (.tmp 10) rfl ⟨B, 2, none⟩ (.int .u32 (g.mv : Int)) (by kernel_rfl) (fun _ h => (hG.ext h).c2)) hHeld ?_
    refine wpAnyH_take (i := 6) (by simp only [List.getElem?_toArray]; rfl) (by kernel_rfl) (by kernel_rfl) (by kernel_rfl) (by exact fun _ _ _ h => h) (by exact yk (.pointer (some ⟨B, 3, none⟩)) (by kernel_rfl) (fun _ => by kernel_rfl)) hHeld ?_
    refine wpAnyH_take (i := 7) (by simp only [List.getElem?_toArray]; rfl) (by kernel_rfl) (by kernel_rfl) (by kernel_rfl) (by exact fun _ _ _ h => h) (by exact yk_ldW (by kernel_rfl) (.tmp 12) rfl ⟨B, 3, none⟩ (.int .u32 (g.df : Int)) (by kernel_rfl) (fun _ h => (hG.ext h).c3)) hHeld ?_
    refine wpAnyH_take (i := 8) (by simp only [List.getElem?_toArray]; rfl) (by kernel_rfl) (by kernel_rfl) (by kernel_rfl) (by exact fun _ _ _ h => h) (by exact yk (.pointer (some ⟨B, 4, none⟩)) (by kernel_rfl) (fun _ => by kernel_rfl)) hHeld ?_
    refine wpAnyH_take (i := 9) (by simp only [List.getElem?_toArray]; rfl) (by kernel_rfl) (by kernel_rfl) (by kernel_rfl) (by exact fun _ _ _ h => h) (by exact yk_ldCs (by kernel_rfl) (.tmp 14) rfl ⟨B, 4, none⟩ (.slice s.A g.L.length s.c) (by kernel_rfl) (fun _ h => (hG.ext h).c4)) hHeld ?_
    try simp only [Act.put, List.setIfInBounds_toArray, List.set_cons_zero, List.set_cons_succ]
    refine wpAnyH_ready (rs := [10, 12]) (by kernel_rfl) (by simp) ?_
    refine AllReadyH.cons (by simp only [List.getElem?_toArray]; rfl) (fun KK hKK => ?_) (AllReadyH.cons (by simp only [List.getElem?_toArray]; rfl) (fun KK hKK => ?_) AllReadyH.nil)
    · skip
      refine wp_callF 43 #[.slice s.A g.L.length s.c] (by kernel_rfl) ?_
      refine (hC _ (Sl.ext hsc hbx)).mono ?_
      rintro e wn ⟨v4, rfl, hv4, hn⟩
      obtain ⟨A4, c4, b4, hv4e, -⟩ := RowC.sl hv4
      subst hv4e
      refine ⟨_, rfl, ?_⟩
      have hv4b : wa.heap.size ≤ wd.heap.size := hbx.size
      replace hbx := hbx.trans (hn.mono hbx.size)
      clear hn
      refine hKK.out _ _ ?_ (fun hHeld => ?_)
      · exact hbx
      clear hKK KK
      try simp only [Act.put, List.setIfInBounds_toArray, List.set_cons_zero, List.set_cons_succ]
      refine wpAnyH_take (i := 11) (by simp only [List.getElem?_toArray]; rfl) (by kernel_rfl) (by kernel_rfl) (by kernel_rfl) (by exact fun _ _ _ h => h) (by exact yk (.agg (rgA g (.slice A4 g.L.length c4) (.slice none 0 0))) (by kernel_rfl) (fun _ => by kernel_rfl)) hHeld ?_
      try simp only [Act.put, List.setIfInBounds_toArray, List.set_cons_zero, List.set_cons_succ]
      refine wpAnyH_ready (rs := [12]) (by kernel_rfl) (by simp) ?_
      refine AllReadyH.cons (by simp only [List.getElem?_toArray]; rfl) (fun KK hKK => ?_) AllReadyH.nil
      refine wp_alRG rfl ?_
      have hn := below_alloc1 wn (.cells (rgA zGm (.slice none 0 0) (.slice none 0 0)) 35)
      have q3 := RG.new_ wn zGm (.slice none 0 0) (.slice none 0 0)
      have hk3 : wa.heap.size ≤ wn.heap.size := hbx.size
      obtain ⟨K3, hK3⟩ : ∃ K3, K3 = wn.heap.size := ⟨_, rfl⟩
      have hne : ∀ k, Value.ownBlock (.slice A4 g.L.length c4) = some k → ¬ k = K3 := fun k hk h => by have := (World.ownsRow.lt hv4 k hk).2; omega
      obtain ⟨wm, hwm⟩ : ∃ wm, wm = wn.alloc (.cells (rgA zGm (.slice none 0 0) (.slice none 0 0)) 35) := ⟨_, rfl⟩
      rw [← hwm] at hn q3 ⊢
      rw [← hK3] at q3 hk3 ⊢
      clear hwm hK3
      replace hv4 := hv4.ext hn
      replace hbx := hbx.trans (hn.mono hbx.size)
      clear hn
      refine hKK.out _ _ ?_ (fun hHeld => ?_)
      · exact hbx
      clear hKK KK
      try simp only [Act.put, List.setIfInBounds_toArray, List.set_cons_zero, List.set_cons_succ]
      refine wpAnyH_ready (rs := [13]) (by kernel_rfl) (by simp) ?_
      refine AllReadyH.cons (by simp only [List.getElem?_toArray]; rfl) (fun KK hKK => ?_) AllReadyH.nil
      refine wp_stRG (.tmp 3) (.tmp 17) rfl K3 g (.slice A4 g.L.length c4) (.slice none 0 0) (by kernel_rfl) (by kernel_rfl) (own_one hv4) rfl q3 ?_
      have hm9 := mod_setRow wm (K3) (rgA g (.slice A4 g.L.length c4) (.slice none 0 0))
      replace hbx := below_setRow hbx K3 (rgA g (.slice A4 g.L.length c4) (.slice none 0 0)) hk3
      replace q3 := q3.row_ g (.slice A4 g.L.length c4) (.slice none 0 0)
      replace hv4 := owns_modK hv4 hm9 (fun k hk h => hne k hk h)
      refine hKK.out _ _ ?_ (fun hHeld => ?_)
      · exact hbx
      clear hKK KK
      refine wpAnyH_done (by kernel_rfl) ?_ _
      try simp only [Act.put]
      go_wp2_with fail
      go_meet
      exact ⟨K3, _, _, rfl, rfl, hk3, q3, owns_lowK hv4 hv4b, hne, hbx⟩
    · skip
      refine wp_alRG rfl ?_
      have hn := below_alloc1 wd (.cells (rgA zGm (.slice none 0 0) (.slice none 0 0)) 35)
      have q3 := RG.new_ wd zGm (.slice none 0 0) (.slice none 0 0)
      have hk3 : wa.heap.size ≤ wd.heap.size := hbx.size
      obtain ⟨K3, hK3⟩ : ∃ K3, K3 = wd.heap.size := ⟨_, rfl⟩
      obtain ⟨wm, hwm⟩ : ∃ wm, wm = wd.alloc (.cells (rgA zGm (.slice none 0 0) (.slice none 0 0)) 35) := ⟨_, rfl⟩
      rw [← hwm] at hn q3 ⊢
      rw [← hK3] at q3 hk3 ⊢
      clear hwm hK3
      replace hbx := hbx.trans (hn.mono hbx.size)
      clear hn
      refine hKK.out _ _ ?_ (fun hHeld => ?_)
      · exact hbx
      clear hKK KK
      try simp only [Act.put, List.setIfInBounds_toArray, List.set_cons_zero, List.set_cons_succ]
      refine wpAnyH_ready (rs := [10]) (by kernel_rfl) (by simp) ?_
      refine AllReadyH.cons (by simp only [List.getElem?_toArray]; rfl) (fun KK hKK => ?_) AllReadyH.nil
      refine wp_callF 43 #[.slice s.A g.L.length s.c] (by kernel_rfl) ?_
      refine (hC _ (Sl.ext hsc hbx)).mono ?_
      rintro e wn ⟨v4, rfl, hv4, hn⟩
      obtain ⟨A4, c4, b4, hv4e, -⟩ := RowC.sl hv4
      subst hv4e
      refine ⟨_, rfl, ?_⟩
      have hv4b : wa.heap.size ≤ wm.heap.size := hbx.size
      have hne : ∀ k, Value.ownBlock (.slice A4 g.L.length c4) = some k → ¬ k = K3 := fun k hk h => by have := (World.ownsRow.lt hv4 k hk).1; have := q3.lt; omega
      replace q3 := q3.ext hn
      replace hbx := hbx.trans (hn.mono hbx.size)
      clear hn
      refine hKK.out _ _ ?_ (fun hHeld => ?_)
      · exact hbx
      clear hKK KK
      try simp only [Act.put, List.setIfInBounds_toArray, List.set_cons_zero, List.set_cons_succ]
      refine wpAnyH_take (i := 11) (by simp only [List.getElem?_toArray]; rfl) (by kernel_rfl) (by kernel_rfl) (by kernel_rfl) (by exact fun _ _ _ h => h) (by exact yk (.agg (rgA g (.slice A4 g.L.length c4) (.slice none 0 0))) (by kernel_rfl) (fun _ => by kernel_rfl)) hHeld ?_
      try simp only [Act.put, List.setIfInBounds_toArray, List.set_cons_zero, List.set_cons_succ]
      refine wpAnyH_ready (rs := [13]) (by kernel_rfl) (by simp) ?_
      refine AllReadyH.cons (by simp only [List.getElem?_toArray]; rfl) (fun KK hKK => ?_) AllReadyH.nil
      refine wp_stRG (.tmp 3) (.tmp 17) rfl K3 g (.slice A4 g.L.length c4) (.slice none 0 0) (by kernel_rfl) (by kernel_rfl) (own_one hv4) rfl q3 ?_
      have hm9 := mod_setRow wn (K3) (rgA g (.slice A4 g.L.length c4) (.slice none 0 0))
      replace hbx := below_setRow hbx K3 (rgA g (.slice A4 g.L.length c4) (.slice none 0 0)) hk3
      replace q3 := q3.row_ g (.slice A4 g.L.length c4) (.slice none 0 0)
      replace hv4 := owns_modK hv4 hm9 (fun k hk h => hne k hk h)
      refine hKK.out _ _ ?_ (fun hHeld => ?_)
      · exact hbx
      clear hKK KK
      refine wpAnyH_done (by kernel_rfl) ?_ _
      try simp only [Act.put]
      go_wp2_with fail
      go_meet
      exact ⟨K3, _, _, rfl, rfl, hk3, q3, owns_lowK hv4 hv4b, hne, hbx⟩
  case rest =>
    obtain ⟨K3, v4, wy, rfl, rfl, hK3, hR3, hv4, hne4, hb9⟩ := hcut
    have hG9 := hG.ext hb9
    have z5 := hG9.c5
    have hbw := hbB.trans (hb9.mono (by omega))
    have hsk : Sl wy s.b' s.A' (kv g.K) := Sl.ext hin.sk (by rw [← HB.out]; exact hbw)
    obtain ⟨KA, hKA⟩ : ∃ KA, KA = s.A' := ⟨_, rfl⟩
    obtain ⟨nK, hnK⟩ : ∃ nK, nK = g.K.length := ⟨_, rfl⟩
    rw [← hKA] at z5 hsk
    rw [← hnK] at z5
    have HNK := Lib.hid hnK
    have hK100 : nK ≤ 100 := by rw [HNK.out]; exact hok.lK
    have hRy := hR.ext hb9
    have hB2 : B + 1 < K3 := by omega
    have hskl : g.K ≠ [] → s.b' < B := fun h => by
      rw [HB.out]
      exact Sl.lt hin.sk (by intro h0; have h5 := congrArg List.length h0; rw [kv_length, List.length_nil] at h5; exact h (List.eq_nil_of_length_eq_zero (by omega)))
    clear hKA hnK hG hR hsc hin
    go_wp2_with fail
    clear z5
    have hwy := hR3.lt
    go_loopw [5, 21] (fun _ i wr => ∃ (k : Nat) (v5 : Value), k ≤ nK ∧ i = .int .i64 k ∧ RG wr K3 g v4 v5 ∧ RowK 108 wr wy.heap.size v5 (g.K.take k) ∧ Mod (fun i => i = K3) wy wr) (fun _ i _ => nK - (intOf i).toNat)
    case atStart => exact ⟨0, _, Nat.zero_le _, rfl, hR3, RowK.nil_ _ _ _, Mod.refl _ _⟩
    case round =>
      obtain ⟨k, v5, hk, rfl, hq, hrow, hm⟩ := hrel
      by_cases hlt : k < nK
      · have ej : (k : Int) < (nK : Int) := by omega
        have hkK : k < g.K.length := by rw [← HNK.out]; exact hlt
        have hne : s.b' ≠ K3 := by have := hskl (by intro h0; rw [h0] at hkK; simp at hkK); omega
        obtain ⟨off, rfl, h0, h1, h2, h3, h4, h5⟩ := sl_code (hsk.mod hm (by show ¬ s.b' = K3; exact hne)) hkK
        have HL := Lib.hid (show (g.K.take k).length = k by simp; omega)
        have HT := Lib.hid (take_nextK hkK)
        obtain ⟨p, hp⟩ : ∃ p, p = g.K[k] := ⟨_, rfl⟩
        rw [← hp] at h0 h1 h2 h3 h4 h5 HT
        obtain ⟨op, a, b', cc, n, m⟩ := p
        simp only at h0 h1 h2 h3 h4 h5
        clear hp
        have hzm := hm.size
        have hq2 := hq.ext (below_alloc1 wr (.cells #[.int .u8 (op : Int), .int .u8 (a : Int), .int .u8 (b' : Int), .int .u8 (cc : Int), .int .i32 n, .int .u32 (m : Int)] 102))
        have hr2 := World.ownsRow.alloc hrow (.cells #[.int .u8 (op : Int), .int .u8 (a : Int), .int .u8 (b' : Int), .int .u8 (cc : Int), .int .i32 n, .int .u32 (m : Int)] 102)
        have hm2 := hm.trans (Mod.alloc (fun i => i = K3) wr (.cells #[.int .u8 (op : Int), .int .u8 (a : Int), .int .u8 (b' : Int), .int .u8 (cc : Int), .int .i32 n, .int .u32 (m : Int)] 102)) (fun i _ h => h) (fun i _ h => h)
        have hmA := hm2.trans (Mod.alloc (fun i => i = K3) _ (.cells (kv [⟨op, a, b', cc, n, m⟩]).toArray 108)) (fun i _ h => h) (fun i _ h => h)
        have hsn := sl_new (wr.alloc (.cells #[.int .u8 (op : Int), .int .u8 (a : Int), .int .u8 (b' : Int), .int .u8 (cc : Int), .int .i32 n, .int .u32 (m : Int)] 102)) (kv [⟨op, a, b', cc, n, m⟩]) 108
        rw [show (wr.alloc (.cells #[.int .u8 (op : Int), .int .u8 (a : Int), .int .u8 (b' : Int), .int .u8 (cc : Int), .int .i32 n, .int .u32 (m : Int)] 102)).heap.size = wr.heap.size + 1 by simp] at hsn
        have c5 := hq2.c5
        have hq3 := hq2.ext (below_alloc1 _ (.cells (kv [⟨op, a, b', cc, n, m⟩]).toArray 108))
        have hr3 := World.ownsRow.alloc hr2 (.cells (kv [⟨op, a, b', cc, n, m⟩]).toArray 108)
        have hne5 : ∀ j, v5.ownBlock = some j → ¬ j = K3 := fun j hj h => by have := (World.ownsRow.lt hrow j hj).1; omega
        have hlt5 : ∀ j, v5.ownBlock = some j → wy.heap.size ≤ j := fun j hj => (World.ownsRow.lt hrow j hj).1
        have HL0 := Lib.hid (show (g.K.take k ++ [(⟨op, a, b', cc, n, m⟩ : Cd)]).length = k + 1 by rw [List.length_append, HL.out]; rfl)
        clear hrow hq
        go_wp2_with ((with_reducible refine at_ca 41 _ ?_); refine wpList_appK _ Tryd.underlying33 codeO_info rfl (.tmp 26) (.tmp 40) rfl wy.heap.size v5 (g.K.take k) rfl hr3 _ (some ⟨_, 0, none⟩) 1 1 [⟨op, a, b', cc, n, m⟩] rfl hsn rfl (by rw [HL.out]; omega) hmA.size ?_; intro v' w4 hrow4 hmod hat; obtain ⟨A2, c2, b2, hv2, -⟩ := RowK.sl hrow4; rw [HL0.out] at hv2; subst hv2; (have hq4 := hq3.mod hmod (fun h => hne5 _ h rfl)); (have c5 := hq4.c5); (have f5 := hq4.free 5))
        have hgr := hmA.trans hmod (fun i _ h => h) (fun i hi h => absurd (hlt5 i h) (by omega))
        have hst := Mod.setCell w4 ⟨K3, 5, none⟩ (.slice A2 (k + 1) c2)
        have hbo : ∀ j, Value.ownBlock (.slice A2 (k + 1) c2) = some j → ¬ j = K3 := fun j hj h => by have := (World.ownsRow.lt hrow4 j hj).1; omega
        have hq5 := hq4.s5 (.slice A2 (k + 1) c2)
        have hr5 := owns_modK hrow4 hst hbo
        have hm5 := hgr.trans hst (fun i _ h => h) (fun i _ h => h)
        go_roundw
        case rel => exact ⟨k + 1, _, by omega, by go_num, hq5, by rw [HT.out]; exact hr5, hm5⟩
        case measure => simp [intOf]; omega
      · obtain rfl : nK = k := by omega
        obtain ⟨A5, c5', b5', hv5, hc5', hm5', -, hB5, hsl5, -⟩ := RowK.sl hrow
        subst hv5
        have htk : g.K.take nK = g.K := by rw [HNK.out, List.take_length]
        rw [htk] at hq hrow hsl5 hc5'
        have hv4' := owns_modK hv4 hm hne4
        obtain ⟨A4, c4, b4, hv4e, hc4, hm4, -, hB4, hsl4, -⟩ := RowC.sl hv4'
        subst hv4e
        have hRz := hRy.mod hm (by show ¬ B + 1 = K3; omega)
        have hbz : Below B w wr := hbw.trans ((hm.below (B := B) (by omega) (fun i hi e => by have e : i = K3 := e; omega)))
        have c0 := hq.c0
        have c1 := hq.c1
        have c2 := hq.c2
        have c3 := hq.c3
        have c4' := hq.c4
        have c5 := hq.c5
        have HSL4 := Lib.hid hsl4
        have HSL5 := Lib.hid hsl5
        have hrl := hRz.row_ g (.slice A4 g.L.length c4) (.slice A5 g.K.length c5')
        have hms := mod_setRow wr (B + 1) (rgA g (.slice A4 g.L.length c4) (.slice A5 g.K.length c5'))
        have hbs := below_setRow hbz (B + 1) (rgA g (.slice A4 g.L.length c4) (.slice A5 g.K.length c5')) (by omega)
        clear htk hrow hv4' hsl4 hsl5 hv4 hne4 hRy hm
        go_wp2_with ((with_reducible refine at_st 35 2 44 ?_); refine wpList_stRG rfl (.tmp 2) (.tmp 44) rfl (B + 1) g (.slice A4 g.L.length c4) (.slice A5 g.K.length c5') rfl rfl rfl rfl hRz ?_)
        refine bodyPost_ret (results_cell_row (P := Tryd.prog) rfl _ _ (B + 1) _ _ (0, 0) _ rfl hrl Tryd.underlying35 rfl (rg_size _ _ _)) rfl ?_
        refine ⟨⟨A4, c4, b4, A5, c5', b5'⟩, rfl, ⟨?_, ?_⟩, { hok with hL := hc4, hK := hc5' }, ?_⟩
        · exact HSL4.out.mod hms (by show ¬ b4 = B + 1; omega)
        · exact HSL5.out.mod hms (by show ¬ b5' = B + 1; omega)
        · rw [← HB.out]; exact hbs
end Go.Proofs.YtfopdoeiahlhpaaDoor
