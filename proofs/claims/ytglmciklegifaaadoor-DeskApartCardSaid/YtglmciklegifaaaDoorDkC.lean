/- What New makes. Conditions: the numbers fit; the table lies. -/
import Derived.Test.YtglmciklegifaaaDoorDkB
import Derived.Outline
namespace Go.Proofs.YtglmciklegifaaaDoor
open Go.RowKit

def newS (g : Gm) : DkS := if rightB g = true then ⟨g.pl.toNat, g.mv, g.df, 0, 0, fun _ _ => none⟩ else ⟨0, 0, 0, 0, 0, fun _ _ => none⟩
theorem right_pl {g : Gm} (h : rightB g = true) : 1 ≤ g.pl ∧ g.pl ≤ 6 ∧ g.df < g.mv := by
  unfold rightB at h
  simp only [Bool.and_eq_true, decide_eq_true_eq] at h
  omega
theorem six_set {w : World} {b : Nat} {t : TypeId} {c0 c1 c2 c3 c4 c5 c6 c7 : Value} (v0 v1 v2 v3 v4 v5 : Value) (h : w.heap[b]? = some (.cells #[c0, c1, c2, c3, c4, c5, c6, c7] t (0, 0))) :
    ((((((w.setCell ⟨b, 0, none⟩ v0).setCell ⟨b, 1, none⟩ v1).setCell ⟨b, 2, none⟩ v2).setCell ⟨b, 3, none⟩ v3).setCell ⟨b, 4, none⟩ v4).setCell ⟨b, 5, none⟩ v5).heap[b]? = some (.cells #[v0, v1, v2, v3, v4, v5, c6, c7] t (0, 0)) ∧
    Mod (fun i => i = b) w ((((((w.setCell ⟨b, 0, none⟩ v0).setCell ⟨b, 1, none⟩ v1).setCell ⟨b, 2, none⟩ v2).setCell ⟨b, 3, none⟩ v3).setCell ⟨b, 4, none⟩ v4).setCell ⟨b, 5, none⟩ v5) := by
  have h0 := heap_setCell_same w b 0 _ _ v0 h
  have h1 := heap_setCell_same _ b 1 _ _ v1 h0
  have h2 := heap_setCell_same _ b 2 _ _ v2 h1
  have h3 := heap_setCell_same _ b 3 _ _ v3 h2
  have h4 := heap_setCell_same _ b 4 _ _ v4 h3
  have h5 := heap_setCell_same _ b 5 _ _ v5 h4
  refine ⟨h5, ?_⟩
  have id : ∀ (x : World) (i : Nat), i < x.heap.size → i = b → i = b := fun _ _ _ h => h
  exact ((((((Mod.setCell w ⟨b, 0, none⟩ v0).trans (Mod.setCell _ ⟨b, 1, none⟩ v1) (id _) (id _)).trans (Mod.setCell _ ⟨b, 2, none⟩ v2) (id _) (id _)).trans (Mod.setCell _ ⟨b, 3, none⟩ v3) (id _) (id _)).trans (Mod.setCell _ ⟨b, 4, none⟩ v4) (id _) (id _)).trans (Mod.setCell _ ⟨b, 5, none⟩ v5) (id _) (id _))
set_option maxHeartbeats 4000000 in
set_option maxRecDepth 20000 in
theorem New_calls (g : Gm) (s : Gs) (w : World) (hin : GIn w g s) (hok : GOk g s) (hT : CTab w) :
    Calls Tryd.prog 11 #[.agg (gmA g s)] w fun e w' => ∃ b bm, e = .returned (.pointer (some ⟨b, 0, none⟩)) ∧ Dk w' b bm (newS g) ∧ w.heap.size ≤ b ∧ w.heap.size ≤ bm ∧ Below w.heap.size w w' := by
  have hb := below_alloc1 w (.cells (gmA g s) 26)
  have hG := GBox.new_ w g s
  have hin1 := hin.ext hb
  have hT1 := hT.ext hb
  have hM := Mv.made (w.alloc (.cells (gmA g s) 26))
  have h2 := below_alloc1 (w.alloc (.cells (gmA g s) 26)) (.map #[] 0)
  have h3 := below_alloc1 ((w.alloc (.cells (gmA g s) 26)).alloc (.map #[] 0)) (.cells #[.int .i64 0, .int .i64 0, .int .u32 0, .int .u32 0, .slice none 0 0, .slice none 0 0, .int .u32 0, .map (some (w.heap.size + 1))] 64)
  have hD : (((w.alloc (.cells (gmA g s) 26)).alloc (.map #[] 0)).alloc (.cells #[.int .i64 0, .int .i64 0, .int .u32 0, .int .u32 0, .slice none 0 0, .slice none 0 0, .int .u32 0, .map (some (w.heap.size + 1))] 64)).heap[w.heap.size + 1 + 1]? = some (.cells #[.int .i64 0, .int .i64 0, .int .u32 0, .int .u32 0, .slice none 0 0, .slice none 0 0, .int .u32 0, .map (some (w.heap.size + 1))] 64 (0, 0)) := by
    have h := heap_alloc_new ((w.alloc (.cells (gmA g s) 26)).alloc (.map #[] 0)) (.cells #[.int .i64 0, .int .i64 0, .int .u32 0, .int .u32 0, .slice none 0 0, .slice none 0 0, .int .u32 0, .map (some (w.heap.size + 1))] 64)
    rwa [World.size_alloc, World.size_alloc] at h
  have h4 := h2.trans (h3.mono h2.size)
  replace hM := hM.ext h3
  rw [World.size_alloc] at hM
  replace hG := hG.ext h4
  replace hin1 := hin1.ext h4
  replace hT1 := hT1.ext h4
  replace hb := hb.trans (h4.mono hb.size)
  have hR := fun W h hT => GRight_calls g s W h hok hT
  obtain ⟨D, hDr⟩ : ∃ D, D = rightB g := ⟨_, rfl⟩
  rw [← hDr] at hR
  have q0 := hG.c0
  have q1 := hG.c1
  have q2 := hG.c2
  have q3 := hG.c3
  have q4 := hG.c4
  have q5 := hG.c5
  have HR := Lib.hid hDr
  have hmm := @run_makeMap Tryd.prog
  clear h2 h3 h4 hin hT hDr
  go_enter Tryd.func11, Tryd.ntmps11
  go_wp2_with fail
  refine (hR _ hin1 hT1).mono ?_
  rintro e w4 ⟨rfl, h1⟩
  replace hM := hM.ext h1
  replace hG := hG.ext h1
  replace hD := dbox_ext hD h1
  replace hb := hb.trans (h1.mono hb.size)
  clear h1 q0 q1 q2 q3 q4 q5 hR hin1 hT1 hmm
  have q0 := hG.c0
  have q1 := hG.c1
  have q2 := hG.c2
  have q3 := hG.c3
  have q4 := hG.c4
  have q5 := hG.c5
  cases D with
  | false =>
    go_wp2_with fail
    go_ret
    have e : newS g = ⟨0, 0, 0, 0, 0, fun _ _ => none⟩ := by unfold newS; rw [← HR.out]; rfl
    exact ⟨_, _, rfl, by rw [e]; exact ⟨hD, hM, ⟨by decide, by decide, by decide, by decide⟩⟩, by omega, by omega, hb⟩
  | true =>
    have hff := fun j => frozen_of_row _ (w.heap.size + 1 + 1) j _ _ hD
    obtain ⟨d0, d1, d2, d3, d4, d5, d6, d7⟩ := dbox8_all hD
    go_wp2_with fail
    obtain ⟨h9, m9⟩ := six_set (.int .i64 0) (.int .i64 g.pl) (.int .u32 (g.mv : Int)) (.int .u32 (g.df : Int)) (.slice none 0 0) (.slice none 0 0) hD
    obtain ⟨e1, e2, e3⟩ := right_pl HR.out.symm
    have e : newS g = ⟨g.pl.toNat, g.mv, g.df, 0, 0, fun _ _ => none⟩ := by unfold newS; rw [← HR.out]; rfl
    have hpl : ((g.pl.toNat : Nat) : Int) = g.pl := Int.toNat_of_nonneg (by omega)
    replace hM := hM.mod m9 (by omega)
    have hb9 := m9.below hb.size (fun i hi => by omega)
    have hmv : g.mv ≤ 4294967295 := hok.m1
    go_ret
    exact ⟨_, _, rfl, by rw [e]; exact ⟨by rw [h9]; simp only [dkA, hpl]; rfl, hM, ⟨by show g.pl.toNat ≤ 6; omega, by show g.mv < _; omega, by show g.df < _; omega, by show 0 < 4294967296; omega⟩⟩, by omega, by omega, hb.trans hb9⟩
end Go.Proofs.YtglmciklegifaaaDoor
