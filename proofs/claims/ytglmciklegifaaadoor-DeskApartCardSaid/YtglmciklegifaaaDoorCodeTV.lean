/- The table of the operations, as the row lays it: what the walks want of it. No condition. -/
import Derived.Test.YtglmciklegifaaaDoorRows
import Derived.Test.YtglmciklegifaaaDoorMaskN
import Derived.Lib.LaidU8
import Derived.Lib.LaidTab
import Derived.Lib.ItoaNum
import Derived.Deep.Strs
import Derived.OpenShut
namespace Go.Proofs.YtglmciklegifaaaDoor
open Go.RowKit

/-- Each operation: its word, what it uses, what N is. -/
def shapeT : List (List UInt8 × Nat × Nat) := [([115, 116, 111, 112], 0, 0), ([115, 101, 116], 1, 1), ([108, 111, 97, 100], 1, 3), ([115, 116, 111, 114, 101], 1, 3), ([108, 111, 97, 100, 97, 116], 3, 3), ([115, 116, 111, 114, 101, 97, 116], 3, 3), ([97, 100, 100], 7, 0), ([115, 117, 98], 7, 0), ([109, 117, 108], 7, 0), ([100, 105, 118], 7, 0), ([109, 111, 100], 7, 0), ([97, 110, 100], 7, 0), ([111, 114], 7, 0), ([120, 111, 114], 7, 0), ([115, 104, 108], 7, 0), ([115, 104, 114], 7, 0), ([108, 101, 115, 115], 7, 0), ([101, 113, 117, 97, 108], 7, 0), ([115, 101, 108, 101, 99, 116], 7, 0), ([98, 114, 97, 110, 99, 104], 1, 4), ([106, 117, 109, 112], 0, 4), ([109, 111, 118, 101], 1, 5), ([114, 101, 118, 101, 97, 108], 18, 3), ([114, 111, 108, 108], 1, 2), ([115, 104, 117, 102, 102, 108, 101], 8, 3), ([99, 108, 111, 99, 107], 1, 0)]
def wordAt (j : Nat) : List UInt8 := (shapeT.getD j ([], 0, 0)).1
def useAt (j : Nat) : Nat := (shapeT.getD j ([], 0, 0)).2.1
def numAt (j : Nat) : Nat := (shapeT.getD j ([], 0, 0)).2.2
/-- The table lies. -/
def CTab (w : World) : Prop := ∀ j, j < 26 → w.cell? ⟨0, j * 3, none⟩ = some (.string ⟨(wordAt j).toArray⟩) ∧ w.cell? ⟨0, j * 3 + 1, none⟩ = some (.int .u8 (useAt j : Int)) ∧ w.cell? ⟨0, j * 3 + 2, none⟩ = some (.int .u8 (numAt j : Int))
theorem CTab.ext {w w' : World} (h : CTab w) (hb : Below w.heap.size w w') : CTab w' := fun j hj => by
  obtain ⟨h0, h1, h2⟩ := h j hj
  exact ⟨(hb.cell (World.block_lt_of_cell? w _ h0)).trans h0, (hb.cell (World.block_lt_of_cell? w _ h1)).trans h1, (hb.cell (World.block_lt_of_cell? w _ h2)).trans h2⟩
theorem CTab.drew {w : World} (h : CTab w) : CTab w.drew := h
theorem trod_str {H : Type} {enc : TypeId × Value → H} {P : Program} {w : World} {base : Nat} {spare : Nat → Bool} {held : Bool} {fuel : Nat} {t : TypeId} {cs : List Value} {x : DataW H × List MemPlace}
    (ht : P.underlying t = some .string) (h : DataW.trod enc P w base spare held fuel t cs = some x) : ∃ s : ByteArray, cs = [.string s] ∧ x = (.lit (.string s.data.toList), []) := by
  cases fuel with
  | zero => simp [DataW.trod] at h
  | succ n =>
    unfold DataW.trod at h
    rw [ht] at h
    split at h <;> simp_all
theorem one_at {cs : List Value} {k o c : Nat} {v : Value} (h : (((cs.drop k).take c).drop o).take 1 = [v]) : cs[k + o]? = some v := by
  have h1 := congrArg (·[0]?) h
  simp only [List.getElem?_take, List.getElem?_drop, List.getElem?_cons_zero] at h1
  split at h1
  · split at h1
    · simpa using h1
    · simp at h1
  · simp at h1
theorem shape_under : ∃ f0 f1 f2 : Field, Tryd.prog.underlying 124 = some (.struct #[f0, f1, f2]) ∧ Tryd.prog.underlying f0.type = some .string ∧ Tryd.prog.underlying f1.type = some (.int .u8) ∧ Tryd.prog.underlying f2.type = some (.int .u8) ∧ f0.offset = 0 ∧ f1.offset = 1 ∧ f2.offset = 2 ∧ Tryd.prog.cellsOf f0.type = 1 ∧ Tryd.prog.cellsOf f1.type = 1 ∧ Tryd.prog.cellsOf f2.type = 1 :=
  ⟨_, _, _, Tryd.underlying124, by kernel_rfl, by kernel_rfl, by kernel_rfl, rfl, rfl, rfl, by kernel_rfl, by kernel_rfl, by kernel_rfl⟩
theorem shapes_data : (Rows.laid_hoodwink_code_shapes : DataW Unit) = .agg (shapeT.map fun r => .agg [.lit (.string r.1), .lit (.int .u8 (r.2.1 : Int)), .lit (.int .u8 (r.2.2 : Int))]) := rfl
theorem ctab_of_reads {W : World} (h : Lib.VarReads Tryd.prog W "hoodwink/code.shapes" Rows.laid_hoodwink_code_shapes) : CTab W := by
  obtain ⟨g, t, cs, fuel, p, hg, ht, hv, hd⟩ := h
  obtain rfl := Option.some.inj ((show Tryd.prog.globalNamed "hoodwink/code.shapes" = some 0 by kernel_rfl).symm.trans hg)
  obtain rfl := Option.some.inj ((show (Tryd.prog.globals[0]?).map (·.type) = some 125 by kernel_rfl).symm.trans ht)
  obtain ⟨xs, m, rfl, hx, hl, hxl, hall⟩ := DataW.trod_array Tryd.underlying125 hd
  have hxs : xs.map (·.1) = shapeT.map fun r => (.agg [.lit (.string r.1), .lit (.int .u8 (r.2.1 : Int)), .lit (.int .u8 (r.2.2 : Int))] : DataW Unit) := by
    have h1 : (DataW.agg (shapeT.map fun r => .agg [.lit (.string r.1), .lit (.int .u8 (r.2.1 : Int)), .lit (.int .u8 (r.2.2 : Int))]) : DataW Unit) = .agg (xs.map (·.1)) := shapes_data.symm.trans (congrArg Prod.fst hx)
    exact (DataW.agg.inj h1).symm
  have hc : Tryd.prog.cellsOf 124 = 3 := by kernel_rfl
  rw [hc] at hall
  obtain ⟨f0, f1, f2, hu, u0, u1, u2, o0, o1, o2, c0, c1, c2⟩ := shape_under
  intro j hj
  have hjs : j < shapeT.length := hj
  have hj1 := hall j hj
  obtain ⟨y, hy⟩ : ∃ y, xs[j]? = some y := ⟨_, List.getElem?_eq_getElem (by omega)⟩
  rw [hy] at hj1
  obtain ⟨y0, y1, y2, n, rfl, _, h0, h1, h2⟩ := Go.Deep.trod_struct3 hu hj1
  rw [o0, c0] at h0
  rw [o1, c1] at h1
  rw [o2, c2] at h2
  obtain ⟨s, e0, rfl⟩ := trod_str u0 h0
  obtain ⟨n1, e1, rfl, _⟩ := DataW.trod_int u1 h1
  obtain ⟨n2, e2, rfl, _⟩ := DataW.trod_int u2 h2
  have hr := congrArg (·[j]?) hxs
  simp only [List.getElem?_map, hy, Option.map_some, List.getElem?_eq_getElem hjs, Option.some.injEq, DataW.agg.injEq, List.cons.injEq, DataW.lit.injEq, Lit.string.injEq, Lit.int.injEq, true_and, and_true] at hr
  obtain ⟨r0, r1, r2⟩ := hr
  have hw : wordAt j = s.data.toList := by rw [r0]; simp [wordAt, List.getD, hjs]
  have hu' : (useAt j : Int) = n1 := by rw [r1]; simp [useAt, List.getD, hjs]
  have hn' : (numAt j : Int) = n2 := by rw [r2]; simp [numAt, List.getD, hjs]
  have at_ : ∀ k v, cs.toList[k]? = some v → W.cell? ⟨0, k, none⟩ = some v := fun k v hk => by
    have := World.var?_cell (show Tryd.prog.globalNamed "hoodwink/code.shapes" = some 0 by kernel_rfl) hv k
    rw [this, ← hk]
    simp
  refine ⟨?_, ?_, ?_⟩
  · rw [hw, Array.toArray_toList]; exact at_ (j * 3) _ (one_at (k := j * 3) (o := 0) e0)
  · rw [hu']; exact at_ _ _ (one_at (k := j * 3) (o := 1) e1)
  · rw [hn']; exact at_ _ _ (one_at (k := j * 3) (o := 2) e2)
end Go.Proofs.YtglmciklegifaaaDoor
