/- The reference's basket: how it lies, its Held. Conditions: what it holds is no more than a message may be. -/
import Derived.Test.YtgkflgnlodhelaaClipR
namespace Go.Proofs.Ytgkflgnlodhelaa
open Go.RowKit

/-- What pieces hold, one behind the other. -/
def dataOf (xs : List PV) : List UInt8 := (xs.map fun x => x.p.data).flatten
theorem dataOf_snoc (xs : List PV) (y : PV) : dataOf (xs ++ [y]) = dataOf xs ++ y.p.data := by simp [dataOf]
/-- Block h is the reference's basket's two cells. -/
def BoxR (w : World) (h : Nat) (v : Value) (sk : Bool) : Prop := w.heap[h]? = some (.cells #[v, .bool sk] 46 (0, 0))
namespace BoxR
variable {w w' : World} {g : Nat} {v : Value} {lv : Bool}
theorem lt (h : BoxR w g v lv) : g < w.heap.size := (Array.getElem?_eq_some_iff.1 h).1
theorem c0 (h : BoxR w g v lv) : w.cell? ⟨g, 0, none⟩ = some v := by
  rw [cell_of_row w g 0 _ _ _ h]; rfl
theorem c1 (h : BoxR w g v lv) : w.cell? ⟨g, 1, none⟩ = some (.bool lv) := by
  rw [cell_of_row w g 1 _ _ _ h]; rfl
theorem fz (h : BoxR w g v lv) (j : Nat) : w.frozen? ⟨g, j, none⟩ = false := frozen_of_row w g j _ _ h
theorem mod {S : Nat → Prop} (h : BoxR w g v lv) (hm : Mod S w w') (hs : ¬ S g) : BoxR w' g v lv := (hm.block g h.lt hs).trans h
theorem ext (h : BoxR w g v lv) (hm : Below w.heap.size w w') : BoxR w' g v lv := (hm.block g h.lt).trans h
theorem set0 (h : BoxR w g v lv) (u : Value) : BoxR (w.setCell ⟨g, 0, none⟩ u) g u lv := heap_setCell_same w g 0 _ _ u h
theorem set1 (h : BoxR w g v lv) (b : Bool) : BoxR (w.setCell ⟨g, 1, none⟩ (.bool b)) g v b := heap_setCell_same w g 1 _ _ (.bool b) h
end BoxR
/-- The reference's basket in memory: its cells in block h, its pieces in a row of its own (not below B), their data elsewhere. -/
structure RIn (w : World) (B h : Nat) (v : Value) (xs : List PV) (sk : Bool) : Prop where
  box : BoxR w h v sk
  row : RowP 39 w B v xs
  ins : ∀ x ∈ xs, PV.In w x

set_option maxHeartbeats 1000000 in
set_option maxRecDepth 20000 in
theorem RHeld_calls (B h : Nat) (v : Value) (xs : List PV) (sk : Bool) (w : World) (hR : RIn w B h v xs sk) (hl : (dataOf xs).length ≤ 140737488355328) (hn : xs.length ≤ 1000000) :
    Calls Try.prog 22 #[.pointer (some ⟨h, 0, none⟩)] w fun e w' => ∃ vo, e = .returned vo ∧ Row w' w.heap.size vo (dataOf xs) ∧ Below w.heap.size w w' := by
  obtain ⟨A, c, b, rfl, -, -, -, -, hs, -⟩ := ownsP_sl hR.row
  have c0 := hR.box.c0
  obtain ⟨n, hnn⟩ : ∃ n, n = xs.length := ⟨_, rfl⟩
  have hin := Lib.hid hR.ins
  rw [← hnn] at c0 hn
  have HN := Lib.hid hnn
  have HL := Lib.hid hl
  clear hR hnn hl
  go_enter Try.func22, Try.ntmps22
  go_wp2_with fail
  go_loopw [3, 11] (fun v i wr => ∃ k : Nat, k ≤ n ∧ i = .int .i64 k ∧ Hid (Row wr w.heap.size v (dataOf (xs.take k))) ∧ Below w.heap.size w wr) (fun _ i _ => n - (intOf i).toNat)
  case atStart => exact ⟨0, Nat.zero_le _, rfl, Lib.hid (Row.nil_ _ _), Below.refl _ _⟩
  case round =>
    obtain ⟨k, hk, rfl, hown, hb⟩ := hrel
    by_cases hlt : k < n
    · have hkx : k < xs.length := by rw [← HN.out]; exact hlt
      obtain ⟨off, rfl, a0, a1, a2⟩ := sl_pv (Sl.ext hs hb) hkx
      obtain ⟨xd, -⟩ := (hin.out _ (List.getElem_mem hkx)).ext hb
      have hnx : dataOf (xs.take (k + 1)) = dataOf (xs.take k) ++ xs[k].p.data := by rw [List.take_succ_eq_append_getElem hkx, dataOf_snoc]
      have hle : (dataOf (xs.take (k + 1))).length ≤ (dataOf xs).length := by
        have h1 : dataOf xs = dataOf (xs.take (k + 1)) ++ dataOf (xs.drop (k + 1)) := by
          unfold dataOf
          rw [← List.flatten_append, ← List.map_append, List.take_append_drop]
        rw [h1, List.length_append]
        omega
      obtain ⟨y, hy⟩ : ∃ y, y = xs[k] := ⟨_, rfl⟩
      rw [← hy] at a0 a1 a2 xd hnx
      have hbs := hb.size
      obtain ⟨s, hss⟩ : ∃ s, s = y.p.data.length := ⟨_, rfl⟩
      rw [← hss] at a2
      have HSS := Lib.hid hss
      have hpl : (dataOf (xs.take k)).length + s ≤ 140737488355328 := by
        have := HL.out
        rw [hnx, List.length_append] at hle
        omega
      have HNX := Lib.hid hnx
      have hxa := below_alloc1 wr (.cells #[.bool y.p.first, .bool y.p.last, .slice y.A s y.c] 39)
      have xd2 := Sl.ext xd hxa
      have hown2 := Lib.hid (Row.ext hown.out hxa)
      clear xd hy hnx hle hss
      go_wp2_with (at_builtin; refine wpList_app _ rfl (.tmp 15) (.tmp 17) rfl w.heap.size _ _ rfl hown2.out y.b y.A s y.c y.p.data rfl xd2 HSS.out.symm hpl (by simp; omega) ?_; intro v' w4 hown' hmod _)
      exact ⟨⟨k + 1, by omega, by go_num, Lib.hid (hown'.cast HNX.out.symm), (hb.trans (hxa.mono hbs)).trans (hmod.below (by simp; omega) (fun i hi hv => by have := (Row.lt hown.out i hv).1; omega))⟩, by simp [intOf]; omega⟩
    · go_wp2_with fail
      go_ret
      have hkn : k = n := by omega
      have h9 := hown.out
      rw [hkn, HN.out, List.take_length] at h9
      exact ⟨_, rfl, h9, hb⟩
end Go.Proofs.Ytgkflgnlodhelaa
