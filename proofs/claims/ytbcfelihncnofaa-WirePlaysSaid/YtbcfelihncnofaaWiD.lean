/- slices.DeleteFunc, slices.IndexFunc of frames whose time has come. Conditions: those said. -/
import Derived.Test.YtbcfelihncnofaaWiB
namespace Go.Proofs.Ytbcfelihncnofaa
open Go.RowKit
set_option linter.unusedVariables false

set_option maxHeartbeats 4000000 in
set_option maxRecDepth 20000 in
theorem Gone_calls (x : Pl) (w : World) :
    Calls Try.prog 28 #[.agg x.cells.toArray] w fun e w' => e = .returned (.bool (x.t == 0)) ∧ Below w.heap.size w w' := by
  have hb := below_alloc1 w (.cells x.cells.toArray 68)
  have hg := heap_alloc_new w (.cells x.cells.toArray 68)
  have c1 : (w.alloc (.cells x.cells.toArray 68)).cell? ⟨w.heap.size, 1, none⟩ = some (.int .i64 x.t) := by rw [cell_of_row _ _ _ _ _ _ hg]; rfl
  go_enter Try.func28, Try.ntmps28
  go_wp2_with fail
  go_ret
  exact ⟨rfl, hb⟩
/-- The first whose time has come; none: -1. -/
structure IdxR (xs : List Pl) (r : Int) : Prop where
  out : (r = -1 ∧ ∀ x ∈ xs, (x.t == 0) = false) ∨ ∃ k : Nat, r = k ∧ k < xs.length ∧ (∀ x ∈ xs.take k, (x.t == 0) = false) ∧ ∀ h : k < xs.length, (xs[k].t == 0) = true
set_option maxHeartbeats 8000000 in
set_option maxRecDepth 20000 in
theorem Index_calls (A : Option Addr) (xs : List Pl) (n c b : Nat) (w : World) (hs : Sl w b A (plv xs)) (hn : xs.length = n) (hm : n ≤ 1000000) :
    Calls Try.prog 35 #[.slice A n c, .func (.func 28) #[] #[]] w fun e w' => ∃ r, e = .returned (.int .i64 r) ∧ IdxR xs r ∧ Below w.heap.size w w' := by
  have HN := Lib.hid hn
  clear hn
  go_enter Try.func35, Try.ntmps35
  go_wp2_with fail
  go_loopw [8] (fun i wr => ∃ k : Nat, k ≤ n ∧ i = .int .i64 k ∧ Hid (∀ x ∈ xs.take k, (x.t == 0) = false) ∧ Below w.heap.size w wr) (fun i _ => n - (intOf i).toNat)
  case atStart => exact ⟨0, Nat.zero_le _, rfl, Lib.hid (by simp), Below.refl _ _⟩
  case round =>
    obtain ⟨k, hk, rfl, hno, hb⟩ := hrel
    by_cases hlt : k < n
    · have hkl : k < xs.length := by rw [HN.out]; exact hlt
      obtain ⟨oa, rfl, hca⟩ := (Sl.ext hs hb) (by intro h0; have := plv_length xs; rw [h0] at this; simp at this; omega)
      have c0 := hca (k * 2 + 0) _ (plv_at xs k hkl 0 (by omega))
      have c1 := hca (k * 2 + 1) _ (plv_at xs k hkl 1 (by omega))
      rw [Nat.add_zero] at c0
      rw [← Nat.add_assoc] at c1
      obtain ⟨x, hx⟩ : ∃ x, x = xs[k] := ⟨_, rfl⟩
      rw [← hx] at c0 c1
      have hG := fun W => Gone_calls x W
      have HX := Lib.hid hx
      clear hca hx
      by_cases h0 : (x.t == 0) = true
      · have H0 := Lib.hid h0
        go_wp2_with fail
        refine (hG _).mono ?_
        rintro e w2 ⟨rfl, hb2⟩
        rw [H0.out]
        go_wp2_with fail
        go_ret
        exact ⟨_, rfl, ⟨.inr ⟨k, rfl, hkl, hno.out, fun _ => by rw [← HX.out]; exact H0.out⟩⟩, hb.trans (hb2.mono hb.size)⟩
      · have h1 : (x.t == 0) = false := by simpa using h0
        have H0 := Lib.hid h1
        clear h0 h1
        go_wp2_with fail
        refine (hG _).mono ?_
        rintro e w2 ⟨rfl, hb2⟩
        rw [H0.out]
        go_wp2_with fail
        go_roundw
        case rel => exact ⟨k + 1, by omega, by go_num, Lib.hid (fun y hy => by
            rw [List.take_succ_eq_append_getElem hkl] at hy
            rcases List.mem_append.1 hy with hy | hy
            · exact hno.out y hy
            · rw [List.mem_singleton] at hy
              rw [hy, ← HX.out]
              exact H0.out), hb.trans (hb2.mono hb.size)⟩
        case measure => simp [intOf]; omega
    · obtain rfl : k = n := by omega
      go_wp2_with fail
      go_ret
      exact ⟨_, rfl, ⟨.inl ⟨rfl, fun x hx => hno.out x (by rw [List.take_of_length_le (by rw [HN.out]; exact Nat.le_refl _)]; exact hx)⟩⟩, hb⟩
def plz : Pl := ⟨[], 0, none, 0, 0⟩
theorem plv_plz (n : Nat) : (Builtin.zeroCells (Value.agg #[.slice none 0 0, .int .i64 0]).cells n).toList = plv (List.replicate n plz) := by
  have h1 : (plv (List.replicate n plz)).length = n * 2 := by rw [plv_length]; simp
  apply List.ext_getElem (by rw [h1]; simp [Builtin.zeroCells, Value.cells])
  intro j h2 h3
  have hj : j < n * 2 := by rw [← h1]; exact h3
  have := plv_at (List.replicate n plz) (j / 2) (by simp; omega) (j % 2) (by omega)
  rw [show j / 2 * 2 + j % 2 = j by omega, List.getElem?_eq_getElem h3] at this
  simp only [List.getElem_replicate] at this
  have e : j % 2 = 0 ∨ j % 2 = 1 := by omega
  have hq : ((Builtin.zeroCells (Value.agg #[.slice none 0 0, .int .i64 0]).cells n).toList)[j]? = some (((#[Value.slice none 0 0, .int .i64 0] : Array Value))[j % 2]!) := by
    simp [Builtin.zeroCells, Value.cells, hj]
  rw [List.getElem?_eq_getElem h2] at hq
  injection hq with hq
  rw [hq]
  rcases e with e | e <;> (rw [e] at this; replace this := Option.some.inj this; rw [this, e]; rfl)
theorem parcel_zero (w : World) : (zeroValue 68).run Try.prog w = .ok (.agg #[.slice none 0 0, .int .i64 0]) w := by kernel_rfl
theorem run_clear (w : World) (ty : TypeId) (b o c n : Nat) (hc : ∀ j, j < n * 2 → (w.cell? ⟨b, o + j, none⟩).isSome = true) (hf : ∀ j, j < n * 2 → w.frozen? ⟨b, o + j, none⟩ = false) :
    (Builtin.clear_ #[24] ty #[.slice (some ⟨b, o, none⟩) n c]).run Try.prog w = .ok (.tuple #[]) (w.setCells b o (plv (List.replicate n plz))) := by
  cases n with
  | zero => simp [Builtin.clear_, run_underlying Try.underlying24 , plv, World.setCells]
  | succ n =>
    have hst := run_storeCells_cells (P := Try.prog) b o (plv (List.replicate (n + 1) plz)) 0 w (by simpa using hc) (by simpa using hf) (plv_one _)
    simp only [Nat.add_zero] at hst
    have hz0 : (zeroValue 68).run Try.prog w = .ok (.agg #[.slice none 0 0, .int .i64 0]) w := parcel_zero w
    simp [Builtin.clear_, run_underlying Try.underlying24 , hz0, plv_plz, hst]
theorem setCells_heap (g : Nat) : ∀ (vs : List Value) (o : Nat) (w : World) (cs : List Value) (t : TypeId), w.heap[g]? = some (.cells cs.toArray t (0, 0)) → o + vs.length ≤ cs.length → (w.setCells g o vs).heap[g]? = some (.cells (cs.take o ++ vs ++ cs.drop (o + vs.length)).toArray t (0, 0))
  | [], o, w, cs, t, h, _ => by simpa [World.setCells] using h
  | v :: vs, o, w, cs, t, h, hl => by
    have h1 := heap_setCell_same w g o _ _ v h
    have e : cs.toArray.setIfInBounds o v = (cs.set o v).toArray := by simp
    rw [e] at h1
    simp only [List.length_cons] at hl
    have ih := setCells_heap g vs (o + 1) _ _ t h1 (by simp; omega)
    rw [World.setCells, ih]
    congr 3
    rw [List.take_set, List.take_add_one, List.getElem?_eq_getElem (by omega), List.drop_set]
    rw [List.set_append_right _ _ (by simp; omega)]
    simp only [List.length_take, Option.toList_some, List.length_cons, List.append_assoc, List.cons_append]
    rw [show o - min o cs.length = 0 by omega, if_pos (by omega), show o + 1 + vs.length = o + (vs.length + 1) by omega]
    rfl
theorem mod_setCells (w : World) (b o : Nat) (vs : List Value) : Mod (fun i => i = b) w (w.setCells b o vs) := by
  induction vs generalizing o w with
  | nil => exact Mod.refl _ _
  | cons v vs ih => exact (Mod.setCell w ⟨b, o, none⟩ v).trans (ih _ _) (fun _ _ h => h) (fun _ _ h => h)
/-- Those whose time hasn't come. -/
def keptP (xs : List Pl) : List Pl := xs.filter fun x => !(x.t == 0)
end Go.Proofs.Ytbcfelihncnofaa
