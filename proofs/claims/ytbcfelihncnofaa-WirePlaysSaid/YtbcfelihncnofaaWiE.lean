/- slices.DeleteFunc of frames whose time has come. Conditions: those said. -/
import Derived.Test.YtbcfelihncnofaaWiD
namespace Go.Proofs.Ytbcfelihncnofaa
open Go.RowKit
set_option linter.unusedVariables false

theorem kept_none {xs : List Pl} (h : ∀ x ∈ xs, (x.t == 0) = false) : keptP xs = xs := List.filter_eq_self.2 fun x hx => by rw [h x hx]; rfl
theorem kept_next {xs : List Pl} {k : Nat} (hk : k < xs.length) (b : Bool) (hb : (xs[k].t == 0) = b) : keptP (xs.take (k + 1)) = keptP (xs.take k) ++ (if b then [] else [xs[k]]) := by
  rw [List.take_succ_eq_append_getElem hk, keptP, List.filter_append]
  congr 1
  cases b
  · rw [List.filter_cons, hb]; rfl
  · rw [List.filter_cons, hb]; rfl
/-- A DeleteFunc's round: the first I of ys are those kept of the first J of xs; from J on ys is xs. -/
structure DelAt (xs ys : List Pl) (I J : Nat) : Prop where
  len : ys.length = xs.length
  lt : I < J
  le : J ≤ xs.length
  kept : ys.take I = keptP (xs.take J)
  rest : ys.drop J = xs.drop J
theorem DelAt.start {xs : List Pl} {k : Nat} (hk : k < xs.length) (hno : ∀ x ∈ xs.take k, (x.t == 0) = false) (h0 : (xs[k].t == 0) = true) : DelAt xs xs k (k + 1) :=
  ⟨rfl, by omega, by omega, by rw [kept_next hk true h0, kept_none hno]; simp, rfl⟩
theorem DelAt.get {xs ys : List Pl} {I J : Nat} (h : DelAt xs ys I J) (hj : J < xs.length) : ys[J]'(by rw [h.len]; exact hj) = xs[J] := by
  have h1 := congrArg (fun l => l[0]?) h.rest
  simp only [List.getElem?_drop, Nat.add_zero] at h1
  rw [List.getElem?_eq_getElem hj, List.getElem?_eq_getElem (by rw [h.len]; exact hj)] at h1
  exact Option.some.inj h1
theorem DelAt.skip {xs ys : List Pl} {I J : Nat} (h : DelAt xs ys I J) (hj : J < xs.length) (h0 : (xs[J].t == 0) = true) : DelAt xs ys I (J + 1) :=
  ⟨h.len, by have := h.lt; omega, hj, by rw [kept_next hj true h0, h.kept]; simp, by
    have := congrArg (List.drop 1) h.rest
    rwa [List.drop_drop, List.drop_drop] at this⟩
theorem DelAt.move {xs ys : List Pl} {I J : Nat} (h : DelAt xs ys I J) (hj : J < xs.length) (h0 : (xs[J].t == 0) = false) : DelAt xs (ys.set I xs[J]) (I + 1) (J + 1) :=
  ⟨by rw [List.length_set]; exact h.len, by have := h.lt; omega, hj, by
    have hI : I < ys.length := by have := h.lt; rw [h.len]; omega
    rw [kept_next hj false h0, ← h.kept, List.take_succ_eq_append_getElem (by rw [List.length_set]; exact hI), List.getElem_set_self, List.take_set_of_le (Nat.le_refl _)]
    rfl, by
    have := congrArg (List.drop 1) h.rest
    rw [List.drop_drop, List.drop_drop] at this
    rw [List.drop_set_of_lt (by have := h.lt; omega)]
    exact this⟩
set_option maxHeartbeats 8000000 in
set_option maxRecDepth 20000 in
theorem Delete_calls (B : Nat) (v : Value) (xs : List Pl) (w : World) (hr : RowW 68 w B v xs) (hm : xs.length ≤ 1000000) :
    Calls Try.prog 27 #[v, .func (.func 28) #[] #[]] w fun e w' => ∃ v', e = .returned v' ∧ RowW 68 w' B v' (keptP xs) ∧ v'.ownBlock = v.ownBlock ∧ Mod (fun i => v.ownBlock = some i) w w' := by
  obtain ⟨A0, c0, b0, hv0, hc0, hcm, -, hB0, hsl, -⟩ := own_sl hr
  obtain ⟨n, hn⟩ : ∃ n, n = xs.length := ⟨_, rfl⟩
  rw [← hn] at hv0 hc0 hm
  subst hv0
  have hI := Index_calls A0 xs n c0 b0 w hsl hn.symm hm
  have HN := Lib.hid hn
  clear hn hsl
  go_enter Try.func27, Try.ntmps27
  go_wp2_with fail
  refine hI.mono ?_
  rintro e w1 ⟨r, rfl, ⟨hidx⟩, hb1⟩
  have hr1 := own_ext hr hb1
  have hm1 : Mod (fun i => (Value.slice A0 n c0).ownBlock = some i) w w1 := (Mod.of_below hb1).mono (fun i hi h => absurd hi (by omega))
  rcases hidx with ⟨rfl, hno⟩ | ⟨k, rfl, hk, hno, h0⟩
  · have hkk := Lib.hid (kept_none hno)
    clear hno hr hb1
    go_wp2_with fail
    go_ret
    exact ⟨_, rfl, by rw [hkk.out]; exact hr1, rfl, hm1⟩
  · have hk1 : ((k : Int) == -1) = false := by first | (simp; done) | (simp; omega)
    have hkn : k < n := by rw [HN.out]; exact hk
    have hst := DelAt.start hk hno (h0 hk)
    obtain ⟨g, cap, hv, hcap, hBg, hgl, hob, -, -, hfz⟩ := RowW.at_ hr1 hk
    rw [← HN.out] at hv hcap
    injection hv with hv e1 e2
    subst hv
    clear e1
    subst e2
    have hg1 : (Value.slice (some ⟨g, 0, none⟩) n c0).ownBlock = some g := rfl
    have HST := Lib.hid hst
    clear h0 hno hst hr hb1 hfz hob
    go_wp2_with fail
    go_loopw [5, 6] (fun i j wr => ∃ (I J : Nat) (ys : List Pl), i = .int .i64 I ∧ j = .int .i64 J ∧ I < J ∧ J ≤ n ∧ DelAt xs ys I J ∧ RowW 68 wr B (.slice (some ⟨g, 0, none⟩) n c0) ys ∧ Mod (fun i => (Value.slice (some ⟨g, 0, none⟩) n c0).ownBlock = some i) w wr) (fun _ j _ => n - (intOf j).toNat)
    case atStart => exact ⟨k, k + 1, xs, rfl, rfl, by omega, by omega, HST.out, hr1, hm1⟩
    case round =>
      obtain ⟨I, J, ys, rfl, rfl, hIJ, hJn, hd, hry, hmy⟩ := hrel
      have hnn := HN.out
      have hly := hd.len
      by_cases hlt : J < n
      · have hJx : J < xs.length := by omega
        have hJy : J < ys.length := by omega
        have hIy : I < ys.length := by omega
        obtain ⟨g', cap', hv', -, -, hgl2, -, c0', c1', hfz⟩ := RowW.at_ hry hJy
        injection hv' with hv' e1 e2
        injection hv' with hv'
        injection hv' with hv'
        subst hv'
        clear e1 e2 cap'
        have hgx := hd.get hJx
        rw [hgx] at c0' c1'
        have hsk := fun h => hd.skip hJx h
        have hmv := fun h => hd.move hJx h
        obtain ⟨x, hx⟩ : ∃ x, x = xs[J] := ⟨_, rfl⟩
        rw [← hx] at c0' c1' hsk hmv
        have hG := fun W => Gone_calls x W
        have ha := below_alloc1 wr (.cells x.cells.toArray 68)
        have hra := own_ext hry ha
        have hga := heap_alloc_new wr (.cells x.cells.toArray 68)
        have hmA : Mod (fun i => (Value.slice (some ⟨g, 0, none⟩) n c0).ownBlock = some i) w (wr.alloc (.cells x.cells.toArray 68)) := hmy.trans (Mod.alloc (fun _ => False) wr _) (fun i hi h => h) (fun i hi h => h.elim)
        have hgs := hga
        by_cases h0 : (x.t == 0) = true
        · have H0 := Lib.hid h0
          have HSK := Lib.hid (hsk h0)
          clear hgx hsk hmv hx hd hr1 hm1 hG h0 hga hgs hfz hly hnn
          have hG := fun W => Gone_calls x W
          have HRA := Lib.hid hra
          have HMA := Lib.hid hmA
          clear hra hmA hry hmy ha
          go_wp2_with fail
          refine (hG _).mono ?_
          rintro e w2 ⟨rfl, hb2⟩
          rw [H0.out]
          have HR2 := Lib.hid (own_ext HRA.out hb2)
          have HM2 : Hid (Mod (fun i => (Value.slice (some ⟨g, 0, none⟩) n c0).ownBlock = some i) w w2) := Lib.hid (HMA.out.trans (Mod.of_below hb2) (fun i hi h => h) (fun i hi h => by have := HMA.out.size; have := h; simp at *; omega))
          clear hb2
          go_wp2_with fail
          go_roundw
          case rel => exact ⟨I, J + 1, ys, rfl, by go_num, by omega, by omega, HSK.out, HR2.out, HM2.out⟩
          case measure => simp [intOf]; omega
        · have h1 : (x.t == 0) = false := by simpa using h0
          have H0 := Lib.hid h1
          have HMV := Lib.hid (hmv h1)
          clear hgx hsk hmv hx hd hr1 hm1 hG h0 h1 hfz hly hnn
          have hG := fun W => Gone_calls x W
          have HRA := Lib.hid hra
          have HMA := Lib.hid hmA
          have HGA := Lib.hid hga
          clear hra hmA hry hmy ha hga hgs
          go_wp2_with fail
          refine (hG _).mono ?_
          rintro e w2 ⟨rfl, hb2⟩
          rw [H0.out]
          have hr2 := own_ext HRA.out hb2
          have hg2 := (hb2.block wr.heap.size (by simp)).trans HGA.out
          have d0 : w2.cell? ⟨wr.heap.size, 0, none⟩ = some x.sv := by rw [cell_of_row _ _ _ _ _ _ hg2]; rfl
          have d1 : w2.cell? ⟨wr.heap.size, 1, none⟩ = some (.int .i64 x.t) := by rw [cell_of_row _ _ _ _ _ _ hg2]; rfl
          obtain ⟨g', cap', hv', -, -, hgl3, -, f0, f1, hfz⟩ := RowW.at_ hr2 hIy
          injection hv' with hv' e1 e2
          injection hv' with hv'
          injection hv' with hv'
          subst hv'
          clear e1 e2 cap'
          have z0 := hfz (I * 2)
          have z1 := hfz (I * 2 + 1)
          have HR3 := Lib.hid (RowW.set_ hr2 hIy x)
          have HM2 : Hid (Mod (fun i => (Value.slice (some ⟨g, 0, none⟩) n c0).ownBlock = some i) w w2) := Lib.hid (HMA.out.trans (Mod.of_below hb2) (fun i hi h => h) (fun i hi h => by have := HMA.out.size; have := h; simp at *; omega))
          have HM3 : Hid (Mod (fun i => (Value.slice (some ⟨g, 0, none⟩) n c0).ownBlock = some i) w ((w2.setCell ⟨g, I * 2, none⟩ x.sv).setCell ⟨g, I * 2 + 1, none⟩ (.int .i64 x.t))) := Lib.hid ((HM2.out.trans (Mod.setCell w2 ⟨g, I * 2, none⟩ x.sv) (fun i hi h => h) (fun i hi h => by rw [show i = g from h]; rfl)).trans (Mod.setCell _ ⟨g, I * 2 + 1, none⟩ (.int .i64 x.t)) (fun i hi h => h) (fun i hi h => by rw [show i = g from h]; rfl))
          clear hb2 hr2 hg2 hfz HM2
          go_wp2_with fail
          go_roundw
          case rel => exact ⟨I + 1, J + 1, ys.set I x, by go_num, by go_num, by omega, by omega, HMV.out, HR3.out, HM3.out⟩
          case measure => simp [intOf]; omega
      · obtain rfl : J = n := by omega
        have hIle : I ≤ ys.length := by omega
        obtain ⟨cur, hh, hcsz⟩ : ∃ cur, wr.heap[g]? = some (.cells cur 68 (0, 0)) ∧ cur.size = c0 * 2 := by
          rcases hry.2 with ⟨h1, _⟩ | ⟨g', cap', cur, h1, _, h2, _, _, h3, _⟩
          · cases h1
          · injection h1 with h1 e1 e2
            injection h1 with h1
            injection h1 with h1
            subst h1 e2
            exact ⟨cur, h2, h3⟩
        obtain ⟨m, hm9⟩ : ∃ m, m = J - I := ⟨_, rfl⟩
        have f1 : (I : Int) ≤ (J : Int) := by omega
        have f2 : (J : Int) ≤ (c0 : Int) := by omega
        have f2' : (I : Int) ≤ (c0 : Int) := by omega
        have f3 : ¬ c0 = I := by omega
        have f4 : J - I = m := hm9.symm
        have hcc : ∀ j, j < m * 2 → (World.cell? wr ⟨g, I * 2 + j, none⟩).isSome = true := fun j hj => by
          rw [cell_of_row wr g _ _ _ _ hh, Array.getElem?_eq_getElem (by omega)]
          rfl
        have hff : ∀ j, j < m * 2 → World.frozen? wr ⟨g, I * 2 + j, none⟩ = false := fun j _ => frozen_of_row wr g _ _ _ hh
        have hcl := fun ty => run_clear wr ty g (I * 2) (c0 - I) m hcc hff
        have hx2 := setCells_heap g (plv (List.replicate m plz)) (I * 2) wr cur.toList 68 (by simpa using hh) (by rw [plv_length]; simp; omega)
        have hm2 := mod_setCells wr g (I * 2) (plv (List.replicate m plz))
        have hcut := RowW.cut hry I hIle _ hx2 (fun cur' hc => by
          rw [hh] at hc
          injection hc with hc
          injection hc with hc
          subst hc
          constructor
          · simp; omega
          · simp only [List.append_assoc]
            rw [List.take_append_of_le_length (by simp; omega), List.take_take, Nat.min_self])
        have HCUT : Hid (RowW 68 (wr.setCells g (I * 2) (plv (List.replicate m plz))) B (.slice (some ⟨g, 0, none⟩) I c0) (keptP xs)) := Lib.hid (by
          have h1 := hd.kept
          rw [List.take_of_length_le (l := xs) (by omega)] at h1
          rw [← h1]
          exact hcut)
        have HM2 : Hid (Mod (fun i => (Value.slice (some ⟨g, 0, none⟩) J c0).ownBlock = some i) w (wr.setCells g (I * 2) (plv (List.replicate m plz)))) := Lib.hid (hmy.trans hm2 (fun i hi h => h) (fun i hi h => by rw [show i = g from h]; rfl))
        clear hcc hff hx2 hm2 hcut hry hmy hd hh hr1 hm1 hm9 hnn hly
        go_wp2_with fail

        go_ret
        exact ⟨_, rfl, HCUT.out, rfl, HM2.out⟩
end Go.Proofs.Ytbcfelihncnofaa
