/- Parse: what the eye reads of what was opened; a frame only if all is right. Conditions: the numbers fit. -/
import Derived.Test.YtgpedkdebifooaaDoorFrB
import Derived.Test.YtgpedkdebifooaaDoorFrE
namespace Go.Proofs.YtgpedkdebifooaaDoor
open Go.RowKit

/-- The frame that is none. -/
def zFr : Fr := ⟨0, 0, 0, 0, false, false, false, []⟩
/-- What is read: the frame, the first byte, the byte of marks, what is left, was it wrong. -/
structure Got where
  f : Fr
  n0 : Nat
  n5 : Nat
  l : List UInt8
  bad : Bool
def gotF (p : List UInt8) : Got :=
  let x0 := rdN 1 p false
  let x1 := rdN 2 x0.2.1 x0.2.2
  let x2 := rdN 2 x1.2.1 x1.2.2
  let x3 := rdN 2 x2.2.1 x2.2.2
  let x4 := rdN 4 x3.2.1 x3.2.2
  let x5 := rdN 1 x4.2.1 x4.2.2
  let x6 := rdB 64 x5.2.1 x5.2.2
  ⟨⟨x1.1, x2.1, x3.1, x4.1, decide (x5.1 % 2 = 1), decide (x5.1 / 2 % 2 = 1), decide (x5.1 / 4 % 2 = 1), x6.1⟩, x0.1, x5.1, x6.2.1, x6.2.2⟩
def Got.right (q : Got) : Bool := decide (q.bad = false ∧ q.l = []) && decide (q.n0 = 86) && decide (q.n5 = q.f.marks) && q.f.right
def parseF (l : List UInt8) : Fr × Nat :=
  if l.length < 4 then (zFr, 2) else if opensB l (l.length - 4) = false then (zFr, 5) else if (gotF (l.take (l.length - 4))).right then ((gotF (l.take (l.length - 4))).f, 0) else (zFr, 2)

theorem results_ct {P : Program} {fn : Func} {p t : Tmp} {ty : TypeId} (h : fn.results = #[.cell p ty, .tmp t]) (tmps : Array Value) (w : World) (g : Nat) (tt : TypeId) (cs : Array Value) (fr : Nat × Nat) (d : TypeDesc)
    (hp : tmps.getD p undef = .pointer (some ⟨g, 0, none⟩)) (hg : w.heap[g]? = some (.cells cs tt fr))
    (hu : P.underlying ty = some d) (hd : (match d with | .struct _ | .array _ _ => true | _ => false) = true) (hi : (P.info? ty).map (·.size) = some cs.size) :
    (results fn tmps).run P w = .ok (.tuple #[.agg cs, tmps.getD t undef]) w := by
  have hp' : tmps[p]?.getD undef = .pointer (some ⟨g, 0, none⟩) := by simpa using hp
  simp [results, h, hp', asAddr, run_loadVar_row w g tt ty cs fr d hg hu hd hi]
/-- Eight cells, written. -/
abbrev put8 (w : World) (g : Nat) (a0 a1 a2 a3 a4 a5 a6 a7 : Value) : World := (((((((w.setCell ⟨g, 0, none⟩ a0).setCell ⟨g, 1, none⟩ a1).setCell ⟨g, 2, none⟩ a2).setCell ⟨g, 3, none⟩ a3).setCell ⟨g, 4, none⟩ a4).setCell ⟨g, 5, none⟩ a5).setCell ⟨g, 6, none⟩ a6).setCell ⟨g, 7, none⟩ a7
theorem put8_heap {w : World} {g : Nat} {t : TypeId} {b0 b1 b2 b3 b4 b5 b6 b7 : Value} (a0 a1 a2 a3 a4 a5 a6 a7 : Value) (h : w.heap[g]? = some (.cells #[b0, b1, b2, b3, b4, b5, b6, b7] t (0, 0))) : (put8 w g a0 a1 a2 a3 a4 a5 a6 a7).heap[g]? = some (.cells #[a0, a1, a2, a3, a4, a5, a6, a7] t (0, 0)) := by
  have st : ∀ (y : World) (j : Nat) (v : Value) (cs ds : Array Value), y.heap[g]? = some (.cells cs t (0, 0)) → cs.setIfInBounds j v = ds → (y.setCell ⟨g, j, none⟩ v).heap[g]? = some (.cells ds t (0, 0)) := fun y j v cs ds h e => e ▸ heap_setCell_same y g j cs t v h
  have h0 := st _ 0 a0 _ #[a0, b1, b2, b3, b4, b5, b6, b7] h rfl
  have h1 := st _ 1 a1 _ #[a0, a1, b2, b3, b4, b5, b6, b7] h0 rfl
  have h2 := st _ 2 a2 _ #[a0, a1, a2, b3, b4, b5, b6, b7] h1 rfl
  have h3 := st _ 3 a3 _ #[a0, a1, a2, a3, b4, b5, b6, b7] h2 rfl
  have h4 := st _ 4 a4 _ #[a0, a1, a2, a3, a4, b5, b6, b7] h3 rfl
  have h5 := st _ 5 a5 _ #[a0, a1, a2, a3, a4, a5, b6, b7] h4 rfl
  have h6 := st _ 6 a6 _ #[a0, a1, a2, a3, a4, a5, a6, b7] h5 rfl
  have h7 := st _ 7 a7 _ #[a0, a1, a2, a3, a4, a5, a6, a7] h6 rfl
  exact h7
theorem put8_mod (w : World) (g : Nat) (a0 a1 a2 a3 a4 a5 a6 a7 : Value) : Mod (fun i => i = g) w (put8 w g a0 a1 a2 a3 a4 a5 a6 a7) := by
  have st : ∀ (x y : World) (j : Nat) (v : Value), Mod (fun i => i = g) x y → Mod (fun i => i = g) x (y.setCell ⟨g, j, none⟩ v) := fun x y j v h => h.trans (Mod.setCell y ⟨g, j, none⟩ v) (fun _ _ e => e) (fun _ _ e => e)
  have h0 := st w _ 0 a0 (Mod.refl _ w)
  have h1 := st w _ 1 a1 h0
  have h2 := st w _ 2 a2 h1
  have h3 := st w _ 3 a3 h2
  have h4 := st w _ 4 a4 h3
  have h5 := st w _ 5 a5 h4
  have h6 := st w _ 6 a6 h5
  have h7 := st w _ 7 a7 h6
  exact h7
set_option maxRecDepth 100000 in
theorem and_bits (n : Nat) (h : n < 256) : (bits .and .u8 (n : Int) 1 != 0) = decide (n % 2 = 1) ∧ (bits .and .u8 (n : Int) 2 != 0) = decide (n / 2 % 2 = 1) ∧ (bits .and .u8 (n : Int) 4 != 0) = decide (n / 4 % 2 = 1) := by
  have hx : ∀ x : Fin 256, (x.val &&& 1 ≠ 0 ↔ x.val % 2 = 1) ∧ (x.val &&& 2 ≠ 0 ↔ x.val / 2 % 2 = 1) ∧ (x.val &&& 4 ≠ 0 ↔ x.val / 4 % 2 = 1) := by decide
  obtain ⟨h1, h2, h3⟩ := hx ⟨n, h⟩
  have e1 := u8_and_nat n 1 h (by omega)
  have e2 := u8_and_nat n 2 h (by omega)
  have e4 := u8_and_nat n 4 h (by omega)
  rw [show ((1 : Nat) : Int) = 1 from rfl] at e1
  rw [show ((2 : Nat) : Int) = 2 from rfl] at e2
  rw [show ((4 : Nat) : Int) = 4 from rfl] at e4
  rw [e1, e2, e4]
  simp only at h1 h2 h3
  refine ⟨?_, ?_, ?_⟩ <;> rw [Bool.eq_iff_iff] <;> simp only [bne_iff_ne, ne_eq, decide_eq_true_eq]
  · rw [← h1]; omega
  · rw [← h2]; omega
  · rw [← h3]; omega

set_option maxHeartbeats 4000000 in
set_option maxRecDepth 20000 in
theorem Parse_no (A : Option Addr) (l : List UInt8) (n c b E : Nat) (w : World) (hE : E ≠ 0)
    (hO : ∀ W, Bs W b A l → Calls Tryd.prog 58 #[.agg (tabTo 256), .slice A n c] W fun e w' => e = .returned (.tuple #[.slice none 0 0, .int .i64 (E : Int)]) ∧ Below W.heap.size W w') (hs : Bs w b A l) :
    Calls Tryd.prog 31 #[.slice A n c] w fun e w' => e = .returned (.tuple #[.agg (zFr.cells none 0), .int .i64 (E : Int)]) ∧ Below w.heap.size w w' := by
  have q := BoxF.new_ w zFr none 0
  have hb := below_alloc1 w (.cells (zFr.cells none 0) 47)
  replace hs := Sl.ext hs hb
  go_enter Tryd.func31, Tryd.ntmps31
  go_wp2_with fail
  refine (Make_calls _).mono ?_
  rintro e w1 ⟨rfl, h1⟩
  replace q := q.ext h1
  replace hs := Sl.ext hs h1
  replace hb := hb.trans (h1.mono hb.size)
  clear h1
  go_wp2_with fail
  refine (hO _ hs).mono ?_
  rintro e w2 ⟨rfl, h1⟩
  replace q := q.ext h1
  replace hb := hb.trans (h1.mono hb.size)
  have hz : ((E : Int) != 0) = true := by simp; omega
  obtain ⟨k0, k1, k2, k3, k4, k5, k6, k7⟩ := q.all
  have hf := q.fz
  clear h1
  go_wp2_with fail
  have hp := put8_heap (w := w2) (.int .u16 0) (.int .u16 0) (.int .u16 0) (.int .u32 0) (.bool false) (.bool false) (.bool false) (.slice none 0 0) q
  have hm := put8_mod w2 w.heap.size (.int .u16 0) (.int .u16 0) (.int .u16 0) (.int .u32 0) (.bool false) (.bool false) (.bool false) (.slice none 0 0)
  refine bodyPost_ret (results_ct (P := Tryd.prog) rfl _ _ w.heap.size _ _ (0, 0) _ rfl hp Tryd.underlying47 rfl (by kernel_rfl)) rfl ?_
  exact ⟨rfl, hb.trans (hm.below hb.size (fun i hi e => by omega))⟩

set_option maxHeartbeats 8000000 in
set_option maxRecDepth 20000 in
theorem Parse_yes (A : Option Addr) (l : List UInt8) (k c b : Nat) (w : World) (hs : Bs w b A l) (hn : l.length = k + 4) (hc : k + 4 ≤ c) (h2 : k ≤ 140737488355000) (heq : opensB l k = true) (G : Got) (hG : gotF (l.take k) = G) (RF : Fr) (RE : Nat) (hRF : RF = if G.right then G.f else zFr) (hRE : RE = if G.right then 0 else 2) :
    Calls Tryd.prog 31 #[.slice A (k + 4) c] w fun e w' => ∃ A' c' b', e = .returned (.tuple #[.agg (RF.cells A' c'), .int .i64 (RE : Int)]) ∧ Bs w' b' A' RF.data ∧ w.heap.size ≤ b' ∧ Below w.heap.size w w' := by
  have q := BoxF.new_ w zFr none 0
  have hb := below_alloc1 w (.cells (zFr.cells none 0) 47)
  replace hs := Sl.ext hs hb
  have hO := fun W h => Open_good A l k c b W h hn hc h2 heq
  have HG := Lib.hid hG
  have HRF := Lib.hid hRF
  have HRE := Lib.hid hRE
  clear hRF hRE
  obtain ⟨p, hp⟩ : ∃ p, p = l.take k := ⟨_, rfl⟩
  have hpl : p.length ≤ 140737488355000 := by rw [hp, List.length_take]; omega
  rw [← hp] at hO HG
  clear hn hc h2 heq hp hG
  go_enter Tryd.func31, Tryd.ntmps31
  go_wp2_with fail
  refine (Make_calls _).mono ?_
  rintro e w1 ⟨rfl, h1⟩
  replace q := q.ext h1
  replace hs := Sl.ext hs h1
  replace hb := hb.trans (h1.mono hb.size)
  clear h1
  go_wp2_with fail
  refine (hO _ hs).mono ?_
  rintro e w2 ⟨v, rfl, hrow, h1⟩
  obtain ⟨A2, c2, b2, rfl, -, -, -, -, hs2, -⟩ := hrow.sl
  replace q := q.ext h1
  replace hb := hb.trans (h1.mono hb.size)
  clear h1 hs hO hrow
  go_wp2_with fail
  refine (Read_calls A2 p p.length c2 b2 _ hs2 rfl (by omega)).mono ?_
  rintro e w3 ⟨g, be0, rfl, hE, hg, hbe, h1⟩
  have hgs := hb.size
  have hbE0 : w.heap.size ≤ be0 := by omega
  have q0lt : w.heap.size < be0 := by have := q.lt; omega
  have hgE : w.heap.size < g := by have := q.lt; omega
  obtain ⟨be, hE, hbl, hbE, hpe⟩ : ∃ be, EyeAt w3 g be p false ∧ be < w3.heap.size ∧ w.heap.size ≤ be ∧ (be = w.heap.size → p = []) := by
    by_cases h0 : p = []
    · obtain ⟨_, Ae, ce, k1, k2, k3, _⟩ := hE
      subst h0
      exact ⟨w.heap.size, ⟨by omega, Ae, ce, k1, k2, k3, Sl.nil_ _ _ _⟩, by have := q.lt; have := h1.size; omega, Nat.le_refl _, fun _ => rfl⟩
    · obtain ⟨_, Ae, ce, _, _, _, k4⟩ := id hE
      exact ⟨be0, hE, Bs.lt k4 h0, hbE0, fun e => by have := q0lt; omega⟩
  have hne := hE.1
  replace q := q.ext h1
  replace hb := hb.trans (h1.mono hb.size)
  clear h1 hs2 hg hbe hgs
  go_wp2_with fail
  refine (EyeByte_f g be p false _ hE).mono ?_
  rintro e w4 ⟨n0, l0, x0, rfl, y0, z0, hE, h1⟩
  replace q := q.mod h1 (by omega)
  replace hb := hb.trans (h1.below hb.size (fun i hi e => by omega))
  replace hbl := Nat.lt_of_lt_of_le hbl h1.size
  clear h1
  go_wp2_with fail
  refine (EyeHalf_f g be l0 x0 _ hE).mono ?_
  rintro e w5 ⟨n1, l1, x1, rfl, y1, z1, hE, h1⟩
  replace q := q.mod h1 (by omega)
  replace hb := hb.trans (h1.below hb.size (fun i hi e => by omega))
  replace hbl := Nat.lt_of_lt_of_le hbl h1.size
  clear h1
  go_wp2_with fail
  refine (EyeHalf_f g be l1 x1 _ hE).mono ?_
  rintro e w6 ⟨n2, l2, x2, rfl, y2, z2, hE, h1⟩
  replace q := q.mod h1 (by omega)
  replace hb := hb.trans (h1.below hb.size (fun i hi e => by omega))
  replace hbl := Nat.lt_of_lt_of_le hbl h1.size
  clear h1
  go_wp2_with fail
  have hbx : (w6.alloc (.cells #[.int .u16 n1, .int .u16 n2, .int .u16 0, .int .u32 0, .bool false, .bool false, .bool false, .slice none 0 0] 47)).heap[w6.heap.size]? = some (.cells #[.int .u16 n1, .int .u16 n2, .int .u16 0, .int .u32 0, .bool false, .bool false, .bool false, .slice none 0 0] 47 (0, 0)) := heap_alloc_new w6 _
  have ha := below_alloc1 w6 (.cells #[.int .u16 n1, .int .u16 n2, .int .u16 0, .int .u32 0, .bool false, .bool false, .bool false, .slice none 0 0] 47)
  have hgf := hE.lt
  have hgf2 := q.lt
  replace hE := hE.ext ha
  replace q := q.ext ha
  replace hb := hb.trans (ha.mono hb.size)
  clear ha
  obtain ⟨w7, hw7⟩ : ∃ w7, w7 = w6.alloc (.cells #[.int .u16 n1, .int .u16 n2, .int .u16 0, .int .u32 0, .bool false, .bool false, .bool false, .slice none 0 0] 47) := ⟨_, rfl⟩
  obtain ⟨gf, hgg⟩ : ∃ gf, gf = w6.heap.size := ⟨_, rfl⟩
  rw [← hw7, ← hgg] at hbx
  rw [← hw7] at hE q hb ⊢
  rw [← hgg] at hgf hgf2 hbl ⊢
  clear hw7 hgg
  refine (EyeHalf_f g be l2 x2 _ hE).mono ?_
  rintro e w8 ⟨n3, l3, x3, rfl, y3, z3, hE, h1⟩
  replace q := q.mod h1 (by omega)
  replace hb := hb.trans (h1.below hb.size (fun i hi e => by omega))
  replace hbx := (h1.block gf (Array.getElem?_eq_some_iff.1 hbx).1 (by omega)).trans hbx
  clear h1
  go_wp2_with fail
  refine (EyeWord_f g be l3 x3 _ hE).mono ?_
  rintro e w9 ⟨n4, l4, x4, rfl, y4, z4, hE, h1⟩
  replace q := q.mod h1 (by omega)
  replace hb := hb.trans (h1.below hb.size (fun i hi e => by omega))
  replace hbx := (h1.block gf (Array.getElem?_eq_some_iff.1 hbx).1 (by omega)).trans hbx
  clear h1
  have hfz := fun j => frozen_of_row _ gf j _ _ hbx
  have e2 := (cell_of_row _ gf 2 _ _ _ hbx).trans (show _ = some (.int .u16 0) from rfl)
  have e3 := (cell_of_row _ gf 3 _ _ _ hbx).trans (show _ = some (.int .u32 0) from rfl)
  go_wp2_with fail
  clear e2 e3 hfz
  have hbx := heap_setCell_same w9 gf 2 _ _ (.int .u16 n3) hbx
  rw [show (#[.int .u16 n1, .int .u16 n2, .int .u16 0, .int .u32 0, .bool false, .bool false, .bool false, .slice none 0 0] : Array Value).setIfInBounds 2 (.int .u16 n3) = #[.int .u16 n1, .int .u16 n2, .int .u16 n3, .int .u32 0, .bool false, .bool false, .bool false, .slice none 0 0] from rfl] at hbx
  replace hE := hE.mod (Mod.setCell w9 ⟨gf, 2, none⟩ (.int .u16 n3)) (fun e => by have e : g = gf := e; omega) (fun e => by have e : be = gf := e; omega)
  replace q := q.mod (Mod.setCell w9 ⟨gf, 2, none⟩ (.int .u16 n3)) (fun e => by have e : w.heap.size = gf := e; omega)
  replace hb := hb.trans ((Mod.setCell w9 ⟨gf, 2, none⟩ (.int .u16 n3)).below hb.size (fun i hi e => by have e : i = gf := e; omega))
  have hbx := heap_setCell_same (w9.setCell ⟨gf, 2, none⟩ (.int .u16 n3)) gf 3 _ _ (.int .u32 n4) hbx
  rw [show (#[.int .u16 n1, .int .u16 n2, .int .u16 n3, .int .u32 0, .bool false, .bool false, .bool false, .slice none 0 0] : Array Value).setIfInBounds 3 (.int .u32 n4) = #[.int .u16 n1, .int .u16 n2, .int .u16 n3, .int .u32 n4, .bool false, .bool false, .bool false, .slice none 0 0] from rfl] at hbx
  replace hE := hE.mod (Mod.setCell (w9.setCell ⟨gf, 2, none⟩ (.int .u16 n3)) ⟨gf, 3, none⟩ (.int .u32 n4)) (fun e => by have e : g = gf := e; omega) (fun e => by have e : be = gf := e; omega)
  replace q := q.mod (Mod.setCell (w9.setCell ⟨gf, 2, none⟩ (.int .u16 n3)) ⟨gf, 3, none⟩ (.int .u32 n4)) (fun e => by have e : w.heap.size = gf := e; omega)
  replace hb := hb.trans ((Mod.setCell (w9.setCell ⟨gf, 2, none⟩ (.int .u16 n3)) ⟨gf, 3, none⟩ (.int .u32 n4)).below hb.size (fun i hi e => by have e : i = gf := e; omega))
  obtain ⟨w10, hw10⟩ : ∃ w10, w10 = ((w9.setCell ⟨gf, 2, none⟩ (.int .u16 n3)).setCell ⟨gf, 3, none⟩ (.int .u32 n4)) := ⟨_, rfl⟩
  rw [← hw10] at hbx hE q hb ⊢
  clear hw10
  refine (EyeByte_f g be l4 x4 _ hE).mono ?_
  rintro e w11 ⟨n5, l5, x5, rfl, y5, z5, hE, h1⟩
  replace q := q.mod h1 (by omega)
  replace hb := hb.trans (h1.below hb.size (fun i hi e => by omega))
  replace hbx := (h1.block gf (Array.getElem?_eq_some_iff.1 hbx).1 (by omega)).trans hbx
  clear h1
  obtain ⟨A1, A2', A3⟩ := and_bits n5 z5
  obtain ⟨d1, hd1⟩ : ∃ d, d = decide (n5 % 2 = 1) := ⟨_, rfl⟩
  obtain ⟨d2, hd2⟩ : ∃ d, d = decide (n5 / 2 % 2 = 1) := ⟨_, rfl⟩
  obtain ⟨d3, hd3⟩ : ∃ d, d = decide (n5 / 4 % 2 = 1) := ⟨_, rfl⟩
  rw [← hd1] at A1
  rw [← hd2] at A2'
  rw [← hd3] at A3
  have HD := Lib.hid (And.intro hd1 (And.intro hd2 hd3))
  clear hd1 hd2 hd3
  have hfz := fun j => frozen_of_row _ gf j _ _ hbx
  have e4 := (cell_of_row _ gf 4 _ _ _ hbx).trans (show _ = some (.bool false) from rfl)
  have e5 := (cell_of_row _ gf 5 _ _ _ hbx).trans (show _ = some (.bool false) from rfl)
  have e6 := (cell_of_row _ gf 6 _ _ _ hbx).trans (show _ = some (.bool false) from rfl)
  have hBl := fun W h => EyeBlob_f g be l5 x5 64 W h (by omega)
  rw [show ((64 : Nat) : Int) = 64 from rfl] at hBl
  go_wp2_with fail
  clear e4 e5 e6 hfz A1 A2' A3
  have hbx := heap_setCell_same w11 gf 4 _ _ (.bool d1) hbx
  rw [show (#[.int .u16 n1, .int .u16 n2, .int .u16 n3, .int .u32 n4, .bool false, .bool false, .bool false, .slice none 0 0] : Array Value).setIfInBounds 4 (.bool d1) = #[.int .u16 n1, .int .u16 n2, .int .u16 n3, .int .u32 n4, .bool d1, .bool false, .bool false, .slice none 0 0] from rfl] at hbx
  replace hE := hE.mod (Mod.setCell w11 ⟨gf, 4, none⟩ (.bool d1)) (fun e => by have e : g = gf := e; omega) (fun e => by have e : be = gf := e; omega)
  replace q := q.mod (Mod.setCell w11 ⟨gf, 4, none⟩ (.bool d1)) (fun e => by have e : w.heap.size = gf := e; omega)
  replace hb := hb.trans ((Mod.setCell w11 ⟨gf, 4, none⟩ (.bool d1)).below hb.size (fun i hi e => by have e : i = gf := e; omega))
  have hbx := heap_setCell_same (w11.setCell ⟨gf, 4, none⟩ (.bool d1)) gf 5 _ _ (.bool d2) hbx
  rw [show (#[.int .u16 n1, .int .u16 n2, .int .u16 n3, .int .u32 n4, .bool d1, .bool false, .bool false, .slice none 0 0] : Array Value).setIfInBounds 5 (.bool d2) = #[.int .u16 n1, .int .u16 n2, .int .u16 n3, .int .u32 n4, .bool d1, .bool d2, .bool false, .slice none 0 0] from rfl] at hbx
  replace hE := hE.mod (Mod.setCell (w11.setCell ⟨gf, 4, none⟩ (.bool d1)) ⟨gf, 5, none⟩ (.bool d2)) (fun e => by have e : g = gf := e; omega) (fun e => by have e : be = gf := e; omega)
  replace q := q.mod (Mod.setCell (w11.setCell ⟨gf, 4, none⟩ (.bool d1)) ⟨gf, 5, none⟩ (.bool d2)) (fun e => by have e : w.heap.size = gf := e; omega)
  replace hb := hb.trans ((Mod.setCell (w11.setCell ⟨gf, 4, none⟩ (.bool d1)) ⟨gf, 5, none⟩ (.bool d2)).below hb.size (fun i hi e => by have e : i = gf := e; omega))
  have hbx := heap_setCell_same ((w11.setCell ⟨gf, 4, none⟩ (.bool d1)).setCell ⟨gf, 5, none⟩ (.bool d2)) gf 6 _ _ (.bool d3) hbx
  rw [show (#[.int .u16 n1, .int .u16 n2, .int .u16 n3, .int .u32 n4, .bool d1, .bool d2, .bool false, .slice none 0 0] : Array Value).setIfInBounds 6 (.bool d3) = #[.int .u16 n1, .int .u16 n2, .int .u16 n3, .int .u32 n4, .bool d1, .bool d2, .bool d3, .slice none 0 0] from rfl] at hbx
  replace hE := hE.mod (Mod.setCell ((w11.setCell ⟨gf, 4, none⟩ (.bool d1)).setCell ⟨gf, 5, none⟩ (.bool d2)) ⟨gf, 6, none⟩ (.bool d3)) (fun e => by have e : g = gf := e; omega) (fun e => by have e : be = gf := e; omega)
  replace q := q.mod (Mod.setCell ((w11.setCell ⟨gf, 4, none⟩ (.bool d1)).setCell ⟨gf, 5, none⟩ (.bool d2)) ⟨gf, 6, none⟩ (.bool d3)) (fun e => by have e : w.heap.size = gf := e; omega)
  replace hb := hb.trans ((Mod.setCell ((w11.setCell ⟨gf, 4, none⟩ (.bool d1)).setCell ⟨gf, 5, none⟩ (.bool d2)) ⟨gf, 6, none⟩ (.bool d3)).below hb.size (fun i hi e => by have e : i = gf := e; omega))
  obtain ⟨w12, hw12⟩ : ∃ w12, w12 = (((w11.setCell ⟨gf, 4, none⟩ (.bool d1)).setCell ⟨gf, 5, none⟩ (.bool d2)).setCell ⟨gf, 6, none⟩ (.bool d3)) := ⟨_, rfl⟩
  rw [← hw12] at hbx hE q hb ⊢
  clear hw12
  refine (hBl _ hE).mono ?_
  rintro e w13 ⟨Ad, d, l6, x6, rfl, y6, z6, hsd, hE, h1⟩
  replace q := q.mod h1 (by omega)
  replace hb := hb.trans (h1.below hb.size (fun i hi e => by omega))
  replace hbx := (h1.block gf (Array.getElem?_eq_some_iff.1 hbx).1 (by omega)).trans hbx
  clear h1
  clear hBl
  have hfz := fun j => frozen_of_row _ gf j _ _ hbx
  have e7 := (cell_of_row _ gf 7 _ _ _ hbx).trans (show _ = some (.slice none 0 0) from rfl)
  have DC := fun W (h : EyeAt W g be l6 x6) => Done_calls g be l6 x6 W h
  go_wp2_with fail
  clear e7 hfz
  have hbx := heap_setCell_same w13 gf 7 _ _ (.slice Ad d.length d.length) hbx
  rw [show (#[.int .u16 n1, .int .u16 n2, .int .u16 n3, .int .u32 n4, .bool d1, .bool d2, .bool d3, .slice none 0 0] : Array Value).setIfInBounds 7 (.slice Ad d.length d.length) = #[.int .u16 n1, .int .u16 n2, .int .u16 n3, .int .u32 n4, .bool d1, .bool d2, .bool d3, .slice Ad d.length d.length] from rfl] at hbx
  replace hE := hE.mod (Mod.setCell w13 ⟨gf, 7, none⟩ (.slice Ad d.length d.length)) (fun e => by have e : g = gf := e; omega) (fun e => by have e : be = gf := e; omega)
  replace q := q.mod (Mod.setCell w13 ⟨gf, 7, none⟩ (.slice Ad d.length d.length)) (fun e => by have e : w.heap.size = gf := e; omega)
  replace hsd := Bs.modne hsd (Mod.setCell w13 ⟨gf, 7, none⟩ (.slice Ad d.length d.length)) (fun _ e => by have e : be = gf := e; omega)
  replace hb := hb.trans ((Mod.setCell w13 ⟨gf, 7, none⟩ (.slice Ad d.length d.length)).below hb.size (fun i hi e => by have e : i = gf := e; omega))
  obtain ⟨w14, hw14⟩ : ∃ w14, w14 = w13.setCell ⟨gf, 7, none⟩ (.slice Ad d.length d.length) := ⟨_, rfl⟩
  rw [← hw14] at hbx hE q hb hsd ⊢
  clear hw14
  obtain ⟨F, hF⟩ : ∃ F : Fr, F = ⟨n1, n2, n3, n4, d1, d2, d3, d⟩ := ⟨_, rfl⟩
  replace hbx : BoxF w14 gf F Ad d.length := by rw [hF]; exact hbx
  have hde : be = w.heap.size → d = [] := fun e => rdB_nil y6 (rdN_nil y5 (rdN_nil y4 (rdN_nil y3 (rdN_nil y2 (rdN_nil y1 (rdN_nil y0 (hpe e)))))))
  clear hpe
  have HGG : Hid (G = ⟨F, n0, n5, l6, x6⟩) := Lib.hid (by
    rw [← HG.out, hF, HD.out.1, HD.out.2.1, HD.out.2.2]
    unfold gotF
    simp only [y0, y1, y2, y3, y4, y5, y6])
  clear HG HD y0 y1 y2 y3 y4 y5 y6
  obtain ⟨dn, hdn⟩ : ∃ dn, dn = doneErr l6 x6 := ⟨_, rfl⟩
  rw [← hdn] at DC
  obtain ⟨za, hza⟩ : ∃ z, z = (dn != 0) := ⟨_, rfl⟩
  obtain ⟨zb, hzb⟩ : ∃ z, z = ((n0 : Int) != 86) := ⟨_, rfl⟩
  obtain ⟨zc, hzc⟩ : ∃ z, z = ((n5 : Int) != (F.marks : Int)) := ⟨_, rfl⟩
  obtain ⟨zd, hzd⟩ : ∃ z, z = F.right := ⟨_, rfl⟩
  have hGr : G.right = (!za && !zb && !zc && zd) := by
    have e1 : decide (x6 = false ∧ l6 = []) = !za := by
      rw [hza, hdn, doneErr, Bool.eq_iff_iff]
      by_cases h : x6 = true ∨ l6 ≠ []
      · rw [if_pos h]
        cases x6 <;> simp at h ⊢
        exact h
      · rw [if_neg h]
        cases x6 <;> simp at h ⊢
        exact h
    have e2 : decide (n0 = 86) = !zb := by rw [hzb, Bool.eq_iff_iff]; simp; omega
    have e3 : decide (n5 = F.marks) = !zc := by rw [hzc, Bool.eq_iff_iff]; simp; omega
    rw [HGG.out, Got.right]
    simp only [e1, e2, e3, hzd]
  have HGF : Hid (G.f = F) := Lib.hid (by rw [HGG.out])
  have hM := fun W => Marks_calls F Ad d.length W
  have hR := fun W => Right_calls F Ad d.length W
  rw [← hzd] at hR
  have hza' := hza.symm
  have hzb' := hzb.symm
  have hzc' := hzc.symm
  have HGR := Lib.hid hGr
  have HFF := Lib.hid hF
  have HFD : Hid (d = F.data) := Lib.hid (by rw [hF])
  clear hza hzb hzc hzd hGr hdn hF HGG
  (with_reducible refine (DC _ hE).mono ?_)
  rintro e w15 ⟨rfl, rfl⟩
  clear DC hE
  obtain ⟨a0, a1, a2, a3, a4, a5, a6, a7⟩ := q.all
  have hq := q.fz
  obtain ⟨b0, b1, b2, b3, b4, b5, b6, b7⟩ := hbx.all
  cases za with
  | true =>
    go_wp2_with fail
    have hp := put8_heap (w := w14) (.int .u16 0) (.int .u16 0) (.int .u16 0) (.int .u32 0) (.bool false) (.bool false) (.bool false) (.slice none 0 0) q
    have hm := put8_mod w14 w.heap.size (.int .u16 0) (.int .u16 0) (.int .u16 0) (.int .u32 0) (.bool false) (.bool false) (.bool false) (.slice none 0 0)
    refine bodyPost_ret (results_ct (P := Tryd.prog) rfl _ _ w.heap.size _ _ (0, 0) _ rfl hp Tryd.underlying47 rfl (by kernel_rfl)) rfl ?_
    have hg : G.right = false := by rw [HGR.out]; rfl
    have e1 : RF = zFr := by rw [HRF.out, hg]; rfl
    have e2 : RE = 2 := by rw [HRE.out, hg]; rfl
    rw [e1, e2]
    exact ⟨none, 0, w.heap.size, rfl, Sl.nil_ _ _ _, Nat.le_refl _, hb.trans (hm.below hb.size (fun i hi e => by omega))⟩
  | false =>
    cases zb with
    | true =>
      go_wp2_with fail
      have hp := put8_heap (w := w14) (.int .u16 0) (.int .u16 0) (.int .u16 0) (.int .u32 0) (.bool false) (.bool false) (.bool false) (.slice none 0 0) q
      have hm := put8_mod w14 w.heap.size (.int .u16 0) (.int .u16 0) (.int .u16 0) (.int .u32 0) (.bool false) (.bool false) (.bool false) (.slice none 0 0)
      refine bodyPost_ret (results_ct (P := Tryd.prog) rfl _ _ w.heap.size _ _ (0, 0) _ rfl hp Tryd.underlying47 rfl (by kernel_rfl)) rfl ?_
      have hg : G.right = false := by rw [HGR.out]; rfl
      have e1 : RF = zFr := by rw [HRF.out, hg]; rfl
      have e2 : RE = 2 := by rw [HRE.out, hg]; rfl
      rw [e1, e2]
      exact ⟨none, 0, w.heap.size, rfl, Sl.nil_ _ _ _, Nat.le_refl _, hb.trans (hm.below hb.size (fun i hi e => by omega))⟩
    | false =>
      go_wp2_with fail
      refine (hM _).mono ?_
      rintro e w16 ⟨rfl, h1⟩
      clear a0 a1 a2 a3 a4 a5 a6 a7 b0 b1 b2 b3 b4 b5 b6 b7 hq
      replace q := q.ext h1
      replace hbx := hbx.ext h1
      replace hsd := Sl.ext hsd h1
      replace hb := hb.trans (h1.mono hb.size)
      clear h1
      obtain ⟨a0, a1, a2, a3, a4, a5, a6, a7⟩ := q.all
      have hq := q.fz
      obtain ⟨b0, b1, b2, b3, b4, b5, b6, b7⟩ := hbx.all
      cases zc with
      | true =>
        go_wp2_with fail
        have hp := put8_heap (w := w16) (.int .u16 0) (.int .u16 0) (.int .u16 0) (.int .u32 0) (.bool false) (.bool false) (.bool false) (.slice none 0 0) q
        have hm := put8_mod w16 w.heap.size (.int .u16 0) (.int .u16 0) (.int .u16 0) (.int .u32 0) (.bool false) (.bool false) (.bool false) (.slice none 0 0)
        refine bodyPost_ret (results_ct (P := Tryd.prog) rfl _ _ w.heap.size _ _ (0, 0) _ rfl hp Tryd.underlying47 rfl (by kernel_rfl)) rfl ?_
        have hg : G.right = false := by rw [HGR.out]; rfl
        have e1 : RF = zFr := by rw [HRF.out, hg]; rfl
        have e2 : RE = 2 := by rw [HRE.out, hg]; rfl
        rw [e1, e2]
        exact ⟨none, 0, w.heap.size, rfl, Sl.nil_ _ _ _, Nat.le_refl _, hb.trans (hm.below hb.size (fun i hi e => by omega))⟩
      | false =>
        go_wp2_with fail
        refine (hR _).mono ?_
        rintro e w17 ⟨rfl, h1⟩
        clear a0 a1 a2 a3 a4 a5 a6 a7 b0 b1 b2 b3 b4 b5 b6 b7 hq
        replace q := q.ext h1
        replace hbx := hbx.ext h1
        replace hsd := Sl.ext hsd h1
        replace hb := hb.trans (h1.mono hb.size)
        clear h1
        obtain ⟨a0, a1, a2, a3, a4, a5, a6, a7⟩ := q.all
        have hq := q.fz
        obtain ⟨b0, b1, b2, b3, b4, b5, b6, b7⟩ := hbx.all
        cases zd with
        | false =>
          go_wp2_with fail
          have hp := put8_heap (w := w17) (.int .u16 0) (.int .u16 0) (.int .u16 0) (.int .u32 0) (.bool false) (.bool false) (.bool false) (.slice none 0 0) q
          have hm := put8_mod w17 w.heap.size (.int .u16 0) (.int .u16 0) (.int .u16 0) (.int .u32 0) (.bool false) (.bool false) (.bool false) (.slice none 0 0)
          refine bodyPost_ret (results_ct (P := Tryd.prog) rfl _ _ w.heap.size _ _ (0, 0) _ rfl hp Tryd.underlying47 rfl (by kernel_rfl)) rfl ?_
          have hg : G.right = false := by rw [HGR.out]; rfl
          have e1 : RF = zFr := by rw [HRF.out, hg]; rfl
          have e2 : RE = 2 := by rw [HRE.out, hg]; rfl
          rw [e1, e2]
          exact ⟨none, 0, w.heap.size, rfl, Sl.nil_ _ _ _, Nat.le_refl _, hb.trans (hm.below hb.size (fun i hi e => by omega))⟩
        | true =>
          go_wp2_with fail
          have hp := put8_heap (w := w17) (.int .u16 (F.epoch : Int)) (.int .u16 (F.seq : Int)) (.int .u16 (F.next : Int)) (.int .u32 (F.bits : Int)) (.bool F.first) (.bool F.last) (.bool F.alone) (.slice Ad F.data.length d.length) q
          have hm := put8_mod w17 w.heap.size (.int .u16 (F.epoch : Int)) (.int .u16 (F.seq : Int)) (.int .u16 (F.next : Int)) (.int .u32 (F.bits : Int)) (.bool F.first) (.bool F.last) (.bool F.alone) (.slice Ad F.data.length d.length)
          refine bodyPost_ret (results_ct (P := Tryd.prog) rfl _ _ w.heap.size _ _ (0, 0) _ rfl hp Tryd.underlying47 rfl (by kernel_rfl)) rfl ?_
          have hg : G.right = true := by rw [HGR.out]; rfl
          have e1 : RF = F := by rw [HRF.out, hg, if_pos rfl, HGF.out]
          have e2 : RE = 0 := by rw [HRE.out, hg, if_pos rfl]
          rw [e1, e2]
          have h8 := hsd
          rw [HFD.out] at h8
          have h9 := Bs.modne h8 hm (fun hne e => hne (by rw [← HFD.out]; exact hde e))
          clear h8
          exact ⟨Ad, d.length, be, rfl, h9, hbE, hb.trans (hm.below hb.size (fun i hi e => by omega))⟩
end Go.Proofs.YtgpedkdebifooaaDoor
