/- How a game that came in reads, in the words of this seat's walks. No condition. -/
import Derived.Test.YtglmciklegifaaaDoorOpenV
import Derived.Test.YtglmciklegifaaaDoorRuC
import Derived.Deep.Slices
import Derived.Deep.Fields
import Derived.Lib.SmallJoins
namespace Go.Proofs.YtglmciklegifaaaDoor
open Go.ChangeShapes Go.WideShapes Go.ChangeAt Go.RowKit Go.Deep
set_option linter.unusedVariables false

theorem bcell_cells : Tryd.prog.cellsOf 67 = 2 := by kernel_rfl
theorem bcell_under : ∃ f0 f1 : Field, Tryd.prog.underlying 67 = some (.struct #[f0, f1]) ∧ oneCellFields Tryd.prog #[f0, f1] = true ∧ f0.type = 21 ∧ f1.type = 65 :=
  ⟨_, _, Tryd.underlying67, by kernel_rfl, rfl, rfl⟩
set_option maxRecDepth 100000 in
theorem trod_cell {H : Type} {enc : TypeId × Value → H} {W : World} {b0 fuel : Nat} {spare : Nat → Bool} {held : Bool} {cs : List Value} {x : DataW H × List MemPlace} (hlen : cs.length = 2) (ht : DataW.trod enc Tryd.prog W b0 spare held fuel 67 cs = some x) :
    ∃ y : Int × Nat, cs = [.int .i32 y.1, .int .u32 ((y.2 : Nat) : Int)] ∧ ((-2147483648 ≤ y.1 ∧ y.1 ≤ 2147483647) ∧ y.2 < 4294967296) := by
  obtain ⟨f0, f1, hu, hone, h0, h1⟩ := bcell_under
  obtain ⟨ys, n', _, _, _, hyl, hf⟩ := DataW.trod_struct hu ht
  match cs, hlen with
  | [v0, v1], _ =>
    match ys, hyl with
    | [y0, y1], _ =>
      obtain ⟨o0, k0⟩ := hone_of hone 0 f0 rfl
      obtain ⟨o1, k1⟩ := hone_of hone 1 f1 rfl
      have g0 := hf 0 f0 rfl
      have g1 := hf 1 f1 rfl
      rw [o0, k0, h0] at g0
      rw [o1, k1, h1] at g1
      simp only [List.drop_zero, List.drop_succ_cons, List.take_succ_cons, List.take_zero, List.getElem?_cons_zero, List.getElem?_cons_succ] at g0 g1
      obtain ⟨a0, e0, _, w0⟩ := DataW.trod_int Tryd.underlying21 g0
      obtain ⟨a1, e1, _, w1⟩ := DataW.trod_int Tryd.underlying65 g1
      injection e0 with e0
      injection e1 with e1
      have c0 := bounds_i32 w0
      have c1 := bounds_u32 w1
      refine ⟨⟨a0, a1.toNat⟩, ?_, by simp only; omega, by simp only; omega⟩
      rw [e0, e1, Int.toNat_of_nonneg c1.1]
theorem clist_of {α : Type} {n : Nat} {P : Nat → α → Prop} (h : ∀ i, i < n → ∃ x, P i x) : ∃ l : List α, l.length = n ∧ ∀ i (hi : i < l.length), P i l[i] := by
  induction n with
  | zero => exact ⟨[], rfl, fun i hi => by simp at hi⟩
  | succ n ih =>
    obtain ⟨l, hl, hp⟩ := ih (fun i hi => h i (by omega))
    obtain ⟨x, hx⟩ := h n (by omega)
    refine ⟨l ++ [x], by simp [hl], fun i hi => ?_⟩
    by_cases hin : i < l.length
    · rw [List.getElem_append_left hin]; exact hp i hin
    · have : i = n := by simp at hi; omega
      subst this
      rw [List.getElem_append_right (by omega)]
      simpa using hx
set_option maxRecDepth 100000 in
theorem trod_cellsG {H : Type} {enc : TypeId × Value → H} {W : World} {b0 fuel : Nat} {spare : Nat → Bool} {held : Bool} {v : Value} {x0 : DataW H × List MemPlace} (hf : DataW.trod enc Tryd.prog W b0 spare held fuel 23 [v] = some x0) :
    ∃ A n c b L, v = .slice A n c ∧ L.length = n ∧ n ≤ maxLen ∧ n ≤ c ∧ okC L ∧ Sl W b A (cv L) := by
  rcases open_slice Tryd.underlying23 hf with ⟨hcs, _⟩ | ⟨x, len, cap, m, n, D, Pl, hcs, _, hl, hm, hmm, _, hel⟩
  · injection hcs with hcs _
    subst hcs
    exact ⟨none, 0, 0, 0, [], rfl, rfl, by simp [maxLen], Nat.le_refl _, fun c hc => (by cases hc), Sl.nil_ _ _ _⟩
  · injection hcs with hcs _
    subst hcs
    have hlm : len ≤ m := by rw [hmm]; split <;> omega
    rw [bcell_cells] at hel
    obtain ⟨xs, hxl, hxs⟩ := clist_of (n := len) (P := fun i (y : Int × Nat) => ((-2147483648 ≤ y.1 ∧ y.1 ≤ 2147483647) ∧ y.2 < 4294967296) ∧ W.cell? (x.add (i * 2)) = some (.int .i32 y.1) ∧ W.cell? (x.add (i * 2 + 1)) = some (.int .u32 ((y.2 : Nat) : Int))) (fun i hi => by
      obtain ⟨cs', hc, ht⟩ := hel i (by omega)
      obtain ⟨_, hcl, hat⟩ := World.cells?_some hc
      obtain ⟨y, hy, hyin⟩ := trod_cell hcl ht
      have a0 := hat 0 (by omega)
      have a1 := hat 1 (by omega)
      rw [Go.Deep.add_add, hy] at a0 a1
      exact ⟨y, hyin, a0, a1⟩)
    have hok : okC xs := fun y hy => by
      obtain ⟨i, hi, rfl⟩ := List.getElem_of_mem hy
      exact (hxs i hi).1
    by_cases h0 : len = 0
    · have hx0 : xs = [] := List.eq_nil_of_length_eq_zero (by omega)
      subst hx0
      exact ⟨_, _, _, 0, [], rfl, hxl, by omega, hl, hok, Sl.nil_ _ _ _⟩
    · obtain ⟨bb, off, spot⟩ := x
      have hc0 := (hxs 0 (by omega)).2.1
      have hspot : spot = none := by
        simpa [Addr.add] using World.cell?_spot hc0
      subst hspot
      refine ⟨_, _, _, bb, xs, rfl, hxl, by omega, hl, hok, fun _ => ⟨off, rfl, fun j u hu => ?_⟩⟩
      have hj := (List.getElem?_eq_some_iff.1 hu).1
      rw [cv_length] at hj
      have h1 := (hxs (j / 2) (by omega)).2
      rw [Addr.add_lit, Addr.add_lit] at h1
      rcases Nat.mod_two_eq_zero_or_one j with he | he
      · have e : j / 2 * 2 = j := by omega
        have h2 := cv_val (L := xs) (i := j / 2) (by omega)
        rw [e] at h1 h2
        rw [h1.1, ← h2]
        exact hu
      · have e : j / 2 * 2 + 1 = j := by omega
        have h2 := cv_lab (L := xs) (i := j / 2) (by omega)
        rw [e] at h1 h2
        rw [h1.2, ← h2]
        exact hu
set_option maxRecDepth 100000 in
theorem trod_codesG {H : Type} {enc : TypeId × Value → H} {W : World} {b0 fuel : Nat} {spare : Nat → Bool} {held : Bool} {v : Value} {x0 : DataW H × List MemPlace} (hf : DataW.trod enc Tryd.prog W b0 spare held fuel 24 [v] = some x0) :
    ∃ A n c b L, v = .slice A n c ∧ L.length = n ∧ n ≤ maxLen ∧ n ≤ c ∧ okK L ∧ Sl W b A (kv L) := by
  rcases open_slice Tryd.underlying24 hf with ⟨hcs, _⟩ | ⟨x, len, cap, m, n, D, Pl, hcs, _, hl, hm, hmm, _, hel⟩
  · injection hcs with hcs _
    subst hcs
    exact ⟨none, 0, 0, 0, [], rfl, rfl, by simp [maxLen], Nat.le_refl _, fun c hc => (by cases hc), Sl.nil_ _ _ _⟩
  · injection hcs with hcs _
    subst hcs
    have hlm : len ≤ m := by rw [hmm]; split <;> omega
    rw [kcode_cells] at hel
    obtain ⟨xs, hxl, hxs⟩ := klist_of (n := len) (P := fun i (y : Cd) => y.Ok ∧ ∀ r, r < 6 → W.cell? (x.add (i * 6 + r)) = (cdA y).toList[r]?) (fun i hi => by
      obtain ⟨cs', hc, ht⟩ := hel i (by omega)
      obtain ⟨_, hcl, hat⟩ := World.cells?_some hc
      obtain ⟨y, hy, hyin⟩ := trod_code hcl ht
      refine ⟨y, hyin, fun r hr => ?_⟩
      have a0 := hat r (by omega)
      rw [Go.Deep.add_add, hy] at a0
      exact a0)
    have hok : okK xs := fun y hy => by
      obtain ⟨i, hi, rfl⟩ := List.getElem_of_mem hy
      exact (hxs i hi).1
    by_cases h0 : len = 0
    · have hx0 : xs = [] := List.eq_nil_of_length_eq_zero (by omega)
      subst hx0
      exact ⟨_, _, _, 0, [], rfl, hxl, by omega, hl, hok, Sl.nil_ _ _ _⟩
    · obtain ⟨bb, off, spot⟩ := x
      have hc0 := (hxs 0 (by omega)).2 0 (by omega)
      have hspot : spot = none := by
        rw [show (cdA (xs[0]'(by omega))).toList[0]? = some (.int .u8 ((xs[0]'(by omega)).op : Int)) from rfl] at hc0
        simpa [Addr.add] using World.cell?_spot hc0
      subst hspot
      refine ⟨_, _, _, bb, xs, rfl, hxl, by omega, hl, hok, fun _ => ⟨off, rfl, fun j u hu => ?_⟩⟩
      have hj := (List.getElem?_eq_some_iff.1 hu).1
      rw [kv_length] at hj
      have h1 := (hxs (j / 6) (by omega)).2 (j % 6) (by omega)
      rw [Addr.add_lit] at h1
      have h2 := kv_get (l := xs) (i := j / 6) (by omega) (r := j % 6) (by omega)
      rw [show j / 6 * 6 + j % 6 = j by omega] at h1 h2
      rw [h1, ← h2]
      exact hu

/-- A game as it came: its numbers fit, its slices are slices. -/
structure GRaw (g : Gm) (s : Gs) : Prop where
  o0 : -9223372036854775808 ≤ g.ob
  o1 : g.ob ≤ 9223372036854775807
  p0 : -9223372036854775808 ≤ g.pl
  p1 : g.pl ≤ 9223372036854775807
  m1 : g.mv ≤ 4294967295
  d1 : g.df ≤ 4294967295
  lL : g.L.length ≤ maxLen
  lK : g.K.length ≤ maxLen
  hL : g.L.length ≤ s.c
  hK : g.K.length ≤ s.c'
  oL : okC g.L
  oK : okK g.K
set_option maxRecDepth 100000 in
theorem game_fields : ∃ f0 f1 f2 f3 f4 f5 : Field, Tryd.prog.underlying 26 = some (.struct #[f0, f1, f2, f3, f4, f5]) ∧ (f0.type = 3 ∧ f1.type = 3 ∧ f2.type = 22 ∧ f3.type = 22 ∧ f4.type = 23 ∧ f5.type = 24) ∧ (f0.offset = 0 ∧ f1.offset = 1 ∧ f2.offset = 2 ∧ f3.offset = 3 ∧ f4.offset = 4 ∧ f5.offset = 5) :=
  ⟨_, _, _, _, _, _, Tryd.underlying26, ⟨rfl, rfl, rfl, rfl, rfl, rfl⟩, ⟨rfl, rfl, rfl, rfl, rfl, rfl⟩⟩
theorem cellsG_int : Tryd.prog.cellsOf 3 = 1 := by kernel_rfl
theorem cellsG_u32 : Tryd.prog.cellsOf 22 = 1 := by kernel_rfl
theorem cellsG_cells : Tryd.prog.cellsOf 23 = 1 := by kernel_rfl
theorem cellsG_codes : Tryd.prog.cellsOf 24 = 1 := by kernel_rfl
theorem cellsG_game : Tryd.prog.cellsOf 26 = 6 := by kernel_rfl
set_option maxHeartbeats 1000000 in
set_option maxRecDepth 100000 in
theorem trod_game {H : Type} {enc : TypeId × Value → H} {W : World} {b0 fuel : Nat} {spare : Nat → Bool} {held : Bool} {cs : List Value} {x : DataW H × List MemPlace} (hlen : cs.length = 6) (ht : DataW.trod enc Tryd.prog W b0 spare held fuel 26 cs = some x) :
    ∃ (g : Gm) (s : Gs), cs = (gmA g s).toList ∧ GRaw g s ∧ GIn W g s := by
  obtain ⟨f0, f1, f2, f3, f4, f5, hu, ⟨t0, t1, t2, t3, t4, t5⟩, ⟨o0, o1, o2, o3, o4, o5⟩⟩ := game_fields
  obtain ⟨ys, n', _, _, _, hyl, hf⟩ := DataW.trod_struct hu ht
  match cs, hlen with
  | [v0, v1, v2, v3, v4, v5], _ =>
    match ys, hyl with
    | [y0, y1, y2, y3, y4, y5], _ =>
      have g0 := hf 0 f0 rfl
      have g1 := hf 1 f1 rfl
      have g2 := hf 2 f2 rfl
      have g3 := hf 3 f3 rfl
      have g4 := hf 4 f4 rfl
      have g5 := hf 5 f5 rfl
      rw [o0, t0, cellsG_int] at g0
      rw [o1, t1, cellsG_int] at g1
      rw [o2, t2, cellsG_u32] at g2
      rw [o3, t3, cellsG_u32] at g3
      rw [o4, t4, cellsG_cells] at g4
      rw [o5, t5, cellsG_codes] at g5
      simp only [List.drop_zero, List.drop_succ_cons, List.take_succ_cons, List.take_zero, List.getElem?_cons_zero, List.getElem?_cons_succ] at g0 g1 g2 g3 g4 g5
      obtain ⟨a0, e0, _, w0⟩ := DataW.trod_int Tryd.underlying3 g0
      obtain ⟨a1, e1, _, w1⟩ := DataW.trod_int Tryd.underlying3 g1
      obtain ⟨a2, e2, _, w2⟩ := DataW.trod_int Tryd.underlying22 g2
      obtain ⟨a3, e3, _, w3⟩ := DataW.trod_int Tryd.underlying22 g3
      obtain ⟨A, n, c, b, L, e4, hl, hm, hc, ho, hs⟩ := trod_cellsG g4
      obtain ⟨A', n', c', b', K, e5, hl', hm', hc', ho', hs'⟩ := trod_codesG g5
      injection e0 with e0
      injection e1 with e1
      injection e2 with e2
      injection e3 with e3
      have c0 := bounds_i64 w0
      have c1 := bounds_i64 w1
      have c2 := bounds_u32 w2
      have c3 := bounds_u32 w3
      subst hl hl'
      refine ⟨⟨a0, a1, a2.toNat, a3.toNat, L, K⟩, ⟨A, c, b, A', c', b'⟩, ?_, ⟨c0.1, c0.2, c1.1, c1.2, by simp only; omega, by simp only; omega, hm, hm', hc, hc', ho, ho'⟩, ⟨hs, hs'⟩⟩
      simp only
      rw [e0, e1, e2, e3, e4, e5, Int.toNat_of_nonneg c2.1, Int.toNat_of_nonneg c3.1]
set_option maxRecDepth 100000 in
theorem open_game {H : Type} {enc : TypeId × Value → H} {W : World} {base b0 : Nat} {spare : Nat → Bool} {held : Bool} {r : Reach} {v : Value} {d : DataW H} {p : List MemPlace} (hv : Value.okWide Tryd.prog W r base 26 v) (h : DataW.Trod enc Tryd.prog W b0 spare held 26 v d p) :
    ∃ (g : Gm) (s : Gs), v = .agg (gmA g s) ∧ GRaw g s ∧ GIn W g s := by
  obtain ⟨f0, f1, f2, f3, f4, f5, hu, _, _⟩ := game_fields
  obtain ⟨cs, rfl, hsz⟩ := okWide_struct hu hv
  obtain ⟨fuel, hf⟩ := h
  obtain ⟨g, s, hy, hr, hi⟩ := trod_game (by simpa [Value.cells] using hsz.trans cellsG_game) hf
  refine ⟨g, s, ?_, hr, hi⟩
  congr 1
  apply Array.ext'
  simpa [Value.cells] using hy
end Go.Proofs.YtglmciklegifaaaDoor
