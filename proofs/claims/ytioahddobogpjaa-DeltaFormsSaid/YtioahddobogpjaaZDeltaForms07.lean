/- Parts of one proof, in their order. -/
import Derived.Test.YtioahddobogpjaaZDeltaForms06
import Derived.Deep.Slices
import Derived.Deep.Fields
import Derived.Lib.SmallJoins
/- How a list of cells, and a cell, that came in read, in the words of this seat's walks. No condition. -/
namespace Go.Proofs.Ytioahddobogpjaa
open Go.ChangeShapes Go.WideShapes Go.ChangeAt Go.RowKit Go.Deep

theorem bcell_cells : Try.prog.cellsOf 29 = 2 := by kernel_rfl
theorem bcell_under : ∃ f0 f1 : Field, Try.prog.underlying 29 = some (.struct #[f0, f1]) ∧ oneCellFields Try.prog #[f0, f1] = true ∧ f0.type = 21 ∧ f1.type = 27 :=
  ⟨_, _, Try.underlying29, by kernel_rfl, rfl, rfl⟩
set_option maxRecDepth 100000 in
theorem trod_cell {H : Type} {enc : TypeId × Value → H} {W : World} {b0 fuel : Nat} {spare : Nat → Bool} {held : Bool} {cs : List Value} {x : DataW H × List MemPlace} (hlen : cs.length = 2) (ht : DataW.trod enc Try.prog W b0 spare held fuel 29 cs = some x) :
    ∃ y : Int × Nat, cs = [.int .i32 y.1, .int .u32 ((y.2 : Nat) : Int)] ∧ ((-2147483648 ≤ y.1 ∧ y.1 ≤ 2147483647) ∧ y.2 < 4294967296) := by
  obtain ⟨f0, f1, hu, hone, h0, h1⟩ := bcell_under
  obtain ⟨ys, n', _, _, _, hyl, hf⟩ := DataW.trod_struct hu ht
  match cs, hlen with
  | [v0, v1], _ =>
    match ys, hyl with
    | [y0, y1], _ =>
      obtain ⟨o0, k0⟩ := hone_of hone 0 f0 rfl
      obtain ⟨o1, k1⟩ := hone_of hone 1 f1 rfl
      have g0 := hf 0 f0 rfl
      have g1 := hf 1 f1 rfl
      rw [o0, k0, h0] at g0
      rw [o1, k1, h1] at g1
      simp only [List.drop_zero, List.drop_succ_cons, List.take_succ_cons, List.take_zero, List.getElem?_cons_zero, List.getElem?_cons_succ] at g0 g1
      obtain ⟨a0, e0, _, w0⟩ := DataW.trod_int Try.underlying21 g0
      obtain ⟨a1, e1, _, w1⟩ := DataW.trod_int Try.underlying27 g1
      injection e0 with e0
      injection e1 with e1
      have c0 := bounds_i32 w0
      have c1 := bounds_u32 w1
      refine ⟨⟨a0, a1.toNat⟩, ?_, by simp only; omega, by simp only; omega⟩
      rw [e0, e1, Int.toNat_of_nonneg c1.1]
theorem clist_of {α : Type} {n : Nat} {P : Nat → α → Prop} (h : ∀ i, i < n → ∃ x, P i x) : ∃ l : List α, l.length = n ∧ ∀ i (hi : i < l.length), P i l[i] := by
  induction n with
  | zero => exact ⟨[], rfl, fun i hi => by simp at hi⟩
  | succ n ih =>
    obtain ⟨l, hl, hp⟩ := ih (fun i hi => h i (by omega))
    obtain ⟨x, hx⟩ := h n (by omega)
    refine ⟨l ++ [x], by simp [hl], fun i hi => ?_⟩
    by_cases hin : i < l.length
    · rw [List.getElem_append_left hin]; exact hp i hin
    · have : i = n := by simp at hi; omega
      subst this
      rw [List.getElem_append_right (by omega)]
      simpa using hx
set_option maxRecDepth 100000 in
theorem open_cells {H : Type} {enc : TypeId × Value → H} {W : World} {base b0 : Nat} {spare : Nat → Bool} {held : Bool} {r : Reach} {v : Value} {d : DataW H} {p : List MemPlace} (hv : Value.okWide Try.prog W r base 22 v) (h : DataW.Trod enc Try.prog W b0 spare held 22 v d p) :
    ∃ A n c b L, v = .slice A n c ∧ L.length = n ∧ n ≤ maxLen ∧ n ≤ c ∧ okC L ∧ Sl W b A (cv L) := by
  obtain ⟨a, len, cap, rfl⟩ := okWide_slice Try.underlying22 hv
  obtain ⟨fuel, hf⟩ := h
  rcases open_slice Try.underlying22 hf with ⟨hcs, _⟩ | ⟨x, l, c, m, n, D, Pl, hcs, _, hl, hm, hmm, _, hel⟩
  · simp [Value.cells] at hcs
    obtain ⟨rfl, rfl, rfl⟩ := hcs
    exact ⟨none, 0, 0, 0, [], rfl, rfl, by simp [maxLen], Nat.le_refl _, fun c hc => (by cases hc), Sl.nil_ _ _ _⟩
  · simp [Value.cells] at hcs
    obtain ⟨rfl, rfl, rfl⟩ := hcs
    have hlm : len ≤ m := by rw [hmm]; split <;> omega
    rw [bcell_cells] at hel
    obtain ⟨xs, hxl, hxs⟩ := clist_of (n := len) (P := fun i (y : Int × Nat) => ((-2147483648 ≤ y.1 ∧ y.1 ≤ 2147483647) ∧ y.2 < 4294967296) ∧ W.cell? (x.add (i * 2)) = some (.int .i32 y.1) ∧ W.cell? (x.add (i * 2 + 1)) = some (.int .u32 ((y.2 : Nat) : Int))) (fun i hi => by
      obtain ⟨cs', hc, ht⟩ := hel i (by omega)
      obtain ⟨_, hcl, hat⟩ := World.cells?_some hc
      obtain ⟨y, hy, hyin⟩ := trod_cell hcl ht
      have a0 := hat 0 (by omega)
      have a1 := hat 1 (by omega)
      rw [Go.Deep.add_add, hy] at a0 a1
      exact ⟨y, hyin, a0, a1⟩)
    have hok : okC xs := fun y hy => by
      obtain ⟨i, hi, rfl⟩ := List.getElem_of_mem hy
      exact (hxs i hi).1
    by_cases h0 : len = 0
    · have hx0 : xs = [] := List.eq_nil_of_length_eq_zero (by omega)
      subst hx0
      exact ⟨_, _, _, 0, [], rfl, hxl, by omega, hl, hok, Sl.nil_ _ _ _⟩
    · obtain ⟨bb, off, spot⟩ := x
      have hc0 := (hxs 0 (by omega)).2.1
      have hspot : spot = none := by
        simpa [Addr.add] using World.cell?_spot hc0
      subst hspot
      refine ⟨_, _, _, bb, xs, rfl, hxl, by omega, hl, hok, fun _ => ⟨off, rfl, fun j u hu => ?_⟩⟩
      have hj := (List.getElem?_eq_some_iff.1 hu).1
      rw [cv_length] at hj
      have h1 := (hxs (j / 2) (by omega)).2
      rw [Addr.add_lit, Addr.add_lit] at h1
      rcases Nat.mod_two_eq_zero_or_one j with he | he
      · have e : j / 2 * 2 = j := by omega
        have h2 := cv_val (L := xs) (i := j / 2) (by omega)
        rw [e] at h1 h2
        rw [h1.1, ← h2]
        exact hu
      · have e : j / 2 * 2 + 1 = j := by omega
        have h2 := cv_lab (L := xs) (i := j / 2) (by omega)
        rw [e] at h1 h2
        rw [h1.2, ← h2]
        exact hu
set_option maxRecDepth 100000 in
/-- A cell by value. -/
theorem open_cell {H : Type} {enc : TypeId × Value → H} {W : World} {base b0 : Nat} {spare : Nat → Bool} {held : Bool} {r : Reach} {v : Value} {d : DataW H} {p : List MemPlace} (hv : Value.okWide Try.prog W r base 29 v) (h : DataW.Trod enc Try.prog W b0 spare held 29 v d p) :
    ∃ (x : Int) (y : Nat), v = .agg #[.int .i32 x, .int .u32 (y : Int)] ∧ ((-2147483648 ≤ x ∧ x ≤ 2147483647) ∧ y < 4294967296) := by
  obtain ⟨f0, f1, hu, _, _, _⟩ := bcell_under
  obtain ⟨cs, rfl, hsz⟩ := okWide_struct hu hv
  obtain ⟨fuel, hf⟩ := h
  obtain ⟨y, hy, hyin⟩ := trod_cell (by simpa [Value.cells] using hsz.trans bcell_cells) hf
  refine ⟨y.1, y.2, ?_, hyin⟩
  congr 1
  apply Array.ext'
  simpa [Value.cells] using hy
end Go.Proofs.Ytioahddobogpjaa
/- How a delta that came in reads, in the words of this seat's walks. No condition. -/
namespace Go.Proofs.Ytioahddobogpjaa
open Go.ChangeShapes Go.WideShapes Go.ChangeAt Go.RowKit Go.Deep

set_option maxRecDepth 100000 in
theorem trod_bytesF {H : Type} {enc : TypeId × Value → H} {W : World} {b0 fuel : Nat} {spare : Nat → Bool} {held : Bool} {v : Value} {x : DataW H × List MemPlace} (hf : DataW.trod enc Try.prog W b0 spare held fuel 36 [v] = some x) :
    ∃ A n c b l, v = .slice A n c ∧ l.length = n ∧ n ≤ maxLen ∧ Bs W b A l := by
  rcases open_ints Try.underlying36 Try.underlying5 (by kernel_rfl) hf with ⟨hcs, _⟩ | ⟨x, l, c, zs, hcs, _, hl, hm, hz, _, hcell, hwz⟩
  · injection hcs with hcs
    exact ⟨none, 0, 0, 0, [], hcs, rfl, by simp [maxLen], Sl.nil_ _ _ _⟩
  · injection hcs with hcs
    obtain ⟨b, l', hl', hs⟩ := ints_bs (by rw [hz]; split <;> omega) hcell hwz
    exact ⟨_, _, _, b, l', hcs, hl', by omega, hs⟩
set_option maxRecDepth 100000 in
theorem trod_cellsF {H : Type} {enc : TypeId × Value → H} {W : World} {b0 fuel : Nat} {spare : Nat → Bool} {held : Bool} {v : Value} {x : DataW H × List MemPlace} (hf : DataW.trod enc Try.prog W b0 spare held fuel 22 [v] = some x) :
    ∃ A n c b L, v = .slice A n c ∧ L.length = n ∧ n ≤ maxLen ∧ n ≤ c ∧ okC L ∧ Sl W b A (cv L) := by
  rcases open_slice Try.underlying22 hf with ⟨hcs, _⟩ | ⟨x, len, cap, m, n, D, Pl, hcs, _, hl, hm, hmm, _, hel⟩
  · injection hcs with hcs
    subst hcs
    exact ⟨none, 0, 0, 0, [], rfl, rfl, by simp [maxLen], Nat.le_refl _, fun c hc => (by cases hc), Sl.nil_ _ _ _⟩
  · injection hcs with hcs
    subst hcs
    have hlm : len ≤ m := by rw [hmm]; split <;> omega
    rw [bcell_cells] at hel
    obtain ⟨xs, hxl, hxs⟩ := clist_of (n := len) (P := fun i (y : Int × Nat) => ((-2147483648 ≤ y.1 ∧ y.1 ≤ 2147483647) ∧ y.2 < 4294967296) ∧ W.cell? (x.add (i * 2)) = some (.int .i32 y.1) ∧ W.cell? (x.add (i * 2 + 1)) = some (.int .u32 ((y.2 : Nat) : Int))) (fun i hi => by
      obtain ⟨cs', hc, ht⟩ := hel i (by omega)
      obtain ⟨_, hcl, hat⟩ := World.cells?_some hc
      obtain ⟨y, hy, hyin⟩ := trod_cell hcl ht
      have a0 := hat 0 (by omega)
      have a1 := hat 1 (by omega)
      rw [Go.Deep.add_add, hy] at a0 a1
      exact ⟨y, hyin, a0, a1⟩)
    have hok : okC xs := fun y hy => by
      obtain ⟨i, hi, rfl⟩ := List.getElem_of_mem hy
      exact (hxs i hi).1
    by_cases h0 : len = 0
    · have hx0 : xs = [] := List.eq_nil_of_length_eq_zero (by omega)
      subst hx0
      exact ⟨_, _, _, 0, [], rfl, hxl, by omega, hl, hok, Sl.nil_ _ _ _⟩
    · obtain ⟨bb, off, spot⟩ := x
      have hc0 := (hxs 0 (by omega)).2.1
      have hspot : spot = none := by
        simpa [Addr.add] using World.cell?_spot hc0
      subst hspot
      refine ⟨_, _, _, bb, xs, rfl, hxl, by omega, hl, hok, fun _ => ⟨off, rfl, fun j u hu => ?_⟩⟩
      have hj := (List.getElem?_eq_some_iff.1 hu).1
      rw [cv_length] at hj
      have h1 := (hxs (j / 2) (by omega)).2
      rw [Addr.add_lit, Addr.add_lit] at h1
      rcases Nat.mod_two_eq_zero_or_one j with he | he
      · have e : j / 2 * 2 = j := by omega
        have h2 := cv_val (L := xs) (i := j / 2) (by omega)
        rw [e] at h1 h2
        rw [h1.1, ← h2]
        exact hu
      · have e : j / 2 * 2 + 1 = j := by omega
        have h2 := cv_lab (L := xs) (i := j / 2) (by omega)
        rw [e] at h1 h2
        rw [h1.2, ← h2]
        exact hu
set_option maxRecDepth 100000 in
theorem delta_fields : ∃ f0 f1 f2 f3 : Field, Try.prog.underlying 38 = some (.struct #[f0, f1, f2, f3]) ∧ (f0.type = 24 ∧ f1.type = 24 ∧ f2.type = 36 ∧ f3.type = 22) ∧ (f0.offset = 0 ∧ f1.offset = 1 ∧ f2.offset = 2 ∧ f3.offset = 3) :=
  ⟨_, _, _, _, Try.underlying38, ⟨rfl, rfl, rfl, rfl⟩, ⟨rfl, rfl, rfl, rfl⟩⟩
theorem dcells_u32 : Try.prog.cellsOf 24 = 1 := by kernel_rfl
theorem dcells_bytes : Try.prog.cellsOf 36 = 1 := by kernel_rfl
theorem dcells_cells : Try.prog.cellsOf 22 = 1 := by kernel_rfl
theorem dcells_delta : Try.prog.cellsOf 38 = 4 := by kernel_rfl
set_option maxHeartbeats 1000000 in
set_option maxRecDepth 100000 in
theorem trod_delta {H : Type} {enc : TypeId × Value → H} {W : World} {b0 fuel : Nat} {spare : Nat → Bool} {held : Bool} {cs : List Value} {x : DataW H × List MemPlace} (hlen : cs.length = 4) (ht : DataW.trod enc Try.prog W b0 spare held fuel 38 cs = some x) :
    ∃ (t h : Nat) (Ap : Option Addr) (ps : List UInt8) (cp bp : Nat) (Ac : Option Addr) (L : List (Int × Nat)) (cc bc : Nat), cs = [.int .u32 (t : Int), .int .u32 (h : Int), .slice Ap ps.length cp, .slice Ac L.length cc] ∧ t < 4294967296 ∧ h < 4294967296 ∧ ps.length ≤ maxLen ∧ Bs W bp Ap ps ∧ L.length ≤ maxLen ∧ L.length ≤ cc ∧ okC L ∧ Sl W bc Ac (cv L) := by
  obtain ⟨f0, f1, f2, f3, hu, ⟨t0, t1, t2, t3⟩, ⟨o0, o1, o2, o3⟩⟩ := delta_fields
  obtain ⟨ys, n', _, _, _, hyl, hf⟩ := DataW.trod_struct hu ht
  match cs, hlen with
  | [v0, v1, v2, v3], _ =>
    match ys, hyl with
    | [y0, y1, y2, y3], _ =>
      have g0 := hf 0 f0 rfl
      have g1 := hf 1 f1 rfl
      have g2 := hf 2 f2 rfl
      have g3 := hf 3 f3 rfl
      rw [o0, t0, dcells_u32] at g0
      rw [o1, t1, dcells_u32] at g1
      rw [o2, t2, dcells_bytes] at g2
      rw [o3, t3, dcells_cells] at g3
      simp only [List.drop_zero, List.drop_succ_cons, List.take_succ_cons, List.take_zero, List.getElem?_cons_zero, List.getElem?_cons_succ] at g0 g1 g2 g3
      obtain ⟨a0, e0, _, w0⟩ := DataW.trod_int Try.underlying24 g0
      obtain ⟨a1, e1, _, w1⟩ := DataW.trod_int Try.underlying24 g1
      obtain ⟨Ap, np, cp, bp, ps, e2, hlp, hmp, hsp⟩ := trod_bytesF g2
      obtain ⟨Ac, nc, cc, bc, L, e3, hlc, hmc, hcc, hok, hsc⟩ := trod_cellsF g3
      injection e0 with e0
      injection e1 with e1
      have c0 := bounds_u32 w0
      have c1 := bounds_u32 w1
      subst hlp hlc
      refine ⟨a0.toNat, a1.toNat, Ap, ps, cp, bp, Ac, L, cc, bc, ?_, by omega, by omega, hmp, hsp, hmc, hcc, hok, hsc⟩
      rw [e0, e1, e2, e3, Int.toNat_of_nonneg c0.1, Int.toNat_of_nonneg c1.1]
set_option maxRecDepth 100000 in
theorem open_delta {H : Type} {enc : TypeId × Value → H} {W : World} {base b0 : Nat} {spare : Nat → Bool} {held : Bool} {r : Reach} {v : Value} {d : DataW H} {p : List MemPlace} (hv : Value.okWide Try.prog W r base 38 v) (h : DataW.Trod enc Try.prog W b0 spare held 38 v d p) :
    ∃ (t h : Nat) (Ap : Option Addr) (ps : List UInt8) (cp bp : Nat) (Ac : Option Addr) (L : List (Int × Nat)) (cc bc : Nat), v = .agg #[.int .u32 (t : Int), .int .u32 (h : Int), .slice Ap ps.length cp, .slice Ac L.length cc] ∧ t < 4294967296 ∧ h < 4294967296 ∧ ps.length ≤ maxLen ∧ Bs W bp Ap ps ∧ L.length ≤ maxLen ∧ L.length ≤ cc ∧ okC L ∧ Sl W bc Ac (cv L) := by
  obtain ⟨f0, f1, f2, f3, hu, _, _⟩ := delta_fields
  obtain ⟨cs, rfl, hsz⟩ := okWide_struct hu hv
  obtain ⟨fuel, hf⟩ := h
  obtain ⟨t, h, Ap, ps, cp, bp, Ac, L, cc, bc, hy, r⟩ := trod_delta (by simpa [Value.cells] using hsz.trans dcells_delta) hf
  refine ⟨t, h, Ap, ps, cp, bp, Ac, L, cc, bc, ?_, r⟩
  congr 1
  apply Array.ext'
  simpa [Value.cells] using hy
end Go.Proofs.Ytioahddobogpjaa
