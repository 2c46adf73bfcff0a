/- How faults and turns that came in read, in the words of this seat's walks. No condition. -/
import Derived.Test.YtbcfelihncnofaaOpenBss
import Derived.Test.YtbcfelihncnofaaWiB
import Derived.Deep.Fields
namespace Go.Proofs.Ytbcfelihncnofaa
open Go.ChangeShapes Go.WideShapes Go.ChangeAt Go.RowKit Go.Deep

theorem ft_cells : Try.prog.cellsOf 50 = 3 := by kernel_rfl
theorem ft_under : ∃ f0 f1 f2 : Field, Try.prog.underlying 50 = some (.struct #[f0, f1, f2]) ∧ oneCellFields Try.prog #[f0, f1, f2] = true ∧ f0.type = 5 ∧ f1.type = 47 ∧ f2.type = 48 :=
  ⟨_, _, _, Try.underlying50, by kernel_rfl, rfl, rfl, rfl⟩
set_option maxRecDepth 100000 in
theorem trod_ft {H : Type} {enc : TypeId × Value → H} {W : World} {b0 fuel : Nat} {spare : Nat → Bool} {held : Bool} {cs : List Value} {x : DataW H × List MemPlace} (hlen : cs.length = 3) (ht : DataW.trod enc Try.prog W b0 spare held fuel 50 cs = some x) :
    ∃ y : Ft, cs = y.cells ∧ y.ok := by
  obtain ⟨f0, f1, f2, hu, hone, h0, h1, h2⟩ := ft_under
  obtain ⟨ys, n', _, _, _, hyl, hf⟩ := DataW.trod_struct hu ht
  match cs, hlen with
  | [v0, v1, v2], _ =>
    match ys, hyl with
    | [y0, y1, y2], _ =>
      obtain ⟨o0, k0⟩ := hone_of hone 0 f0 rfl
      obtain ⟨o1, k1⟩ := hone_of hone 1 f1 rfl
      obtain ⟨o2, k2⟩ := hone_of hone 2 f2 rfl
      have g0 := hf 0 f0 rfl
      have g1 := hf 1 f1 rfl
      have g2 := hf 2 f2 rfl
      rw [o0, k0, h0] at g0
      rw [o1, k1, h1] at g1
      rw [o2, k2, h2] at g2
      simp only [List.drop_zero, List.drop_succ_cons, List.take_succ_cons, List.take_zero, List.getElem?_cons_zero, List.getElem?_cons_succ] at g0 g1 g2
      obtain ⟨a0, e0, _, w0⟩ := DataW.trod_int Try.underlying5 g0
      obtain ⟨a1, e1, _, w1⟩ := DataW.trod_int Try.underlying47 g1
      obtain ⟨a2, e2, _, w2⟩ := DataW.trod_int Try.underlying48 g2
      injection e0 with e0
      injection e1 with e1
      injection e2 with e2
      have c0 := bounds_u8 w0
      have c1 := bounds_u16 w1
      have c2 := bounds_u32 w2
      refine ⟨⟨a0.toNat, a1.toNat, a2.toNat⟩, ?_, by simp only; omega, by simp only; omega, by simp only; omega⟩
      simp only [Ft.cells]
      rw [e0, e1, e2, Int.toNat_of_nonneg c0.1, Int.toNat_of_nonneg c1.1, Int.toNat_of_nonneg c2.1]
set_option maxRecDepth 100000 in
theorem open_fault {H : Type} {enc : TypeId × Value → H} {W : World} {base b0 : Nat} {spare : Nat → Bool} {held : Bool} {r : Reach} {v : Value} {d : DataW H} {p : List MemPlace} (hv : Value.okWide Try.prog W r base 50 v) (h : DataW.Trod enc Try.prog W b0 spare held 50 v d p) :
    ∃ f : Ft, v = .agg f.cells.toArray ∧ f.ok := by
  obtain ⟨f0, f1, f2, hu, _, _⟩ := ft_under
  obtain ⟨cs, rfl, hsz⟩ := okWide_struct hu hv
  obtain ⟨fuel, hf⟩ := h
  obtain ⟨f, hy, ho⟩ := trod_ft (by simpa [Value.cells] using hsz.trans ft_cells) hf
  refine ⟨f, ?_, ho⟩
  congr 1
  apply Array.ext'
  simpa [Value.cells] using hy
theorem list_of {α : Type} {n : Nat} {P : Nat → α → Prop} (h : ∀ i, i < n → ∃ x, P i x) : ∃ l : List α, l.length = n ∧ ∀ i (hi : i < l.length), P i l[i] := by
  induction n with
  | zero => exact ⟨[], rfl, fun i hi => by simp at hi⟩
  | succ n ih =>
    obtain ⟨l, hl, hp⟩ := ih (fun i hi => h i (by omega))
    obtain ⟨x, hx⟩ := h n (by omega)
    refine ⟨l ++ [x], by simp [hl], fun i hi => ?_⟩
    by_cases hin : i < l.length
    · rw [List.getElem_append_left hin]; exact hp i hin
    · have : i = n := by simp at hi; omega
      subst this
      rw [List.getElem_append_right (by omega)]
      simpa using hx

theorem trod_fts {H : Type} {enc : TypeId × Value → H} {W : World} {b0 fuel : Nat} {spare : Nat → Bool} {held : Bool} {v : Value} {x : DataW H × List MemPlace} (hf : DataW.trod enc Try.prog W b0 spare held fuel 32 [v] = some x) :
    ∃ A n c b fs, v = .slice A n c ∧ fs.length = n ∧ n ≤ maxLen ∧ Sl W b A (ftv fs) ∧ ∀ f ∈ fs, f.ok := by
  rcases open_slice Try.underlying32 hf with ⟨hcs, _⟩ | ⟨x, len, c, m, n, D, Pl, hcs, _, hl, hm, hmm, _, hel⟩
  · injection hcs with hcs
    exact ⟨none, 0, 0, 0, [], hcs, rfl, by simp [maxLen], Sl.nil_ _ _ _, by simp⟩
  · injection hcs with hcs
    subst hcs
    have hlm : len ≤ m := by rw [hmm]; split <;> omega
    rw [ft_cells] at hel
    obtain ⟨xs, hxl, hxs⟩ := list_of (n := len) (P := fun i (y : Ft) => y.ok ∧ ∀ j, j < 3 → W.cell? (x.add (i * 3 + j)) = y.cells[j]?) (fun i hi => by
      obtain ⟨cs', hc, ht⟩ := hel i (by omega)
      obtain ⟨_, hcl, hat⟩ := World.cells?_some hc
      obtain ⟨y, hy, hyin⟩ := trod_ft hcl ht
      refine ⟨y, hyin, fun j hj => ?_⟩
      rw [← Go.Deep.add_add, hat j hj, hy])
    by_cases h0 : len = 0
    · have hx0 : xs = [] := List.eq_nil_of_length_eq_zero (by omega)
      subst hx0
      exact ⟨_, _, _, 0, [], rfl, hxl, by omega, Sl.nil_ _ _ _, by simp⟩
    · obtain ⟨bb, off, spot⟩ := x
      have hc0 := (hxs 0 (by omega)).2 0 (by omega)
      have hspot : spot = none := by
        have : W.cell? ((⟨bb, off, spot⟩ : Addr).add (0 * 3 + 0)) = some (.int .u8 (xs[0].how : Int)) := hc0
        simpa [Addr.add] using World.cell?_spot this
      subst hspot
      refine ⟨_, _, _, bb, xs, rfl, hxl, by omega, fun _ => ⟨off, rfl, fun j u hu => ?_⟩, fun y hy => ?_⟩
      · have hj := (List.getElem?_eq_some_iff.1 hu).1
        rw [ftv_length] at hj
        have h1 := (hxs (j / 3) (by omega)).2 (j % 3) (by omega)
        have h2 := ftv_at xs (j / 3) (by omega) (j % 3) (by omega)
        have e : j / 3 * 3 + j % 3 = j := by omega
        rw [e] at h1 h2
        rw [Addr.add_lit] at h1
        rw [h1, ← h2]
        exact hu
      · obtain ⟨i, hi, rfl⟩ := List.getElem_of_mem hy
        exact (hxs i hi).1
theorem trod_bss {H : Type} {enc : TypeId × Value → H} {W : World} {b0 fuel : Nat} {spare : Nat → Bool} {held : Bool} {v : Value} {x : DataW H × List MemPlace} (hf : DataW.trod enc Try.prog W b0 spare held fuel 31 [v] = some x) :
    ∃ A n c b ls vs, v = .slice A n c ∧ List.length ls = n ∧ n ≤ maxLen ∧ Sl W b A vs ∧ Bss W vs ls ∧ ∀ l ∈ ls, l.length ≤ maxLen := by
  rcases open_slice1 Try.underlying31 (by kernel_rfl) hf with ⟨hcs, _⟩ | ⟨x, len, c, m, n, V, D, Pl, hcs, _, hl, hm, hmm, _, hel⟩
  · injection hcs with hcs
    exact ⟨none, 0, 0, 0, [], [], hcs, rfl, by simp [maxLen], Sl.nil_ _ _ _, Bss.nil_ _, by simp⟩
  · injection hcs with hcs
    subst hcs
    have hlm : len ≤ m := by rw [hmm]; split <;> omega
    obtain ⟨L, hL⟩ := choose_lt (α := List UInt8) (n := len) (p := fun i y => y.length ≤ maxLen ∧ ∃ A c b, V i = .slice A y.length c ∧ Bs W b A y) (fun i hi => by
      obtain ⟨_, ht⟩ := hel i (by omega)
      obtain ⟨A, n, c, b, y, e, hy, hn, hs⟩ := trod_bytesB ht
      exact ⟨y, by omega, A, c, b, by rw [e, hy], hs⟩)
    by_cases h0 : len = 0
    · subst h0
      exact ⟨_, _, _, 0, [], [], rfl, rfl, by simp [maxLen], Sl.nil_ _ _ _, Bss.nil_ _, by simp⟩
    · obtain ⟨bb, off, spot⟩ := x
      have hc0 := (hel 0 (by omega)).1
      have hspot : spot = none := by simpa [Addr.add] using World.cell?_spot hc0
      subst hspot
      refine ⟨_, _, _, bb, (List.range len).map L, (List.range len).map V, rfl, by simp, by omega, fun _ => ⟨off, rfl, fun j u hu => ?_⟩, ⟨by simp, fun i l hi => ?_⟩, fun y hy => ?_⟩
      · have hj : j < len := by
          have := (List.getElem?_eq_some_iff.1 hu).1
          simpa using this
        have h1 := (hel j (by omega)).1
        rw [Addr.add_lit] at h1
        rw [h1]
        rw [List.getElem?_map, List.getElem?_range hj] at hu
        exact hu
      · have hj : i < len := by
          have := (List.getElem?_eq_some_iff.1 hi).1
          simpa using this
        rw [List.getElem?_map, List.getElem?_range hj] at hi
        injection hi with hi
        subst hi
        obtain ⟨_, A, c, b, h1, h2⟩ := hL i hj
        exact ⟨A, c, b, by rw [List.getElem?_map, List.getElem?_range hj]; exact congrArg some h1, h2⟩
      · obtain ⟨i, hi, rfl⟩ := List.mem_map.1 hy
        exact (hL i (List.mem_range.1 hi)).1

/-- A turn as it lies. -/
structure TV where
  A1 : Option Addr
  us : List Value
  ls : List (List UInt8)
  c1 : Nat
  b1 : Nat
  A2 : Option Addr
  fs : List Ft
  c2 : Nat
  b2 : Nat
abbrev TV.cells (x : TV) : List Value := [.slice x.A1 x.ls.length x.c1, .slice x.A2 x.fs.length x.c2]
structure TV.In (w : World) (x : TV) : Prop where
  hs : Sl w x.b1 x.A1 x.us
  hu : Bss w x.us x.ls
  hm1 : x.ls.length ≤ maxLen
  hll : ∀ l ∈ x.ls, l.length ≤ maxLen
  hf : Sl w x.b2 x.A2 (ftv x.fs)
  hm2 : x.fs.length ≤ maxLen
  hok : ∀ f ∈ x.fs, f.ok
theorem TV.In.ext {w w' : World} {x : TV} (h : TV.In w x) (hm : Below w.heap.size w w') : TV.In w' x := ⟨Sl.ext h.hs hm, h.hu.ext hm, h.hm1, h.hll, Sl.ext h.hf hm, h.hm2, h.hok⟩
theorem turn_cells : Try.prog.cellsOf 34 = 2 := by kernel_rfl
theorem turn_under : ∃ f0 f1 : Field, Try.prog.underlying 34 = some (.struct #[f0, f1]) ∧ oneCellFields Try.prog #[f0, f1] = true ∧ f0.type = 31 ∧ f1.type = 32 :=
  ⟨_, _, Try.underlying34, by kernel_rfl, rfl, rfl⟩
set_option maxRecDepth 100000 in
theorem trod_turn {H : Type} {enc : TypeId × Value → H} {W : World} {b0 fuel : Nat} {spare : Nat → Bool} {held : Bool} {cs : List Value} {x : DataW H × List MemPlace} (hlen : cs.length = 2) (ht : DataW.trod enc Try.prog W b0 spare held fuel 34 cs = some x) :
    ∃ y : TV, cs = y.cells ∧ TV.In W y := by
  obtain ⟨f0, f1, hu, hone, h0, h1⟩ := turn_under
  obtain ⟨ys, n', _, _, _, hyl, hf⟩ := DataW.trod_struct hu ht
  match cs, hlen with
  | [v0, v1], _ =>
    match ys, hyl with
    | [y0, y1], _ =>
      obtain ⟨o0, k0⟩ := hone_of hone 0 f0 rfl
      obtain ⟨o1, k1⟩ := hone_of hone 1 f1 rfl
      have g0 := hf 0 f0 rfl
      have g1 := hf 1 f1 rfl
      rw [o0, k0, h0] at g0
      rw [o1, k1, h1] at g1
      simp only [List.drop_zero, List.drop_succ_cons, List.take_succ_cons, List.take_zero, List.getElem?_cons_zero, List.getElem?_cons_succ] at g0 g1
      obtain ⟨A1, n1, c1, b1, ls, us, rfl, hl1, hm1, hs1, hu1, hll⟩ := trod_bss g0
      obtain ⟨A2, n2, c2, b2, fs, rfl, hl2, hm2, hs2, hok⟩ := trod_fts g1
      subst hl1 hl2
      exact ⟨⟨A1, us, ls, c1, b1, A2, fs, c2, b2⟩, rfl, ⟨hs1, hu1, hm1, hll, hs2, hm2, hok⟩⟩
set_option maxRecDepth 100000 in
theorem open_turn {H : Type} {enc : TypeId × Value → H} {W : World} {base b0 : Nat} {spare : Nat → Bool} {held : Bool} {r : Reach} {v : Value} {d : DataW H} {p : List MemPlace} (hv : Value.okWide Try.prog W r base 34 v) (h : DataW.Trod enc Try.prog W b0 spare held 34 v d p) :
    ∃ y : TV, v = .agg y.cells.toArray ∧ TV.In W y := by
  obtain ⟨f0, f1, hu, _, _⟩ := turn_under
  obtain ⟨cs, rfl, hsz⟩ := okWide_struct hu hv
  obtain ⟨fuel, hf⟩ := h
  obtain ⟨f, hy, ho⟩ := trod_turn (by simpa [Value.cells] using hsz.trans turn_cells) hf
  refine ⟨f, ?_, ho⟩
  congr 1
  apply Array.ext'
  simpa [Value.cells] using hy
def tvv (xs : List TV) : List Value := xs.flatMap TV.cells
theorem tvv_cons (x : TV) (xs : List TV) : tvv (x :: xs) = x.cells ++ tvv xs := rfl
@[simp] theorem tvv_length (xs : List TV) : (tvv xs).length = xs.length * 2 := by
  induction xs with
  | nil => rfl
  | cons x l ih => rw [tvv_cons, List.length_append, ih, List.length_cons]; simp; omega
theorem tvv_at : ∀ (xs : List TV) (k : Nat) (hk : k < xs.length) (j : Nat), j < 2 → (tvv xs)[k * 2 + j]? = xs[k].cells[j]?
  | x :: l, 0, _, j, hj => by
    rw [tvv_cons, List.getElem?_append_left (by simp; omega)]
    simp
  | x :: l, k + 1, hk, j, hj => by
    rw [tvv_cons, List.getElem?_append_right (by simp; omega), show (k + 1) * 2 + j - x.cells.length = k * 2 + j by simp; omega, tvv_at l k (by simpa using hk) j hj]
    simp
theorem open_turns {H : Type} {enc : TypeId × Value → H} {W : World} {base b0 : Nat} {spare : Nat → Bool} {held : Bool} {r : Reach} {v : Value} {d : DataW H} {p : List MemPlace} (hv : Value.okWide Try.prog W r base 22 v) (h : DataW.Trod enc Try.prog W b0 spare held 22 v d p) :
    ∃ A n c b xs, v = .slice A n c ∧ xs.length = n ∧ n ≤ maxLen ∧ Sl W b A (tvv xs) ∧ ∀ x ∈ xs, TV.In W x := by
  obtain ⟨a, len, cap, rfl⟩ := okWide_slice Try.underlying22 hv
  obtain ⟨fuel, hf⟩ := h
  rcases open_slice Try.underlying22 hf with ⟨hcs, _⟩ | ⟨x, l, c, m, n, D, Pl, hcs, _, hl, hm, hmm, _, hel⟩
  · simp [Value.cells] at hcs
    obtain ⟨rfl, rfl, rfl⟩ := hcs
    exact ⟨none, 0, 0, 0, [], rfl, rfl, by simp [maxLen], Sl.nil_ _ _ _, by simp⟩
  · simp [Value.cells] at hcs
    obtain ⟨rfl, rfl, rfl⟩ := hcs
    have hlm : len ≤ m := by rw [hmm]; split <;> omega
    rw [turn_cells] at hel
    obtain ⟨xs, hxl, hxs⟩ := list_of (n := len) (P := fun i (y : TV) => TV.In W y ∧ ∀ j, j < 2 → W.cell? (x.add (i * 2 + j)) = y.cells[j]?) (fun i hi => by
      obtain ⟨cs', hc, ht⟩ := hel i (by omega)
      obtain ⟨_, hcl, hat⟩ := World.cells?_some hc
      obtain ⟨y, hy, hyin⟩ := trod_turn hcl ht
      refine ⟨y, hyin, fun j hj => ?_⟩
      rw [← Go.Deep.add_add, hat j hj, hy])
    by_cases h0 : len = 0
    · have hx0 : xs = [] := List.eq_nil_of_length_eq_zero (by omega)
      subst hx0
      exact ⟨_, _, _, 0, [], rfl, hxl, by omega, Sl.nil_ _ _ _, by simp⟩
    · obtain ⟨bb, off, spot⟩ := x
      have hc0 := (hxs 0 (by omega)).2 0 (by omega)
      have hspot : spot = none := by
        have : W.cell? ((⟨bb, off, spot⟩ : Addr).add (0 * 2 + 0)) = some (.slice xs[0].A1 xs[0].ls.length xs[0].c1) := hc0
        simpa [Addr.add] using World.cell?_spot this
      subst hspot
      refine ⟨_, _, _, bb, xs, rfl, hxl, by omega, fun _ => ⟨off, rfl, fun j u hu => ?_⟩, fun y hy => ?_⟩
      · have hj := (List.getElem?_eq_some_iff.1 hu).1
        rw [tvv_length] at hj
        have h1 := (hxs (j / 2) (by omega)).2 (j % 2) (by omega)
        have h2 := tvv_at xs (j / 2) (by omega) (j % 2) (by omega)
        have e : j / 2 * 2 + j % 2 = j := by omega
        rw [e] at h1 h2
        rw [Addr.add_lit] at h1
        rw [h1, ← h2]
        exact hu
      · obtain ⟨i, hi, rfl⟩ := List.getElem_of_mem hy
        exact (hxs i hi).1
end Go.Proofs.Ytbcfelihncnofaa
