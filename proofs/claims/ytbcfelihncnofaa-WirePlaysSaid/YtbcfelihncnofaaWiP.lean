/- Frames on their way, plainly, and how they lie in a slice of the call's own. No condition: plain lemmas. -/
import Derived.Test.YtbcfelihncnofaaBytes
import Derived.Test.YtbcfelihncnofaaBox
namespace Go.Proofs.Ytbcfelihncnofaa
open Go.RowKit
set_option linter.unusedVariables false

/-- A frame, how many Takes it waits for, and how it lies. -/
structure Pl where
  l : List UInt8
  t : Int
  A : Option Addr
  c : Nat
  b : Nat
abbrev Pl.sv (x : Pl) : Value := .slice x.A x.l.length x.c
abbrev Pl.cells (x : Pl) : List Value := [x.sv, .int .i64 x.t]
def plv (xs : List Pl) : List Value := xs.flatMap Pl.cells
theorem plv_cons (x : Pl) (xs : List Pl) : plv (x :: xs) = x.cells ++ plv xs := rfl
theorem plv_append (xs ys : List Pl) : plv (xs ++ ys) = plv xs ++ plv ys := by simp [plv]
@[simp] theorem plv_length (xs : List Pl) : (plv xs).length = xs.length * 2 := by
  induction xs with
  | nil => rfl
  | cons x l ih => rw [plv_cons, List.length_append, ih, List.length_cons]; simp; omega
theorem plv_at : ∀ (xs : List Pl) (k : Nat) (hk : k < xs.length) (j : Nat), j < 2 → (plv xs)[k * 2 + j]? = xs[k].cells[j]?
  | x :: l, 0, _, j, hj => by
    rw [plv_cons, List.getElem?_append_left (by simp; omega)]
    simp
  | x :: l, k + 1, hk, j, hj => by
    rw [plv_cons, List.getElem?_append_right (by simp; omega), show (k + 1) * 2 + j - x.cells.length = k * 2 + j by simp; omega, plv_at l k (by simpa using hk) j hj]
    simp
theorem plv_one (xs : List Pl) : ∀ u ∈ plv xs, u.oneCell' = true := fun u hu => by
  obtain ⟨x, _, hx⟩ := List.mem_flatMap.1 hu
  simp at hx
  rcases hx with rfl | rfl <;> rfl
theorem plv_take (xs : List Pl) (k : Nat) : (plv xs).take (k * 2) = plv (xs.take k) := by
  induction xs generalizing k with
  | nil => simp [plv]
  | cons x l ih =>
    cases k with
    | zero => simp [plv]
    | succ k =>
      rw [List.take_succ_cons, plv_cons, plv_cons, ← ih k, show (k + 1) * 2 = x.cells.length + k * 2 by simp; omega, List.take_length_add_append]
theorem plv_set : ∀ (xs : List Pl) (k : Nat) (y : Pl), k < xs.length → ((plv xs).set (k * 2) y.sv).set (k * 2 + 1) (.int .i64 y.t) = plv (xs.set k y)
  | x :: l, 0, y, _ => rfl
  | x :: l, k + 1, y, hk => by
    have := plv_set l k y (by simpa using hk)
    rw [plv_cons, show (k + 1) * 2 + 1 = k * 2 + 1 + 1 + 1 by omega, show (k + 1) * 2 = k * 2 + 1 + 1 by omega]
    rw [show x.cells ++ plv l = x.sv :: .int .i64 x.t :: plv l from rfl]
    simp only [List.set_cons_succ]
    rw [this]
    rfl
/-- With another number of Takes. -/
def Pl.at_ (x : Pl) (t : Int) : Pl := { x with t := t }
theorem plv_set1 : ∀ (xs : List Pl) (k : Nat) (hk : k < xs.length) (t : Int), (plv xs).set (k * 2 + 1) (.int .i64 t) = plv (xs.set k (xs[k].at_ t))
  | x :: l, 0, _, t => rfl
  | x :: l, k + 1, hk, t => by
    have := plv_set1 l k (by simpa using hk) t
    rw [plv_cons, show (k + 1) * 2 + 1 = k * 2 + 1 + 1 + 1 by omega]
    rw [show x.cells ++ plv l = x.sv :: .int .i64 x.t :: plv l from rfl]
    simp only [List.set_cons_succ]
    rw [this]
    rfl

/-- Frames in a slice of the call's own. -/
abbrev RowW (e : TypeId) (w : World) (B : Nat) (v : Value) (xs : List Pl) : Prop := w.ownsRow B e 2 v xs.length (plv xs)
theorem own_mod {w w' : World} {B n sz : Nat} {e : TypeId} {v : Value} {xs : List Value} (h : w.ownsRow B e sz v n xs) {S : Nat → Prop} (hm : Mod S w w') (hs : ∀ k, v.ownBlock = some k → ¬ S k) : w'.ownsRow B e sz v n xs := by
  refine ⟨h.1, ?_⟩
  rcases h.2 with h2 | ⟨g, cap, cur, rfl, hg, hh, r⟩
  · exact .inl h2
  · exact .inr ⟨g, cap, cur, rfl, hg, by rw [hm.block g (Array.getElem?_eq_some_iff.1 hh).1 (hs g rfl)]; exact hh, r⟩
theorem own_ext {w w' : World} {B n sz : Nat} {e : TypeId} {v : Value} {xs : List Value} (h : w.ownsRow B e sz v n xs) (hm : Below w.heap.size w w') : w'.ownsRow B e sz v n xs :=
  own_mod h (Mod.of_below hm) fun k hk => by have := (World.ownsRow.lt h k hk).2; omega
theorem own_low {w : World} {B B' n sz : Nat} {e : TypeId} {v : Value} {xs : List Value} (h : w.ownsRow B e sz v n xs) (hB : B' ≤ B) : w.ownsRow B' e sz v n xs := by
  refine ⟨h.1, ?_⟩
  rcases h.2 with h2 | ⟨g, cap, cur, rfl, hg, r⟩
  · exact .inl h2
  · exact .inr ⟨g, cap, cur, rfl, by omega, r⟩
theorem own_sl {w : World} {B n sz : Nat} {e : TypeId} {v : Value} {xs : List Value} (h : w.ownsRow B e sz v n xs) : ∃ A c b, v = .slice A n c ∧ n ≤ c ∧ c ≤ maxLen ∧ (A = none → n = 0 ∧ c = 0) ∧ B ≤ b ∧ Sl w b A xs ∧ (∀ k, v.ownBlock = some k → k = b) := by
  obtain ⟨hl, h2⟩ := h
  rcases h2 with ⟨rfl, hn⟩ | ⟨g, cap, cur, rfl, hb, hh, hnc, hcm, hcs, hct⟩
  · have hx : xs = [] := List.eq_nil_of_length_eq_zero (by simpa [hn] using hl)
    subst hx hn
    exact ⟨none, 0, B, rfl, Nat.le_refl _, by simp [maxLen], fun _ => ⟨rfl, rfl⟩, Nat.le_refl _, Sl.nil_ _ _ _, by simp [Value.ownBlock]⟩
  · refine ⟨_, cap, g, rfl, hnc, hcm, by simp, hb, fun _ => ⟨0, rfl, fun j u hu => ?_⟩, by simp [Value.ownBlock]⟩
    have h : w.ownsRow B e sz (.slice (some ⟨g, 0, none⟩) n cap) n xs := ⟨hl, .inr ⟨g, cap, cur, rfl, hb, hh, hnc, hcm, hcs, hct⟩⟩
    have := h.cells (g := g) rfl j u hu
    simpa [Addr.add_lit] using this
theorem own_apart {w : World} {B1 B2 s1 s2 n1 n2 k : Nat} {e1 e2 : TypeId} {v1 v2 : Value} {x1 x2 : List Value} (h1 : w.ownsRow B1 e1 s1 v1 n1 x1) (h2 : w.ownsRow B2 e2 s2 v2 n2 x2) (hne : e1 ≠ e2) (hk : v1.ownBlock = some k) : v2.ownBlock ≠ some k := by
  intro hk2
  rcases h1.2 with ⟨rfl, _⟩ | ⟨g1, c1, cur1, rfl, _, hh1, _⟩
  · cases hk
  · rcases h2.2 with ⟨rfl, _⟩ | ⟨g2, c2, cur2, rfl, _, hh2, _⟩
    · cases hk2
    · simp only [Value.ownBlock, Option.some.injEq] at hk hk2
      subst hk
      subst hk2
      rw [hh1] at hh2
      injection hh2 with hh2
      injection hh2 with _ hh2 _
      exact hne hh2
theorem row_apart {w : World} {B n sz : Nat} {e t : TypeId} {v : Value} {xs : List Value} (hr : w.ownsRow B e sz v n xs) {g : Nat} {cs : Array Value} {fr : Nat × Nat} (hg : w.heap[g]? = some (.cells cs t fr)) (ht : t ≠ e) : v.ownBlock ≠ some g := by
  intro hv
  rcases hr.2 with ⟨rfl, _⟩ | ⟨g', cap, cur, rfl, _, hh, _⟩
  · simp [Value.ownBlock] at hv
  · have : g' = g := by simpa [Value.ownBlock] using hv
    subst this
    rw [hh] at hg
    injection hg with hg
    injection hg with _ h2 _
    exact ht h2.symm
/-- A row of frames that has one: its block, its cells, what a store makes of it. -/
theorem RowW.at_ {e : TypeId} {w : World} {B : Nat} {v : Value} {xs : List Pl} (h : RowW e w B v xs) {k : Nat} (hk : k < xs.length) : ∃ g cap, v = .slice (some ⟨g, 0, none⟩) xs.length cap ∧ xs.length ≤ cap ∧ B ≤ g ∧ g < w.heap.size ∧ v.ownBlock = some g ∧ w.cell? ⟨g, k * 2, none⟩ = some xs[k].sv ∧ w.cell? ⟨g, k * 2 + 1, none⟩ = some (.int .i64 xs[k].t) ∧ (∀ j, w.frozen? ⟨g, j, none⟩ = false) := by
  have h0 := h
  rcases h.2 with ⟨_, hn⟩ | ⟨g, cap, cur, rfl, hg, hh, hnc, hcm, hcs, hct⟩
  · omega
  · have hc : ∀ j u, j < 2 → xs[k].cells[j]? = some u → w.cell? ⟨g, k * 2 + j, none⟩ = some u := fun j u hj hu => by
      have := h0.cells (g := g) rfl (k * 2 + j) u (by rw [plv_at xs k hk j hj]; exact hu)
      simpa [Addr.add_lit] using this
    exact ⟨g, cap, rfl, hnc, hg, (Array.getElem?_eq_some_iff.1 hh).1, rfl, hc 0 _ (by omega) rfl, hc 1 _ (by omega) rfl, fun j => frozen_of_row w g j _ _ hh⟩
theorem RowW.set1 {e : TypeId} {w : World} {B g n cap : Nat} {xs : List Pl} (h : w.ownsRow B e 2 (.slice (some ⟨g, 0, none⟩) n cap) xs.length (plv xs)) {k : Nat} (hk : k < xs.length) (t : Int) :
    RowW e (w.setCell ⟨g, k * 2 + 1, none⟩ (.int .i64 t)) B (.slice (some ⟨g, 0, none⟩) n cap) (xs.set k (xs[k].at_ t)) := by
  rcases h.2 with ⟨hv, _⟩ | ⟨g', cap', cur, hv, hg, hh, hnc, hcm, hcs, hct⟩
  · cases hv
  · injection hv with hv e1 e2
    injection hv with hv
    injection hv with hv
    subst hv e1 e2
    have hw := heap_setCell_same w g (k * 2 + 1) _ _ (.int .i64 t) hh
    refine ⟨by rw [plv_length], .inr ⟨g, cap, _, by rw [List.length_set], hg, hw, by simp; exact hnc, hcm, by simpa using hcs, ?_⟩⟩
    rw [Array.toList_setIfInBounds, List.length_set, List.take_set, hct, plv_set1 xs k hk t]
theorem RowW.set_ {e : TypeId} {w : World} {B g n cap : Nat} {xs : List Pl} (h : w.ownsRow B e 2 (.slice (some ⟨g, 0, none⟩) n cap) xs.length (plv xs)) {k : Nat} (hk : k < xs.length) (y : Pl) :
    RowW e ((w.setCell ⟨g, k * 2, none⟩ y.sv).setCell ⟨g, k * 2 + 1, none⟩ (.int .i64 y.t)) B (.slice (some ⟨g, 0, none⟩) n cap) (xs.set k y) := by
  rcases h.2 with ⟨hv, _⟩ | ⟨g', cap', cur, hv, hg, hh, hnc, hcm, hcs, hct⟩
  · cases hv
  · injection hv with hv e1 e2
    injection hv with hv
    injection hv with hv
    subst hv e1 e2
    have hw := heap_setCell_same _ g (k * 2 + 1) _ _ (.int .i64 y.t) (heap_setCell_same w g (k * 2) _ _ y.sv hh)
    refine ⟨by rw [plv_length], .inr ⟨g, cap, _, by rw [List.length_set], hg, hw, by simp; exact hnc, hcm, by simpa using hcs, ?_⟩⟩
    rw [Array.toList_setIfInBounds, Array.toList_setIfInBounds, List.length_set, List.take_set, List.take_set, hct, plv_set xs k y hk]
/-- The first i of them, whatever lies behind. -/
theorem RowW.cut {e : TypeId} {w w' : World} {B g n cap : Nat} {xs : List Pl} (h : w.ownsRow B e 2 (.slice (some ⟨g, 0, none⟩) n cap) xs.length (plv xs)) (i : Nat) (hi : i ≤ xs.length) (cur' : Array Value)
    (hw : w'.heap[g]? = some (.cells cur' e (0, 0))) (hcur : ∀ cur, w.heap[g]? = some (.cells cur e (0, 0)) → cur'.size = cur.size ∧ cur'.toList.take (i * 2) = cur.toList.take (i * 2)) :
    RowW e w' B (.slice (some ⟨g, 0, none⟩) i cap) (xs.take i) := by
  rcases h.2 with ⟨hv, _⟩ | ⟨g', cap', cur, hv, hg, hh, hnc, hcm, hcs, hct⟩
  · cases hv
  · injection hv with hv e1 e2
    injection hv with hv
    injection hv with hv
    subst hv e1 e2
    obtain ⟨h1, h2⟩ := hcur cur hh
    have hl : (xs.take i).length = i := by simp; omega
    refine ⟨by rw [plv_length], .inr ⟨g, cap, cur', by rw [hl], hg, hw, by rw [hl]; omega, hcm, by rw [h1]; exact hcs, ?_⟩⟩
    rw [hl, h2, ← plv_take, ← hct, List.take_take, Nat.min_eq_left (by omega)]
end Go.Proofs.Ytbcfelihncnofaa
