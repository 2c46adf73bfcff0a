/- Pieces of a message, plainly, and how they lie in a slice of the call's own. No condition: plain lemmas. -/
import Derived.Test.YtgpedkdebifooaaDoorBytes
import Derived.Test.YtgpedkdebifooaaDoorBox
namespace Go.Proofs.YtgpedkdebifooaaDoor
open Go.RowKit

/-- A piece, plainly. -/
structure Pc where
  first : Bool
  last : Bool
  data : List UInt8
/-- How many pieces so many bytes make. -/
def cnt (n : Nat) : Nat := if n = 0 then 1 else (n + 63) / 64
def pieceAt (l : List UInt8) (i : Nat) : Pc := ⟨decide (i = 0), decide (i + 1 = cnt l.length), (l.drop (64 * i)).take 64⟩
def splitP (l : List UInt8) : List Pc := (List.range (cnt l.length)).map (pieceAt l)
theorem splitP_length (l : List UInt8) : (splitP l).length = cnt l.length := by simp [splitP]
theorem splitP_get (l : List UInt8) (i : Nat) (h : i < (splitP l).length) : (splitP l)[i] = pieceAt l i := by simp [splitP]
theorem cnt_pos (n : Nat) : 1 ≤ cnt n := by unfold cnt; split <;> omega
theorem cnt_le (n : Nat) (h : n ≤ 1024) : cnt n ≤ 16 := by unfold cnt; split <;> omega

/-- A piece as it lies in memory. -/
structure PV where
  p : Pc
  A : Option Addr
  c : Nat
  b : Nat
abbrev PV.cells (x : PV) : List Value := [.bool x.p.first, .bool x.p.last, .slice x.A x.p.data.length x.c]
def PV.In (w : World) (x : PV) : Prop := Bs w x.b x.A x.p.data ∧ x.p.data.length ≤ maxLen
theorem PV.In.ext {w w' : World} {x : PV} (h : PV.In w x) (hm : Below w.heap.size w w') : PV.In w' x := ⟨Sl.ext h.1 hm, h.2⟩
def pz : PV := ⟨⟨false, false, []⟩, none, 0, 0⟩
def pvs (xs : List PV) : List Value := xs.flatMap PV.cells
theorem pvs_cons (x : PV) (xs : List PV) : pvs (x :: xs) = x.cells ++ pvs xs := rfl
theorem pvs_append (xs ys : List PV) : pvs (xs ++ ys) = pvs xs ++ pvs ys := by simp [pvs]
theorem pvs_length (xs : List PV) : (pvs xs).length = xs.length * 3 := by
  induction xs with
  | nil => rfl
  | cons x l ih => rw [pvs_cons, List.length_append, ih, List.length_cons]; simp; omega
theorem pvs_at : ∀ (xs : List PV) (k : Nat) (hk : k < xs.length) (j : Nat), j < 3 → (pvs xs)[k * 3 + j]? = xs[k].cells[j]?
  | x :: l, 0, _, j, hj => by
    rw [pvs_cons, List.getElem?_append_left (by simp; omega)]
    simp
  | x :: l, k + 1, hk, j, hj => by
    rw [pvs_cons, List.getElem?_append_right (by simp; omega), show (k + 1) * 3 + j - x.cells.length = k * 3 + j by simp; omega, pvs_at l k (by simpa using hk) j hj]
    simp
theorem pvs_set : ∀ (xs : List PV) (k : Nat) (y : PV), k < xs.length → (((pvs xs).set (k * 3) (.bool y.p.first)).set (k * 3 + 1) (.bool y.p.last)).set (k * 3 + 2) (.slice y.A y.p.data.length y.c) = pvs (xs.set k y)
  | x :: l, 0, y, _ => rfl
  | x :: l, k + 1, y, hk => by
    have := pvs_set l k y (by simpa using hk)
    rw [pvs_cons, show (k + 1) * 3 + 2 = k * 3 + 2 + 1 + 1 + 1 by omega, show (k + 1) * 3 + 1 = k * 3 + 1 + 1 + 1 + 1 by omega, show (k + 1) * 3 = k * 3 + 1 + 1 + 1 by omega]
    rw [show x.cells ++ pvs l = .bool x.p.first :: .bool x.p.last :: .slice x.A x.p.data.length x.c :: pvs l from rfl]
    simp only [List.set_cons_succ]
    rw [this]
    rfl
theorem pvs_pz (n : Nat) : (madeCells (Value.agg #[.bool false, .bool false, .slice none 0 0]).cells (n * 3)).toList = pvs (List.replicate n pz) := by
  have h1 : (pvs (List.replicate n pz)).length = n * 3 := by rw [pvs_length]; simp
  apply List.ext_getElem (by rw [h1]; simp [madeCells])
  intro j h2 h3
  have hj : j < n * 3 := by rw [← h1]; exact h3
  have := pvs_at (List.replicate n pz) (j / 3) (by simp; omega) (j % 3) (by omega)
  rw [show j / 3 * 3 + j % 3 = j by omega, List.getElem?_eq_getElem h3] at this
  simp only [List.getElem_replicate] at this
  have e : j % 3 = 0 ∨ j % 3 = 1 ∨ j % 3 = 2 := by omega
  have hq : ((madeCells (Value.agg #[.bool false, .bool false, .slice none 0 0]).cells (n * 3)).toList)[j]? = some (((#[Value.bool false, .bool false, .slice none 0 0] : Array Value))[j % 3]!) := by
    simp [madeCells, Value.cells, hj]
  rw [List.getElem?_eq_getElem h2] at hq
  injection hq with hq
  rw [hq]
  rcases e with e | e | e <;> (rw [e] at this; replace this := Option.some.inj this; rw [this, e]; rfl)

/-- Pieces in a slice of the call's own. -/
abbrev RowP (e : TypeId) (w : World) (B : Nat) (v : Value) (xs : List PV) : Prop := w.ownsRow B e 3 v xs.length (pvs xs)
/-- Pieces that lie in a slice. -/
def PcsIn (w : World) (b : Nat) (A : Option Addr) (xs : List PV) : Prop := Sl w b A (pvs xs) ∧ ∀ x ∈ xs, PV.In w x
theorem PcsIn.ext {w w' : World} {b : Nat} {A : Option Addr} {xs : List PV} (h : PcsIn w b A xs) (hm : Below w.heap.size w w') : PcsIn w' b A xs := ⟨Sl.ext h.1 hm, fun x hx => (h.2 x hx).ext hm⟩
theorem sl_pv {w : World} {b : Nat} {A : Option Addr} {xs : List PV} (h : Sl w b A (pvs xs)) {k : Nat} (hk : k < xs.length) :
    ∃ off, A = some ⟨b, off, none⟩ ∧ w.cell? ⟨b, off + k * 3, none⟩ = some (.bool xs[k].p.first) ∧ w.cell? ⟨b, off + k * 3 + 1, none⟩ = some (.bool xs[k].p.last) ∧ w.cell? ⟨b, off + k * 3 + 2, none⟩ = some (.slice xs[k].A xs[k].p.data.length xs[k].c) := by
  have hne : pvs xs ≠ [] := by
    intro h0
    have := pvs_length xs
    rw [h0] at this
    simp at this
    omega
  obtain ⟨off, e, hc⟩ := h hne
  exact ⟨off, e, hc (k * 3 + 0) _ (pvs_at xs k hk 0 (by omega)), hc (k * 3 + 1) _ (pvs_at xs k hk 1 (by omega)), hc (k * 3 + 2) _ (pvs_at xs k hk 2 (by omega))⟩
theorem ownsP_mod {w w' : World} {B n sz : Nat} {e : TypeId} {v : Value} {xs : List Value} (h : w.ownsRow B e sz v n xs) {S : Nat → Prop} (hm : Mod S w w') (hs : ∀ k, v.ownBlock = some k → ¬ S k) : w'.ownsRow B e sz v n xs := by
  refine ⟨h.1, ?_⟩
  rcases h.2 with h2 | ⟨g, cap, cur, rfl, hg, hh, r⟩
  · exact .inl h2
  · exact .inr ⟨g, cap, cur, rfl, hg, by rw [hm.block g (Array.getElem?_eq_some_iff.1 hh).1 (hs g rfl)]; exact hh, r⟩
theorem ownsP_ext {w w' : World} {B n sz : Nat} {e : TypeId} {v : Value} {xs : List Value} (h : w.ownsRow B e sz v n xs) (hm : Below w.heap.size w w') : w'.ownsRow B e sz v n xs :=
  ownsP_mod h (Mod.of_below hm) fun k hk => by have := (World.ownsRow.lt h k hk).2; omega
theorem ownsP_low {w : World} {B B' n sz : Nat} {e : TypeId} {v : Value} {xs : List Value} (h : w.ownsRow B e sz v n xs) (hB : B' ≤ B) : w.ownsRow B' e sz v n xs := by
  refine ⟨h.1, ?_⟩
  rcases h.2 with h2 | ⟨g, cap, cur, rfl, hg, r⟩
  · exact .inl h2
  · exact .inr ⟨g, cap, cur, rfl, by omega, r⟩
theorem ownsP_sl {w : World} {B n sz : Nat} {e : TypeId} {v : Value} {xs : List Value} (h : w.ownsRow B e sz v n xs) : ∃ A c b, v = .slice A n c ∧ n ≤ c ∧ c ≤ maxLen ∧ (A = none → n = 0) ∧ B ≤ b ∧ Sl w b A xs ∧ (∀ k, v.ownBlock = some k → k = b) := by
  obtain ⟨hl, h2⟩ := h
  rcases h2 with ⟨rfl, hn⟩ | ⟨g, cap, cur, rfl, hb, hh, hnc, hcm, hcs, hct⟩
  · have hx : xs = [] := List.eq_nil_of_length_eq_zero (by simpa [hn] using hl)
    subst hx hn
    exact ⟨none, 0, B, rfl, Nat.le_refl _, by simp [maxLen], fun _ => rfl, Nat.le_refl _, Sl.nil_ _ _ _, by simp [Value.ownBlock]⟩
  · refine ⟨_, cap, g, rfl, hnc, hcm, by simp, hb, fun _ => ⟨0, rfl, fun j u hu => ?_⟩, by simp [Value.ownBlock]⟩
    have h : w.ownsRow B e sz (.slice (some ⟨g, 0, none⟩) n cap) n xs := ⟨hl, .inr ⟨g, cap, cur, rfl, hb, hh, hnc, hcm, hcs, hct⟩⟩
    have := h.cells (g := g) rfl j u hu
    simpa [Addr.add_lit] using this
/-- A piece of it, written. -/
theorem RowP.set_ {e : TypeId} {w : World} {B : Nat} {v : Value} {xs : List PV} (h : RowP e w B v xs) {k : Nat} (hk : k < xs.length) :
    ∃ g cap, v = .slice (some ⟨g, 0, none⟩) xs.length cap ∧ B ≤ g ∧ g < w.heap.size ∧ xs.length ≤ cap ∧ (∃ u, w.cell? ⟨g, k * 3, none⟩ = some u) ∧ (∃ u, w.cell? ⟨g, k * 3 + 1, none⟩ = some u) ∧ (∃ u, w.cell? ⟨g, k * 3 + 2, none⟩ = some u) ∧ (∀ j, w.frozen? ⟨g, j, none⟩ = false) ∧
      (∀ (y : PV) w', w'.heap[g]? = (((w.setCell ⟨g, k * 3, none⟩ (.bool y.p.first)).setCell ⟨g, k * 3 + 1, none⟩ (.bool y.p.last)).setCell ⟨g, k * 3 + 2, none⟩ (.slice y.A y.p.data.length y.c)).heap[g]? → RowP e w' B v (xs.set k y)) := by
  rcases h.2 with ⟨_, hn⟩ | ⟨g, cap, cur, hv, hg, hh, hnc, hcm, hcs, hct⟩
  · omega
  · have hcell : ∀ j u, (pvs xs)[j]? = some u → w.cell? ⟨g, j, none⟩ = some u := fun j u hu => by
      rw [cell_of_row w g j _ _ _ hh]
      rw [← hct, List.getElem?_take] at hu
      split at hu
      · simpa using hu
      · cases hu
    refine ⟨g, cap, hv, hg, (Array.getElem?_eq_some_iff.1 hh).1, hnc, ⟨_, hcell _ _ (pvs_at xs k hk 0 (by omega))⟩, ⟨_, hcell _ _ (pvs_at xs k hk 1 (by omega))⟩, ⟨_, hcell _ _ (pvs_at xs k hk 2 (by omega))⟩, fun j => frozen_of_row w g j _ _ hh, fun y w' hw => ?_⟩
    rw [heap_setCell_same _ g _ _ _ _ (heap_setCell_same _ g _ _ _ _ (heap_setCell_same w g _ cur _ _ hh))] at hw
    refine ⟨by rw [pvs_length], .inr ⟨g, cap, _, by rw [hv, List.length_set], hg, hw, by simp; omega, hcm, by simpa using hcs, ?_⟩⟩
    rw [Array.toList_setIfInBounds, Array.toList_setIfInBounds, Array.toList_setIfInBounds, List.length_set, List.take_set, List.take_set, List.take_set, hct, pvs_set xs k y hk]
end Go.Proofs.YtgpedkdebifooaaDoor
