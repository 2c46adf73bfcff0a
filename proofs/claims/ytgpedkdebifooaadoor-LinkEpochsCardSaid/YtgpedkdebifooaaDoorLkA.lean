/- What a link's calls turn, told by types. No condition: plain lemmas. -/
import Derived.Test.YtgpedkdebifooaaDoorLkU
import Derived.Test.YtgpedkdebifooaaDoorRowS
namespace Go.Proofs.YtgpedkdebifooaaDoor
open Go.RowKit
set_option linter.unusedVariables false

/-- A slice that reads so, whose block holds that type. -/
def SlT (e : TypeId) (w : World) (b : Nat) (A : Option Addr) (xs : List Value) : Prop := Sl w b A xs ∧ (xs ≠ [] → ∃ cur fr, w.heap[b]? = some (.cells cur e fr))
theorem SlT.mod {e : TypeId} {w w' : World} {b : Nat} {A : Option Addr} {xs : List Value} (h : SlT e w b A xs) {S : Nat → Prop} (hm : Mod S w w') (hs : ∀ cur fr, w.heap[b]? = some (.cells cur e fr) → ¬ S b) : SlT e w' b A xs := by
  by_cases h0 : xs = []
  · subst h0; exact ⟨Sl.nil_ _ _ _, fun h => absurd rfl h⟩
  · obtain ⟨cur, fr, hc⟩ := h.2 h0
    have hb : w'.heap[b]? = w.heap[b]? := hm.block b (h.1.lt h0) (hs _ _ hc)
    exact ⟨h.1.keep (fun _ => hb), fun _ => ⟨cur, fr, hb.trans hc⟩⟩
theorem SlT.ext {e : TypeId} {w w' : World} {b : Nat} {A : Option Addr} {xs : List Value} (h : SlT e w b A xs) (hm : Below w.heap.size w w') : SlT e w' b A xs :=
  h.mod (Mod.of_below hm) (fun cur fr hc => by have := (Array.getElem?_eq_some_iff.1 hc).1; omega)
theorem SlT.nil_ (e : TypeId) (w : World) (b : Nat) (A : Option Addr) : SlT e w b A [] := ⟨Sl.nil_ _ _ _, fun h => absurd rfl h⟩
theorem SlT.of_own {w : World} {B n sz : Nat} {e : TypeId} {v : Value} {xs : List Value} (h : w.ownsRow B e sz v n xs) : ∃ A c b, v = .slice A n c ∧ n ≤ c ∧ c ≤ maxLen ∧ B ≤ b ∧ SlT e w b A xs ∧ (∀ k, v.ownBlock = some k → k = b) := by
  obtain ⟨A, c, b, rfl, h1, h2, -, h4, h5, h6⟩ := ownsP_sl h
  refine ⟨A, c, b, rfl, h1, h2, h4, ⟨h5, fun hne => ?_⟩, h6⟩
  rcases h.2 with ⟨hv, hn⟩ | ⟨g, cap, cur, hv, _, hh, _⟩
  · have hl := h.1
    rw [hn] at hl
    exact absurd (List.eq_nil_of_length_eq_zero (by omega)) hne
  · obtain rfl : g = b := h6 g (by rw [hv]; rfl)
    exact ⟨_, _, hh⟩
/-- Of what was there only blocks from B on that hold one of these types may have turned. -/
structure TMods (Ts : List TypeId) (B : Nat) (w w' : World) : Prop where
  bel : Below B w w'
  keep : ∀ (b : Nat) (cur : Array Value) (e : TypeId) (fr : Nat × Nat), w.heap[b]? = some (Obj.cells cur e fr) → e ∉ Ts → w'.heap[b]? = w.heap[b]?
namespace TMods
variable {Ts : List TypeId} {B : Nat} {w w' w2 : World}
theorem of_new (h : Below w.heap.size w w') (hB : B ≤ w.heap.size) : TMods Ts B w w' := ⟨h.mono hB, fun b cur e fr hc _ => h.block b (Array.getElem?_eq_some_iff.1 hc).1⟩
theorem refl (hB : B ≤ w.heap.size) : TMods Ts B w w := of_new (Below.refl _ _) hB
theorem trans (h : TMods Ts B w w') (k : TMods Ts B w' w2) : TMods Ts B w w2 :=
  ⟨h.bel.trans k.bel, fun b cur e fr hc h1 => by
    have h3 := h.keep b cur e fr hc h1
    exact (k.keep b cur e fr (h3.trans hc) h1).trans h3⟩
theorem slT (h : TMods Ts B w w') {e : TypeId} {b : Nat} {A : Option Addr} {xs : List Value} (hs : SlT e w b A xs) (h1 : e ∉ Ts) : SlT e w' b A xs := by
  by_cases h0 : xs = []
  · subst h0; exact SlT.nil_ _ _ _ _
  · obtain ⟨cur, fr, hc⟩ := hs.2 h0
    have hb := h.keep b cur e fr hc h1
    exact ⟨hs.1.keep (fun _ => hb), fun _ => ⟨cur, fr, hb.trans hc⟩⟩
theorem own (h : TMods Ts B w w') {C n sz : Nat} {e : TypeId} {v : Value} {xs : List Value} (hs : w.ownsRow C e sz v n xs) (h1 : e ∉ Ts) : w'.ownsRow C e sz v n xs := by
  refine ⟨hs.1, ?_⟩
  rcases hs.2 with h3 | ⟨g, cap, cur, rfl, hg, hh, r⟩
  · exact .inl h3
  · exact .inr ⟨g, cap, cur, rfl, hg, (h.keep g cur e _ hh h1).trans hh, r⟩
theorem inT (h : TMods Ts B w w') {x : PV} (hs : PV.InT w x) (h1 : 5 ∉ Ts) : PV.InT w' x := by
  refine ⟨⟨?_, hs.in_.2⟩, fun h0 => ?_⟩
  · by_cases h0 : x.p.data = []
    · rw [h0]; exact Sl.nil_ _ _ _
    · obtain ⟨cur, fr, hc⟩ := hs.typ h0
      exact hs.in_.1.keep (fun _ => h.keep _ cur _ fr hc h1)
  · obtain ⟨cur, fr, hc⟩ := hs.typ h0
    exact ⟨cur, fr, (h.keep _ cur _ fr hc h1).trans hc⟩
theorem rowsIn (h : TMods Ts B w w') {C : Nat} {us : List Value} {ls : List (List UInt8)} (hs : RowsIn w C us ls) (h1 : 5 ∉ Ts) : RowsIn w' C us ls :=
  ⟨hs.1, fun i l hl => by obtain ⟨u, h3, h4⟩ := hs.2 i l hl; exact ⟨u, h3, h.own h4 h1⟩⟩
end TMods
/-- What a link's own calls turn: links, rows of pieces, rows of flights. -/
abbrev LTs : List TypeId := [87, 96, 98]
theorem PV.InT.ext {w w' : World} {x : PV} (h : PV.InT w x) (hm : Below w.heap.size w w') : PV.InT w' x := (TMods.of_new (Ts := []) hm (Nat.le_refl _)).inT h (by decide)
/-- Of a step that turns a link, its row of pieces, its row of flights. -/
theorem TMods.of_mod {B g bm : Nat} {w w' : World} {L : Lk} {vw vf vh : Value} {ws : List PV} {xs : List Fl} (q : LS w B g bm L vw vf vh ws xs) (hm : Mod (fun i => i = g ∨ vw.ownBlock = some i ∨ vf.ownBlock = some i) w w') (hg : B ≤ g) : TMods LTs B w w' :=
  ⟨hm.below q.hB (fun i hi hh => by
    rcases hh with rfl | hh | hh
    · omega
    · have := (World.ownsRow.lt q.rp i hh).1; omega
    · have := (World.ownsRow.lt q.rf i hh).1; omega), fun b cur e fr hc he => hm.block b (Array.getElem?_eq_some_iff.1 hc).1 (fun hh => by
    rcases hh with rfl | hh | hh
    · have h1 := q.q
      unfold LkB at h1
      rw [h1] at hc
      injection hc with hc
      injection hc with _ h3 _
      exact he (by rw [← h3]; simp)
    · exact row_apart q.rp hc (fun h3 => he (by rw [h3]; simp)) hh
    · exact row_apart q.rf hc (fun h3 => he (by rw [h3]; simp)) hh)⟩
end Go.Proofs.YtgpedkdebifooaaDoor
