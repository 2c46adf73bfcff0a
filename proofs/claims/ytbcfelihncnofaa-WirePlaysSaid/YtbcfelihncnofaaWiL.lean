/- A wire in the laws' words: what waits, and what Put and Take make of it. Conditions: those said. -/
import Derived.Test.YtbcfelihncnofaaWiT
import Derived.Test.YtbcfelihncnofaaWiM
namespace Go.Proofs.Ytbcfelihncnofaa
open Go.RowKit
set_option linter.unusedVariables false

/-- Of what was there only blocks from B on that hold one of two types may have turned. -/
structure TMod (T1 T2 : TypeId) (B : Nat) (w w' : World) : Prop where
  bel : Below B w w'
  keep : ∀ (b : Nat) (cur : Array Value) (e : TypeId) (fr : Nat × Nat), w.heap[b]? = some (Obj.cells cur e fr) → e ≠ T1 → e ≠ T2 → w'.heap[b]? = w.heap[b]?
namespace TMod
variable {T1 T2 : TypeId} {B : Nat} {w w' w2 : World}
theorem of_new (h : Below w.heap.size w w') (hB : B ≤ w.heap.size) : TMod T1 T2 B w w' :=
  ⟨h.mono hB, fun b cur e fr hc _ _ => h.block b (Array.getElem?_eq_some_iff.1 hc).1⟩
theorem refl (hB : B ≤ w.heap.size) : TMod T1 T2 B w w := of_new (Below.refl _ _) hB
theorem trans (h : TMod T1 T2 B w w') (k : TMod T1 T2 B w' w2) : TMod T1 T2 B w w2 :=
  ⟨h.bel.trans k.bel, fun b cur e fr hc h1 h2 => by
    have h3 := h.keep b cur e fr hc h1 h2
    exact (k.keep b cur e fr (h3.trans hc) h1 h2).trans h3⟩
theorem slT (h : TMod T1 T2 B w w') {e : TypeId} {b : Nat} {A : Option Addr} {xs : List Value} (hs : SlT e w b A xs) (h1 : e ≠ T1) (h2 : e ≠ T2) : SlT e w' b A xs := by
  by_cases h0 : xs = []
  · subst h0; exact SlT.nil_ _ _ _ _
  · obtain ⟨cur, fr, hc⟩ := hs.2 h0
    have hb := h.keep b cur e fr hc h1 h2
    exact ⟨hs.1.keep (fun _ => hb), fun _ => ⟨cur, fr, hb.trans hc⟩⟩
theorem own (h : TMod T1 T2 B w w') {C n sz : Nat} {e : TypeId} {v : Value} {xs : List Value} (hs : w.ownsRow C e sz v n xs) (h1 : e ≠ T1) (h2 : e ≠ T2) : w'.ownsRow C e sz v n xs := by
  refine ⟨hs.1, ?_⟩
  rcases hs.2 with h3 | ⟨g, cap, cur, rfl, hg, hh, r⟩
  · exact .inl h3
  · exact .inr ⟨g, cap, cur, rfl, hg, (h.keep g cur e _ hh h1 h2).trans hh, r⟩
theorem box (h : TMod T1 T2 B w w') {g : Nat} {v : Value} {t : TypeId} (q : Box w g v t) (h1 : t ≠ T1) (h2 : t ≠ T2) : Box w' g v t := (h.keep g _ _ _ q h1 h2).trans q
theorem rowsIn (h : TMod T1 T2 B w w') {C : Nat} {us : List Value} {ls : List (List UInt8)} (hs : RowsIn w C us ls) (h1 : 5 ≠ T1) (h2 : 5 ≠ T2) : RowsIn w' C us ls :=
  ⟨hs.1, fun i l hl => by obtain ⟨u, h3, h4⟩ := hs.2 i l hl; exact ⟨u, h3, h.own h4 h1 h2⟩⟩
theorem bssT (h : TMod T1 T2 B w w') {us : List Value} {ls : List (List UInt8)} (hs : BssT w us ls) (h1 : 5 ≠ T1) (h2 : 5 ≠ T2) : BssT w' us ls :=
  ⟨hs.1, fun i l hl => by obtain ⟨A, c, b, h3, h4⟩ := hs.2 i l hl; exact ⟨A, c, b, h3, h.slT h4 h1 h2⟩⟩
end TMod
/-- Behind a step that turns one box and one row. -/
theorem TMod.of_mod {T1 T2 : TypeId} {B g C n sz : Nat} {w w' : World} {u v : Value} {xs : List Value} (hm : Mod (fun i => i = g ∨ v.ownBlock = some i) w w') (q : Box w g u T1) (hr : w.ownsRow C T2 sz v n xs) (hB : B ≤ w.heap.size) (hg : B ≤ g) (hC : B ≤ C) : TMod T1 T2 B w w' :=
  ⟨hm.below hB (fun i hi hh => by
    rcases hh with rfl | hh
    · omega
    · have := (World.ownsRow.lt hr i hh).1; omega), fun b cur e fr hc h1 h2 => hm.block b (Array.getElem?_eq_some_iff.1 hc).1 (fun hh => by
    rcases hh with rfl | hh
    · rw [q] at hc
      injection hc with hc
      injection hc with _ h3 _
      exact h1 h3.symm
    · exact row_apart hr hc h2 hh)⟩
def ApV (u v : Value) : Prop := ∀ k, u.ownBlock = some k → v.ownBlock ≠ some k
/-- A wire: what waits, and for how many Takes. -/
structure Wi (B D g : Nat) (w : World) (ks : List (List UInt8 × Int)) : Prop where
  out : ∃ v ps, Box w g v 26 ∧ RowW 68 w B v ps ∧ ps.map keyP = ks ∧ (∀ x ∈ ps, Row w D x.sv x.l) ∧ ps.Pairwise fun x y => ApV x.sv y.sv
theorem Wi.new_ {B D g : Nat} {w : World} (q : Box w g (.slice none 0 0) 26) : Wi B D g w [] := ⟨_, [], q, World.ownsRow_nil _ _ _ _, rfl, by simp, by simp⟩
theorem Wi.mod {B D g : Nat} {w w' : World} {ks : List (List UInt8 × Int)} (h : Wi B D g w ks) {T1 T2 : TypeId} {C : Nat} (hm : TMod T1 T2 C w w') (h1 : 26 ≠ T1) (h2 : 26 ≠ T2) (h3 : 68 ≠ T1) (h4 : 68 ≠ T2) (h5 : 5 ≠ T1) (h6 : 5 ≠ T2) : Wi B D g w' ks := by
  obtain ⟨v, ps, q, hr, hk, hx, ha⟩ := h.out
  exact ⟨v, ps, hm.box q h1 h2, hm.own hr h3 h4, hk, fun x hx2 => hm.own (hx x hx2) h5 h6, ha⟩
theorem Wi.ext {B D g : Nat} {w w' : World} {ks : List (List UInt8 × Int)} (h : Wi B D g w ks) (hm : Below w.heap.size w w') : Wi B D g w' ks := by
  obtain ⟨v, ps, q, hr, hk, hx, ha⟩ := h.out
  exact ⟨v, ps, q.ext hm, own_ext hr hm, hk, fun x hx2 => (hx x hx2).ext hm, ha⟩
def nowK (ks : List (List UInt8 × Int)) : List (List UInt8) := (ks.filter fun x => x.2 - 1 == 0).map Prod.fst
def laterK (ks : List (List UInt8 × Int)) : List (List UInt8 × Int) := (ks.map fun x => (x.1, x.2 - 1)).filter fun x => !(x.2 == 0)
theorem nowP_key (ps : List Pl) : (nowP ps).map Pl.l = nowK (ps.map keyP) := by
  induction ps with
  | nil => rfl
  | cons x l ih =>
    simp only [nowP, nowK, List.map_cons, List.filter_cons, keyP] at ih ⊢
    split <;> simp [ih]
theorem laterP_key (ps : List Pl) : (laterP ps).map keyP = laterK (ps.map keyP) := by
  induction ps with
  | nil => rfl
  | cons x l ih =>
    simp only [laterP, keptP, laterK, List.map_cons, List.filter_cons, keyP, Pl.near, Pl.at_] at ih ⊢
    split <;> simp [ih, keyP]
theorem laterP_mem {ps : List Pl} {x : Pl} (h : x ∈ laterP ps) : ∃ y ∈ ps, x = y.near := by
  have h1 := (List.mem_filter.1 h).1
  obtain ⟨y, hy, e⟩ := List.mem_map.1 h1
  exact ⟨y, hy, e.symm⟩
theorem rowsIn_of {w : World} {D : Nat} : ∀ (xs : List Pl), (∀ x ∈ xs, Row w D x.sv x.l) → RowsIn w D (xs.map Pl.sv) (xs.map Pl.l) := fun xs h =>
  ⟨by simp, fun i l hl => by
    rw [List.getElem?_map] at hl
    cases hx : xs[i]? with
    | none => rw [hx] at hl; cases hl
    | some x =>
      rw [hx] at hl
      obtain rfl : x.l = l := by simpa using hl
      exact ⟨x.sv, by rw [List.getElem?_map, hx]; rfl, h x (List.mem_of_getElem? hx)⟩⟩
/-- What a Take tells, and leaves. -/
structure TkO (B D g : Nat) (ks : List (List UInt8 × Int)) (w w' : World) (vo : Value) : Prop where
  out : ∃ us, RowS w' w.heap.size vo us ∧ RowsIn w' D us (nowK ks) ∧ us.Pairwise ApV ∧ Wi B D g w' (laterK ks) ∧ TMod 26 68 B w w'
theorem WTake_calls (B D g : Nat) (ks : List (List UInt8 × Int)) (w : World) (h : Wi B D g w ks) (hk : ks.length ≤ 900000) (ht : ∀ x ∈ ks, 0 ≤ x.2 ∧ x.2 ≤ 1000) (hB : B ≤ w.heap.size) (hBg : B ≤ g) :
    Calls Try.prog 16 #[.pointer (some ⟨g, 0, none⟩)] w fun e w' => ∃ vo, e = .returned vo ∧ TkO B D g ks w w' vo := by
  obtain ⟨v, ps, q, hr, hkey, hx, ha⟩ := h.out
  refine (Take_calls B g v ps w q hr (by have := congrArg List.length hkey; rw [List.length_map] at this; omega) hB (fun x hx2 => ht (keyP x) (by rw [← hkey]; exact List.mem_map_of_mem hx2))).mono ?_
  rintro e w' ⟨vo, rfl, ⟨v', q', hr', ho, hm, hob⟩⟩
  have hT := TMod.of_mod hm q hr hB hBg (Nat.le_refl _)
  have hx' : ∀ x ∈ ps, Row w' D x.sv x.l := fun x h2 => hT.own (hx x h2) (by decide) (by decide)
  refine ⟨vo, rfl, ⟨(nowP ps).map Pl.sv, ho, ?_, ?_, ⟨v', laterP ps, q', hr', by rw [laterP_key, hkey], ?_, ?_⟩, hT⟩⟩
  · rw [← hkey, ← nowP_key]
    exact rowsIn_of _ fun x h2 => hx' x (List.mem_filter.1 h2).1
  · exact List.pairwise_map.2 (ha.sublist (List.filter_sublist))
  · intro x h2
    obtain ⟨y, hy, rfl⟩ := laterP_mem h2
    exact hx' y hy
  · have h9 : (ps.map Pl.near).Pairwise (fun x y => ApV x.sv y.sv) := List.pairwise_map.2 (ha.imp fun h => h)
    exact h9.sublist (List.filter_sublist)
/-- What a Put leaves. -/
structure PutO (B D g : Nat) (ks : List (List UInt8 × Int)) (w w' : World) : Prop where
  wi : Wi B D g w' ks
  mod : TMod 26 68 B w w'
theorem WPut_calls (B D g : Nat) (ks : List (List UInt8 × Int)) (A1 : Option Addr) (us : List Value) (ls : List (List UInt8)) (n1 c1 b1 : Nat) (A2 : Option Addr) (fs : List Ft) (n2 c2 b2 : Nat) (w : World) (h : Wi B D g w ks)
    (hs : SlT 46 w b1 A1 us) (hu : BssT w us ls) (hn1 : ls.length = n1) (hll : ∀ l ∈ ls, l.length ≤ 1000000) (hf : SlT 50 w b2 A2 (ftv fs)) (hn2 : fs.length = n2) (hfo : ∀ f ∈ fs, f.ok) (hps : ks.length + 2 * n1 ≤ 99000) (hm2 : n2 ≤ maxLen) (hB : B ≤ w.heap.size) (hBg : B ≤ g) (hD : D ≤ w.heap.size) :
    Calls Try.prog 11 #[.pointer (some ⟨g, 0, none⟩), .slice A1 n1 c1, .slice A2 n2 c2] w fun e w' => e = .returned (.tuple #[]) ∧ PutO B D g (ks ++ putsN ls fs n1) w w' := by
  obtain ⟨v, ps, q, hr, hkey, hx, ha⟩ := h.out
  refine (Put_calls B g v ps A1 us ls n1 c1 b1 A2 fs n2 c2 b2 w q hr hs hu hn1 hll hf hn2 hfo (by have := congrArg List.length hkey; rw [List.length_map] at this; omega) hm2 hB).mono ?_
  rintro e w' ⟨rfl, ⟨v', xs, hst, hk⟩⟩
  have hT := TMod.of_mod hst.mod q hr hB hBg (Nat.le_refl _)
  refine ⟨rfl, ⟨v', ps ++ xs, hst.box, hst.row, by rw [List.map_append, hkey, hk], ?_, ?_⟩, hT⟩
  · intro x h2
    rcases List.mem_append.1 h2 with h2 | h2
    · exact hT.own (hx x h2) (by decide) (by decide)
    · exact (hst.new x h2).low hD
  · refine List.pairwise_append.2 ⟨ha, hst.apart, fun x h2 y h3 i hi hj => ?_⟩
    have h4 := ((hx x h2).lt i hi).2
    have h5 := ((hst.new y h3).lt i hj).1
    omega
theorem WWait_calls (B D g : Nat) (ks : List (List UInt8 × Int)) (w : World) (h : Wi B D g w ks) :
    Calls Try.prog 13 #[.pointer (some ⟨g, 0, none⟩)] w fun e w' => e = .returned (.int .i64 (ks.length : Int)) ∧ w' = w := by
  obtain ⟨v, ps, q, hr, hkey, hx, ha⟩ := h.out
  rw [← hkey, List.length_map]
  exact Waiting_calls B g v ps w q hr
end Go.Proofs.Ytbcfelihncnofaa
