/- Rows of cells of the call's own: what they read as, what append makes of them, how one is written. Conditions: those said. -/
import Derived.Test.YtpppjlcfhijdgaaBoardL
import Derived.Test.YtpppjlcfhijdgaaAppend
import Derived.Test.YtpppjlcfhijdgaaBox
import Derived.Test.YtpppjlcfhijdgaaI64
namespace Go.Proofs.Ytpppjlcfhijdgaa
open Go.RowKit

/-- The slice value v is the call's own (its block not below B), and holds these cells, of type e. -/
abbrev RowC (e : TypeId) (w : World) (B : Nat) (v : Value) (L : List (Int × Nat)) : Prop := w.ownsRow B e 2 v L.length (cv L)
theorem owns_mod {w w' : World} {B n sz : Nat} {e : TypeId} {v : Value} {xs : List Value} (h : w.ownsRow B e sz v n xs) {S : Nat → Prop} (hm : Mod S w w') (hs : ∀ k, v.ownBlock = some k → ¬ S k) : w'.ownsRow B e sz v n xs := by
  refine ⟨h.1, ?_⟩
  rcases h.2 with h2 | ⟨g, cap, cur, rfl, hg, hh, r⟩
  · exact .inl h2
  · exact .inr ⟨g, cap, cur, rfl, hg, by rw [hm.block g (Array.getElem?_eq_some_iff.1 hh).1 (hs g rfl)]; exact hh, r⟩
theorem owns_low {w : World} {B B' n sz : Nat} {e : TypeId} {v : Value} {xs : List Value} (h : w.ownsRow B e sz v n xs) (hB : B' ≤ B) : w.ownsRow B' e sz v n xs := by
  refine ⟨h.1, ?_⟩
  rcases h.2 with h2 | ⟨g, cap, cur, rfl, hg, r⟩
  · exact .inl h2
  · exact .inr ⟨g, cap, cur, rfl, by omega, r⟩
namespace RowC
variable {e : TypeId} {w w' : World} {B : Nat} {v : Value} {L : List (Int × Nat)}
theorem nil_ (e : TypeId) (w : World) (B : Nat) : RowC e w B (.slice none 0 0) [] := World.ownsRow_nil _ _ _ _
theorem mod (h : RowC e w B v L) {S : Nat → Prop} (hm : Mod S w w') (hs : ∀ k, v.ownBlock = some k → ¬ S k) : RowC e w' B v L := owns_mod h hm hs
theorem ext (h : RowC e w B v L) (hm : Below w.heap.size w w') : RowC e w' B v L :=
  owns_mod h (Mod.of_below hm) fun k hk => by have := (World.ownsRow.lt h k hk).2; omega
theorem sl (h : RowC e w B v L) : ∃ A c b, v = .slice A L.length c ∧ L.length ≤ c ∧ c ≤ maxLen ∧ (A = none → L.length = 0) ∧ B ≤ b ∧ Sl w b A (cv L) ∧ (∀ k, v.ownBlock = some k → k = b) := by
  rcases h.2 with ⟨rfl, hn⟩ | ⟨g, cap, cur, rfl, hb, _, hnc, hcm, _⟩
  · have hl : L = [] := List.eq_nil_of_length_eq_zero hn
    subst hl
    exact ⟨none, 0, B, rfl, Nat.le_refl _, by simp [maxLen], fun _ => rfl, Nat.le_refl _, Sl.nil_ _ _ _, by simp [Value.ownBlock]⟩
  · refine ⟨_, cap, g, rfl, hnc, hcm, by simp, hb, fun _ => ⟨0, rfl, fun j u hu => ?_⟩, by simp [Value.ownBlock]⟩
    have := h.cells (g := g) rfl j u hu
    simpa [Addr.add_lit] using this
/-- A cell of it, written. -/
theorem set_ (h : RowC e w B v L) {k : Nat} (hk : k < L.length) :
    ∃ g cap, v = .slice (some ⟨g, 0, none⟩) L.length cap ∧ B ≤ g ∧ g < w.heap.size ∧ L.length ≤ cap ∧ w.cell? ⟨g, k * 2, none⟩ = some (.int .i32 L[k].1) ∧ w.cell? ⟨g, k * 2 + 1, none⟩ = some (.int .u32 ((L[k].2 : Nat) : Int)) ∧ (∀ j, w.frozen? ⟨g, j, none⟩ = false) ∧
      (∀ (x : Int) w', w'.heap[g]? = (w.setCell ⟨g, k * 2, none⟩ (.int .i32 x)).heap[g]? → RowC e w' B v (L.set k (x, L[k].2))) ∧
      (∀ (c : Int × Nat) w', w'.heap[g]? = ((w.setCell ⟨g, k * 2, none⟩ (.int .i32 c.1)).setCell ⟨g, k * 2 + 1, none⟩ (.int .u32 ((c.2 : Nat) : Int))).heap[g]? → RowC e w' B v (L.set k c)) := by
  rcases h.2 with ⟨_, hn⟩ | ⟨g, cap, cur, hv, hg, hh, hnc, hcm, hcs, hct⟩
  · omega
  · have hcell : ∀ j u, (cv L)[j]? = some u → w.cell? ⟨g, j, none⟩ = some u := fun j u hu => by
      rw [cell_of_row w g j _ _ _ hh]
      rw [← hct, List.getElem?_take] at hu
      split at hu
      · simpa using hu
      · cases hu
    have hset : ∀ (L' : List (Int × Nat)) (cur' : Array Value) w', L'.length = L.length → cur'.size = cur.size → cur'.toList.take (L.length * 2) = cv L' → w'.heap[g]? = some (.cells cur' e (0, 0)) → RowC e w' B v L' := fun L' cur' w' h1 h2 h3 h4 => by
      refine ⟨by simp, .inr ⟨g, cap, cur', by rw [hv, h1], hg, h4, by omega, hcm, by omega, by rw [h1]; exact h3⟩⟩
    have s1 : ∀ x : Int, (cv L).set (k * 2) (.int .i32 x) = cv (L.set k (x, L[k].2)) := fun x => by
      clear hset hcell hct hh hv h hnc
      induction L generalizing k with
      | nil => simp at hk
      | cons c L ih => cases k with
        | zero => rfl
        | succ k =>
          have := ih (by simpa using hk)
          rw [cv_cons, show (k + 1) * 2 = k * 2 + 1 + 1 by omega, List.set_cons_succ, List.set_cons_succ, this]
          rfl
    have s2 : ∀ c : Int × Nat, ((cv L).set (k * 2) (.int .i32 c.1)).set (k * 2 + 1) (.int .u32 ((c.2 : Nat) : Int)) = cv (L.set k c) := fun x => by
      clear hset hcell hct hh hv h s1 hnc
      induction L generalizing k with
      | nil => simp at hk
      | cons c L ih => cases k with
        | zero => rfl
        | succ k =>
          have := ih (by simpa using hk)
          rw [cv_cons, show (k + 1) * 2 + 1 = k * 2 + 1 + 1 + 1 by omega, show (k + 1) * 2 = k * 2 + 1 + 1 by omega, List.set_cons_succ, List.set_cons_succ, List.set_cons_succ, List.set_cons_succ, this]
          rfl
    refine ⟨g, cap, hv, hg, (Array.getElem?_eq_some_iff.1 hh).1, hnc, hcell _ _ (cv_val hk), hcell _ _ (cv_lab hk), fun j => frozen_of_row w g j _ _ hh, fun x w' hw => ?_, fun c w' hw => ?_⟩
    · rw [heap_setCell_same w g _ cur _ _ hh] at hw
      refine hset _ _ w' (by simp) (by simp) ?_ hw
      rw [Array.toList_setIfInBounds, List.take_set, hct, s1]
    · rw [heap_setCell_same _ g _ _ _ _ (heap_setCell_same w g _ cur _ _ hh)] at hw
      refine hset _ _ w' (by simp) (by simp) ?_ hw
      rw [Array.toList_setIfInBounds, Array.toList_setIfInBounds, List.take_set, List.take_set, hct, s2]
end RowC
theorem cellB_info : (Try.prog.info? 29).map (fun i => (i.zero, i.size, i.bytes)) = some (some (.agg #[.int .i32 0, .int .u32 0]), 2, 8) := by kernel_rfl
theorem cellR_info : (Try.prog.info? 83).map (fun i => (i.zero, i.size, i.bytes)) = some (some (.agg #[.int .i32 0, .int .u32 0]), 2, 8) := by kernel_rfl
section
variable (w : World)
/-- append of cells onto a row of the call's own. -/
theorem wpList_appC {t e : TypeId} (ht : Try.prog.underlying t = some (.slice e)) (hinf : (Try.prog.info? e).map (fun i => (i.zero, i.size, i.bytes)) = some (some (.agg #[.int .i32 0, .int .u32 0]), 2, 8)) {ops : Array Oper} {rest : List Oper} {o : Oper} {a : Act} {Q : Exit → Act → World → Prop} (hgd : o.guard = none) (s x : Operand)
    (ho : o.op = .call { callee := .builtin .append, args := #[s, x], argTypes := #[t, t] })
    (B : Nat) (v : Value) (L : List (Int × Nat)) (hs : a.eval s = v) (hown : RowC e w B v L)
    (b : Nat) (A : Option Addr) (m c : Nat) (M : List (Int × Nat)) (hx : a.eval x = .slice A m c) (hr : Sl w b A (cv M)) (hm : M.length = m)
    (hlen : L.length + m ≤ 1000000000000) (hbase : B ≤ w.heap.size)
    (h : ∀ v' w', RowC e w' B v' (L ++ M) → Mod (fun i => v.ownBlock = some i) w w' → (v'.ownBlock = v.ownBlock ∨ v'.ownBlock = some w.heap.size) → wpList Try.prog ops Q rest (a.put o.dst v') w') : wpList Try.prog ops Q (o :: rest) a w := by
  obtain ⟨i0, hi0, hz0, hz1, hz2⟩ := info_parts hinf
  refine wpList_append_sl (P := Try.prog) w hgd s x _ ho B e i0 _ 2 8 ht hi0 hz0 hz1 hz2 rfl (by omega) v L.length (cv L) hs hown b A m c (cv M) hx hr (by simp [hm]) (fun hA => by have := Sl.none_len hr rfl hA; simp at this; omega) (cv_one _)
    (by simp only [maxLen]; omega) (by omega) hbase ?_
  intro v' w' h1 h2 h3
  exact h v' w' (by unfold RowC; rw [List.length_append, hm, cv_append]; exact h1) (Mod.of_grown h2) h3
end
/-- One cell in a block of its own, as an append's source. -/
theorem Sl.cell_new (w : World) (c : Int × Nat) (t : TypeId) : Sl (w.alloc (.cells #[.int .i32 c.1, .int .u32 ((c.2 : Nat) : Int)] t)) w.heap.size (some ⟨w.heap.size, 0, none⟩) (cv [c]) := Sl.cells_new w _ t
theorem Mod.below_own {w w' : World} {v : Value} {B : Nat} (h : Mod (fun i => v.ownBlock = some i) w w') (hB : B ≤ w.heap.size) (hv : ∀ k, v.ownBlock = some k → B ≤ k) : Below B w w' :=
  h.below hB fun i hi hk => by have := hv i hk; omega
end Go.Proofs.Ytpppjlcfhijdgaa
