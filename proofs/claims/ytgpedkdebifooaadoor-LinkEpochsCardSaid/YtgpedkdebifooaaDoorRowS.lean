/- Rows of lists of bytes: append of one that lies in a new block of its own. Conditions: the lengths fit. -/
import Derived.Test.YtgpedkdebifooaaDoorRefJoin
namespace Go.Proofs.YtgpedkdebifooaaDoor
open Go.RowKit

theorem slice_info : (Tryd.prog.info? 31).map (fun i => (i.zero, i.size, i.bytes)) = some (some (.slice none 0 0), 1, 24) := by kernel_rfl

/-- Slices in a slice of the call's own. -/
abbrev RowS (w : World) (B : Nat) (v : Value) (us : List Value) : Prop := w.ownsRow B 31 1 v us.length us
theorem own_apartS {w : World} {B1 B2 s1 s2 n1 n2 k : Nat} {e1 e2 : TypeId} {v1 v2 : Value} {x1 x2 : List Value} (h1 : w.ownsRow B1 e1 s1 v1 n1 x1) (h2 : w.ownsRow B2 e2 s2 v2 n2 x2) (hne : e1 ≠ e2) (hk : v1.ownBlock = some k) : v2.ownBlock ≠ some k := by
  intro hk2
  rcases h1.2 with ⟨rfl, _⟩ | ⟨g1, c1, cur1, rfl, _, hh1, _⟩
  · cases hk
  · rcases h2.2 with ⟨rfl, _⟩ | ⟨g2, c2, cur2, rfl, _, hh2, _⟩
    · cases hk2
    · simp only [Value.ownBlock, Option.some.injEq] at hk hk2
      subst hk
      subst hk2
      rw [hh1] at hh2
      injection hh2 with hh2
      injection hh2 with _ hh2 _
      exact hne hh2
theorem RowS.nil_ (w : World) (B : Nat) : RowS w B (.slice none 0 0) [] := World.ownsRow_nil _ _ _ _
theorem RowS.mod {w w' : World} {B : Nat} {v : Value} {us : List Value} (h : RowS w B v us) {S : Nat → Prop} (hm : Mod S w w') (hs : ∀ k, v.ownBlock = some k → ¬ S k) : RowS w' B v us := by
  refine ⟨h.1, ?_⟩
  rcases h.2 with h2 | ⟨g, cap, cur, rfl, hg, hh, r⟩
  · exact .inl h2
  · exact .inr ⟨g, cap, cur, rfl, hg, by rw [hm.block g (Array.getElem?_eq_some_iff.1 hh).1 (hs g rfl)]; exact hh, r⟩
theorem RowS.ext {w w' : World} {B : Nat} {v : Value} {us : List Value} (h : RowS w B v us) (hm : Below w.heap.size w w') : RowS w' B v us :=
  h.mod (Mod.of_below hm) fun k hk => by have := (World.ownsRow.lt h k hk).2; omega
theorem RowS.sl {w : World} {B : Nat} {v : Value} {us : List Value} (h : RowS w B v us) : ∃ A c b, v = .slice A us.length c ∧ us.length ≤ c ∧ c ≤ maxLen ∧ B ≤ b ∧ Sl w b A us ∧ (∀ k, v.ownBlock = some k → k = b) := by
  rcases h.2 with ⟨rfl, hn⟩ | ⟨g, cap, cur, rfl, hb, _, hnc, hcm, _⟩
  · have hl : us = [] := List.eq_nil_of_length_eq_zero hn
    subst hl
    exact ⟨none, 0, B, rfl, Nat.le_refl _, by simp [maxLen], Nat.le_refl _, Sl.nil_ _ _ _, by simp [Value.ownBlock]⟩
  · refine ⟨_, cap, g, rfl, hnc, hcm, hb, fun _ => ⟨0, rfl, fun j u hu => ?_⟩, by simp [Value.ownBlock]⟩
    have := h.cells (g := g) rfl j u hu
    simpa [Addr.add_lit] using this
/-- Lists of bytes of the call's own, each in a row of its own. -/
def RowsIn (w : World) (B : Nat) (us : List Value) (ls : List (List UInt8)) : Prop :=
  us.length = ls.length ∧ ∀ (i : Nat) (l : List UInt8), ls[i]? = some l → ∃ u, us[i]? = some u ∧ Row w B u l
theorem RowsIn.nil_ (w : World) (B : Nat) : RowsIn w B [] [] := ⟨rfl, fun i l h => by simp at h⟩
theorem RowsIn.ext {w w' : World} {B : Nat} {us : List Value} {ls : List (List UInt8)} (h : RowsIn w B us ls) (hm : Below w.heap.size w w') : RowsIn w' B us ls :=
  ⟨h.1, fun i l hl => by obtain ⟨u, h1, h2⟩ := h.2 i l hl; exact ⟨u, h1, h2.ext hm⟩⟩
theorem RowsIn.snoc {w : World} {B : Nat} {us : List Value} {ls : List (List UInt8)} {u : Value} {l : List UInt8} (h : RowsIn w B us ls) (hu : Row w B u l) : RowsIn w B (us ++ [u]) (ls ++ [l]) :=
  ⟨by simp [h.1], fun i x hx => by
    by_cases hi : i < ls.length
    · rw [List.getElem?_append_left hi] at hx
      obtain ⟨y, h1, h2⟩ := h.2 i x hx
      exact ⟨y, by rw [List.getElem?_append_left (by rw [h.1]; exact hi)]; exact h1, h2⟩
    · have h9 := (List.getElem?_eq_some_iff.1 hx).1
      simp at h9
      have hi2 : i = ls.length := by omega
      subst hi2
      rw [List.getElem?_append_right (Nat.le_refl _)] at hx
      simp at hx
      subst hx
      exact ⟨u, by rw [List.getElem?_append_right (by rw [h.1]; exact Nat.le_refl _)]; simp [h.1], hu⟩⟩
/-- Behind an append to a row of slices: what lies in rows of bytes is as it was. -/
theorem RowsIn.mod {w w' : World} {B B2 : Nat} {v : Value} {us vs : List Value} {ls : List (List UInt8)} (h : RowsIn w B us ls) (hv : RowS w B2 v vs) (hm : Mod (fun i => v.ownBlock = some i) w w') : RowsIn w' B us ls :=
  ⟨h.1, fun i l hl => by
    obtain ⟨u, h1, h2⟩ := h.2 i l hl
    exact ⟨u, h1, h2.mod hm fun k hk => own_apartS h2 hv (by decide) hk⟩⟩
theorem RowsIn.bss {w : World} {B : Nat} {us : List Value} {ls : List (List UInt8)} (h : RowsIn w B us ls) : Bss w us ls :=
  ⟨h.1, fun i l hl => by
    obtain ⟨u, h1, h2⟩ := h.2 i l hl
    obtain ⟨A, c, b, rfl, _, _, _, _, hs, _⟩ := h2.sl
    exact ⟨A, c, b, h1, hs⟩⟩

section
variable (w : World)
/-- append(out, x) of one slice, which lies in a new block of its own. -/
theorem wpList_appS {u : Value} {ops : Array Oper} {rest : List Oper} {o : Oper} {a : Act} {Q : Exit → Act → World → Prop} (hgd : o.guard = none) (s x : Operand)
    (ho : o.op = .call { callee := .builtin .append, args := #[s, x], argTypes := #[28, 28] })
    (B : Nat) (v : Value) (us : List Value) (hs : a.eval s = v) (hown : RowS w B v us)
    (hu : u.oneCell' = true) (hx : a.eval x = .slice (some ⟨w.heap.size, 0, none⟩) 1 1)
    (hlen : us.length + 1 ≤ 1000000) (hbase : B ≤ w.heap.size)
    (h : ∀ v' w', RowS w' B v' (us ++ [u]) → Mod (fun i => v.ownBlock = some i) w w' → (v'.ownBlock = v.ownBlock ∨ ∃ k, v'.ownBlock = some k ∧ w.heap.size ≤ k) → wpList Tryd.prog ops Q rest (a.put o.dst v') w') : wpList Tryd.prog ops Q (o :: rest) a (w.alloc (.cells #[u] 31)) := by
  obtain ⟨i0, hi0, hz0, hz1, hz2⟩ := info_parts slice_info
  refine wpList_append_sl (P := Tryd.prog) (w.alloc (.cells #[u] 31)) hgd s x _ ho B 31 i0 _ 1 24 Tryd.underlying28 hi0 hz0 hz1 hz2 rfl (by omega) v us.length us hs (World.ownsRow.alloc hown _) w.heap.size _ 1 1 [u] hx
    (Sl.one_new w _ _) rfl (fun h => by cases h) (by simpa using hu) (by simp only [maxLen]; omega) (by omega) (by simp; omega) ?_
  intro v' w' h1 h2 h3
  refine h v' w' ?_ ((Mod.alloc (fun _ => False) w _).trans (Mod.of_grown h2) (fun i _ h => h.elim) (fun i _ h => h)) (h3.imp id fun h => ⟨_, h, by simp⟩)
  unfold RowS
  rw [List.length_append]
  exact h1
end
end Go.Proofs.YtgpedkdebifooaaDoor
