/- Slices of int32, and a row of the call's own of which an element is written. No condition. -/
import Derived.Test.YthjaodacakohkaaRows
import Derived.Test.YthjaodacakohkaaAppend
import Derived.Test.YthjaodacakohkaaBox
namespace Go.Proofs.Ythjaodacakohkaa
open Go.RowKit

theorem own_set {w : World} {B n : Nat} {e : TypeId} {v : Value} {xs : List Value} (h : w.ownsRow B e 1 v n xs) (hn : 0 < n) :
    ∃ g cap, v = .slice (some ⟨g, 0, none⟩) n cap ∧ B ≤ g ∧ g < w.heap.size ∧ n ≤ cap ∧ (∀ j u, xs[j]? = some u → w.cell? ⟨g, j, none⟩ = some u) ∧ (∀ j, w.frozen? ⟨g, j, none⟩ = false) ∧
      ∀ (j : Nat) (u : Value) (w' : World), w'.heap[g]? = (w.setCell ⟨g, j, none⟩ u).heap[g]? → w'.ownsRow B e 1 v n (xs.set j u) := by
  rcases h.2 with ⟨_, h0⟩ | ⟨g, cap, cur, hv, hg, hh, hnc, hcm, hcs, hct⟩
  · omega
  · refine ⟨g, cap, hv, hg, (Array.getElem?_eq_some_iff.1 hh).1, hnc, fun j u hu => ?_, fun j => frozen_of_row w g j _ _ hh, fun j u w' hw => ?_⟩
    · rw [cell_of_row w g j _ _ _ hh]
      rw [← hct, List.getElem?_take] at hu
      split at hu
      · simpa using hu
      · cases hu
    · rw [heap_setCell_same w g j cur _ _ hh] at hw
      refine ⟨by rw [List.length_set]; exact h.1, .inr ⟨g, cap, _, hv, hg, hw, hnc, hcm, by simpa using hcs, ?_⟩⟩
      rw [← hct]
      simp [List.take_set]

theorem i32_info : (Try.prog.info? 21).map (fun i => (i.zero, i.size, i.bytes)) = some (some (.int .i32 0), 1, 4) := by kernel_rfl
/-- Numbers as values. -/
def iv (l : List Int) : List Value := l.map fun x => .int .i32 x
@[simp] theorem iv_length (l : List Int) : (iv l).length = l.length := by simp [iv]
@[simp] theorem iv_nil : iv [] = [] := rfl
theorem iv_get (l : List Int) (k : Nat) (h : k < l.length) : (iv l)[k]? = some (.int .i32 l[k]) := by simp [iv, h]
theorem iv_take (l : List Int) (k : Nat) : (iv l).take k = iv (l.take k) := by simp [iv]
theorem iv_set (l : List Int) (k : Nat) (x : Int) : (iv l).set k (.int .i32 x) = iv (l.set k x) := by simp [iv, List.map_set]
theorem iv_one (l : List Int) : ∀ u ∈ iv l, u.oneCell' = true := by
  intro u hu
  obtain ⟨_, _, rfl⟩ := List.mem_map.1 hu
  rfl
abbrev Is (w : World) (b : Nat) (A : Option Addr) (l : List Int) : Prop := Sl w b A (iv l)
abbrev Row32 (w : World) (B : Nat) (v : Value) (l : List Int) : Prop := w.ownsRow B 21 1 v l.length (iv l)
theorem Row32.cast {w : World} {B : Nat} {v : Value} {l l' : List Int} (h : Row32 w B v l) (e : l = l') : Row32 w B v l' := e ▸ h
theorem Row32.lt {w : World} {B : Nat} {v : Value} {l : List Int} (h : Row32 w B v l) : ∀ k, v.ownBlock = some k → B ≤ k ∧ k < w.heap.size := World.ownsRow.lt h
theorem own_mod {w w' : World} {B n : Nat} {e : TypeId} {v : Value} {xs : List Value} (h : w.ownsRow B e 1 v n xs) {S : Nat → Prop} (hm : Mod S w w') (hs : ∀ k, v.ownBlock = some k → ¬ S k) : w'.ownsRow B e 1 v n xs := by
  refine ⟨h.1, ?_⟩
  rcases h.2 with h2 | ⟨g, cap, cur, rfl, hg, hh, r⟩
  · exact .inl h2
  · exact .inr ⟨g, cap, cur, rfl, hg, by rw [hm.block g (Array.getElem?_eq_some_iff.1 hh).1 (hs g rfl)]; exact hh, r⟩
theorem own_ext {w w' : World} {B n : Nat} {e : TypeId} {v : Value} {xs : List Value} (h : w.ownsRow B e 1 v n xs) (hm : Below w.heap.size w w') : w'.ownsRow B e 1 v n xs :=
  own_mod h (Mod.of_below hm) fun k hk => by have := (World.ownsRow.lt h k hk).2; omega
theorem own_low {w : World} {B B' n : Nat} {e : TypeId} {v : Value} {xs : List Value} (h : w.ownsRow B e 1 v n xs) (hB : B' ≤ B) : w.ownsRow B' e 1 v n xs := by
  refine ⟨h.1, ?_⟩
  rcases h.2 with h2 | ⟨g, cap, cur, rfl, hg, r⟩
  · exact .inl h2
  · exact .inr ⟨g, cap, cur, rfl, by omega, r⟩
theorem own_sl {w : World} {B n : Nat} {e : TypeId} {v : Value} {xs : List Value} (h : w.ownsRow B e 1 v n xs) : ∃ A c b, v = .slice A n c ∧ n ≤ c ∧ B ≤ b ∧ Sl w b A xs := by
  rcases h.2 with ⟨rfl, rfl⟩ | ⟨g, cap, cur, rfl, hb, _, hnc, hcm, _⟩
  · have hx : xs = [] := List.eq_nil_of_length_eq_zero (by simpa using h.1)
    subst hx
    exact ⟨none, 0, B, rfl, Nat.le_refl _, Nat.le_refl _, Sl.nil_ _ _ _⟩
  · refine ⟨_, cap, g, rfl, hnc, hb, fun _ => ⟨0, rfl, fun j u hu => ?_⟩⟩
    have := h.cells (g := g) rfl j u hu
    simpa [Addr.add_lit] using this
section
variable (w : World)
theorem wpList_app32 {ops : Array Oper} {rest : List Oper} {o : Oper} {a : Act} {Q : Exit → Act → World → Prop} (hgd : o.guard = none) (s x : Operand)
    (ho : o.op = .call { callee := .builtin .append, args := #[s, x], argTypes := #[34, 34] })
    (B : Nat) (v : Value) (l : List Int) (hs : a.eval s = v) (hown : Row32 w B v l)
    (b : Nat) (A : Option Addr) (m c : Nat) (news : List Int) (hx : a.eval x = .slice A m c) (hr : Is w b A news) (hm : news.length = m)
    (hlen : l.length + m ≤ 1000000000000) (hbase : B ≤ w.heap.size)
    (h : ∀ v' w', Row32 w' B v' (l ++ news) → Mod (fun i => v.ownBlock = some i) w w' → (v'.ownBlock = v.ownBlock ∨ v'.ownBlock = some w.heap.size) → wpList Try.prog ops Q rest (a.put o.dst v') w') : wpList Try.prog ops Q (o :: rest) a w := by
  obtain ⟨i0, hi0, hz0, hz1, hz2⟩ := info_parts i32_info
  refine wpList_append_sl (P := Try.prog) w hgd s x _ ho B 21 i0 _ 1 4 Try.underlying34 hi0 hz0 hz1 hz2 rfl (by omega) v l.length (iv l) hs hown b A m c (iv news) hx hr (by simp [hm]) (Sl.none_len hr (by simp [hm])) (iv_one _)
    (by simp only [maxLen]; omega) (by omega) hbase ?_
  intro v' w' h1 h2 h3
  exact h v' w' (by unfold Row32; rw [List.length_append, hm]; have := h1; simp only [iv, List.map_append] at this ⊢; exact this) (Mod.of_grown h2) h3
end
end Go.Proofs.Ythjaodacakohkaa
