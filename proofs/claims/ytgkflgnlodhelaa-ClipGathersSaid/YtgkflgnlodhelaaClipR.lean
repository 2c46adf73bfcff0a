/- The reference's Split: the pieces of a message, in new memory. Conditions: the length fits. -/
import Derived.Test.YtgkflgnlodhelaaClipG
namespace Go.Proofs.Ytgkflgnlodhelaa
open Go.RowKit

theorem own_setz {w : World} {B n sz : Nat} {e : TypeId} {v : Value} {xs : List Value} (h : w.ownsRow B e sz v n xs) (hn : 0 < n) :
    ∃ g cap, v = .slice (some ⟨g, 0, none⟩) n cap ∧ B ≤ g ∧ g < w.heap.size ∧ n ≤ cap ∧ (∀ j u, xs[j]? = some u → w.cell? ⟨g, j, none⟩ = some u) ∧ (∀ j, w.frozen? ⟨g, j, none⟩ = false) ∧ (∃ cur, w.heap[g]? = some (.cells cur e (0, 0))) ∧
      ∀ (j : Nat) (u : Value) (w' : World), w'.heap[g]? = (w.setCell ⟨g, j, none⟩ u).heap[g]? → w'.ownsRow B e sz v n (xs.set j u) := by
  rcases h.2 with ⟨_, h0⟩ | ⟨g, cap, cur, hv, hg, hh, hnc, hcm, hcs, hct⟩
  · omega
  · refine ⟨g, cap, hv, hg, (Array.getElem?_eq_some_iff.1 hh).1, hnc, fun j u hu => ?_, fun j => frozen_of_row w g j _ _ hh, ⟨cur, hh⟩, fun j u w' hw => ?_⟩
    · rw [cell_of_row w g j _ _ _ hh]
      rw [← hct, List.getElem?_take] at hu
      split at hu
      · simpa using hu
      · cases hu
    · rw [heap_setCell_same w g j cur _ _ hh] at hw
      refine ⟨by rw [List.length_set]; exact h.1, .inr ⟨g, cap, _, hv, hg, hw, hnc, hcm, by simpa using hcs, ?_⟩⟩
      rw [Array.toList_setIfInBounds, List.take_set, hct]
theorem pvs_snoc_data (ys : List PV) (y : PV) (A : Option Addr) (d : List UInt8) (c b : Nat) : (pvs (ys ++ [y])).set (ys.length * 3 + 2) (.slice A d.length c) = pvs (ys ++ [⟨⟨y.p.first, y.p.last, d⟩, A, c, b⟩]) := by
  rw [pvs_append, pvs_append, List.set_append_right _ _ (by rw [pvs_length]; omega), pvs_length, show ys.length * 3 + 2 - ys.length * 3 = 2 by omega]
  rfl
theorem pvs_snoc_last (ys : List PV) (y : PV) (la : Bool) : (pvs (ys ++ [y])).set (ys.length * 3 + 1) (.bool la) = pvs (ys ++ [⟨⟨y.p.first, la, y.p.data⟩, y.A, y.c, y.b⟩]) := by
  rw [pvs_append, pvs_append, List.set_append_right _ _ (by rw [pvs_length]; omega), pvs_length, show ys.length * 3 + 1 - ys.length * 3 = 1 by omega]
  rfl
/-- The pieces ahead of the last one. -/
def fullsP (l : List UInt8) (k : Nat) : List Pc := (List.range k).map fun i => ⟨decide (i = 0), false, (l.drop (64 * i)).take 64⟩
theorem fullsP_next (l : List UInt8) (k : Nat) : fullsP l (k + 1) = fullsP l k ++ [⟨decide (k = 0), false, (l.drop (64 * k)).take 64⟩] := by simp [fullsP, List.range_succ]
theorem fulls_split (l : List UInt8) (k : Nat) (h : cnt l.length = k + 1) : splitP l = fullsP l k ++ [⟨decide (k = 0), true, (l.drop (64 * k)).take 64⟩] := by
  unfold splitP fullsP
  rw [h, List.range_succ, List.map_append]
  congr 1
  · apply List.map_congr_left
    intro i hi
    rw [List.mem_range] at hi
    unfold pieceAt
    rw [h]
    simp
    omega
  · simp [pieceAt, h]
theorem rpiece_info : (Try.prog.info? 39).map (fun i => (i.zero, i.size, i.bytes)) = some (some (.agg #[.bool false, .bool false, .slice none 0 0]), 3, 32) := by kernel_rfl

/-- append(out, x) of one piece, which lies in a new block of its own. -/
theorem wpList_appP (w : World) {u0 u1 u2 : Value} {ops : Array Oper} {rest : List Oper} {o : Oper} {a : Act} {Q : Exit → Act → World → Prop} (hgd : o.guard = none) (s x : Operand)
    (ho : o.op = .call { callee := .builtin .append, args := #[s, x], argTypes := #[31, 31] })
    (B : Nat) (v : Value) (n : Nat) (ys : List PV) (hs : a.eval s = v) (hn : ys.length = n) (hown : RowP 39 w B v ys)
    (y : PV) (hu : [u0, u1, u2] = y.cells) (sz : Nat) (hsz : w.heap.size = sz) (hx : a.eval x = .slice (some ⟨sz, 0, none⟩) 1 1)
    (hlen : n ≤ 100) (hbase : B ≤ w.heap.size)
    (h : ∀ v' w', RowP 39 w' B v' (ys ++ [y]) → Mod (fun i => v.ownBlock = some i) w w' → (v'.ownBlock = v.ownBlock ∨ ∃ k, v'.ownBlock = some k ∧ w.heap.size ≤ k) → wpList Try.prog ops Q rest (a.put o.dst v') w') : wpList Try.prog ops Q (o :: rest) a (w.alloc (.cells #[u0, u1, u2] 39)) := by
  subst hsz hn
  obtain ⟨i0, hi0, hz0, hz1, hz2⟩ := info_parts rpiece_info
  refine wpList_append_sl (P := Try.prog) _ hgd s x _ ho B 39 i0 _ 3 32 Try.underlying31 hi0 hz0 hz1 hz2 rfl (by omega) v ys.length (pvs ys) hs (World.ownsRow.alloc hown _) w.heap.size _ 1 1 y.cells hx
    (by rw [← hu]; exact Sl.cells_new w #[u0, u1, u2] _) rfl (fun h => by cases h) (by intro u hu'; simp [PV.cells] at hu'; rcases hu' with h | h | h <;> (subst h; rfl)) (by simp only [maxLen]; omega) (by omega) (by simp; omega) ?_
  intro v' w' h1 h2 h3
  refine h v' w' ?_ ((Mod.alloc (fun _ => False) w _).trans (Mod.of_grown h2) (fun i _ h => h.elim) (fun i _ h => h)) (h3.imp id fun h => ⟨_, h, by simp⟩)
  unfold RowP
  rw [List.length_append, pvs_append]
  exact h1

/-- A walk stands here. -/
structure StopAt (p : Prop) : Prop where
  out : p
theorem stop_at {p : Prop} (h : StopAt p) : p := h.out
theorem own_apart {w : World} {B1 B2 s1 s2 n1 n2 k : Nat} {e1 e2 : TypeId} {v1 v2 : Value} {x1 x2 : List Value} (h1 : w.ownsRow B1 e1 s1 v1 n1 x1) (h2 : w.ownsRow B2 e2 s2 v2 n2 x2) (hne : e1 ≠ e2) (hk : v1.ownBlock = some k) : v2.ownBlock ≠ some k := by
  intro hk2
  rcases h1.2 with ⟨rfl, _⟩ | ⟨g1, c1, cur1, rfl, _, hh1, _⟩
  · cases hk
  · rcases h2.2 with ⟨rfl, _⟩ | ⟨g2, c2, cur2, rfl, _, hh2, _⟩
    · cases hk2
    · simp only [Value.ownBlock, Option.some.injEq] at hk hk2
      subst hk
      subst hk2
      rw [hh1] at hh2
      injection hh2 with hh2
      injection hh2 with _ hh2 _
      exact hne hh2
theorem own_one (w : World) (u0 u1 u2 : Value) (e : TypeId) : (w.alloc (.cells #[u0, u1, u2] e)).ownsRow w.heap.size e 3 (.slice (some ⟨w.heap.size, 0, none⟩) 1 1) 1 [u0, u1, u2] :=
  ⟨rfl, .inr ⟨w.heap.size, 1, _, rfl, Nat.le_refl _, heap_alloc_new w _, Nat.le_refl _, by simp [maxLen], rfl, rfl⟩⟩
theorem take_drop_next (l d : List UInt8) (j k : Nat) (hj : j < l.length) (h : l.take j = l.take (64 * k) ++ d) : l.take (j + 1) = l.take (64 * k) ++ (d ++ [l[j]]) := by
  rw [List.take_succ_eq_append_getElem hj, h, List.append_assoc]

/-- What has been laid of l when j bytes have come: pieces ahead (full), the last one, whose data is the call's own. -/
structure RAt (w : World) (B : Nat) (l : List UInt8) (j : Nat) (v : Value) (ys : List PV) (y : PV) : Prop where
  sum : l.take j = l.take (64 * ys.length) ++ y.p.data
  len : 64 * ys.length + y.p.data.length = j
  few : y.p.data.length ≤ 64
  some_ : y.p.data = [] → j = 0
  head : y.p = ⟨decide (ys.length = 0), false, y.p.data⟩
  full : ys.map PV.p = fullsP l ys.length
  row : RowP 39 w B v (ys ++ [y])
  own : Row w B (.slice y.A y.p.data.length y.c) y.p.data
  ins : ∀ x ∈ ys, PV.In w x ∧ (x.p.data ≠ [] → (Value.slice y.A y.p.data.length y.c).ownBlock ≠ some x.b ∧ v.ownBlock ≠ some x.b)
theorem own_some {w : World} {B n sz : Nat} {e : TypeId} {v : Value} {xs : List Value} (h : w.ownsRow B e sz v n xs) (hn : 0 < n) : ∃ k, v.ownBlock = some k := by
  rcases h.2 with ⟨_, h0⟩ | ⟨g, _, _, rfl, _⟩
  · omega
  · exact ⟨g, rfl⟩
theorem data_of {l d : List UInt8} {j k : Nat} (h : l.take j = l.take (64 * k) ++ d) (hj : 64 * k + d.length = j) (hd : d.length ≤ 64) (he : j ≤ l.length) (hf : d.length = 64 ∨ j = l.length) : d = (l.drop (64 * k)).take 64 := by
  have h1 : (l.take j).drop (64 * k) = d := by
    rw [h, List.drop_append_of_le_length (by rw [List.length_take]; omega), List.drop_eq_nil_of_le (by rw [List.length_take]; omega), List.nil_append]
  rw [← h1, List.drop_take]
  rcases hf with hf | hf
  · rw [show j - 64 * k = 64 by omega]
  · rw [List.take_of_length_le (by rw [List.length_drop]; omega), List.take_of_length_le (by rw [List.length_drop]; omega)]
theorem last_b (y : PV) (b : Nat) (ys : List PV) : pvs (ys ++ [y]) = pvs (ys ++ [⟨y.p, y.A, y.c, b⟩]) := by rw [pvs_append, pvs_append]; rfl
theorem own_setz2 {w : World} {B n sz g c : Nat} {e : TypeId} {xs : List Value} (hn : 0 < n) (h : w.ownsRow B e sz (.slice (some ⟨g, 0, none⟩) n c) n xs) (j : Nat) (u : Value) : (w.setCell ⟨g, j, none⟩ u).ownsRow B e sz (.slice (some ⟨g, 0, none⟩) n c) n (xs.set j u) := by
  obtain ⟨g', cap', hv, _, _, _, _, _, _, hset⟩ := own_setz h hn
  injection hv with h1 _ _
  injection h1 with h1
  injection h1 with h1 _ _
  subst h1
  exact hset j u _ rfl
theorem RAt.more {wr w5 : World} {B j g k s cap c5 b5 : Nat} {l : List UInt8} {ys : List PV} {y : PV} {A5 : Option Addr} {q : UInt8} (h : RAt wr B l j (.slice (some ⟨g, 0, none⟩) (k + 1) cap) ys y) (hk : k = ys.length) (hs : s = y.p.data.length) (hs64 : s ≠ 64)
    (hmod : Mod (fun i => (Value.slice y.A s y.c).ownBlock = some i) wr w5) (hrow : Row w5 B (.slice A5 (s + 1) c5) (y.p.data ++ [q])) (hat : (Value.slice A5 (s + 1) c5).ownBlock = (Value.slice y.A s y.c).ownBlock ∨ ∃ k, (Value.slice A5 (s + 1) c5).ownBlock = some k ∧ wr.heap.size ≤ k)
    (hnx : l.take (j + 1) = l.take (64 * k) ++ (y.p.data ++ [q])) :
    RAt (w5.setCell ⟨g, k * 3 + 2, none⟩ (.slice A5 (s + 1) c5)) B l (j + 1) (.slice (some ⟨g, 0, none⟩) (k + 1) cap) ys ⟨⟨y.p.first, y.p.last, y.p.data ++ [q]⟩, A5, c5, b5⟩ := by
  subst hk hs
  have hl : (y.p.data ++ [q]).length = y.p.data.length + 1 := by simp
  have hl2 : (ys ++ [y]).length = ys.length + 1 := by simp
  have hgy : (Value.slice y.A y.p.data.length y.c).ownBlock ≠ some g := own_apart h.row h.own (by decide) rfl
  have hrw := h.row
  unfold RowP at hrw
  rw [hl2] at hrw
  have hr5 := own_setz2 (by omega) (ownsP_mod hrw hmod (fun i hi he => by simp only [Value.ownBlock, Option.some.injEq] at hi; subst hi; exact hgy he)) (ys.length * 3 + 2) (.slice A5 (y.p.data.length + 1) c5)
  rw [← hl, pvs_snoc_data ys y A5 (y.p.data ++ [q]) c5 b5] at hr5
  have hg5 : (Value.slice A5 (y.p.data.length + 1) c5).ownBlock ≠ some g := own_apart (ownsP_mod hrw hmod (fun i hi he => by simp only [Value.ownBlock, Option.some.injEq] at hi; subst hi; exact hgy he)) hrow (by decide) rfl
  have hlen := h.len
  have hfew := h.few
  refine ⟨hnx, by simp only [hl]; omega, by simp only [hl]; omega, fun he => by simp at he, ?_, h.full, ?_, ?_, ?_⟩
  · have := h.head
    rw [this]
  · unfold RowP
    rw [show (ys ++ [(⟨⟨y.p.first, y.p.last, y.p.data ++ [q]⟩, A5, c5, b5⟩ : PV)]).length = ys.length + 1 by simp]
    rw [← hl]
    exact hr5
  · simp only [hl]
    exact hrow.mod (Mod.setCell w5 _ _) (fun i hi he => hg5 (hi.trans (congrArg some he)))
  · intro x hx
    obtain ⟨⟨hx1, hx2⟩, hx3⟩ := h.ins x hx
    have hx5 := Bs.modne hx1 hmod (fun hne he => (hx3 hne).1 he)
    refine ⟨⟨Bs.modne hx5 (Mod.setCell w5 ⟨g, ys.length * 3 + 2, none⟩ (.slice A5 (y.p.data.length + 1) c5)) (fun hne he => (hx3 hne).2 (congrArg some (Eq.symm he))), hx2⟩, fun hne => ⟨?_, (hx3 hne).2⟩⟩
    simp only [hl]
    rcases hat with he | ⟨i, he, hi⟩
    · rw [he]; exact (hx3 hne).1
    · rw [he]
      intro e
      injection e with e
      have := Bs.lt hx1 hne
      omega
theorem RAt.fresh {wr w4 w5 : World} {B j g g4 k cap cap4 c5 b5 by0 : Nat} {l : List UInt8} {ys : List PV} {y : PV} {A5 : Option Addr} {q : UInt8} (h : RAt wr B l j (.slice (some ⟨g, 0, none⟩) (k + 1) cap) ys y) (hk : k = ys.length) (hs : y.p.data.length = 64) (hjl : j ≤ l.length)
    (hby : Bs wr by0 y.A y.p.data) (hoy : ∀ i, (Value.slice y.A y.p.data.length y.c).ownBlock = some i → i = by0)
    (hmod4 : Mod (fun i => (Value.slice (some ⟨g, 0, none⟩) (k + 1) cap).ownBlock = some i) wr w4) (hrow4 : w4.ownsRow B 39 3 (.slice (some ⟨g4, 0, none⟩) (k + 1 + 1) cap4) (k + 1 + 1) (pvs ((ys ++ [y]) ++ [pz])))
    (hat4 : (Value.slice (some ⟨g4, 0, none⟩) (k + 1 + 1) cap4).ownBlock = (Value.slice (some ⟨g, 0, none⟩) (k + 1) cap).ownBlock ∨ ∃ i, (Value.slice (some ⟨g4, 0, none⟩) (k + 1 + 1) cap4).ownBlock = some i ∧ wr.heap.size ≤ i)
    (hmod5 : Mod (fun i => (Value.slice none 0 0).ownBlock = some i) w4 w5) (hrow5 : Row w5 B (.slice A5 1 c5) [q]) (hat5 : (Value.slice A5 1 c5).ownBlock = (Value.slice none 0 0).ownBlock ∨ ∃ i, (Value.slice A5 1 c5).ownBlock = some i ∧ w4.heap.size ≤ i)
    (hnx : l.take (j + 1) = l.take (64 * k) ++ (y.p.data ++ [q])) :
    RAt (w5.setCell ⟨g4, (k + 1) * 3 + 2, none⟩ (.slice A5 1 c5)) B l (j + 1) (.slice (some ⟨g4, 0, none⟩) (k + 1 + 1) cap4) (ys ++ [⟨y.p, y.A, y.c, by0⟩]) ⟨⟨false, false, [q]⟩, A5, c5, b5⟩ := by
  subst hk
  have hl2 : (ys ++ [(⟨y.p, y.A, y.c, by0⟩ : PV)]).length = ys.length + 1 := by simp
  have hlen := h.len
  have hr4 := ownsP_mod hrow4 hmod5 (fun i hi he => by cases he)
  have hr5 := own_setz2 (by omega) hr4 ((ys.length + 1) * 3 + 2) (.slice A5 1 c5)
  have hpv : pvs ((ys ++ [y]) ++ [pz]) = pvs ((ys ++ [⟨y.p, y.A, y.c, by0⟩]) ++ [pz]) := by rw [pvs_append (ys ++ [y]), pvs_append (ys ++ [_]), last_b y by0 ys]
  have hset := pvs_snoc_data (ys ++ [⟨y.p, y.A, y.c, by0⟩]) pz A5 [q] c5 b5
  rw [hl2] at hset
  rw [hpv, show (Value.slice A5 1 c5) = Value.slice A5 [q].length c5 from rfl, hset] at hr5
  have hg5 : (Value.slice A5 1 c5).ownBlock ≠ some g4 := own_apart hr4 hrow5 (by decide) rfl
  have hd : y.p.data = (l.drop (64 * ys.length)).take 64 := data_of h.sum hlen h.few hjl (Or.inl hs)
  have hold : ∀ x : PV, PV.In wr x → x.p.data ≠ [] → x.b ≠ g → x.b ≠ g4 ∧ (Value.slice A5 1 c5).ownBlock ≠ some x.b := by
    intro x hx hne hg
    have hlt := Bs.lt hx.1 hne
    refine ⟨?_, ?_⟩
    · rcases hat4 with he | ⟨i, he, hi⟩
      · simp only [Value.ownBlock, Option.some.injEq] at he
        omega
      · simp only [Value.ownBlock, Option.some.injEq] at he
        omega
    · rcases hat5 with he | ⟨i, he, hi⟩
      · rw [he]; intro e; cases e
      · rw [he]; intro e; injection e with e; have := hmod4.size; omega
  have hkeep : ∀ x : PV, PV.In wr x → (x.p.data ≠ [] → x.b ≠ g) → PV.In (w5.setCell ⟨g4, (ys.length + 1) * 3 + 2, none⟩ (.slice A5 1 c5)) x := by
    intro x hx hg
    have h4 := Bs.modne hx.1 hmod4 (fun hne he => by simp only [Value.ownBlock, Option.some.injEq] at he; exact hg hne he.symm)
    have h5 := Bs.modne h4 hmod5 (fun _ he => by cases he)
    exact ⟨Bs.modne h5 (Mod.setCell w5 ⟨g4, (ys.length + 1) * 3 + 2, none⟩ (.slice A5 1 c5)) (fun hne he => (hold x hx hne (hg hne)).1 he), hx.2⟩
  refine ⟨?_, by rw [hl2]; simp; omega, by simp, fun he => by simp at he, by rw [hl2]; simp, ?_, ?_, ?_, ?_⟩
  · rw [hl2, hnx, ← List.append_assoc, ← h.sum, show 64 * (ys.length + 1) = j by omega]
  · rw [hl2, fullsP_next, List.map_append, h.full]
    congr 1
    simp only [List.map_cons, List.map_nil]
    rw [h.head, ← hd]
  · unfold RowP
    rw [show ((ys ++ [(⟨y.p, y.A, y.c, by0⟩ : PV)]) ++ [(⟨⟨false, false, [q]⟩, A5, c5, b5⟩ : PV)]).length = ys.length + 1 + 1 by simp]
    exact hr5
  · exact hrow5.mod (Mod.setCell w5 _ _) (fun i hi he => hg5 (hi.trans (congrArg some he)))
  · intro x hx
    rw [List.mem_append] at hx
    rcases hx with hx | hx
    · obtain ⟨hx1, hx3⟩ := h.ins x hx
      have hg : x.p.data ≠ [] → x.b ≠ g := fun hne e => (hx3 hne).2 (by rw [e]; rfl)
      refine ⟨hkeep x hx1 hg, fun hne => ⟨(hold x hx1 hne (hg hne)).2, fun e => ?_⟩⟩
      simp only [Value.ownBlock, Option.some.injEq] at e
      exact (hold x hx1 hne (hg hne)).1 e.symm
    · simp only [List.mem_singleton] at hx
      subst hx
      have hx1 : PV.In wr ⟨y.p, y.A, y.c, by0⟩ := ⟨hby, by simp only [maxLen]; omega⟩
      have hg : y.p.data ≠ [] → by0 ≠ g := fun hne e => by
        obtain ⟨i, hi⟩ := own_some h.own (by omega)
        have := hoy i hi
        exact own_apart h.row h.own (by decide) rfl (by rw [hi, this, e])
      refine ⟨hkeep _ hx1 hg, fun hne => ⟨(hold _ hx1 hne (hg hne)).2, fun e => ?_⟩⟩
      simp only [Value.ownBlock, Option.some.injEq] at e
      exact (hold _ hx1 hne (hg hne)).1 e.symm

set_option maxHeartbeats 4000000 in
set_option maxRecDepth 20000 in
theorem RSplit_calls (A : Option Addr) (l : List UInt8) (n c b : Nat) (w : World) (hs : Bs w b A l) (hn : l.length = n) (h1 : n ≤ 1024) :
    Calls Try.prog 13 #[.slice A n c] w fun e w' => ∃ v xs, e = .returned v ∧ xs.map PV.p = splitP l ∧ RowP 39 w' w.heap.size v xs ∧ (∀ x ∈ xs, PV.In w' x) ∧ Below w.heap.size w w' := by
  have HN := Lib.hid hn
  have hw0 := own_one w (.bool true) (.bool false) (.slice none 0 0) 39
  have hb0 := below_alloc1 w (.cells #[.bool true, .bool false, .slice none 0 0] 39)
  have hbl : l ≠ [] → b < w.heap.size := fun h => Bs.lt hs h
  have hR0 : RAt (w.alloc (.cells #[.bool true, .bool false, .slice none 0 0] 39)) w.heap.size l 0 (.slice (some ⟨w.heap.size, 0, none⟩) 1 1) [] ⟨⟨true, false, []⟩, none, 0, 0⟩ :=
    ⟨by simp, by simp, by simp, fun _ => rfl, rfl, rfl, hw0, Row.nil_ _ _, by simp⟩
  have HBL := Lib.hid hbl
  clear hn hw0 hbl
  go_enter Try.func13, Try.ntmps13
  go_wp2_with fail
  go_loopw [3, 11] (fun v i wr => ∃ (j : Nat) (ys : List PV) (y : PV), j ≤ n ∧ i = .int .i64 j ∧ Hid (RAt wr w.heap.size l j v ys y) ∧ Below w.heap.size w wr) (fun _ i _ => n - (intOf i).toNat)
  case atStart => exact ⟨0, [], _, Nat.zero_le _, rfl, Lib.hid hR0, hb0⟩
  case round =>
    obtain ⟨j, ys, y, hj, rfl, hR, hb⟩ := hrel
    have hbs := hb.size
    have hrow := hR.out.row
    have hkl : (ys ++ [y]).length = ys.length + 1 := by simp
    unfold RowP at hrow
    rw [hkl] at hrow
    obtain ⟨g, cap, rfl, hgB, hgl, hgc, hcel, hfr, hcur, hset⟩ := own_setz hrow (by omega)
    have hk16 : 64 * ys.length ≤ 1024 := by have := hR.out.len; omega
    by_cases hlt : j < n
    · have hjl : j < l.length := by rw [HN.out]; exact hlt
      obtain ⟨off, rfl, hca⟩ := Bs.at_ (Sl.ext hs hb) hjl
      have ca := hca j hjl
      have hnx := take_drop_next l y.p.data j ys.length hjl hR.out.sum
      obtain ⟨q, hq⟩ : ∃ q, q = l[j] := ⟨_, rfl⟩
      rw [← hq] at ca hnx
      have c2 := hcel (ys.length * 3 + 2) _ (by
        have := pvs_at (ys ++ [y]) ys.length (by simp) 2 (by omega)
        rw [this]
        simp
        rfl)
      obtain ⟨k, hk⟩ : ∃ k, k = ys.length := ⟨_, rfl⟩
      obtain ⟨s, hs1⟩ : ∃ s, s = y.p.data.length := ⟨_, rfl⟩
      rw [← hk] at hk16 hnx c2 ⊢
      rw [← hs1] at c2
      have e18 := IntWalk.i64_in ((k : Int) + 1 - 1) (by omega)
      have e18b : (k : Int) + 1 - 1 = (k : Int) := by omega
      have HK := Lib.hid hk
      have HS := Lib.hid hs1
      have HNX := Lib.hid hnx
      have HSET := Lib.hid hset
      clear hca hq hcel hnx hset hk hs1 hrow hkl hR0
      by_cases h64 : s = 64
      · have e23 : ((s : Int) == 64) = true := by rw [h64]; rfl
        have hR1 := hR.out.row
        obtain ⟨Ay, cy, by0, hvy, -, -, -, -, hsy, hoy⟩ := hR.out.own.sl
        injection hvy with hvy1 hvy2 hvy3
        subst hvy1 hvy3
        clear hvy2
        have hlen1 : (ys ++ [y]).length = k + 1 := by rw [HK.out]; simp
        have e19 := IntWalk.i64_in ((k : Int) + 1 + 1 - 1) (by omega)
        have e19b : (k : Int) + 1 + 1 - 1 = (k : Int) + 1 := by omega
        have HL1 := Lib.hid hlen1
        rw [← HK.out] at hR1
        have hR1' := hR1
        clear hlen1 hR1
        go_wp2_with (refine at_caS 27 _ (stop_at ?_))
        refine ⟨?_⟩
        refine wpList_appP wr rfl (.tmp 24) (.tmp 26) rfl w.heap.size _ (k + 1) (ys ++ [y]) rfl HL1.out hR1' pz rfl _ rfl rfl (by omega) hbs ?_
        intro v4 w4 hrow4 hmod4 hat4
        have hlen4 : ((ys ++ [y]) ++ [pz]).length = k + 1 + 1 := by rw [List.length_append, HL1.out]; rfl
        unfold RowP at hrow4
        rw [hlen4] at hrow4
        obtain ⟨g4, cap4, rfl, hgB4, hgl4, hgc4, hcel4, hfr4, hcur4, hset4⟩ := own_setz hrow4 (by omega)
        have hc4 := hcel4 ((k + 1) * 3 + 2) (Value.slice none 0 0) (by
          have := pvs_at ((ys ++ [y]) ++ [pz]) (k + 1) (by rw [hlen4]; omega) 2 (by omega)
          rw [this, List.getElem_append_right (by rw [HL1.out]; omega)]
          simp [HL1.out, pz])
        have HROW4 := Lib.hid hrow4
        have HCUR4 := Lib.hid hcur4
        have HAT4 := Lib.hid hat4
        have hbw4 : w.heap.size ≤ w4.heap.size := Nat.le_trans hbs hmod4.size
        clear hcel4 hrow4 hset4 hcur4 hlen4 hat4 c2
        go_wp2_with (refine at_caS 40 _ (stop_at ?_))
        refine ⟨?_⟩
        refine wpList_app1 w4 rfl (.tmp 37) (.tmp 39) rfl w.heap.size _ [] rfl (Row.nil_ w4 _) q rfl rfl (by simp) hbw4 ?_
        intro v5 w5 hrow5 hmod5 hat5
        obtain ⟨cur4, hcur5⟩ := HCUR4.out
        have hb45 := hmod5.block g4 hgl4 (fun h => by cases h)
        replace hcur5 := hb45.trans hcur5
        have hf5 := frozen_of_row w5 g4 ((k + 1) * 3 + 2) _ _ hcur5
        have hc5 := (World.cell?_of_block hb45).trans hc4
        obtain ⟨A5, c5, b5, rfl, -, -, -, -, hs5, ho5⟩ := hrow5.sl
        have HROW5 := Lib.hid hrow5
        have HCUR5 := Lib.hid hcur5
        clear hrow5 hcur5
        go_wp2_with fail
        have hR9 := hR.out
        rw [← HK.out] at hR9
        have hat4' : (Value.slice (some ⟨g4, 0, none⟩) (k + 1 + 1) cap4).ownBlock = (Value.slice (some ⟨g, 0, none⟩) (k + 1) cap).ownBlock ∨ ∃ i, (Value.slice (some ⟨g4, 0, none⟩) (k + 1 + 1) cap4).ownBlock = some i ∧ wr.heap.size ≤ i := HAT4.out
        have hat5' : (Value.slice A5 1 c5).ownBlock = (Value.slice none 0 0).ownBlock ∨ ∃ i, (Value.slice A5 1 c5).ownBlock = some i ∧ w4.heap.size ≤ i := hat5
        have hmod4' : Mod (fun i => i = g) wr w4 := ⟨hmod4.os, hmod4.tape, hmod4.output, hmod4.size, fun i hi hn => hmod4.block i hi (fun h => hn (Option.some.inj (h.symm.trans (show (Value.slice (some ⟨g, 0, none⟩) (k + 1) cap).ownBlock = some g from rfl))))⟩
        have hfin := RAt.fresh (b5 := b5) hR9 HK.out (HS.out.symm.trans h64) (by have := HN.out; omega) hsy hoy hmod4 HROW4.out hat4' hmod5 HROW5.out hat5' HNX.out
        refine ⟨⟨j + 1, _, _, by omega, by go_num, Lib.hid hfin, ?_⟩, by simp [intOf]; omega⟩
        exact hb.trans (((hmod4'.trans hmod5 (S := fun i => i = g) (fun i _ h => h) (fun i _ h => by cases h)).trans (Mod.setCell w5 ⟨g4, (k + 1) * 3 + 2, none⟩ _) (S := fun i => i = g ∨ i = g4) (fun i _ h => .inl h) (fun i _ h => .inr h)).below hbs (fun i hi h => by rcases h with h | h <;> omega))
      · have e23 : ((s : Int) == 64) = false := by simp; omega
        have hownY := hR.out.own
        rw [← HS.out] at hownY
        go_wp2_with (refine at_caS 40 _ (stop_at ?_))
        refine ⟨?_⟩
        refine wpList_app1 wr rfl (.tmp 37) (.tmp 39) rfl w.heap.size _ y.p.data rfl hownY q rfl rfl (by have := hR.out.few; omega) hbs ?_
        intro v5 w5 hrow5 hmod5 hat5
        obtain ⟨curg, hcurg⟩ := hcur
        have hgy : (Value.slice y.A s y.c).ownBlock ≠ some g := own_apart hR.out.row hownY (by decide) rfl
        have hb45 := hmod5.block g hgl hgy
        have hcur5 := hb45.trans hcurg
        have hf5 := frozen_of_row w5 g (k * 3 + 2) _ _ hcur5
        have hc5 := (World.cell?_of_block hb45).trans c2
        obtain ⟨A5, c5, b5, rfl, -, -, -, -, hs5, ho5⟩ := hrow5.sl
        have HROW5 := Lib.hid hrow5
        have HCUR5 := Lib.hid hcur5
        clear hrow5 hcur5 c2 hcurg
        have hl5 : (y.p.data ++ [q]).length = s + 1 := by rw [List.length_append, ← HS.out]; rfl
        rw [hl5]
        have HL5 := Lib.hid hl5
        clear hl5
        go_wp2_with fail
        have hR9 := hR.out
        rw [← HK.out] at hR9
        have hat5' : (Value.slice A5 (s + 1) c5).ownBlock = (Value.slice y.A s y.c).ownBlock ∨ ∃ i, (Value.slice A5 (s + 1) c5).ownBlock = some i ∧ wr.heap.size ≤ i := by rw [← HL5.out]; exact hat5
        have hrow5 := HROW5.out
        rw [HL5.out] at hrow5
        have hfin := RAt.more (b5 := b5) hR9 HK.out HS.out h64 hmod5 hrow5 hat5' HNX.out
        refine ⟨⟨j + 1, _, _, by omega, by go_num, Lib.hid hfin, ?_⟩, by simp [intOf]; omega⟩
        exact hb.trans ((hmod5.trans (Mod.setCell w5 ⟨g, k * 3 + 2, none⟩ _) (S := fun i => w.heap.size ≤ i) (fun i _ h => (Row.lt hownY i h).1) (fun i _ h => by have h : i = g := h; omega)).below hbs (fun i hi h => by omega))
    · have hjn : j = n := by omega
      have hR9 := hR.out
      have c1 := hcel (ys.length * 3 + 1) _ (by
        have := pvs_at (ys ++ [y]) ys.length (by simp) 1 (by omega)
        rw [this]
        simp
        rfl)
      have f1 := hfr (ys.length * 3 + 1)
      have e18 := IntWalk.i64_in ((ys.length : Int) + 1 - 1) (by omega)
      have e18b : (ys.length : Int) + 1 - 1 = (ys.length : Int) := by omega
      have hlen := hR9.len
      have hfew := hR9.few
      have hsome := hR9.some_
      have hcn : cnt l.length = ys.length + 1 := by
        rw [HN.out]
        unfold cnt
        by_cases h0 : y.p.data.length = 0
        · have := hsome (List.eq_nil_of_length_eq_zero h0)
          rw [if_pos (by omega)]
          omega
        · rw [if_neg (by omega)]
          omega
      have hd : y.p.data = (l.drop (64 * ys.length)).take 64 := data_of hR9.sum hlen hfew (by have := HN.out; omega) (Or.inr (by rw [HN.out]; exact hjn))
      obtain ⟨Ay, cy, by0, hvy, -, -, -, -, hsy, hoy⟩ := hR9.own.sl
      injection hvy with hvy1 hvy2 hvy3
      subst hvy1 hvy3
      have hr5 := own_setz2 (by omega) hrow (ys.length * 3 + 1) (.bool true)
      rw [last_b y by0 ys, pvs_snoc_last ys ⟨y.p, y.A, y.c, by0⟩ true] at hr5
      have hHL := Lib.hid (And.intro hlen (And.intro hfew (And.intro hsome (And.intro hcn (And.intro hd (And.intro hr5 hR9))))))
      clear hlen hfew hsome hcn hd hr5 hR9 hvy2 hcel hset hrow hkl hR0
      go_wp2_with fail
      go_ret
      obtain ⟨hlen, hfew, hsome, hcn, hd, hr5, hR9⟩ := hHL.out
      have hm := Mod.setCell wr ⟨g, ys.length * 3 + 1, none⟩ (.bool true)
      refine ⟨_, rfl, ys ++ [⟨⟨y.p.first, true, y.p.data⟩, y.A, y.c, by0⟩], ?_, ?_, ?_, hb.trans (hm.below hbs (fun i hi h => by have h : i = g := h; omega))⟩
      · rw [fulls_split l _ hcn, List.map_append, hR9.full]
        congr 1
        simp only [List.map_cons, List.map_nil]
        rw [hR9.head, ← hd]
      · unfold RowP
        rw [show (ys ++ [(⟨⟨y.p.first, true, y.p.data⟩, y.A, y.c, by0⟩ : PV)]).length = ys.length + 1 by simp]
        exact hr5
      · intro x hx
        rw [List.mem_append] at hx
        rcases hx with hx | hx
        · obtain ⟨hx1, hx3⟩ := hR9.ins x hx
          exact ⟨Bs.modne hx1.1 hm (fun hne he => (hx3 hne).2 (congrArg some (Eq.symm he))), hx1.2⟩
        · simp only [List.mem_singleton] at hx
          subst hx
          refine ⟨Bs.modne hsy hm (fun hne he => ?_), by simp only [maxLen]; omega⟩
          obtain ⟨i, hi⟩ := own_some hR9.own (List.length_pos_iff.2 hne)
          have := hoy i hi
          exact own_apart hR9.row hR9.own (by decide) rfl (by rw [hi, this]; exact congrArg some he)
end Go.Proofs.Ytgkflgnlodhelaa
