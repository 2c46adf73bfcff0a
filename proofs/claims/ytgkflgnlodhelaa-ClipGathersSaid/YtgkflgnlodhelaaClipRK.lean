/- The reference's Put: as the plain basket says. Conditions: what it holds is no more than a message may be, each piece is full. -/
import Derived.Test.YtgkflgnlodhelaaClipH
import Derived.Deep.RegionLaw
namespace Go.Proofs.Ytgkflgnlodhelaa
open Go.RowKit

/-- As RIn; its pieces are full, and lie elsewhere. -/
structure RFull (w : World) (B h : Nat) (v : Value) (xs : List PV) (k : Bk) : Prop where
  rin : RIn w B h v xs k.leaving
  full : ∀ x ∈ xs, x.p.data.length = 64
  held : dataOf xs = k.held
  away : ∀ x ∈ xs, x.b ≠ h ∧ v.ownBlock ≠ some x.b
  none_ : xs = [] → v = .slice none 0 0
theorem RFull.ext {w w' : World} {B h : Nat} {v : Value} {xs : List PV} {k : Bk} (q : RFull w B h v xs k) (hm : Below w.heap.size w w') : RFull w' B h v xs k :=
  ⟨⟨q.rin.box.ext hm, ownsP_ext q.rin.row hm, fun x hx => (q.rin.ins x hx).ext hm⟩, q.full, q.held, q.away, q.none_⟩
theorem dataOf_len : ∀ (xs : List PV), (∀ x ∈ xs, x.p.data.length = 64) → (dataOf xs).length = 64 * xs.length
  | [], _ => rfl
  | x :: xs, h => by
    have h1 := dataOf_len xs (fun y hy => h y (by simp [hy]))
    have h2 := h x (by simp)
    have e : dataOf (x :: xs) = x.p.data ++ dataOf xs := rfl
    rw [e, List.length_append, h1, h2, List.length_cons]
    omega
theorem step_appP {ops : Array Oper} {o : Oper} {a : Act} {K : Act → World → Prop} {Q : Exit → Act → World → Prop} {E : Prop} (w : World) {u0 u1 u2 : Value} (hgd : o.guard = none) (s x : Operand)
    (ho : o.op = .call { callee := .builtin .append, args := #[s, x], argTypes := #[31, 31] })
    (B : Nat) (v : Value) (n : Nat) (ys : List PV) (hs : a.eval s = v) (hn : ys.length = n) (hown : RowP 39 w B v ys)
    (y : PV) (hu : [u0, u1, u2] = y.cells) (sz : Nat) (hsz : w.heap.size = sz) (hx : a.eval x = .slice (some ⟨sz, 0, none⟩) 1 1)
    (hlen : n ≤ 100) (hbase : B ≤ w.heap.size)
    (h : ∀ v' w', RowP 39 w' B v' (ys ++ [y]) → Mod (fun i => v.ownBlock = some i) w w' → (v'.ownBlock = v.ownBlock ∨ ∃ k, v'.ownBlock = some k ∧ w.heap.size ≤ k) → K (a.put o.dst v') w') :
    if Region.wanted o (yielded ops a.tmps) = true then Oper.wp Try.prog o a (w.alloc (.cells #[u0, u1, u2] 39)) K Q else E := by
  have hw : Region.wanted o (yielded ops a.tmps) = true := by simp [Region.wanted, hgd]
  rw [if_pos hw]
  subst hsz hn
  obtain ⟨i0, hi0, hz0, hz1, hz2⟩ := info_parts rpiece_info
  refine wp_append_sl (P := Try.prog) _ s x _ ho B 39 i0 _ 3 32 Try.underlying31 hi0 hz0 hz1 hz2 rfl (by omega) v ys.length (pvs ys) hs (World.ownsRow.alloc hown _) w.heap.size _ 1 1 y.cells hx
    (by rw [← hu]; exact Sl.cells_new w #[u0, u1, u2] _) rfl (fun h => by cases h) (by intro u hu'; simp [PV.cells] at hu'; rcases hu' with h | h | h <;> (subst h; rfl)) (by simp only [maxLen]; omega) (by omega) (by simp; omega) ?_
  intro v' w' h1 h2 h3
  refine h v' w' ?_ ((Mod.alloc (fun _ => False) w _).trans (Mod.of_grown h2) (fun i _ h => h.elim) (fun i _ h => h)) (h3.imp id fun h => ⟨_, h, by simp⟩)
  unfold RowP
  rw [List.length_append, pvs_append]
  exact h1

theorem box_apart {w : World} {B h n : Nat} {v r : Value} {sk : Bool} {xs : List Value} (q : BoxR w h v sk) (hr : w.ownsRow B 39 3 r n xs) : r.ownBlock ≠ some h := by
  intro e
  rcases hr.2 with ⟨rfl, _⟩ | ⟨k, cap, cur, rfl, _, hh, _⟩
  · cases e
  · simp only [Value.ownBlock, Option.some.injEq] at e
    subst e
    rw [q] at hh
    injection hh with hh
    injection hh with _ hh _
    exact absurd hh (by decide)

theorem RIn.more {w2 w3 : World} {B h g3 cap3 n b c : Nat} {v : Value} {xs : List PV} {k : Bk} {fi la : Bool} {d : List UInt8} {A : Option Addr} (q : RFull w2 B h v xs k) (q3 : BoxR w3 h v k.leaving) (hrow : w3.ownsRow B 39 3 (.slice (some ⟨g3, 0, none⟩) (n + 1) cap3) (n + 1) (pvs (xs ++ [(⟨⟨fi, la, d⟩, A, c, b⟩ : PV)]))) (hn : n = xs.length)
    (hmod : Mod (fun i => v.ownBlock = some i) w2.drew w3) (hs : Bs w2 b A d) (hd : d.length ≤ maxLen) (hbh : b ≠ h) (hbv : v.ownBlock ≠ some b) :
    RIn ((w3.setCell ⟨h, 0, none⟩ (.slice (some ⟨g3, 0, none⟩) (n + 1) cap3)).setCell ⟨h, 1, none⟩ (.bool false)) B h (.slice (some ⟨g3, 0, none⟩) (n + 1) cap3) (xs ++ [(⟨⟨fi, la, d⟩, A, c, b⟩ : PV)]) false := by
  have hmS : Mod (fun i => i = h) w3 ((w3.setCell ⟨h, 0, none⟩ (.slice (some ⟨g3, 0, none⟩) (n + 1) cap3)).setCell ⟨h, 1, none⟩ (.bool false)) := (Mod.setCell w3 ⟨h, 0, none⟩ _).trans (Mod.setCell _ ⟨h, 1, none⟩ _) (fun i _ e => e) (fun i _ e => e)
  have hmod' : Mod (fun i => v.ownBlock = some i) w2 w3 := ⟨hmod.os, hmod.tape, hmod.output, hmod.size, hmod.block⟩
  refine ⟨(q3.set0 _).set1 _, ?_, ?_⟩
  · unfold RowP
    rw [show (xs ++ [(⟨⟨fi, la, d⟩, A, c, b⟩ : PV)]).length = n + 1 by simp [hn]]
    exact ownsP_mod hrow hmS (fun i hi e => box_apart q3 hrow (by rw [hi, show i = h from e]))
  · intro x hx
    rw [List.mem_append] at hx
    rcases hx with hx | hx
    · obtain ⟨h1, h2⟩ := q.rin.ins x hx
      obtain ⟨h3, h4⟩ := q.away x hx
      exact ⟨Bs.modne (Bs.modne h1 hmod' (fun _ e => h4 e)) hmS (fun _ e => h3 e), h2⟩
    · simp only [List.mem_singleton] at hx
      subst hx
      exact ⟨Bs.modne (Bs.modne hs hmod' (fun _ e => hbv e)) hmS (fun _ e => hbh e), hd⟩
theorem RFull.more {w2 w3 : World} {B h g3 cap3 n b c : Nat} {v : Value} {xs : List PV} {k : Bk} {fi la : Bool} {d : List UInt8} {A : Option Addr} (q : RFull w2 B h v xs k) (q3 : BoxR w3 h v k.leaving) (hrow : w3.ownsRow B 39 3 (.slice (some ⟨g3, 0, none⟩) (n + 1) cap3) (n + 1) (pvs (xs ++ [(⟨⟨fi, la, d⟩, A, c, b⟩ : PV)]))) (hn : n = xs.length)
    (hmod : Mod (fun i => v.ownBlock = some i) w2.drew w3) (hat : (Value.slice (some ⟨g3, 0, none⟩) (n + 1) cap3).ownBlock = v.ownBlock ∨ ∃ i, (Value.slice (some ⟨g3, 0, none⟩) (n + 1) cap3).ownBlock = some i ∧ w2.heap.size ≤ i) (hs : Bs w2 b A d) (hd : d.length = 64) (hbh : b ≠ h) (hbv : v.ownBlock ≠ some b) :
    RFull ((w3.setCell ⟨h, 0, none⟩ (.slice (some ⟨g3, 0, none⟩) (n + 1) cap3)).setCell ⟨h, 1, none⟩ (.bool false)) B h (.slice (some ⟨g3, 0, none⟩) (n + 1) cap3) (xs ++ [(⟨⟨fi, la, d⟩, A, c, b⟩ : PV)]) ⟨k.held ++ d, false⟩ := by
  refine ⟨RIn.more q q3 hrow hn hmod hs (by rw [hd]; simp [maxLen]) hbh hbv, ?_, ?_, ?_, ?_⟩
  · intro x hx
    rw [List.mem_append] at hx
    rcases hx with hx | hx
    · exact q.full x hx
    · simp only [List.mem_singleton] at hx
      subst hx
      exact hd
  · rw [dataOf_snoc, q.held]
  · intro x hx
    rw [List.mem_append] at hx
    have hfar : ∀ i, i < w2.heap.size → v.ownBlock ≠ some i → (Value.slice (some ⟨g3, 0, none⟩) (n + 1) cap3).ownBlock ≠ some i := by
      intro i hi hne
      rcases hat with e | ⟨j, e, hj⟩
      · rw [e]; exact hne
      · rw [e]; intro e2; injection e2 with e2; omega
    rcases hx with hx | hx
    · obtain ⟨h3, h4⟩ := q.away x hx
      exact ⟨h3, hfar _ (Bs.lt (q.rin.ins x hx).1 (by intro e; have := q.full x hx; rw [e] at this; simp at this)) h4⟩
    · simp only [List.mem_singleton] at hx
      subst hx
      exact ⟨hbh, hfar _ (Bs.lt hs (by intro e; rw [e] at hd; simp at hd)) hbv⟩
  · intro e
    simp at e

end Go.Proofs.Ytgkflgnlodhelaa
