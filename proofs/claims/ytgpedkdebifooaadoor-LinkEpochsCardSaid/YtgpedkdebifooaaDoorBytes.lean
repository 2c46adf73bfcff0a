/- The law on append at slices of bytes, in this program's numbers. Condition: the sum of the lengths fits. -/
import Derived.Test.YtgpedkdebifooaaDoorRows
import Derived.Test.YtgpedkdebifooaaDoorAppend
namespace Go.Proofs.YtgpedkdebifooaaDoor
open Go.RowKit

theorem byte_info : (Tryd.prog.info? 5).map (fun i => (i.zero, i.size, i.bytes)) = some (some (.int .u8 0), 1, 1) := by kernel_rfl

/-- The slice value v is the call's own (its block not below B), and holds the bytes l. -/
abbrev Row (w : World) (B : Nat) (v : Value) (l : List UInt8) : Prop := w.ownsRow B 5 1 v l.length (bv l)

theorem Row.nil_ (w : World) (B : Nat) : Row w B (.slice none 0 0) [] := World.ownsRow_nil _ _ _ _
theorem Row.cast {w : World} {B : Nat} {v : Value} {l l' : List UInt8} (h : Row w B v l) (e : l = l') : Row w B v l' := e ▸ h
theorem Row.lt {w : World} {B : Nat} {v : Value} {l : List UInt8} (h : Row w B v l) : ∀ k, v.ownBlock = some k → B ≤ k ∧ k < w.heap.size := World.ownsRow.lt h
theorem Row.mod {w w' : World} {B : Nat} {v : Value} {l : List UInt8} (h : Row w B v l) {S : Nat → Prop} (hm : Mod S w w') (hs : ∀ k, v.ownBlock = some k → ¬ S k) : Row w' B v l := by
  refine ⟨h.1, ?_⟩
  rcases h.2 with h2 | ⟨g, cap, cur, rfl, hg, hh, r⟩
  · exact .inl h2
  · exact .inr ⟨g, cap, cur, rfl, hg, by rw [hm.block g (Array.getElem?_eq_some_iff.1 hh).1 (hs g rfl)]; exact hh, r⟩
theorem Row.ext {w w' : World} {B : Nat} {v : Value} {l : List UInt8} (h : Row w B v l) (hm : Below w.heap.size w w') : Row w' B v l :=
  h.mod (Mod.of_below hm) fun k hk => by have := (h.lt k hk).2; omega
theorem Row.low {w : World} {B B' : Nat} {v : Value} {l : List UInt8} (h : Row w B v l) (hB : B' ≤ B) : Row w B' v l := by
  refine ⟨h.1, ?_⟩
  rcases h.2 with h2 | ⟨g, cap, cur, rfl, hg, r⟩
  · exact .inl h2
  · exact .inr ⟨g, cap, cur, rfl, by omega, r⟩
/-- What it reads as. -/
theorem Row.sl {w : World} {B : Nat} {v : Value} {l : List UInt8} (h : Row w B v l) : ∃ A c b, v = .slice A l.length c ∧ l.length ≤ c ∧ c ≤ maxLen ∧ (A = none → c = 0) ∧ B ≤ b ∧ Bs w b A l ∧ (∀ k, v.ownBlock = some k → k = b) := by
  rcases h.2 with ⟨rfl, hn⟩ | ⟨g, cap, cur, rfl, hb, _, hnc, hcm, _⟩
  · have hl : l = [] := List.eq_nil_of_length_eq_zero hn
    subst hl
    exact ⟨none, 0, B, rfl, Nat.le_refl _, by simp [maxLen], fun _ => rfl, Nat.le_refl _, Sl.nil_ _ _ _, by simp [Value.ownBlock]⟩
  · refine ⟨_, cap, g, rfl, hnc, hcm, by simp, hb, fun _ => ⟨0, rfl, fun j u hu => ?_⟩, by simp [Value.ownBlock]⟩
    have := h.cells (g := g) rfl j u hu
    simpa [Addr.add_lit] using this

theorem Row.blk_sl {w : World} {B n c b : Nat} {v : Value} {A : Option Addr} {l : List UInt8} (h : Row w B v l) (hv : v = .slice A n c) (hs : Bs w b A l) (hl : l ≠ []) : ∃ cur, w.heap[b]? = some (.cells cur 5 (0, 0)) := by
  obtain ⟨off, hA, _⟩ := hs (by rw [ne_eq, bv_nil_iff]; exact hl)
  rcases h.2 with ⟨_, hn⟩ | ⟨g, cap, cur, hg, _, hh, _⟩
  · exact absurd (List.eq_nil_of_length_eq_zero hn) hl
  · rw [hv] at hg
    injection hg with h1 _ _
    rw [hA] at h1
    injection h1 with h1
    injection h1 with h1 _ _
    subst h1
    exact ⟨cur, hh⟩
theorem Bs.modne {w w' : World} {b : Nat} {A : Option Addr} {l : List UInt8} (h : Bs w b A l) {S : Nat → Prop} (hm : Mod S w w') (hs : l ≠ [] → ¬ S b) : Bs w' b A l := by
  by_cases hl : l = []
  · subst hl; exact Sl.nil_ _ _ _
  · exact Sl.mod h hm (hs hl)
theorem Bs.lt {w : World} {b : Nat} {A : Option Addr} {l : List UInt8} (h : Bs w b A l) (hl : l ≠ []) : b < w.heap.size := Sl.lt h (by rw [ne_eq, bv_nil_iff]; exact hl)
/-- One of its bytes, written. -/
theorem Bs.set_ {w : World} {b off k : Nat} {l : List UInt8} {cur : Array Value} {t : TypeId} {q : UInt8} (hg : w.heap[b]? = some (.cells cur t (0, 0))) (h : Bs w b (some ⟨b, off, none⟩) l) (hk : k < l.length) :
    Bs (w.setCell ⟨b, off + k, none⟩ (.int .u8 (q.toNat : Int))) b (some ⟨b, off, none⟩) (l.set k q) ∧ (w.setCell ⟨b, off + k, none⟩ (.int .u8 (q.toNat : Int))).heap[b]? = some (.cells (cur.setIfInBounds (off + k) (.int .u8 (q.toNat : Int))) t (0, 0)) := by
  have h2 := heap_setCell_same w b (off + k) cur t (.int .u8 (q.toNat : Int)) hg
  refine ⟨fun _ => ⟨off, rfl, fun j u hu => ?_⟩, h2⟩
  rw [cell_of_row _ _ _ _ _ _ h2]
  have hj : j < l.length := by
    have := (List.getElem?_eq_some_iff.1 hu).1
    simpa using this
  obtain ⟨off', hA, hc⟩ := Bs.at_ h hj
  injection hA with hA
  injection hA with _ hA _
  subst hA
  have h3 := hc j hj
  rw [cell_of_row _ _ _ _ _ _ hg] at h3
  have hsz : off + j < cur.size := (Array.getElem?_eq_some_iff.1 h3).1
  have hsz2 : off + k < cur.size := by
    have h4 := hc k hk
    rw [cell_of_row _ _ _ _ _ _ hg] at h4
    exact (Array.getElem?_eq_some_iff.1 h4).1
  have hu2 : u = .int .u8 (((l.set k q)[j]'(by simpa using hj)).toNat : Int) := by
    have h5 : (bv (l.set k q))[j]? = some ((bv (l.set k q))[j]'(by simpa using hj)) := List.getElem?_eq_getElem _
    rw [h5, bv_get] at hu
    injection hu with hu
    exact hu.symm
  rw [hu2, Array.getElem?_setIfInBounds]
  by_cases e : j = k
  · subst e
    simp [hsz2]
  · rw [if_neg (by omega), h3, List.getElem_set_ne (by omega)]

section
variable (w : World)
theorem wpList_app {ops : Array Oper} {rest : List Oper} {o : Oper} {a : Act} {Q : Exit → Act → World → Prop} (hgd : o.guard = none) (s x : Operand)
    (ho : o.op = .call { callee := .builtin .append, args := #[s, x], argTypes := #[31, 31] })
    (B : Nat) (v : Value) (l : List UInt8) (hs : a.eval s = v) (hown : Row w B v l)
    (b : Nat) (A : Option Addr) (m c : Nat) (news : List UInt8) (hx : a.eval x = .slice A m c) (hr : Bs w b A news) (hm : news.length = m)
    (hlen : l.length + m ≤ 140737488355328) (hbase : B ≤ w.heap.size)
    (h : ∀ v' w', Row w' B v' (l ++ news) → Mod (fun i => v.ownBlock = some i) w w' → (v'.ownBlock = v.ownBlock ∨ v'.ownBlock = some w.heap.size) → wpList Tryd.prog ops Q rest (a.put o.dst v') w') : wpList Tryd.prog ops Q (o :: rest) a w := by
  obtain ⟨i0, hi0, hz0, hz1, hz2⟩ := info_parts byte_info
  refine wpList_append_sl (P := Tryd.prog) w hgd s x _ ho B 5 i0 _ 1 1 Tryd.underlying31 hi0 hz0 hz1 hz2 rfl (by omega) v l.length (bv l) hs hown b A m c (bv news) hx hr (by simp [hm]) (Sl.none_len hr (by simp [hm])) (bv_one _)
    (by simp only [maxLen]; omega) (by omega) hbase ?_
  intro v' w' h1 h2 h3
  exact h v' w' (by unfold Row; rw [List.length_append, hm, bv_append]; exact h1) (Mod.of_grown h2) h3

/-- append(out, x) of one byte, which lies in a new block of its own. -/
theorem wpList_app1 {u : Value} {ops : Array Oper} {rest : List Oper} {o : Oper} {a : Act} {Q : Exit → Act → World → Prop} (hgd : o.guard = none) (s x : Operand)
    (ho : o.op = .call { callee := .builtin .append, args := #[s, x], argTypes := #[31, 31] })
    (B : Nat) (v : Value) (l : List UInt8) (hs : a.eval s = v) (hown : Row w B v l)
    (q : UInt8) (hu : u = .int .u8 (q.toNat : Int)) (hx : a.eval x = .slice (some ⟨w.heap.size, 0, none⟩) 1 1)
    (hlen : l.length + 1 ≤ 140737488355328) (hbase : B ≤ w.heap.size)
    (h : ∀ v' w', Row w' B v' (l ++ [q]) → Mod (fun i => v.ownBlock = some i) w w' → (v'.ownBlock = v.ownBlock ∨ ∃ k, v'.ownBlock = some k ∧ w.heap.size ≤ k) → wpList Tryd.prog ops Q rest (a.put o.dst v') w') : wpList Tryd.prog ops Q (o :: rest) a (w.alloc (.cells #[u] 5)) := by
  subst hu
  refine wpList_app (w.alloc (.cells #[.int .u8 (q.toNat : Int)] 5)) hgd s x ho B v l hs (World.ownsRow.alloc hown _) w.heap.size _ 1 1 [q] hx (Sl.one_new w _ _) rfl hlen (by simp; omega) ?_
  intro v' w' h1 h2 h3
  refine h v' w' h1 ((Mod.alloc (fun _ => False) w _).trans h2 (fun i _ h => h.elim) (fun i _ h => h)) (h3.imp id fun h => ⟨_, h, by simp⟩)
end
end Go.Proofs.YtgpedkdebifooaaDoor
