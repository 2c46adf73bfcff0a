/- Words for memory that every proof of this seat uses: which blocks a call may have turned (Mod), a slice that reads as a list (Sl), bytes as values (bv). No condition: plain lemmas. -/
import Derived.WalkKit
import Derived.WalkSpells
import Derived.WalkLawsBesides
import Derived.Deep.Draws
import Derived.Maps.AppendAt
import Derived.Deep.AppendLies
import Derived.Laws.Rows
import Derived.Lib.Hide
import Derived.Deep.QuietTactic
import Derived.BigQuiet
import Derived.IntWalk
namespace Go.Proofs.YtgpedkdebifooaaDoor
open Go.RowKit

/-- Of what was there, only blocks of S may have turned. -/
structure Mod (S : Nat → Prop) (w w' : World) : Prop where
  os : w'.os = w.os
  tape : w'.tape = w.tape
  output : w'.output = w.output
  size : w.heap.size ≤ w'.heap.size
  block : ∀ k, k < w.heap.size → ¬ S k → w'.heap[k]? = w.heap[k]?

namespace Mod
theorem refl (S : Nat → Prop) (w : World) : Mod S w w := ⟨rfl, rfl, rfl, Nat.le_refl _, fun _ _ _ => rfl⟩
theorem trans {S S1 S2 : Nat → Prop} {a b c : World} (h : Mod S1 a b) (k : Mod S2 b c) (h1 : ∀ i, i < a.heap.size → S1 i → S i) (h2 : ∀ i, i < a.heap.size → S2 i → S i) : Mod S a c :=
  ⟨k.os.trans h.os, k.tape.trans h.tape, k.output.trans h.output, Nat.le_trans h.size k.size,
    fun i hi hn => (k.block i (Nat.lt_of_lt_of_le hi h.size) (fun e => hn (h2 i hi e))).trans (h.block i hi (fun e => hn (h1 i hi e)))⟩
theorem mono {S T : Nat → Prop} {a b : World} (h : Mod S a b) (hs : ∀ i, i < a.heap.size → S i → T i) : Mod T a b :=
  ⟨h.os, h.tape, h.output, h.size, fun i hi hn => h.block i hi (fun e => hn (hs i hi e))⟩
theorem of_below {B : Nat} {a b : World} (h : Below B a b) : Mod (fun i => B ≤ i) a b :=
  ⟨h.os, h.tape, h.output, h.size, fun i _ hn => h.block i (by omega)⟩
theorem below {S : Nat → Prop} {B : Nat} {a b : World} (h : Mod S a b) (hB : B ≤ a.heap.size) (hs : ∀ i, i < B → ¬ S i) : Below B a b :=
  ⟨h.os, h.tape, h.output, h.size, fun i hi => h.block i (by omega) (hs i hi)⟩
theorem of_grown {row : Option Nat} {a b : World} (h : a.grownBy b row) : Mod (fun i => row = some i) a b :=
  ⟨h.os, h.tape, h.output, h.size, fun i hi hn => h.block i hi (fun e => hn e.symm)⟩
theorem setCell (w : World) (p : Addr) (u : Value) : Mod (fun i => i = p.block) w (w.setCell p u) :=
  ⟨rfl, rfl, rfl, by simp [World.setCell], fun i _ hn => Below.heap_setCell w p u i hn⟩
theorem alloc (S : Nat → Prop) (w : World) (o : Obj) : Mod S w (w.alloc o) :=
  ⟨rfl, rfl, rfl, by simp, fun i hi _ => Below.heap_alloc w o i hi⟩
theorem drew (S : Nat → Prop) (w : World) : Mod S w w.drew := ⟨rfl, rfl, rfl, Nat.le_refl _, fun _ _ _ => rfl⟩
theorem drewN (S : Nat → Prop) (w : World) (n : Nat) : Mod S w (w.drewN n) := ⟨rfl, rfl, rfl, Nat.le_refl _, fun _ _ _ => rfl⟩
end Mod

theorem below_drew {B : Nat} {a w : World} (h : Below B a w) : Below B a w.drew := ⟨h.os, h.tape, h.output, h.size, h.block⟩
theorem below_alloc2 (w : World) (a b : Obj) : Below w.heap.size w ((w.alloc a).alloc b) := ((Below.refl _ _).alloc (Nat.le_refl _) _).alloc (by simp) _
theorem below_alloc1 (w : World) (a : Obj) : Below w.heap.size w (w.alloc a) := (Below.refl _ _).alloc (Nat.le_refl _) _
theorem below_alloc3 (w : World) (a b c : Obj) : Below w.heap.size w (((w.alloc a).alloc b).alloc c) := (((Below.refl _ _).alloc (Nat.le_refl _) _).alloc (by simp) _).alloc (by simp; omega) _
theorem below_drewN {B : Nat} {a w : World} (h : Below B a w) (n : Nat) : Below B a (w.drewN n) := ⟨h.os, h.tape, h.output, h.size, h.block⟩

/-- The slice's address A leads to the cells xs, all in block b (nothing is said of an empty one). -/
def Sl (w : World) (b : Nat) (A : Option Addr) (xs : List Value) : Prop :=
  xs ≠ [] → ∃ off, A = some ⟨b, off, none⟩ ∧ ∀ j u, xs[j]? = some u → w.cell? ⟨b, off + j, none⟩ = some u

namespace Sl
variable {w w' : World} {b : Nat} {A : Option Addr} {xs : List Value}
theorem nil_ (w : World) (b : Nat) (A : Option Addr) : Sl w b A [] := fun h => absurd rfl h
theorem lt (h : Sl w b A xs) (hx : xs ≠ []) : b < w.heap.size := by
  obtain ⟨off, _, hc⟩ := h hx
  obtain ⟨x, l, rfl⟩ := List.exists_cons_of_ne_nil hx
  exact World.block_lt_of_cell? w _ (hc 0 x (by simp))
theorem keep (h : Sl w b A xs) (hk : b < w.heap.size → w'.heap[b]? = w.heap[b]?) : Sl w' b A xs := fun hx => by
  have hlt := h.lt hx
  obtain ⟨off, e, hc⟩ := h hx
  exact ⟨off, e, fun j u hu => (World.cell?_of_block (hk hlt)).trans (hc j u hu)⟩
theorem mod {S : Nat → Prop} (h : Sl w b A xs) (hm : Mod S w w') (hs : ¬ S b) : Sl w' b A xs := h.keep fun hlt => hm.block b hlt hs
theorem below {B : Nat} (h : Sl w b A xs) (hm : Below B w w') (hs : b < B) : Sl w' b A xs := h.keep fun _ => hm.block b hs
theorem ext (h : Sl w b A xs) (hm : Below w.heap.size w w') : Sl w' b A xs := h.keep fun hlt => hm.block b hlt
theorem drew (h : Sl w b A xs) : Sl w.drew b A xs := h
theorem drewN (h : Sl w b A xs) (n : Nat) : Sl (w.drewN n) b A xs := h
theorem alloc (h : Sl w b A xs) (o : Obj) : Sl (w.alloc o) b A xs := h.keep fun hlt => Below.heap_alloc w o b hlt
theorem setCell (h : Sl w b A xs) {p : Addr} (hp : b ≠ p.block) (u : Value) : Sl (w.setCell p u) b A xs := h.keep fun _ => Below.heap_setCell w p u b hp
theorem at_ (h : Sl w b A xs) {k : Nat} (hk : k < xs.length) : ∃ off, A = some ⟨b, off, none⟩ ∧ w.cell? ⟨b, off + k, none⟩ = some xs[k] ∧ ∀ j (hj : j < xs.length), w.cell? ⟨b, off + j, none⟩ = some xs[j] := by
  obtain ⟨off, e, hc⟩ := h (by rintro rfl; simp at hk)
  exact ⟨off, e, hc k _ (List.getElem?_eq_getElem hk), fun j hj => hc j _ (List.getElem?_eq_getElem hj)⟩
/-- What 's[k:]' of it reads as, the model's 'if' kept. -/
theorem drop (h : Sl w b A xs) {k cap : Nat} (hc : xs.length ≤ cap) : Sl w b (if cap = k then A else A.map (·.add k)) (xs.drop k) := fun hx => by
  have hk : k < xs.length := by
    rcases Nat.lt_or_ge k xs.length with h1 | h1
    · exact h1
    · exact absurd (List.drop_eq_nil_of_le h1) hx
  obtain ⟨off, rfl, hcell⟩ := h (by rintro rfl; simp at hk)
  rw [if_neg (by omega)]
  refine ⟨off + k, ?_, fun j u hu => ?_⟩
  · simp [Addr.add_lit]
  · rw [Nat.add_assoc]
    exact hcell (k + j) u (by rw [← hu, List.getElem?_drop])
theorem take (h : Sl w b A xs) (k : Nat) : Sl w b A (xs.take k) := fun hx => by
  obtain ⟨off, e, hc⟩ := h (by rintro rfl; simp at hx)
  exact ⟨off, e, fun j u hu => hc j u (by rw [List.getElem?_take] at hu; split at hu <;> first | exact hu | cases hu)⟩
theorem of_own {base : Nat} {e : TypeId} {n c : Nat} (h : w.ownsRow base e 1 (.slice A n c) n xs) : ∃ g, Sl w g A xs ∧ ∀ k, (Value.slice A n c).ownBlock = some k → k = g := by
  rcases h.2 with ⟨hv, hn⟩ | ⟨g, cap, cur, hv, _⟩
  · have hx : xs = [] := List.eq_nil_of_length_eq_zero (by simpa [hn] using h.1)
    subst hx
    injection hv with hA
    subst hA
    exact ⟨0, nil_ _ _ _, by simp [Value.ownBlock]⟩
  · injection hv with hA hn hc
    subst hA
    refine ⟨g, fun _ => ⟨0, rfl, fun j u hu => ?_⟩, by simp [Value.ownBlock]⟩
    have := h.cells (g := g) rfl j u hu
    simpa [Addr.add_lit] using this
end Sl

/-- Bytes as values. -/
def bv (l : List UInt8) : List Value := l.map fun x => .int .u8 (x.toNat : Int)
@[simp] theorem bv_length (l : List UInt8) : (bv l).length = l.length := by simp [bv]
@[simp] theorem bv_nil : bv [] = [] := rfl
theorem bv_append (a b : List UInt8) : bv (a ++ b) = bv a ++ bv b := by simp [bv]
theorem bv_get (l : List UInt8) (k : Nat) (h : k < (bv l).length) : (bv l)[k] = .int .u8 ((l[k]'(by simpa using h)).toNat : Int) := by simp [bv]
theorem bv_take (l : List UInt8) (k : Nat) : (bv l).take k = bv (l.take k) := by simp [bv]
theorem bv_drop (l : List UInt8) (k : Nat) : (bv l).drop k = bv (l.drop k) := by simp [bv]
theorem bv_one (l : List UInt8) : ∀ u ∈ bv l, u.oneCell' = true := by
  intro u hu
  obtain ⟨_, _, rfl⟩ := List.mem_map.1 hu
  rfl
theorem bv_nil_iff (l : List UInt8) : bv l = [] ↔ l = [] := by simp [bv]

/-- A slice of bytes: its address, the block it lies in. -/
abbrev Bs (w : World) (b : Nat) (A : Option Addr) (l : List UInt8) : Prop := Sl w b A (bv l)

theorem Bs.at_ {w : World} {b : Nat} {A : Option Addr} {l : List UInt8} (h : Bs w b A l) {k : Nat} (hk : k < l.length) :
    ∃ off, A = some ⟨b, off, none⟩ ∧ ∀ j (hj : j < l.length), w.cell? ⟨b, off + j, none⟩ = some (.int .u8 (l[j].toNat : Int)) := by
  obtain ⟨off, e, _, hc⟩ := Sl.at_ h (k := k) (by simpa using hk)
  exact ⟨off, e, fun j hj => by rw [hc j (by simpa using hj), bv_get]⟩

/-- A new slice of bytes that a call hands back: its block is new. -/
def NewBs (B : Nat) (w' : World) (v : Value) (l : List UInt8) : Prop :=
  ∃ A c b, v = .slice A l.length c ∧ l.length ≤ c ∧ c ≤ maxLen ∧ B ≤ b ∧ Sl w' b A (bv l)

theorem NewBs.of_own {B : Nat} {w' : World} {v : Value} {l : List UInt8} {e : TypeId} (h : w'.ownsRow B e 1 v l.length (bv l)) : NewBs B w' v l := by
  rcases h.2 with ⟨rfl, hn⟩ | ⟨g, cap, cur, rfl, hb, _, hnc, hcm, _⟩
  · have hl : l = [] := List.eq_nil_of_length_eq_zero hn
    subst hl
    exact ⟨none, 0, B, rfl, Nat.le_refl _, by simp [maxLen], Nat.le_refl _, Sl.nil_ _ _ _⟩
  · refine ⟨_, cap, g, rfl, hnc, hcm, hb, fun _ => ⟨0, rfl, fun j u hu => ?_⟩⟩
    have := h.cells (g := g) rfl j u hu
    simpa [Addr.add_lit] using this

theorem u8_ofNat (n : Nat) : ((UInt8.ofNat n).toNat : Int) = (n : Int) % 256 := by
  simp [UInt8.toNat_ofNat']
end Go.Proofs.YtgpedkdebifooaaDoor
