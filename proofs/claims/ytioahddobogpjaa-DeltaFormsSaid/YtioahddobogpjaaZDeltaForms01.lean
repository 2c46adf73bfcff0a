/- Parts of one proof, in their order. -/
import Derived.WalkKit
import Derived.WalkSpells
import Derived.WalkLawsBesides
import Derived.Deep.Draws
import Derived.Maps.AppendAt
import Derived.Deep.AppendLies
import Derived.Laws.Rows
import Derived.Lib.Hide
import Derived.Deep.QuietTactic
import Derived.BigQuiet
import Derived.IntWalk
import Derived.Test.YtioahddobogpjaaRows
import Derived.Deep.MidRow
import Derived.Lib.TrailingZeros
import Derived.Lib.Join
import Derived.Lib.ItoaNum
/- Words for memory that every proof of this seat uses: which blocks a call may have turned (Mod), a slice that reads as a list (Sl), bytes as values (bv). No condition: plain lemmas. -/
namespace Go.Proofs.Ytioahddobogpjaa
open Go.RowKit

/-- Of what was there, only blocks of S may have turned. -/
structure Mod (S : Nat → Prop) (w w' : World) : Prop where
  os : w'.os = w.os
  tape : w'.tape = w.tape
  output : w'.output = w.output
  size : w.heap.size ≤ w'.heap.size
  block : ∀ k, k < w.heap.size → ¬ S k → w'.heap[k]? = w.heap[k]?

namespace Mod
theorem refl (S : Nat → Prop) (w : World) : Mod S w w := ⟨rfl, rfl, rfl, Nat.le_refl _, fun _ _ _ => rfl⟩
theorem trans {S S1 S2 : Nat → Prop} {a b c : World} (h : Mod S1 a b) (k : Mod S2 b c) (h1 : ∀ i, i < a.heap.size → S1 i → S i) (h2 : ∀ i, i < a.heap.size → S2 i → S i) : Mod S a c :=
  ⟨k.os.trans h.os, k.tape.trans h.tape, k.output.trans h.output, Nat.le_trans h.size k.size,
    fun i hi hn => (k.block i (Nat.lt_of_lt_of_le hi h.size) (fun e => hn (h2 i hi e))).trans (h.block i hi (fun e => hn (h1 i hi e)))⟩
theorem mono {S T : Nat → Prop} {a b : World} (h : Mod S a b) (hs : ∀ i, i < a.heap.size → S i → T i) : Mod T a b :=
  ⟨h.os, h.tape, h.output, h.size, fun i hi hn => h.block i hi (fun e => hn (hs i hi e))⟩
theorem of_below {B : Nat} {a b : World} (h : Below B a b) : Mod (fun i => B ≤ i) a b :=
  ⟨h.os, h.tape, h.output, h.size, fun i _ hn => h.block i (by omega)⟩
theorem below {S : Nat → Prop} {B : Nat} {a b : World} (h : Mod S a b) (hB : B ≤ a.heap.size) (hs : ∀ i, i < B → ¬ S i) : Below B a b :=
  ⟨h.os, h.tape, h.output, h.size, fun i hi => h.block i (by omega) (hs i hi)⟩
theorem of_grown {row : Option Nat} {a b : World} (h : a.grownBy b row) : Mod (fun i => row = some i) a b :=
  ⟨h.os, h.tape, h.output, h.size, fun i hi hn => h.block i hi (fun e => hn e.symm)⟩
theorem setCell (w : World) (p : Addr) (u : Value) : Mod (fun i => i = p.block) w (w.setCell p u) :=
  ⟨rfl, rfl, rfl, by simp [World.setCell], fun i _ hn => Below.heap_setCell w p u i hn⟩
theorem alloc (S : Nat → Prop) (w : World) (o : Obj) : Mod S w (w.alloc o) :=
  ⟨rfl, rfl, rfl, by simp, fun i hi _ => Below.heap_alloc w o i hi⟩
theorem drew (S : Nat → Prop) (w : World) : Mod S w w.drew := ⟨rfl, rfl, rfl, Nat.le_refl _, fun _ _ _ => rfl⟩
theorem drewN (S : Nat → Prop) (w : World) (n : Nat) : Mod S w (w.drewN n) := ⟨rfl, rfl, rfl, Nat.le_refl _, fun _ _ _ => rfl⟩
end Mod

theorem below_drew {B : Nat} {a w : World} (h : Below B a w) : Below B a w.drew := ⟨h.os, h.tape, h.output, h.size, h.block⟩
theorem below_alloc2 (w : World) (a b : Obj) : Below w.heap.size w ((w.alloc a).alloc b) := ((Below.refl _ _).alloc (Nat.le_refl _) _).alloc (by simp) _
theorem below_alloc1 (w : World) (a : Obj) : Below w.heap.size w (w.alloc a) := (Below.refl _ _).alloc (Nat.le_refl _) _
theorem below_alloc3 (w : World) (a b c : Obj) : Below w.heap.size w (((w.alloc a).alloc b).alloc c) := (((Below.refl _ _).alloc (Nat.le_refl _) _).alloc (by simp) _).alloc (by simp; omega) _
theorem below_drewN {B : Nat} {a w : World} (h : Below B a w) (n : Nat) : Below B a (w.drewN n) := ⟨h.os, h.tape, h.output, h.size, h.block⟩

/-- The slice's address A leads to the cells xs, all in block b (nothing is said of an empty one). -/
def Sl (w : World) (b : Nat) (A : Option Addr) (xs : List Value) : Prop :=
  xs ≠ [] → ∃ off, A = some ⟨b, off, none⟩ ∧ ∀ j u, xs[j]? = some u → w.cell? ⟨b, off + j, none⟩ = some u

namespace Sl
variable {w w' : World} {b : Nat} {A : Option Addr} {xs : List Value}
theorem nil_ (w : World) (b : Nat) (A : Option Addr) : Sl w b A [] := fun h => absurd rfl h
theorem lt (h : Sl w b A xs) (hx : xs ≠ []) : b < w.heap.size := by
  obtain ⟨off, _, hc⟩ := h hx
  obtain ⟨x, l, rfl⟩ := List.exists_cons_of_ne_nil hx
  exact World.block_lt_of_cell? w _ (hc 0 x (by simp))
theorem keep (h : Sl w b A xs) (hk : b < w.heap.size → w'.heap[b]? = w.heap[b]?) : Sl w' b A xs := fun hx => by
  have hlt := h.lt hx
  obtain ⟨off, e, hc⟩ := h hx
  exact ⟨off, e, fun j u hu => (World.cell?_of_block (hk hlt)).trans (hc j u hu)⟩
theorem mod {S : Nat → Prop} (h : Sl w b A xs) (hm : Mod S w w') (hs : ¬ S b) : Sl w' b A xs := h.keep fun hlt => hm.block b hlt hs
theorem below {B : Nat} (h : Sl w b A xs) (hm : Below B w w') (hs : b < B) : Sl w' b A xs := h.keep fun _ => hm.block b hs
theorem ext (h : Sl w b A xs) (hm : Below w.heap.size w w') : Sl w' b A xs := h.keep fun hlt => hm.block b hlt
theorem drew (h : Sl w b A xs) : Sl w.drew b A xs := h
theorem drewN (h : Sl w b A xs) (n : Nat) : Sl (w.drewN n) b A xs := h
theorem alloc (h : Sl w b A xs) (o : Obj) : Sl (w.alloc o) b A xs := h.keep fun hlt => Below.heap_alloc w o b hlt
theorem setCell (h : Sl w b A xs) {p : Addr} (hp : b ≠ p.block) (u : Value) : Sl (w.setCell p u) b A xs := h.keep fun _ => Below.heap_setCell w p u b hp
theorem at_ (h : Sl w b A xs) {k : Nat} (hk : k < xs.length) : ∃ off, A = some ⟨b, off, none⟩ ∧ w.cell? ⟨b, off + k, none⟩ = some xs[k] ∧ ∀ j (hj : j < xs.length), w.cell? ⟨b, off + j, none⟩ = some xs[j] := by
  obtain ⟨off, e, hc⟩ := h (by rintro rfl; simp at hk)
  exact ⟨off, e, hc k _ (List.getElem?_eq_getElem hk), fun j hj => hc j _ (List.getElem?_eq_getElem hj)⟩
/-- What 's[k:]' of it reads as, the model's 'if' kept. -/
theorem drop (h : Sl w b A xs) {k cap : Nat} (hc : xs.length ≤ cap) : Sl w b (if cap = k then A else A.map (·.add k)) (xs.drop k) := fun hx => by
  have hk : k < xs.length := by
    rcases Nat.lt_or_ge k xs.length with h1 | h1
    · exact h1
    · exact absurd (List.drop_eq_nil_of_le h1) hx
  obtain ⟨off, rfl, hcell⟩ := h (by rintro rfl; simp at hk)
  rw [if_neg (by omega)]
  refine ⟨off + k, ?_, fun j u hu => ?_⟩
  · simp [Addr.add_lit]
  · rw [Nat.add_assoc]
    exact hcell (k + j) u (by rw [← hu, List.getElem?_drop])
theorem take (h : Sl w b A xs) (k : Nat) : Sl w b A (xs.take k) := fun hx => by
  obtain ⟨off, e, hc⟩ := h (by rintro rfl; simp at hx)
  exact ⟨off, e, fun j u hu => hc j u (by rw [List.getElem?_take] at hu; split at hu <;> first | exact hu | cases hu)⟩
theorem of_own {base : Nat} {e : TypeId} {n c : Nat} (h : w.ownsRow base e 1 (.slice A n c) n xs) : ∃ g, Sl w g A xs ∧ ∀ k, (Value.slice A n c).ownBlock = some k → k = g := by
  rcases h.2 with ⟨hv, hn⟩ | ⟨g, cap, cur, hv, _⟩
  · have hx : xs = [] := List.eq_nil_of_length_eq_zero (by simpa [hn] using h.1)
    subst hx
    injection hv with hA
    subst hA
    exact ⟨0, nil_ _ _ _, by simp [Value.ownBlock]⟩
  · injection hv with hA hn hc
    subst hA
    refine ⟨g, fun _ => ⟨0, rfl, fun j u hu => ?_⟩, by simp [Value.ownBlock]⟩
    have := h.cells (g := g) rfl j u hu
    simpa [Addr.add_lit] using this
end Sl

/-- Bytes as values. -/
def bv (l : List UInt8) : List Value := l.map fun x => .int .u8 (x.toNat : Int)
@[simp] theorem bv_length (l : List UInt8) : (bv l).length = l.length := by simp [bv]
@[simp] theorem bv_nil : bv [] = [] := rfl
theorem bv_append (a b : List UInt8) : bv (a ++ b) = bv a ++ bv b := by simp [bv]
theorem bv_get (l : List UInt8) (k : Nat) (h : k < (bv l).length) : (bv l)[k] = .int .u8 ((l[k]'(by simpa using h)).toNat : Int) := by simp [bv]
theorem bv_take (l : List UInt8) (k : Nat) : (bv l).take k = bv (l.take k) := by simp [bv]
theorem bv_drop (l : List UInt8) (k : Nat) : (bv l).drop k = bv (l.drop k) := by simp [bv]
theorem bv_one (l : List UInt8) : ∀ u ∈ bv l, u.oneCell' = true := by
  intro u hu
  obtain ⟨_, _, rfl⟩ := List.mem_map.1 hu
  rfl
theorem bv_nil_iff (l : List UInt8) : bv l = [] ↔ l = [] := by simp [bv]

/-- A slice of bytes: its address, the block it lies in. -/
abbrev Bs (w : World) (b : Nat) (A : Option Addr) (l : List UInt8) : Prop := Sl w b A (bv l)

theorem Bs.at_ {w : World} {b : Nat} {A : Option Addr} {l : List UInt8} (h : Bs w b A l) {k : Nat} (hk : k < l.length) :
    ∃ off, A = some ⟨b, off, none⟩ ∧ ∀ j (hj : j < l.length), w.cell? ⟨b, off + j, none⟩ = some (.int .u8 (l[j].toNat : Int)) := by
  obtain ⟨off, e, _, hc⟩ := Sl.at_ h (k := k) (by simpa using hk)
  exact ⟨off, e, fun j hj => by rw [hc j (by simpa using hj), bv_get]⟩

/-- A new slice of bytes that a call hands back: its block is new. -/
def NewBs (B : Nat) (w' : World) (v : Value) (l : List UInt8) : Prop :=
  ∃ A c b, v = .slice A l.length c ∧ l.length ≤ c ∧ c ≤ maxLen ∧ B ≤ b ∧ Sl w' b A (bv l)

theorem NewBs.of_own {B : Nat} {w' : World} {v : Value} {l : List UInt8} {e : TypeId} (h : w'.ownsRow B e 1 v l.length (bv l)) : NewBs B w' v l := by
  rcases h.2 with ⟨rfl, hn⟩ | ⟨g, cap, cur, rfl, hb, _, hnc, hcm, _⟩
  · have hl : l = [] := List.eq_nil_of_length_eq_zero hn
    subst hl
    exact ⟨none, 0, B, rfl, Nat.le_refl _, by simp [maxLen], Nat.le_refl _, Sl.nil_ _ _ _⟩
  · refine ⟨_, cap, g, rfl, hnc, hcm, hb, fun _ => ⟨0, rfl, fun j u hu => ?_⟩⟩
    have := h.cells (g := g) rfl j u hu
    simpa [Addr.add_lit] using this

theorem u8_ofNat (n : Nat) : ((UInt8.ofNat n).toNat : Int) = (n : Int) % 256 := by
  simp [UInt8.toNat_ofNat']
end Go.Proofs.Ytioahddobogpjaa
/- A variable that lies in a block of one cell: what it reads as, and how that stays. No condition. -/
namespace Go.Proofs.Ytioahddobogpjaa
open Go.RowKit

/-- Block g is one cell, v. -/
def Box (w : World) (g : Nat) (v : Value) (t : TypeId) : Prop := w.heap[g]? = some (.cells #[v] t (0, 0))
namespace Box
variable {w w' : World} {g : Nat} {v : Value} {t : TypeId}
theorem new_ (w : World) (v : Value) (t : TypeId) : Box (w.alloc (.cells #[v] t)) w.heap.size v t := heap_alloc_new w _
theorem lt (h : Box w g v t) : g < w.heap.size := (Array.getElem?_eq_some_iff.1 h).1
theorem cell (h : Box w g v t) : w.cell? ⟨g, 0, none⟩ = some v := by
  have := cell_of_row w g 0 _ _ _ h
  simpa using this
theorem frozen (h : Box w g v t) : w.frozen? ⟨g, 0, none⟩ = false := frozen_of_row w g 0 _ _ h
theorem below {B : Nat} (h : Box w g v t) (hb : Below B w w') (hg : g < B) : Box w' g v t := (hb.block g hg).trans h
theorem ext (h : Box w g v t) (hb : Below w.heap.size w w') : Box w' g v t := (hb.block g h.lt).trans h
theorem alloc (h : Box w g v t) (o : Obj) : Box (w.alloc o) g v t := (Below.heap_alloc w o g h.lt).trans h
theorem set_ (h : Box w g v t) (u : Value) : Box (w.setCell ⟨g, 0, none⟩ u) g u t := heap_setCell_same w g 0 _ _ u h
theorem other (h : Box w g v t) {p : Addr} (hp : g ≠ p.block) (u : Value) : Box (w.setCell p u) g v t := (heap_setCell_other w p g u hp).trans h
theorem drew (h : Box w g v t) : Box w.drew g v t := h
theorem drewN (h : Box w g v t) (n : Nat) : Box (w.drewN n) g v t := h
theorem mod {S : Nat → Prop} (h : Box w g v t) (hm : Mod S w w') (hs : ¬ S g) : Box w' g v t := (hm.block g h.lt hs).trans h
end Box
end Go.Proofs.Ytioahddobogpjaa
/- A board: how it lies, flat: 48 cells of a value and a label, and how many there are. No condition beyond those said. -/
namespace Go.Proofs.Ytioahddobogpjaa
open Go.RowKit

/-- The cells of a board: f tells the values, g the labels, n how many there are. -/
def bdC (f : Nat → Int) (g : Nat → Nat) (j : Nat) : Value := if j % 2 = 0 then .int .i32 (f (j / 2)) else .int .u32 ((g (j / 2) : Nat) : Int)
def bdA (f : Nat → Int) (g : Nat → Nat) (n : Nat) : Array Value := ((List.range 96).map (bdC f g) ++ [Value.int .i64 (n : Int)]).toArray
theorem bdA_size (f : Nat → Int) (g : Nat → Nat) (n : Nat) : (bdA f g n).size = 97 := by simp [bdA]
theorem bdA_get {f : Nat → Int} {g : Nat → Nat} {n j : Nat} (h : j < 96) : (bdA f g n)[j]? = some (bdC f g j) := by
  simp [bdA, List.getElem?_append, h]
theorem bdA_len (f : Nat → Int) (g : Nat → Nat) (n : Nat) : (bdA f g n)[96]? = some (.int .i64 (n : Int)) := by simp [bdA]
theorem bdC_val (f : Nat → Int) (g : Nat → Nat) (i : Nat) : bdC f g (i * 2) = .int .i32 (f i) := by
  unfold bdC; rw [if_pos (by omega), show i * 2 / 2 = i by omega]
theorem bdC_lab (f : Nat → Int) (g : Nat → Nat) (i : Nat) : bdC f g (i * 2 + 1) = .int .u32 ((g i : Nat) : Int) := by
  unfold bdC; rw [if_neg (by omega), show (i * 2 + 1) / 2 = i by omega]
theorem bdA_val {f : Nat → Int} {g : Nat → Nat} {n i : Nat} (h : i < 48) : (bdA f g n)[i * 2]? = some (.int .i32 (f i)) := by rw [bdA_get (by omega), bdC_val]
theorem bdA_lab {f : Nat → Int} {g : Nat → Nat} {n i : Nat} (h : i < 48) : (bdA f g n)[i * 2 + 1]? = some (.int .u32 ((g i : Nat) : Int)) := by rw [bdA_get (by omega), bdC_lab]
theorem bdA_ext {A : Array Value} {f : Nat → Int} {g : Nat → Nat} {n : Nat} (hs : A.size = 97) (h1 : ∀ i, i < 48 → A[i * 2]? = some (.int .i32 (f i))) (h2 : ∀ i, i < 48 → A[i * 2 + 1]? = some (.int .u32 ((g i : Nat) : Int))) (h3 : A[96]? = some (.int .i64 (n : Int))) : A = bdA f g n := by
  apply Array.ext_getElem?
  intro j
  rcases Nat.lt_or_ge j 97 with h | h
  · by_cases e : j = 96
    · subst e; rw [h3, bdA_len]
    · rcases Nat.mod_two_eq_zero_or_one j with hj | hj
      · obtain ⟨i, rfl⟩ : ∃ i, j = i * 2 := ⟨j / 2, by omega⟩
        rw [h1 i (by omega), bdA_val (by omega)]
      · obtain ⟨i, rfl⟩ : ∃ i, j = i * 2 + 1 := ⟨j / 2, by omega⟩
        rw [h2 i (by omega), bdA_lab (by omega)]
  · rw [Array.getElem?_eq_none (by rw [hs]; exact h), Array.getElem?_eq_none (by rw [bdA_size]; exact h)]
theorem bdA_setVal {f : Nat → Int} {g : Nat → Nat} {n k : Nat} (x : Int) (hk : k < 48) : (bdA f g n).setIfInBounds (k * 2) (.int .i32 x) = bdA (fun i => if i = k then x else f i) g n := by
  refine bdA_ext (by rw [Array.size_setIfInBounds, bdA_size]) (fun i hi => ?_) (fun i hi => ?_) ?_
  · rw [Array.getElem?_setIfInBounds, bdA_size]
    by_cases e : i = k
    · subst e; rw [if_pos rfl, if_pos (by omega), if_pos rfl]
    · rw [if_neg (by omega), if_neg e, bdA_val hi]
  · rw [Array.getElem?_setIfInBounds, if_neg (by omega), bdA_lab hi]
  · rw [Array.getElem?_setIfInBounds, if_neg (by omega), bdA_len]
theorem bdA_setLab {f : Nat → Int} {g : Nat → Nat} {n k : Nat} (x : Nat) (hk : k < 48) : (bdA f g n).setIfInBounds (k * 2 + 1) (.int .u32 (x : Int)) = bdA f (fun i => if i = k then x else g i) n := by
  refine bdA_ext (by rw [Array.size_setIfInBounds, bdA_size]) (fun i hi => ?_) (fun i hi => ?_) ?_
  · rw [Array.getElem?_setIfInBounds, if_neg (by omega), bdA_val hi]
  · rw [Array.getElem?_setIfInBounds, bdA_size]
    by_cases e : i = k
    · subst e; rw [if_pos rfl, if_pos (by omega), if_pos rfl]
    · rw [if_neg (by omega), if_neg e, bdA_lab hi]
  · rw [Array.getElem?_setIfInBounds, if_neg (by omega), bdA_len]
theorem bdA_congr {f f' : Nat → Int} {g g' : Nat → Nat} {n : Nat} (h1 : ∀ i, i < 48 → f i = f' i) (h2 : ∀ i, i < 48 → g i = g' i) : bdA f g n = bdA f' g' n :=
  bdA_ext (bdA_size _ _ _) (fun i hi => by rw [bdA_val hi, h1 i hi]) (fun i hi => by rw [bdA_lab hi, h2 i hi]) (bdA_len _ _ _)
theorem bdA_all (f : Nat → Int) (g : Nat → Nat) (n : Nat) : (bdA f g n).all (·.oneCell') = true := by
  rw [Array.all_eq_true_iff_forall_mem]
  intro v hv
  simp only [bdA, List.mem_toArray, List.mem_append, List.mem_map, List.mem_singleton] at hv
  rcases hv with ⟨j, _, rfl⟩ | rfl
  · unfold bdC; split <;> rfl
  · rfl
theorem bd_size (f : Nat → Int) (g : Nat → Nat) (n : Nat) : (Try.prog.info? 32).map (·.size) = some (bdA f g n).size := by rw [bdA_size]; kernel_rfl
theorem bd_zero (w : World) : (zeroValue 32).run Try.prog w = .ok (.agg (bdA (fun _ => 0) (fun _ => 0) 0)) w := by kernel_rfl
/-- Block b holds the board. -/
def BoxB (w : World) (b : Nat) (f : Nat → Int) (g : Nat → Nat) (n : Nat) : Prop := w.heap[b]? = some (.cells (bdA f g n) 32 (0, 0))
namespace BoxB
variable {w w' : World} {b n : Nat} {f : Nat → Int} {g : Nat → Nat}
theorem new_ (w : World) (f : Nat → Int) (g : Nat → Nat) (n : Nat) : BoxB (w.alloc (.cells (bdA f g n) 32)) w.heap.size f g n := heap_alloc_new w _
theorem lt (h : BoxB w b f g n) : b < w.heap.size := (Array.getElem?_eq_some_iff.1 h).1
theorem cv (h : BoxB w b f g n) {i : Nat} (hi : i < 48) : w.cell? ⟨b, i * 2, none⟩ = some (.int .i32 (f i)) := by rw [cell_of_row w b (i * 2) _ _ _ h]; exact bdA_val hi
theorem cl (h : BoxB w b f g n) {i : Nat} (hi : i < 48) : w.cell? ⟨b, i * 2 + 1, none⟩ = some (.int .u32 ((g i : Nat) : Int)) := by rw [cell_of_row w b (i * 2 + 1) _ _ _ h]; exact bdA_lab hi
theorem cn (h : BoxB w b f g n) : w.cell? ⟨b, 96, none⟩ = some (.int .i64 (n : Int)) := by rw [cell_of_row w b 96 _ _ _ h]; exact bdA_len f g n
theorem fr (h : BoxB w b f g n) (j : Nat) : w.frozen? ⟨b, j, none⟩ = false := frozen_of_row w b j _ _ h
theorem ext (h : BoxB w b f g n) (hb : Below w.heap.size w w') : BoxB w' b f g n := (hb.block b h.lt).trans h
theorem alloc (h : BoxB w b f g n) (o : Obj) : BoxB (w.alloc o) b f g n := (Below.heap_alloc w o b h.lt).trans h
theorem setVal (h : BoxB w b f g n) {k : Nat} (hk : k < 48) (x : Int) : BoxB (w.setCell ⟨b, k * 2, none⟩ (.int .i32 x)) b (fun i => if i = k then x else f i) g n := by
  have := heap_setCell_same w b (k * 2) _ _ (.int .i32 x) h
  rwa [bdA_setVal x hk] at this
theorem setLab (h : BoxB w b f g n) {k : Nat} (hk : k < 48) (x : Nat) : BoxB (w.setCell ⟨b, k * 2 + 1, none⟩ (.int .u32 (x : Int))) b f (fun i => if i = k then x else g i) n := by
  have := heap_setCell_same w b (k * 2 + 1) _ _ (.int .u32 (x : Int)) h
  rwa [bdA_setLab x hk] at this
theorem congr {f' : Nat → Int} {g' : Nat → Nat} (h : BoxB w b f g n) (h1 : ∀ i, i < 48 → f i = f' i) (h2 : ∀ i, i < 48 → g i = g' i) : BoxB w b f' g' n := by
  unfold BoxB at *
  rwa [← bdA_congr h1 h2]
theorem other (h : BoxB w b f g n) {p : Addr} (hp : b ≠ p.block) (u : Value) : BoxB (w.setCell p u) b f g n := (heap_setCell_other w p b u hp).trans h
theorem row_ (h : BoxB w b f g n) (f' : Nat → Int) (g' : Nat → Nat) (n' : Nat) : BoxB (w.setRow b (bdA f' g' n')) b f' g' n' := setRow_heap w b _ _ _ _ h
theorem orow (h : BoxB w b f g n) {b' : Nat} (hp : b ≠ b') (cs : Array Value) : BoxB (w.setRow b' cs) b f g n := (setRow_other w b' b cs hp).trans h
theorem store (h : BoxB w b f g n) (f' : Nat → Int) (g' : Nat → Nat) (n' : Nat) : (storeCells ⟨b, 0, none⟩ (bdA f' g' n').toList 0).run Try.prog w = .ok () (w.setRow b (bdA f' g' n')) := by
  have := run_storeCells_from (P := Try.prog) b _ (bdA f' g' n').toList 0 _ w h (by simp [bdA_size]) (fun v hv => (Array.all_eq_true_iff_forall_mem.1 (bdA_all f' g' n')) v (by simpa using hv))
  rw [List.take_zero, List.nil_append, Array.toArray_toList] at this
  exact this
theorem load (h : BoxB w b f g n) : (Instr.loadAt 32 (.pointer (some ⟨b, 0, none⟩))).run Try.prog w = .ok (.agg (bdA f g n)) w := by
  simp only [Instr.loadAt, Instr.sureAddr, Sem.run_bind, Sem.run_pure, Result.andThen_ok, run_loadVar_row w b _ 32 (bdA f g n) (0, 0) _ h Try.underlying32 rfl (bd_size _ _ _)]
end BoxB
theorem wpList_load_bd {ops : Array Oper} {rest : List Oper} {o : Oper} {a : Act} {w : World} {Q : Exit → Act → World → Prop} (hw : Region.wanted o (yielded ops a.tmps) = true) (s : Operand) (ho : o.op = .load 32 s)
    (b : Nat) (hx : a.eval s = .pointer (some ⟨b, 0, none⟩)) (f : Nat → Int) (g : Nat → Nat) (n : Nat) (q : BoxB w b f g n) (h : wpList Try.prog ops Q rest (a.put o.dst (.agg (bdA f g n))) w) : wpList Try.prog ops Q (o :: rest) a w :=
  BigFrame.wpList_want hw fun _ hK => wp_load_row 32 s ho b hx _ _ _ _ q Try.underlying32 rfl (bd_size _ _ _) (hK _ _ h)
theorem below_setRow {B : Nat} {a w : World} (h : Below B a w) (g : Nat) (cs : Array Value) (hg : B ≤ g) : Below B a (w.setRow g cs) :=
  h.trans ⟨rfl, rfl, rfl, by simp, fun k hk => setRow_other w g k cs (by omega)⟩
end Go.Proofs.Ytioahddobogpjaa
/- Numbers that go round, and what of them has come, in plain numbers. No condition beyond those said. -/
namespace Go.Proofs.Ytioahddobogpjaa

open Go in
/-- How many of the lowest bits (of 32) are set in a row. -/
def come (bits : Nat) : Nat := Lib.ctz 32 (4294967295 - bits)
theorem not_testBit {bits : Nat} (h : bits < 4294967296) (i : Nat) : (4294967295 - bits).testBit i = (decide (i < 32) && !bits.testBit i) := by
  have := Nat.testBit_two_pow_sub_succ (n := 32) (x := bits) h i
  rw [show (2 : Nat) ^ 32 - (bits + 1) = 4294967295 - bits by omega] at this
  exact this
open Go in
theorem come_spec {bits : Nat} (h : bits < 4294967296) : come bits ≤ 32 ∧ (∀ i, i < come bits → bits.testBit i = true) ∧ (come bits < 32 → bits.testBit (come bits) = false) := by
  unfold come
  by_cases h0 : 4294967295 - bits = 0
  · have hb : bits = 4294967295 := by omega
    subst hb
    refine ⟨by simp [Lib.ctz], fun i hi => ?_, by simp [Lib.ctz]⟩
    have hi : i < 32 := by simpa [Lib.ctz] using hi
    have := Nat.testBit_two_pow_sub_one 32 i
    simpa [hi] using this
  · have e : Lib.ctz 32 (4294967295 - bits) = Lib.ctzFrom 32 (4294967295 - bits) := by simp [Lib.ctz, h0]
    rw [e]
    obtain ⟨m, hm, hk⟩ := Lib.ctzFrom_spec 32 (4294967295 - bits) (by omega) (by omega)
    obtain ⟨c, hc⟩ : ∃ c, c = Lib.ctzFrom 32 (4294967295 - bits) := ⟨_, rfl⟩
    rw [← hc] at hm hk ⊢
    refine ⟨by omega, fun i hi => ?_, fun _ => ?_⟩
    · have h1 := not_testBit h i
      rw [hm, Nat.testBit_two_pow_mul] at h1
      simp [show ¬ i ≥ c by omega, show i < 32 by omega] at h1
      exact h1
    · have h1 := not_testBit h c
      rw [hm, Nat.testBit_two_pow_mul] at h1
      simp [hk] at h1
      exact h1

/-- How much further on b is than a, all the way round. -/
def toI (a b : Nat) : Int := if (b + 65536 - a) % 65536 < 32768 then (((b + 65536 - a) % 65536 : Nat) : Int) else (((b + 65536 - a) % 65536 : Nat) : Int) - 65536
theorem toI_bounds (a b : Nat) : -32768 ≤ toI a b ∧ toI a b ≤ 32767 := by unfold toI; split <;> omega
theorem toI_eq {a b : Nat} (_ha : a < 65536) (hb : b < 65536) (d : Int) (h1 : -32768 ≤ d) (h2 : d ≤ 32767) : toI a b = d ↔ (b : Int) = (a + d) % 65536 := by
  unfold toI
  split <;> omega
theorem toI_add {a : Nat} (ha : a < 65536) (d : Int) (h1 : -32768 ≤ d) (h2 : d ≤ 32767) : toI a (((a + d) % 65536).toNat) = d := by
  rw [toI_eq ha (by omega) d h1 h2]
  omega
theorem toI_self (a : Nat) (_ha : a < 65536) : toI a a = 0 := by unfold toI; rw [if_pos (by omega)]; omega
theorem toI_zero {a b : Nat} (ha : a < 65536) (hb : b < 65536) : toI a b = 0 ↔ a = b := by
  rw [toI_eq ha hb 0 (by omega) (by omega)]
  omega

/-- Has it come? -/
def hasN (next bits s : Nat) : Bool := decide (toI next s < 0) || (decide (0 < toI next s) && decide (toI next s ≤ 32) && bits.testBit (toI next s - 1).toNat)
/-- It has come: the acks behind it; none, if it had already, or is too far on. -/
def noteN (next bits s : Nat) : Option (Nat × Nat) :=
  if hasN next bits s = true ∨ 32 < toI next s then none
  else if toI next s = 0 then some ((s + 1 + come bits) % 65536, bits / 2 ^ (1 + come bits))
  else some (next, bits ||| 2 ^ (toI next s - 1).toNat)
theorem noteN_lt {next bits s x y : Nat} (hn : next < 65536) (hb : bits < 4294967296) (h : noteN next bits s = some (x, y)) : x < 65536 ∧ y < 4294967296 := by
  unfold noteN at h
  split at h
  · cases h
  · rename_i h0
    split at h
    · injection h with h
      injection h with h1 h2
      exact ⟨by omega, by rw [← h2]; exact Nat.lt_of_le_of_lt (Nat.div_le_self _ _) hb⟩
    · injection h with h
      injection h with h1 h2
      subst h1 h2
      refine ⟨hn, ?_⟩
      have hle : ¬ 32 < toI next s := fun h => h0 (.inr h)
      have h3 : (2 : Nat) ^ (toI next s - 1).toNat < 2 ^ 32 := Nat.pow_lt_pow_right (by omega) (by omega)
      exact Nat.or_lt_two_pow (n := 32) hb h3
theorem hasN_next (next bits : Nat) (hn : next < 65536) : hasN next bits next = false := by
  unfold hasN
  rw [toI_self next hn]
  simp
/-- What was noted is had. -/
theorem hasN_noteN {next bits s x y : Nat} (_hn : next < 65536) (hs : s < 65536) (h : noteN next bits s = some (x, y)) : hasN x y s = true := by
  unfold noteN at h
  split at h
  · cases h
  · rename_i h0
    have hle : ¬ 32 < toI next s := fun h => h0 (.inr h)
    have hnot : ¬ hasN next bits s = true := fun h => h0 (.inl h)
    have hge : ¬ toI next s < 0 := by
      intro h1
      exact hnot (by unfold hasN; simp [h1])
    split at h
    · injection h with h
      injection h with h1 h2
      subst h1
      have hc : come bits ≤ 32 ∨ 32 < come bits := by omega
      have hlt : come bits ≤ 32 := by
        unfold come Go.Lib.ctz
        split
        · omega
        · have : ∀ f x, Go.Lib.ctzFrom f x ≤ f := by
            intro f
            induction f with
            | zero => intro x; simp [Go.Lib.ctzFrom]
            | succ f ih => intro x; unfold Go.Lib.ctzFrom; split; omega; have := ih (x / 2); omega
          exact this 32 _
      have h3 : toI ((s + 1 + come bits) % 65536) s = -1 - (come bits : Int) := by
        rw [toI_eq (by omega) hs _ (by omega) (by omega)]
        omega
      unfold hasN
      rw [h3]
      simp only [Bool.or_eq_true, decide_eq_true_eq]
      left
      omega
    · injection h with h
      injection h with h1 h2
      subst h1 h2
      unfold hasN
      rename_i hne
      rw [Nat.testBit_or, Nat.testBit_two_pow_self]
      simp only [Bool.or_true, Bool.and_true, Bool.or_eq_true, Bool.and_eq_true, decide_eq_true_eq]
      right
      omega
theorem come_le (bits : Nat) (h : bits < 4294967296) : come bits ≤ 32 := (come_spec h).1
/-- What was had is had behind it: half the way round. -/
theorem hasN_old {next bits s x y d : Nat} (hn : next < 65536) (hb : bits < 4294967296) (hs : s < 65536) (hd : d < 32000) (h : noteN next bits s = some (x, y)) :
    hasN x y ((next + 65536 - 1 - d) % 65536) = true := by
  unfold noteN at h
  split at h
  · cases h
  · rename_i h0
    have hle : ¬ 32 < toI next s := fun h => h0 (.inr h)
    have hnot : ¬ hasN next bits s = true := fun h => h0 (.inl h)
    have hge : ¬ toI next s < 0 := by
      intro h1
      exact hnot (by unfold hasN; simp [h1])
    have hc := come_le bits hb
    split at h
    · rename_i he
      rw [toI_zero hn hs] at he
      subst he
      injection h with h
      injection h with h1 h2
      subst h1
      have h3 : toI ((next + 1 + come bits) % 65536) ((next + 65536 - 1 - d) % 65536) = -2 - (come bits : Int) - d := by
        rw [toI_eq (by omega) (by omega) _ (by omega) (by omega)]
        omega
      unfold hasN
      rw [h3]
      simp only [Bool.or_eq_true, decide_eq_true_eq]
      left
      omega
    · injection h with h
      injection h with h1 h2
      subst h1
      have h3 : toI next ((next + 65536 - 1 - d) % 65536) = -1 - (d : Int) := by
        rw [toI_eq (by omega) (by omega) _ (by omega) (by omega)]
        omega
      unfold hasN
      rw [h3]
      simp only [Bool.or_eq_true, decide_eq_true_eq]
      left
      omega
theorem hasN_back {next bits d : Nat} (hn : next < 65536) (hd : d < 32000) : hasN next bits ((next + 65536 - 1 - d) % 65536) = true := by
  have h3 : toI next ((next + 65536 - 1 - d) % 65536) = -1 - (d : Int) := by
    rw [toI_eq (by omega) (by omega) _ (by omega) (by omega)]
    omega
  unfold hasN
  rw [h3]
  simp only [Bool.or_eq_true, decide_eq_true_eq]
  left
  omega
theorem toI_far {next d : Nat} (hn : next < 65536) (hd : d < 32000) : toI next ((next + 33 + d) % 65536) = 33 + d := by
  rw [toI_eq (by omega) (by omega) _ (by omega) (by omega)]
  omega
theorem hasN_far {next bits d : Nat} (hn : next < 65536) (hd : d < 32000) : hasN next bits ((next + 33 + d) % 65536) = false := by
  unfold hasN
  rw [toI_far hn hd]
  simp only [Bool.or_eq_false_iff, Bool.and_eq_false_iff, decide_eq_false_iff_not]
  exact ⟨by omega, .inl (.inr (by omega))⟩
theorem noteN_far {next bits d : Nat} (hn : next < 65536) (hd : d < 32000) : noteN next bits ((next + 33 + d) % 65536) = none := by
  unfold noteN
  rw [if_pos (.inr (by rw [toI_far hn hd]; omega))]
theorem noteN_had {next bits s : Nat} (h : hasN next bits s = true) : noteN next bits s = none := by
  unfold noteN
  rw [if_pos (.inl h)]

/-- The bits in a row of flags, and back. -/
def flags (bits : Nat) : List Bool := (List.range 32).map bits.testBit
@[simp] theorem flags_length (bits : Nat) : (flags bits).length = 32 := by simp [flags]
theorem flags_get (bits k : Nat) (h : k < 32) : (flags bits)[k]? = some (bits.testBit k) := by simp [flags, h]
theorem half_bit (bits k : Nat) : bits / 2 ^ k = 2 * (bits / 2 ^ (k + 1)) + (if bits.testBit k = true then 1 else 0) := by
  rw [Nat.testBit_eq_decide_div_mod_eq, Nat.pow_succ, ← Nat.div_div_eq_div_mul]
  simp only [decide_eq_true_eq]
  split <;> omega
theorem testBit_half (bits j k : Nat) : (bits / 2 ^ j).testBit k = bits.testBit (j + k) := by
  rw [Nat.testBit_div_two_pow, Nat.add_comm]

/-- How many of the first k bits are set. -/
def cnt (bits : Nat) : Nat → Nat
  | 0 => 0
  | k + 1 => cnt bits k + (if bits.testBit k = true then 1 else 0)
theorem cnt_le (bits k : Nat) : cnt bits k ≤ k := by
  induction k with
  | zero => simp [cnt]
  | succ k ih => unfold cnt; split <;> omega
theorem cnt_add (bits a b : Nat) : cnt bits (a + b) = cnt bits a + cnt (bits / 2 ^ a) b := by
  induction b with
  | zero => simp [cnt]
  | succ b ih => rw [← Nat.add_assoc, cnt, cnt, ih, testBit_half]; omega
theorem cnt_mod (bits k : Nat) : ∀ j, j ≤ k → cnt (bits % 2 ^ k) j = cnt bits j := by
  intro j
  induction j with
  | zero => intro _; rfl
  | succ j ih =>
    intro h
    rw [cnt, cnt, ih (by omega), Nat.testBit_mod_two_pow]
    simp [show j < k by omega]
theorem cnt_bytes (x : Nat) (_h : x < 4294967296) : cnt x 32 = cnt (x / 16777216) 8 + cnt (x / 65536 % 256) 8 + cnt (x / 256 % 256) 8 + cnt (x % 256) 8 := by
  rw [show (32 : Nat) = 8 + (8 + (8 + 8)) from rfl, cnt_add, cnt_add, cnt_add, show (256 : Nat) = 2 ^ 8 from rfl, cnt_mod _ 8 8 (by omega), cnt_mod _ 8 8 (by omega), cnt_mod _ 8 8 (by omega)]
  rw [Nat.div_div_eq_div_mul, Nat.div_div_eq_div_mul]
  simp only [← Nat.pow_add]
  simp only [show (16777216 : Nat) = 2 ^ 24 from rfl, show (65536 : Nat) = 2 ^ 16 from rfl]
  simp only [show 8 + 8 = 16 from rfl, show 8 + 16 = 24 from rfl]
  omega

/-- Of numbers from first on, those of L have come. -/
def Came (first : Nat) (L : List Nat) (x y : Nat) : Prop :=
  ∃ m, m ≤ 33 ∧ x = (first + m) % 65536 ∧ y < 4294967296 ∧ (∀ k, k < m → k ∈ L) ∧ m ∉ L ∧ ∀ j, y.testBit j = decide (m + 1 + j ∈ L)
theorem Came.none (first : Nat) (h : first < 65536) : Came first [] first 0 := ⟨0, by omega, by omega, by omega, fun k h => by omega, by simp, fun j => by simp⟩
theorem Came.note {first : Nat} {L : List Nat} {x y : Nat} (_hf : first < 65536) (h : Came first L x y) (hL : ∀ k ∈ L, k < 33) {k : Nat} (hk : k < 33) (hn : k ∉ L) :
    ∃ x' y', noteN x y ((first + k) % 65536) = some (x', y') ∧ Came first (k :: L) x' y' := by
  obtain ⟨m, hm, rfl, hy, hall, hmn, hbit⟩ := h
  have hmk : m ≤ k := by
    rcases Nat.lt_or_ge k m with h | h
    · exact absurd (hall k h) hn
    · exact h
  have hto : toI ((first + m) % 65536) ((first + k) % 65536) = (k : Int) - m := by
    rw [toI_eq (by omega) (by omega) _ (by omega) (by omega)]
    omega
  obtain ⟨c1, c2, c3⟩ := come_spec hy
  by_cases he : m = k
  · subst he
    refine ⟨((first + m) % 65536 + 1 + come y) % 65536, y / 2 ^ (1 + come y), ?_, ?_⟩
    · unfold noteN
      have hno : hasN ((first + m) % 65536) y ((first + m) % 65536) = false := hasN_next _ _ (by omega)
      rw [if_neg (by rw [hno, hto]; rintro (h | h); cases h; omega), if_pos (by omega)]
    · have hpre : ∀ i, i < come y → m + 1 + i ∈ L := fun i hi => by
        have := hbit i
        rw [c2 i hi] at this
        simpa using this.symm
      have hend : m + 1 + come y ∉ L := by
        intro hin
        have h33 := hL _ hin
        have := hbit (come y)
        rw [c3 (by omega)] at this
        simp [hin] at this
      refine ⟨m + 1 + come y, ?_, by omega, ?_, ?_, ?_, ?_⟩
      · rcases Nat.eq_zero_or_pos (come y) with h0 | h0
        · omega
        · have := hL _ (hpre (come y - 1) (by omega))
          omega
      · exact Nat.lt_of_le_of_lt (Nat.div_le_self _ _) hy
      · intro i hi
        rcases Nat.lt_or_ge i m with h1 | h1
        · exact List.mem_cons_of_mem _ (hall i h1)
        · rcases Nat.lt_or_ge m i with h2 | h2
          · have := hpre (i - (m + 1)) (by omega)
            rw [show m + 1 + (i - (m + 1)) = i by omega] at this
            exact List.mem_cons_of_mem _ this
          · have : i = m := by omega
            subst this
            simp
      · intro hin
        rcases List.mem_cons.1 hin with h1 | h1
        · omega
        · exact hend h1
      · intro j
        rw [testBit_half, hbit]
        rw [show m + 1 + (1 + come y + j) = m + 1 + come y + 1 + j by omega]
        simp only [List.mem_cons]
        rw [decide_eq_decide]
        constructor
        · exact fun h => .inr h
        · rintro (h | h)
          · omega
          · exact h
  · refine ⟨(first + m) % 65536, y ||| 2 ^ (toI ((first + m) % 65536) ((first + k) % 65536) - 1).toNat, ?_, ?_⟩
    · unfold noteN
      have hno : hasN ((first + m) % 65536) y ((first + k) % 65536) = false := by
        unfold hasN
        rw [hto]
        have hb := hbit (k - m - 1)
        rw [show m + 1 + (k - m - 1) = k by omega] at hb
        simp only [hn, decide_false] at hb
        rw [show ((k : Int) - m - 1).toNat = k - m - 1 by omega, hb]
        simp
        omega
      rw [if_neg (by rw [hno, hto]; rintro (h | h); cases h; omega), if_neg (by omega)]
    · refine ⟨m, hm, rfl, ?_, fun i hi => List.mem_cons_of_mem _ (hall i hi), ?_, ?_⟩
      · refine Nat.or_lt_two_pow (n := 32) hy (Nat.pow_lt_pow_right (by omega) ?_)
        rw [hto]
        omega
      · intro hin
        rcases List.mem_cons.1 hin with h1 | h1
        · exact he h1
        · exact hmn h1
      · intro j
        rw [hto, Nat.testBit_or, hbit, Nat.testBit_two_pow, Bool.eq_iff_iff]
        simp only [Bool.or_eq_true, decide_eq_true_eq, List.mem_cons]
        constructor
        · rintro (h | h)
          · exact .inr h
          · left; omega
        · rintro (h | h)
          · right; omega
          · exact .inl h
theorem Came.all {first : Nat} {L : List Nat} {x y : Nat} (h : Came first L x y) (hL : ∀ k ∈ L, k < 33) (hall : ∀ k, k < 33 → k ∈ L) : x = (first + 33) % 65536 ∧ y = 0 := by
  obtain ⟨m, hm, rfl, hy, _, hmn, hbit⟩ := h
  have hm33 : m = 33 := by
    rcases Nat.lt_or_ge m 33 with h | h
    · exact absurd (hall m h) hmn
    · omega
  subst hm33
  refine ⟨rfl, Nat.eq_of_testBit_eq fun i => ?_⟩
  rw [hbit, Nat.zero_testBit]
  simp only [decide_eq_false_iff_not]
  intro hin
  have := hL _ hin
  omega
end Go.Proofs.Ytioahddobogpjaa
/- Masks in plain numbers: who is in one, what is left of it, in words. No condition beyond those said. -/
namespace Go.Proofs.Ytioahddobogpjaa

/-- The mask of one observer; of one that no mask has: none. -/
def aloneN (o : Int) : Nat := if 0 ≤ o ∧ o < 32 then 2 ^ o.toNat else 0
theorem aloneN_lt (o : Int) : aloneN o < 4294967296 := by
  unfold aloneN
  split
  · have : (2 : Nat) ^ o.toNat < 2 ^ 32 := Nat.pow_lt_pow_right (by omega) (by omega)
    omega
  · omega
theorem aloneN_nat {k : Nat} (h : k < 32) : aloneN (k : Int) = 2 ^ k := by
  unfold aloneN
  rw [if_pos (by omega)]
  simp
theorem aloneN_bit (o : Int) (i : Nat) (hi : i < 32) : (aloneN o).testBit i = decide (o = (i : Int)) := by
  unfold aloneN
  split
  · rw [Nat.testBit_two_pow, decide_eq_decide]; omega
  · rw [Nat.zero_testBit]; symm; simp; omega
/-- It without those of n. -/
def lessN (m n : Nat) : Nat := m &&& (4294967295 - n)
theorem lessN_lt {m : Nat} (n : Nat) (h : m < 4294967296) : lessN m n < 4294967296 := Nat.lt_of_le_of_lt Nat.and_le_left h
theorem lessN_bit {n : Nat} (m : Nat) (hn : n < 4294967296) (i : Nat) (hi : i < 32) : (lessN m n).testBit i = (m.testBit i && !n.testBit i) := by
  unfold lessN
  rw [Nat.testBit_and, not_testBit hn]
  simp [hi]
/-- With these. -/
def withN (m : Nat) (l : List Int) : Nat := l.foldl (fun m o => m ||| aloneN o) m
theorem withN_nil (m : Nat) : withN m [] = m := rfl
theorem withN_snoc (m : Nat) (l : List Int) (o : Int) : withN m (l ++ [o]) = withN m l ||| aloneN o := by simp [withN]
theorem withN_lt {m : Nat} (h : m < 4294967296) (l : List Int) : withN m l < 4294967296 := by
  induction l generalizing m with
  | nil => exact h
  | cons o l ih => exact ih (Nat.or_lt_two_pow (n := 32) h (aloneN_lt o))
theorem withN_bit (m : Nat) (l : List Int) (i : Nat) (hi : i < 32) : (withN m l).testBit i = (m.testBit i || decide ((i : Int) ∈ l)) := by
  induction l generalizing m with
  | nil => simp [withN]
  | cons o l ih =>
    have := ih (m ||| aloneN o)
    simp only [withN, List.foldl_cons] at this ⊢
    rw [this, Nat.testBit_or, aloneN_bit o i hi]
    by_cases h : o = (i : Int)
    · simp [h]
    · simp [h, Ne.symm h]
theorem ext32 {a b : Nat} (ha : a < 4294967296) (hb : b < 4294967296) (h : ∀ i, i < 32 → a.testBit i = b.testBit i) : a = b := by
  apply Nat.eq_of_testBit_eq
  intro i
  by_cases hi : i < 32
  · exact h i hi
  · rw [Nat.testBit_lt_two_pow (Nat.lt_of_lt_of_le ha (by rw [show (4294967296 : Nat) = 2 ^ 32 from rfl]; exact Nat.pow_le_pow_right (by omega) (by omega))),
      Nat.testBit_lt_two_pow (Nat.lt_of_lt_of_le hb (by rw [show (4294967296 : Nat) = 2 ^ 32 from rfl]; exact Nat.pow_le_pow_right (by omega) (by omega)))]

/-- The observers of a mask, rising. -/
def obs (m : Nat) : List Nat := (List.range 32).filter fun i => m.testBit i
theorem obs_mem {m i : Nat} : i ∈ obs m ↔ i < 32 ∧ m.testBit i = true := by simp [obs]
theorem obs_length (m : Nat) : (obs m).length ≤ 32 := by
  have := List.length_filter_le (fun i => m.testBit i) (List.range 32)
  simpa [obs] using this
theorem obs_zero : obs 0 = [] := by simp [obs]
theorem filter_first {p q : Nat → Bool} {k : Nat} (hk : p k = true) (hlow : ∀ i, i < k → p i = false) (hq : ∀ i, q i = (p i && decide (i ≠ k))) : ∀ n, k < n → (List.range n).filter p = k :: (List.range n).filter q := by
  have hnil : ∀ n, n ≤ k → (List.range n).filter p = [] := fun n hn => by
    rw [List.filter_eq_nil_iff]
    intro i hi
    rw [hlow i (by have := List.mem_range.1 hi; omega)]
    simp
  have hnilq : ∀ n, n ≤ k → (List.range n).filter q = [] := fun n hn => by
    rw [List.filter_eq_nil_iff]
    intro i hi
    rw [hq, hlow i (by have := List.mem_range.1 hi; omega)]
    simp
  intro n
  induction n with
  | zero => intro h; omega
  | succ n ih =>
    intro h
    rw [List.range_succ, List.filter_append, List.filter_append]
    by_cases hkn : k < n
    · rw [ih hkn, List.cons_append]
      congr 2
      have : q n = p n := by rw [hq]; simp; intro _; omega
      simp [List.filter, this]
    · obtain rfl : k = n := by omega
      rw [hnil k (Nat.le_refl _), hnilq k (Nat.le_refl _)]
      simp [List.filter, hk, hq]
open Go in
theorem obs_next {m : Nat} (h0 : m ≠ 0) (h : m < 4294967296) : Lib.ctz 32 m < 32 ∧ obs m = Lib.ctz 32 m :: obs (lessN m (2 ^ Lib.ctz 32 m)) := by
  have hk := (Lib.lowest_bit 32 m h0 h).2
  have hc := come_spec (bits := 4294967295 - m) (by omega)
  have he : come (4294967295 - m) = Lib.ctz 32 m := by unfold come; rw [show 4294967295 - (4294967295 - m) = m by omega]
  rw [he] at hc
  obtain ⟨k, hkk⟩ : ∃ k, k = Lib.ctz 32 m := ⟨_, rfl⟩
  rw [← hkk] at hk hc ⊢
  refine ⟨hk, ?_⟩
  have hp : (2 : Nat) ^ k < 4294967296 := by
    have : (2 : Nat) ^ k < 2 ^ 32 := Nat.pow_lt_pow_right (by omega) hk
    omega
  have hb : m.testBit k = true := by
    have := hc.2.2 hk
    rw [not_testBit h] at this
    simpa [hk] using this
  have hl : ∀ i, i < k → m.testBit i = false := fun i hi => by
    have := hc.2.1 i hi
    rw [not_testBit h] at this
    simp at this
    exact this.2
  have hq : (List.range 32).filter (fun i => (lessN m (2 ^ k)).testBit i) = (List.range 32).filter (fun i => m.testBit i && decide (i ≠ k)) := by
    apply List.filter_congr
    intro i hi
    rw [lessN_bit m hp i (List.mem_range.1 hi), Nat.testBit_two_pow]
    congr 1
    by_cases e : i = k
    · subst e; simp
    · simp [e, Ne.symm e]
  unfold obs
  rw [hq]
  exact filter_first hb hl (fun _ => rfl) 32 hk
open Go in
/-- Its observers, with a comma between; none: '-'. -/
def textN (m : Nat) : List UInt8 := if m = 0 then [45] else Lib.join ((obs m).map Lib.decDigits) [44]
end Go.Proofs.Ytioahddobogpjaa
/- A board as a list of cells, in plain words: what Put, Show and View make of it, and when two are the same. Conditions: those said. -/
namespace Go.Proofs.Ytioahddobogpjaa
open Go.RowKit

def bdF (L : List (Int × Nat)) (i : Nat) : Int := (L.getD i (0, 0)).1
def bdG (L : List (Int × Nat)) (i : Nat) : Nat := (L.getD i (0, 0)).2
/-- The board of these cells. -/
def bdL (L : List (Int × Nat)) : Array Value := bdA (bdF L) (bdG L) L.length
theorem bdL_nil : bdL [] = bdA (fun _ => 0) (fun _ => 0) 0 := rfl
theorem bdF_in {L : List (Int × Nat)} {i : Nat} (h : i < L.length) : bdF L i = L[i].1 := by simp [bdF, List.getD, h]
theorem bdG_in {L : List (Int × Nat)} {i : Nat} (h : i < L.length) : bdG L i = L[i].2 := by simp [bdG, List.getD, h]
theorem bdF_out {L : List (Int × Nat)} {i : Nat} (h : L.length ≤ i) : bdF L i = 0 := by simp [bdF, List.getD, List.getElem?_eq_none h]
theorem bdG_out {L : List (Int × Nat)} {i : Nat} (h : L.length ≤ i) : bdG L i = 0 := by simp [bdG, List.getD, List.getElem?_eq_none h]
theorem bdF_set {L : List (Int × Nat)} {i : Nat} (c : Int × Nat) (hi : i < L.length) (j : Nat) : (if j = i then c.1 else bdF L j) = bdF (L.set i c) j := by
  by_cases e : j = i
  · subst e; rw [if_pos rfl, bdF_in (by simpa using hi)]; simp
  · rw [if_neg e]; simp [bdF, List.getD, Ne.symm e]
theorem bdG_set {L : List (Int × Nat)} {i : Nat} (c : Int × Nat) (hi : i < L.length) (j : Nat) : (if j = i then c.2 else bdG L j) = bdG (L.set i c) j := by
  by_cases e : j = i
  · subst e; rw [if_pos rfl, bdG_in (by simpa using hi)]; simp
  · rw [if_neg e]; simp [bdG, List.getD, Ne.symm e]
theorem bdL_set {L : List (Int × Nat)} {i : Nat} (c : Int × Nat) (hi : i < L.length) : bdA (fun j => if j = i then c.1 else bdF L j) (fun j => if j = i then c.2 else bdG L j) L.length = bdL (L.set i c) := by
  unfold bdL
  rw [List.length_set]
  exact bdA_congr (fun j _ => bdF_set c hi j) (fun j _ => bdG_set c hi j)
theorem bdL_size (L : List (Int × Nat)) : (bdL L).size = 97 := bdA_size _ _ _
theorem int_inj {k : IntKind} {a b : Int} (h : Value.int k a = Value.int k b) : a = b := by injection h
theorem bdA_inj {f f' : Nat → Int} {g g' : Nat → Nat} {n n' : Nat} (h : bdA f g n = bdA f' g' n') : n = n' ∧ ∀ i, i < 48 → f i = f' i ∧ g i = g' i := by
  refine ⟨?_, fun i hi => ⟨?_, ?_⟩⟩
  · have h1 := bdA_len f g n
    rw [h, bdA_len] at h1
    have := int_inj (Option.some.inj h1)
    omega
  · have h1 := bdA_val (f := f) (g := g) (n := n) hi
    rw [h, bdA_val hi] at h1
    exact (int_inj (Option.some.inj h1)).symm
  · have h1 := bdA_lab (f := f) (g := g) (n := n) hi
    rw [h, bdA_lab hi] at h1
    have := int_inj (Option.some.inj h1)
    omega
theorem bdL_inj {L M : List (Int × Nat)} (hL : L.length ≤ 48) : bdL L = bdL M ↔ L = M := by
  refine ⟨fun h => ?_, fun h => by rw [h]⟩
  obtain ⟨h1, h2⟩ := bdA_inj h
  refine List.ext_getElem h1 fun i hi hj => ?_
  obtain ⟨h3, h4⟩ := h2 i (by omega)
  rw [bdF_in hi, bdF_in hj] at h3
  rw [bdG_in hi, bdG_in hj] at h4
  exact Prod.ext h3 h4
/-- Cells as values. -/
def cv (L : List (Int × Nat)) : List Value := L.flatMap fun c => [Value.int .i32 c.1, Value.int .u32 ((c.2 : Nat) : Int)]
@[simp] theorem cv_nil : cv [] = [] := rfl
theorem cv_cons (c : Int × Nat) (L : List (Int × Nat)) : cv (c :: L) = Value.int .i32 c.1 :: Value.int .u32 ((c.2 : Nat) : Int) :: cv L := rfl
@[simp] theorem cv_length (L : List (Int × Nat)) : (cv L).length = L.length * 2 := by
  induction L with
  | nil => rfl
  | cons c L ih => rw [cv_cons, List.length_cons, List.length_cons, ih, List.length_cons]; omega
theorem cv_append (L M : List (Int × Nat)) : cv (L ++ M) = cv L ++ cv M := by simp [cv]
theorem cv_one (L : List (Int × Nat)) : ∀ u ∈ cv L, u.oneCell' = true := by
  intro u hu
  simp only [cv, List.mem_flatMap] at hu
  obtain ⟨c, _, hc⟩ := hu
  simp only [List.mem_cons, List.not_mem_nil, or_false] at hc
  rcases hc with rfl | rfl <;> rfl
theorem cv_val {L : List (Int × Nat)} {i : Nat} (h : i < L.length) : (cv L)[i * 2]? = some (.int .i32 L[i].1) := by
  induction L generalizing i with
  | nil => simp at h
  | cons c L ih =>
    rw [cv_cons]
    cases i with
    | zero => rfl
    | succ i =>
      rw [show (i + 1) * 2 = i * 2 + 1 + 1 by omega, List.getElem?_cons_succ, List.getElem?_cons_succ, ih (by simpa using h)]
      rfl
theorem cv_lab {L : List (Int × Nat)} {i : Nat} (h : i < L.length) : (cv L)[i * 2 + 1]? = some (.int .u32 ((L[i].2 : Nat) : Int)) := by
  induction L generalizing i with
  | nil => simp at h
  | cons c L ih =>
    rw [cv_cons]
    cases i with
    | zero => rfl
    | succ i =>
      rw [show (i + 1) * 2 + 1 = i * 2 + 1 + 1 + 1 by omega, List.getElem?_cons_succ, List.getElem?_cons_succ, ih (by simpa using h)]
      rfl
theorem cv_take (L : List (Int × Nat)) (k : Nat) : (cv L).take (k * 2) = cv (L.take k) := by
  induction k generalizing L with
  | zero => rfl
  | succ k ih =>
    cases L with
    | nil => rfl
    | cons c L => rw [List.take_succ_cons, cv_cons, cv_cons, show (k + 1) * 2 = k * 2 + 1 + 1 by omega, List.take_succ_cons, List.take_succ_cons, ih]
theorem cv_inj {L M : List (Int × Nat)} (h : cv L = cv M) : L = M := by
  induction L generalizing M with
  | nil => cases M with
    | nil => rfl
    | cons c M => cases h
  | cons c L ih => cases M with
    | nil => cases h
    | cons d M =>
      rw [cv_cons, cv_cons] at h
      injection h with h1 h
      injection h with h2 h
      have h1 := int_inj h1
      have h2 := int_inj h2
      rw [ih h, Prod.ext (x := c) (y := d) h1 (by omega)]
/-- The cells of a board, as they lie. -/
theorem bdL_cells {L : List (Int × Nat)} (hL : L.length ≤ 48) : (bdL L).toList.take (L.length * 2) = cv L := by
  apply List.ext_getElem?
  intro j
  rw [List.getElem?_take]
  by_cases hj : j < L.length * 2
  · rw [if_pos hj]
    have e : (bdL L).toList[j]? = (bdL L)[j]? := by simp
    rw [e]
    unfold bdL
    rcases Nat.mod_two_eq_zero_or_one j with h | h
    · obtain ⟨i, rfl⟩ : ∃ i, j = i * 2 := ⟨j / 2, by omega⟩
      rw [bdA_val (by omega), cv_val (by omega), bdF_in (by omega)]
    · obtain ⟨i, rfl⟩ : ∃ i, j = i * 2 + 1 := ⟨j / 2, by omega⟩
      rw [bdA_lab (by omega), cv_lab (by omega), bdG_in (by omega)]
  · rw [if_neg hj, List.getElem?_eq_none (by simp; omega)]
/-- The cells fit. -/
def okC (L : List (Int × Nat)) : Prop := ∀ c ∈ L, (-2147483648 ≤ c.1 ∧ c.1 ≤ 2147483647) ∧ c.2 < 4294967296
theorem okC_get {L : List (Int × Nat)} (h : okC L) {i : Nat} (hi : i < L.length) : (-2147483648 ≤ L[i].1 ∧ L[i].1 ≤ 2147483647) ∧ L[i].2 < 4294967296 := h _ (List.getElem_mem hi)
theorem okC_take {L : List (Int × Nat)} (h : okC L) (k : Nat) : okC (L.take k) := fun c hc => h c (List.mem_of_mem_take hc)
theorem okC_set {L : List (Int × Nat)} (h : okC L) (i : Nat) {c : Int × Nat} (hc : (-2147483648 ≤ c.1 ∧ c.1 ≤ 2147483647) ∧ c.2 < 4294967296) : okC (L.set i c) := fun d hd => by
  rcases List.mem_or_eq_of_mem_set hd with h1 | rfl
  · exact h d h1
  · exact hc
/-- May o see a cell of this label? -/
def sees (m : Nat) (o : Int) : Bool := decide (m &&& aloneN o ≠ 0)
/-- A cell, as o sees it. -/
def seeC (o : Int) (c : Int × Nat) : Int × Nat := if sees c.2 o = true then c else (0, c.2)
def viewL (o : Int) (L : List (Int × Nat)) : List (Int × Nat) := L.map (seeC o)
@[simp] theorem viewL_length (o : Int) (L : List (Int × Nat)) : (viewL o L).length = L.length := by simp [viewL]
theorem seeC_lab (o : Int) (c : Int × Nat) : (seeC o c).2 = c.2 := by unfold seeC; split <;> rfl
theorem okC_view {L : List (Int × Nat)} (h : okC L) (o : Int) : okC (viewL o L) := fun d hd => by
  obtain ⟨c, hc, rfl⟩ := List.mem_map.1 hd
  have := h c hc
  unfold seeC
  split
  · exact this
  · exact ⟨by simp, this.2⟩
end Go.Proofs.Ytioahddobogpjaa
/- The law on append onto a slice of the call's own, the source nil, empty or not: what the row reads as behind it, and that only that row (or a new one) has turned. Condition: the sum of the lengths fits. -/
namespace Go.Proofs.Ytioahddobogpjaa
open Go.RowKit
section
variable {P : Program} (w : World)

theorem run_append_of_nil (base : Nat) (t ty e : TypeId) (i : TypeInfo) (size : Nat) (ht : P.underlying t = some (.slice e)) (hi : P.info? e = some i)
    (v : Value) (n : Nat) (xs : List Value) (hown : w.ownsRow base e size v n xs) (c : Nat) : (Builtin.append_ #[t, t] ty #[v, .slice none 0 c]).run P w = .ok v w := by
  rcases hown.2 with ⟨rfl, rfl⟩ | ⟨g, cap, cur, rfl, _, _, hnc, _⟩
  · simp [Builtin.append_, run_underlying ht, sizeOf, typeInfo, hi, Builtin.lenOf, Builtin.firstCells]
  · simp [Builtin.append_, run_underlying ht, sizeOf, typeInfo, hi, Builtin.lenOf, Builtin.firstCells, hnc, storeCells]

theorem run_append_sl (base : Nat) (t ty e : TypeId) (i : TypeInfo) (z : Value) (size bytes : Nat) (ht : P.underlying t = some (.slice e)) (hi : P.info? e = some i) (hz : i.zero = some z)
    (hsize : i.size = size) (hby : i.bytes = bytes) (hzs : z.cells.size = size) (hsz : 0 < size)
    (v : Value) (n : Nat) (xs : List Value) (hown : w.ownsRow base e size v n xs)
    (b : Nat) (A : Option Addr) (m c : Nat) (news : List Value) (hr : Sl w b A news) (hm : news.length = m * size) (hA : A = none → m = 0) (h1 : ∀ u ∈ news, u.oneCell' = true)
    (h63 : n + m ≤ maxLen) (hbytes : (n + m) * bytes ≤ 140737488355328) (hbase : base ≤ w.heap.size) :
    ∃ v' w', (Builtin.append_ #[t, t] ty #[v, .slice A m c]).run P w = .ok v' w' ∧ w'.ownsRow base e size v' (n + m) (xs ++ news) ∧ w.grownBy w' v.ownBlock ∧
      (v'.ownBlock = v.ownBlock ∨ v'.ownBlock = some w.heap.size) := by
  rcases A with _ | ad
  · obtain rfl : m = 0 := hA rfl
    have hn : news = [] := List.eq_nil_of_length_eq_zero (by simpa using hm)
    subst hn
    exact ⟨v, w, run_append_of_nil w base t ty e i size ht hi v n xs hown c, by simpa using hown, World.grownBy.refl w _, .inl rfl⟩
  · have hcells : ∀ j u, news[j]? = some u → w.cell? (ad.add j) = some u := by
      intro j u hu
      obtain ⟨off, h, hc⟩ := hr (by rintro rfl; simp at hu)
      injection h with h
      subst h
      rw [Addr.add_lit]
      exact hc j u hu
    obtain ⟨v', w', hrun, h2, h3, _, h5⟩ := run_append_own_at (P := P) w base t ty e i z size bytes ht hi hz hsize hby hzs hsz v n xs hown ad m c news hm hcells h1 h63 hbytes hbase
    exact ⟨v', w', hrun, h2, h3, h5⟩

theorem wp_append_sl {o : Oper} {a : Act} {K : Act → World → Prop} {Q : Exit → Act → World → Prop} (s x : Operand) (t : TypeId)
    (ho : o.op = .call { callee := .builtin .append, args := #[s, x], argTypes := #[t, t] })
    (base : Nat) (e : TypeId) (i : TypeInfo) (z : Value) (size bytes : Nat) (ht : P.underlying t = some (.slice e)) (hi : P.info? e = some i) (hz : i.zero = some z)
    (hsize : i.size = size) (hby : i.bytes = bytes) (hzs : z.cells.size = size) (hsz : 0 < size)
    (v : Value) (n : Nat) (xs : List Value) (hs : a.eval s = v) (hown : w.ownsRow base e size v n xs)
    (b : Nat) (A : Option Addr) (m c : Nat) (news : List Value) (hx : a.eval x = .slice A m c) (hr : Sl w b A news) (hm : news.length = m * size) (hA : A = none → m = 0) (h1 : ∀ u ∈ news, u.oneCell' = true)
    (h63 : n + m ≤ maxLen) (hbytes : (n + m) * bytes ≤ 140737488355328) (hbase : base ≤ w.heap.size)
    (h : ∀ v' w', w'.ownsRow base e size v' (n + m) (xs ++ news) → w.grownBy w' v.ownBlock → (v'.ownBlock = v.ownBlock ∨ v'.ownBlock = some w.heap.size) → K (a.put o.dst v') w') : o.wp P a w K Q := by
  obtain ⟨v', w', hrun, h2, h3, h4⟩ := run_append_sl (P := P) w base t o.type e i z size bytes ht hi hz hsize hby hzs hsz v n xs hown b A m c news hr hm hA h1 h63 hbytes hbase
  unfold Oper.wp execOp
  simp only [ho, resolve, invoke, builtin, Sem.run_bind, Sem.run_pure, Result.andThen_ok, List.map_toArray, List.map_cons, List.map_nil, hs, hx, hrun]
  exact h v' w' h2 h3 h4

theorem wpList_append_sl {ops : Array Oper} {rest : List Oper} {o : Oper} {a : Act} {Q : Exit → Act → World → Prop} (hgd : o.guard = none) (s x : Operand) (t : TypeId)
    (ho : o.op = .call { callee := .builtin .append, args := #[s, x], argTypes := #[t, t] })
    (base : Nat) (e : TypeId) (i : TypeInfo) (z : Value) (size bytes : Nat) (ht : P.underlying t = some (.slice e)) (hi : P.info? e = some i) (hz : i.zero = some z)
    (hsize : i.size = size) (hby : i.bytes = bytes) (hzs : z.cells.size = size) (hsz : 0 < size)
    (v : Value) (n : Nat) (xs : List Value) (hs : a.eval s = v) (hown : w.ownsRow base e size v n xs)
    (b : Nat) (A : Option Addr) (m c : Nat) (news : List Value) (hx : a.eval x = .slice A m c) (hr : Sl w b A news) (hm : news.length = m * size) (hA : A = none → m = 0) (h1 : ∀ u ∈ news, u.oneCell' = true)
    (h63 : n + m ≤ maxLen) (hbytes : (n + m) * bytes ≤ 140737488355328) (hbase : base ≤ w.heap.size)
    (h : ∀ v' w', w'.ownsRow base e size v' (n + m) (xs ++ news) → w.grownBy w' v.ownBlock → (v'.ownBlock = v.ownBlock ∨ v'.ownBlock = some w.heap.size) → wpList P ops Q rest (a.put o.dst v') w') : wpList P ops Q (o :: rest) a w :=
  wpList_plain hgd fun _ hK => wp_append_sl w s x t ho base e i z size bytes ht hi hz hsize hby hzs hsz v n xs hs hown b A m c news hx hr hm hA h1 h63 hbytes hbase fun v' w' h2 h3 h4 => hK _ _ (h v' w' h2 h3 h4)
end

theorem Sl.one_new (w : World) (x : Value) (t : TypeId) : Sl (w.alloc (.cells #[x] t)) w.heap.size (some ⟨w.heap.size, 0, none⟩) [x] := fun _ =>
  ⟨0, rfl, fun j u hu => by
    have := cell_one_new w x t j u hu
    simpa [Addr.add_lit] using this⟩
theorem Sl.cells_new (w : World) (cs : Array Value) (t : TypeId) : Sl (w.alloc (.cells cs t)) w.heap.size (some ⟨w.heap.size, 0, none⟩) cs.toList := fun _ =>
  ⟨0, rfl, fun j u hu => by
    rw [Nat.zero_add, cell_of_row _ _ _ cs t (0, 0) (heap_alloc_new w _)]
    simpa using hu⟩
/-- An address is there where there is anything. -/
theorem Sl.none_len {w : World} {b : Nat} {A : Option Addr} {xs : List Value} {m : Nat} (h : Sl w b A xs) (hm : xs.length = m) : A = none → m = 0 := fun hA => by
  rcases Nat.eq_zero_or_pos m with h0 | h0
  · exact h0
  · obtain ⟨off, e, _⟩ := h (by rintro rfl; simp at hm; omega)
    rw [hA] at e
    cases e
end Go.Proofs.Ytioahddobogpjaa
/- Slices of int, and a row of the call's own of which an element is written. No condition. -/
namespace Go.Proofs.Ytioahddobogpjaa
open Go.RowKit

theorem own_set {w : World} {B n : Nat} {e : TypeId} {v : Value} {xs : List Value} (h : w.ownsRow B e 1 v n xs) (hn : 0 < n) :
    ∃ g cap, v = .slice (some ⟨g, 0, none⟩) n cap ∧ B ≤ g ∧ g < w.heap.size ∧ n ≤ cap ∧ (∀ j u, xs[j]? = some u → w.cell? ⟨g, j, none⟩ = some u) ∧ (∀ j, w.frozen? ⟨g, j, none⟩ = false) ∧
      ∀ (j : Nat) (u : Value) (w' : World), w'.heap[g]? = (w.setCell ⟨g, j, none⟩ u).heap[g]? → w'.ownsRow B e 1 v n (xs.set j u) := by
  rcases h.2 with ⟨_, h0⟩ | ⟨g, cap, cur, hv, hg, hh, hnc, hcm, hcs, hct⟩
  · omega
  · refine ⟨g, cap, hv, hg, (Array.getElem?_eq_some_iff.1 hh).1, hnc, fun j u hu => ?_, fun j => frozen_of_row w g j _ _ hh, fun j u w' hw => ?_⟩
    · rw [cell_of_row w g j _ _ _ hh]
      rw [← hct, List.getElem?_take] at hu
      split at hu
      · simpa using hu
      · cases hu
    · rw [heap_setCell_same w g j cur _ _ hh] at hw
      refine ⟨by rw [List.length_set]; exact h.1, .inr ⟨g, cap, _, hv, hg, hw, hnc, hcm, by simpa using hcs, ?_⟩⟩
      rw [← hct]
      simp [List.take_set]
theorem own_set2 {w : World} {B n g c : Nat} {e : TypeId} {xs : List Value} (hn : 0 < n) (h : w.ownsRow B e 1 (.slice (some ⟨g, 0, none⟩) n c) n xs) (j : Nat) (u : Value) : (w.setCell ⟨g, j, none⟩ u).ownsRow B e 1 (.slice (some ⟨g, 0, none⟩) n c) n (xs.set j u) := by
  obtain ⟨g', cap', hv, _, _, _, _, _, hset⟩ := own_set h hn
  injection hv with h1 _ _
  injection h1 with h1
  injection h1 with h1 _ _
  subst h1
  exact hset j u _ rfl
/-- Numbers as values. -/
def ints (l : List Nat) : List Value := l.map fun (x : Nat) => Value.int .i64 (x : Int)
@[simp] theorem ints_length (l : List Nat) : (ints l).length = l.length := by simp [ints]
@[simp] theorem ints_nil : ints [] = [] := rfl
theorem ints_get? {l : List Nat} {k x : Nat} (h : l[k]? = some x) : (ints l)[k]? = some (.int .i64 (x : Int)) := by simp [ints, h]
theorem ints_set (l : List Nat) (k x : Nat) : (ints l).set k (.int .i64 (x : Int)) = ints (l.set k x) := by simp [ints, List.map_set]
theorem own_mod {w w' : World} {B n : Nat} {e : TypeId} {v : Value} {xs : List Value} (h : w.ownsRow B e 1 v n xs) {S : Nat → Prop} (hm : Mod S w w') (hs : ∀ k, v.ownBlock = some k → ¬ S k) : w'.ownsRow B e 1 v n xs := by
  refine ⟨h.1, ?_⟩
  rcases h.2 with h2 | ⟨g, cap, cur, rfl, hg, hh, r⟩
  · exact .inl h2
  · exact .inr ⟨g, cap, cur, rfl, hg, by rw [hm.block g (Array.getElem?_eq_some_iff.1 hh).1 (hs g rfl)]; exact hh, r⟩
theorem own_ext {w w' : World} {B n : Nat} {e : TypeId} {v : Value} {xs : List Value} (h : w.ownsRow B e 1 v n xs) (hm : Below w.heap.size w w') : w'.ownsRow B e 1 v n xs :=
  own_mod h (Mod.of_below hm) fun k hk => by have := (World.ownsRow.lt h k hk).2; omega
end Go.Proofs.Ytioahddobogpjaa
/- Rows of cells of the call's own: what they read as, what append makes of them, how one is written. Conditions: those said. -/
namespace Go.Proofs.Ytioahddobogpjaa
open Go.RowKit

/-- The slice value v is the call's own (its block not below B), and holds these cells, of type e. -/
abbrev RowC (e : TypeId) (w : World) (B : Nat) (v : Value) (L : List (Int × Nat)) : Prop := w.ownsRow B e 2 v L.length (cv L)
theorem owns_mod {w w' : World} {B n sz : Nat} {e : TypeId} {v : Value} {xs : List Value} (h : w.ownsRow B e sz v n xs) {S : Nat → Prop} (hm : Mod S w w') (hs : ∀ k, v.ownBlock = some k → ¬ S k) : w'.ownsRow B e sz v n xs := by
  refine ⟨h.1, ?_⟩
  rcases h.2 with h2 | ⟨g, cap, cur, rfl, hg, hh, r⟩
  · exact .inl h2
  · exact .inr ⟨g, cap, cur, rfl, hg, by rw [hm.block g (Array.getElem?_eq_some_iff.1 hh).1 (hs g rfl)]; exact hh, r⟩
theorem owns_low {w : World} {B B' n sz : Nat} {e : TypeId} {v : Value} {xs : List Value} (h : w.ownsRow B e sz v n xs) (hB : B' ≤ B) : w.ownsRow B' e sz v n xs := by
  refine ⟨h.1, ?_⟩
  rcases h.2 with h2 | ⟨g, cap, cur, rfl, hg, r⟩
  · exact .inl h2
  · exact .inr ⟨g, cap, cur, rfl, by omega, r⟩
namespace RowC
variable {e : TypeId} {w w' : World} {B : Nat} {v : Value} {L : List (Int × Nat)}
theorem nil_ (e : TypeId) (w : World) (B : Nat) : RowC e w B (.slice none 0 0) [] := World.ownsRow_nil _ _ _ _
theorem mod (h : RowC e w B v L) {S : Nat → Prop} (hm : Mod S w w') (hs : ∀ k, v.ownBlock = some k → ¬ S k) : RowC e w' B v L := owns_mod h hm hs
theorem ext (h : RowC e w B v L) (hm : Below w.heap.size w w') : RowC e w' B v L :=
  owns_mod h (Mod.of_below hm) fun k hk => by have := (World.ownsRow.lt h k hk).2; omega
theorem sl (h : RowC e w B v L) : ∃ A c b, v = .slice A L.length c ∧ L.length ≤ c ∧ c ≤ maxLen ∧ (A = none → L.length = 0) ∧ B ≤ b ∧ Sl w b A (cv L) ∧ (∀ k, v.ownBlock = some k → k = b) := by
  rcases h.2 with ⟨rfl, hn⟩ | ⟨g, cap, cur, rfl, hb, _, hnc, hcm, _⟩
  · have hl : L = [] := List.eq_nil_of_length_eq_zero hn
    subst hl
    exact ⟨none, 0, B, rfl, Nat.le_refl _, by simp [maxLen], fun _ => rfl, Nat.le_refl _, Sl.nil_ _ _ _, by simp [Value.ownBlock]⟩
  · refine ⟨_, cap, g, rfl, hnc, hcm, by simp, hb, fun _ => ⟨0, rfl, fun j u hu => ?_⟩, by simp [Value.ownBlock]⟩
    have := h.cells (g := g) rfl j u hu
    simpa [Addr.add_lit] using this
/-- A cell of it, written. -/
theorem set_ (h : RowC e w B v L) {k : Nat} (hk : k < L.length) :
    ∃ g cap, v = .slice (some ⟨g, 0, none⟩) L.length cap ∧ B ≤ g ∧ g < w.heap.size ∧ L.length ≤ cap ∧ w.cell? ⟨g, k * 2, none⟩ = some (.int .i32 L[k].1) ∧ w.cell? ⟨g, k * 2 + 1, none⟩ = some (.int .u32 ((L[k].2 : Nat) : Int)) ∧ (∀ j, w.frozen? ⟨g, j, none⟩ = false) ∧
      (∀ (x : Int) w', w'.heap[g]? = (w.setCell ⟨g, k * 2, none⟩ (.int .i32 x)).heap[g]? → RowC e w' B v (L.set k (x, L[k].2))) ∧
      (∀ (c : Int × Nat) w', w'.heap[g]? = ((w.setCell ⟨g, k * 2, none⟩ (.int .i32 c.1)).setCell ⟨g, k * 2 + 1, none⟩ (.int .u32 ((c.2 : Nat) : Int))).heap[g]? → RowC e w' B v (L.set k c)) := by
  rcases h.2 with ⟨_, hn⟩ | ⟨g, cap, cur, hv, hg, hh, hnc, hcm, hcs, hct⟩
  · omega
  · have hcell : ∀ j u, (cv L)[j]? = some u → w.cell? ⟨g, j, none⟩ = some u := fun j u hu => by
      rw [cell_of_row w g j _ _ _ hh]
      rw [← hct, List.getElem?_take] at hu
      split at hu
      · simpa using hu
      · cases hu
    have hset : ∀ (L' : List (Int × Nat)) (cur' : Array Value) w', L'.length = L.length → cur'.size = cur.size → cur'.toList.take (L.length * 2) = cv L' → w'.heap[g]? = some (.cells cur' e (0, 0)) → RowC e w' B v L' := fun L' cur' w' h1 h2 h3 h4 => by
      refine ⟨by simp, .inr ⟨g, cap, cur', by rw [hv, h1], hg, h4, by omega, hcm, by omega, by rw [h1]; exact h3⟩⟩
    have s1 : ∀ x : Int, (cv L).set (k * 2) (.int .i32 x) = cv (L.set k (x, L[k].2)) := fun x => by
      clear hset hcell hct hh hv h hnc
      induction L generalizing k with
      | nil => simp at hk
      | cons c L ih => cases k with
        | zero => rfl
        | succ k =>
          have := ih (by simpa using hk)
          rw [cv_cons, show (k + 1) * 2 = k * 2 + 1 + 1 by omega, List.set_cons_succ, List.set_cons_succ, this]
          rfl
    have s2 : ∀ c : Int × Nat, ((cv L).set (k * 2) (.int .i32 c.1)).set (k * 2 + 1) (.int .u32 ((c.2 : Nat) : Int)) = cv (L.set k c) := fun x => by
      clear hset hcell hct hh hv h s1 hnc
      induction L generalizing k with
      | nil => simp at hk
      | cons c L ih => cases k with
        | zero => rfl
        | succ k =>
          have := ih (by simpa using hk)
          rw [cv_cons, show (k + 1) * 2 + 1 = k * 2 + 1 + 1 + 1 by omega, show (k + 1) * 2 = k * 2 + 1 + 1 by omega, List.set_cons_succ, List.set_cons_succ, List.set_cons_succ, List.set_cons_succ, this]
          rfl
    refine ⟨g, cap, hv, hg, (Array.getElem?_eq_some_iff.1 hh).1, hnc, hcell _ _ (cv_val hk), hcell _ _ (cv_lab hk), fun j => frozen_of_row w g j _ _ hh, fun x w' hw => ?_, fun c w' hw => ?_⟩
    · rw [heap_setCell_same w g _ cur _ _ hh] at hw
      refine hset _ _ w' (by simp) (by simp) ?_ hw
      rw [Array.toList_setIfInBounds, List.take_set, hct, s1]
    · rw [heap_setCell_same _ g _ _ _ _ (heap_setCell_same w g _ cur _ _ hh)] at hw
      refine hset _ _ w' (by simp) (by simp) ?_ hw
      rw [Array.toList_setIfInBounds, Array.toList_setIfInBounds, List.take_set, List.take_set, hct, s2]
end RowC
theorem cellB_info : (Try.prog.info? 29).map (fun i => (i.zero, i.size, i.bytes)) = some (some (.agg #[.int .i32 0, .int .u32 0]), 2, 8) := by kernel_rfl
theorem cellR_info : (Try.prog.info? 83).map (fun i => (i.zero, i.size, i.bytes)) = some (some (.agg #[.int .i32 0, .int .u32 0]), 2, 8) := by kernel_rfl
section
variable (w : World)
/-- append of cells onto a row of the call's own. -/
theorem wpList_appC {t e : TypeId} (ht : Try.prog.underlying t = some (.slice e)) (hinf : (Try.prog.info? e).map (fun i => (i.zero, i.size, i.bytes)) = some (some (.agg #[.int .i32 0, .int .u32 0]), 2, 8)) {ops : Array Oper} {rest : List Oper} {o : Oper} {a : Act} {Q : Exit → Act → World → Prop} (hgd : o.guard = none) (s x : Operand)
    (ho : o.op = .call { callee := .builtin .append, args := #[s, x], argTypes := #[t, t] })
    (B : Nat) (v : Value) (L : List (Int × Nat)) (hs : a.eval s = v) (hown : RowC e w B v L)
    (b : Nat) (A : Option Addr) (m c : Nat) (M : List (Int × Nat)) (hx : a.eval x = .slice A m c) (hr : Sl w b A (cv M)) (hm : M.length = m)
    (hlen : L.length + m ≤ 1000000000000) (hbase : B ≤ w.heap.size)
    (h : ∀ v' w', RowC e w' B v' (L ++ M) → Mod (fun i => v.ownBlock = some i) w w' → (v'.ownBlock = v.ownBlock ∨ v'.ownBlock = some w.heap.size) → wpList Try.prog ops Q rest (a.put o.dst v') w') : wpList Try.prog ops Q (o :: rest) a w := by
  obtain ⟨i0, hi0, hz0, hz1, hz2⟩ := info_parts hinf
  refine wpList_append_sl (P := Try.prog) w hgd s x _ ho B e i0 _ 2 8 ht hi0 hz0 hz1 hz2 rfl (by omega) v L.length (cv L) hs hown b A m c (cv M) hx hr (by simp [hm]) (fun hA => by have := Sl.none_len hr rfl hA; simp at this; omega) (cv_one _)
    (by simp only [maxLen]; omega) (by omega) hbase ?_
  intro v' w' h1 h2 h3
  exact h v' w' (by unfold RowC; rw [List.length_append, hm, cv_append]; exact h1) (Mod.of_grown h2) h3
end
/-- One cell in a block of its own, as an append's source. -/
theorem Sl.cell_new (w : World) (c : Int × Nat) (t : TypeId) : Sl (w.alloc (.cells #[.int .i32 c.1, .int .u32 ((c.2 : Nat) : Int)] t)) w.heap.size (some ⟨w.heap.size, 0, none⟩) (cv [c]) := Sl.cells_new w _ t
theorem Mod.below_own {w w' : World} {v : Value} {B : Nat} (h : Mod (fun i => v.ownBlock = some i) w w') (hB : B ≤ w.heap.size) (hv : ∀ k, v.ownBlock = some k → B ≤ k) : Below B w w' :=
  h.below hB fun i hi hk => by have := hv i hk; omega
end Go.Proofs.Ytioahddobogpjaa
/- Gates: each lets an arm of a walk be tried at one operation alone (by 'with_reducible refine'); it says nothing by itself. No condition. -/
namespace Go.Proofs.Ytioahddobogpjaa
open Go.RowKit

section
variable {P : Program} {ops : Array Oper} {rest : List Oper} {a : Act} {w : World} {Q : Exit → Act → World → Prop} {d : Option Tmp} {ty : TypeId} {pos : String} {af : Array Edge} {g : Option (Nat × Bool)}
theorem at_ld (T : TypeId) (s : Tmp) (h : wpList P ops Q (Oper.mk d (.load T (.tmp s)) ty pos af g :: rest) a w) : wpList P ops Q (Oper.mk d (.load T (.tmp s)) ty pos af g :: rest) a w := h
theorem at_st (T : TypeId) (x y : Tmp) (h : wpList P ops Q (Oper.mk d (.store T (.tmp x) (.tmp y)) ty pos af g :: rest) a w) : wpList P ops Q (Oper.mk d (.store T (.tmp x) (.tmp y)) ty pos af g :: rest) a w := h
theorem at_al (T : TypeId) (k : Tmp) (h : wpList P ops Q (Oper.mk (some k) (.alloc T) ty pos af g :: rest) a w) : wpList P ops Q (Oper.mk (some k) (.alloc T) ty pos af g :: rest) a w := h
theorem at_bd (T : TypeId) (k : Tmp) (ps : Array (Nat × Operand)) (h : wpList P ops Q (Oper.mk (some k) (.build T ps) ty pos af g :: rest) a w) : wpList P ops Q (Oper.mk (some k) (.build T ps) ty pos af g :: rest) a w := h
theorem at_ca (k : Tmp) (c : Call) (h : wpList P ops Q (Oper.mk (some k) (.call c) ty pos af g :: rest) a w) : wpList P ops Q (Oper.mk (some k) (.call c) ty pos af g :: rest) a w := h
theorem at_bi (k : Tmp) (b : BinOp) (T U : TypeId) (x y : Operand) (h : wpList P ops Q (Oper.mk (some k) (.binOp b T x y U) ty pos af g :: rest) a w) : wpList P ops Q (Oper.mk (some k) (.binOp b T x y U) ty pos af g :: rest) a w := h
end
end Go.Proofs.Ytioahddobogpjaa
/- The reference's Sees, View, Put, Same over lists of cells. Conditions: those said. -/
namespace Go.Proofs.Ytioahddobogpjaa
open Go.RowKit

theorem sl_cell {w : World} {b off : Nat} {L : List (Int × Nat)} (h : ∀ j u, (cv L)[j]? = some u → w.cell? ⟨b, off + j, none⟩ = some u) {i : Nat} (hi : i < L.length) :
    w.cell? ⟨b, off + i * 2, none⟩ = some (.int .i32 L[i].1) ∧ w.cell? ⟨b, off + i * 2 + 1, none⟩ = some (.int .u32 ((L[i].2 : Nat) : Int)) :=
  ⟨h _ _ (cv_val hi), h _ _ (cv_lab hi)⟩
theorem sl_off {w : World} {b : Nat} {A : Option Addr} {L : List (Int × Nat)} (h : Sl w b A (cv L)) {i : Nat} (hi : i < L.length) :
    ∃ off, A = some ⟨b, off, none⟩ ∧ w.cell? ⟨b, off + i * 2, none⟩ = some (.int .i32 L[i].1) ∧ w.cell? ⟨b, off + i * 2 + 1, none⟩ = some (.int .u32 ((L[i].2 : Nat) : Int)) := by
  obtain ⟨off, e, hc⟩ := h (by intro h0; have := congrArg List.length h0; simp at this; omega)
  exact ⟨off, e, sl_cell hc hi⟩
theorem sees_bit {m k : Nat} (hk : k < 32) : sees m (k : Int) = m.testBit k := by
  unfold sees
  rw [aloneN_nat hk]
  have : m &&& 2 ^ k = if m.testBit k = true then 2 ^ k else 0 := by
    apply Nat.eq_of_testBit_eq
    intro j
    rw [Nat.testBit_and, Nat.testBit_two_pow]
    by_cases h : m.testBit k = true
    · rw [if_pos h, Nat.testBit_two_pow]
      by_cases hij : k = j
      · subst hij; simp [h]
      · simp [hij]
    · rw [if_neg h, Nat.zero_testBit]
      by_cases hij : k = j
      · subst hij; simp [h]
      · simp [hij]
  rw [this]
  cases h : m.testBit k <;> simp
theorem sees_out {m : Nat} {o : Int} (h : ¬(0 ≤ o ∧ o < 32)) : sees m o = false := by
  unfold sees aloneN
  rw [if_neg h]
  simp
/-- Block b is a cell of the reference's. -/
def BoxV (w : World) (b : Nat) (x : Int) (y : Nat) : Prop := w.heap[b]? = some (.cells #[.int .i32 x, .int .u32 (y : Int)] 83 (0, 0))
set_option maxHeartbeats 2000000 in
set_option maxRecDepth 20000 in
theorem RefSees_calls (x : Int) (y : Nat) (o : Int) (w : World) (hy : y < 4294967296) :
    Calls Try.prog 59 #[.agg #[.int .i32 x, .int .u32 (y : Int)], .int .i64 o] w fun e w' => e = .returned (.bool (sees y o)) ∧ Below w.heap.size w w' := by
  have hb := below_alloc1 w (.cells #[.int .i32 x, .int .u32 (y : Int)] 83)
  obtain ⟨r, hr⟩ : ∃ r, r = sees y o := ⟨_, rfl⟩
  rw [← hr]
  have HR := Lib.hid hr
  clear hr
  by_cases h0 : 0 ≤ o
  · by_cases h1 : o < 32
    · obtain ⟨k, rfl⟩ : ∃ k : Nat, o = (k : Int) := ⟨o.toNat, by omega⟩
      have hb2 : ((y : Int) / 2 ^ k).tmod 2 = (((y / 2 ^ k) % 2 : Nat) : Int) := by
        rw [Int.tmod_eq_emod_of_nonneg (Int.ediv_nonneg (by omega) (Int.pow_nonneg (by omega)))]
        simp
      have hb3 : (((y : Int) / 2 ^ k).tmod 2 == 1) = r := by
        rw [HR.out, sees_bit (by omega), hb2, Nat.testBit_eq_decide_div_mod_eq, Bool.eq_iff_iff]
        simp only [beq_iff_eq, decide_eq_true_eq]
        omega
      have e1 : decide ((k : Int) < 32) = true := by simp; omega
      have e0 : decide ((0 : Int) ≤ (k : Int)) = true := by simp
      clear hb2
      go_enter Try.func59, Try.ntmps59
      go_wp2_with fail
      go_ret
      exact ⟨rfl, hb⟩
    · have e1 : decide (o < 32) = false := by simp; omega
      have e0 : decide (0 ≤ o) = true := by simp; omega
      go_enter Try.func59, Try.ntmps59
      go_wp2_with fail
      go_ret
      exact ⟨by rw [HR.out, sees_out (by omega)]; rfl, hb⟩
  · have e0 : decide (0 ≤ o) = false := by simp; omega
    go_enter Try.func59, Try.ntmps59
    go_wp2_with fail
    go_ret
    exact ⟨by rw [HR.out, sees_out (by omega)]; rfl, hb⟩
theorem take_next {α : Type} {L : List α} {k : Nat} (hk : k < L.length) : L.take (k + 1) = L.take k ++ [L[k]] := by
  rw [List.take_succ_eq_append_getElem hk]
set_option maxHeartbeats 4000000 in
set_option maxRecDepth 20000 in
theorem RefView_calls (A : Option Addr) (L : List (Int × Nat)) (n c b : Nat) (o : Int) (w : World) (hs : Sl w b A (cv L)) (hn : L.length = n) (hm : n ≤ 1000000) (hok : okC L) :
    Calls Try.prog 37 #[.slice A n c, .int .i64 o] w fun e w' => ∃ v, e = .returned v ∧ RowC 83 w' w.heap.size v (viewL o L) ∧ Below w.heap.size w w' := by
  subst hn
  have HOK := Lib.hid hok
  clear hok
  go_enter Try.func37, Try.ntmps37
  go_wp2_with fail
  go_loopw [5, 7, 10] (fun out p i wr => ∃ k : Nat, k ≤ L.length ∧ i = .int .i64 k ∧ RowC 83 wr w.heap.size out (viewL o (L.take k)) ∧ Below w.heap.size w wr) (fun _ _ i _ => L.length - (intOf i).toNat)
  case atStart => exact ⟨0, Nat.zero_le _, rfl, RowC.nil_ _ _ _, Below.refl _ _⟩
  case round =>
    obtain ⟨k, hk, rfl, hr, hb⟩ := hrel
    rename_i v0 _ _
    by_cases hlt : k < L.length
    · obtain ⟨off, rfl, h0, h1⟩ := sl_off (Sl.ext hs hb) hlt
      have hy := (okC_get HOK.out hlt).2
      have hvl : viewL o (L.take (k + 1)) = viewL o (L.take k) ++ [seeC o L[k]] := by unfold viewL; rw [take_next hlt, List.map_append]; rfl
      have hlen : (viewL o (L.take k)).length = k := by simp; omega
      have hsc : seeC o L[k] = (if sees L[k].2 o = true then L[k].1 else 0, L[k].2) := by unfold seeC; split <;> rfl
      obtain ⟨x, hx⟩ : ∃ x, x = L[k].1 := ⟨_, rfl⟩
      obtain ⟨y, hy'⟩ : ∃ y, y = L[k].2 := ⟨_, rfl⟩
      rw [← hx, ← hy'] at hsc
      rw [← hx] at h0
      rw [← hy'] at h1 hy
      have hH := fun W => RefSees_calls x y o W hy
      obtain ⟨d, hd⟩ : ∃ d, d = sees y o := ⟨_, rfl⟩
      rw [← hd] at hsc hH
      have HV := Lib.hid hvl
      have HL := Lib.hid hlen
      have ej : (k : Int) < (L.length : Int) := by omega
      have hzb := hb.size
      clear hd hx hy' hvl hlen
      have q0 : BoxV (wr.alloc (.cells #[.int .i32 x, .int .u32 (y : Int)] 83)) wr.heap.size x y := heap_alloc_new wr _
      cases d with
      | true =>
        rw [if_pos rfl] at hsc
        have HS := Lib.hid hsc
        clear hsc
        go_wp2_with fail
        refine (hH _).mono ?_
        rintro e w2 ⟨rfl, hb2⟩
        have q1 : BoxV w2 wr.heap.size x y := (hb2.block _ (by simp)).trans q0
        have c0 := cell_of_row w2 wr.heap.size 0 _ _ _ q1
        have c1 := cell_of_row w2 wr.heap.size 1 _ _ _ q1
        simp only [List.getElem?_toArray, List.getElem?_cons_zero, List.getElem?_cons_succ] at c0 c1
        have hb3 := (hb.alloc hzb (.cells #[.int .i32 x, .int .u32 (y : Int)] 83)).trans (hb2.mono (by simp; omega))
        have hr2 := RowC.ext (World.ownsRow.alloc hr (.cells #[.int .i32 x, .int .u32 (y : Int)] 83)) hb2
        have hz3 := hb3.size
        clear hb2 q0 hH
        go_wp2_with ((with_reducible refine at_ca 22 _ ?_); refine wpList_appC _ Try.underlying42 cellR_info rfl (.tmp 19) (.tmp 21) rfl w.heap.size _ (viewL o (L.take k)) rfl (World.ownsRow.alloc hr2 _) _ (some ⟨_, 0, none⟩) 1 1 [(x, y)] rfl (Sl.cell_new _ (x, y) _) rfl (by rw [HL.out]; omega) (by simp; omega) ?_; intro v' w4 hrow hmod hat)
        have hb4 := (hb3.alloc hz3 _).trans (hmod.below_own (B := w.heap.size) (by simp; omega) (fun i h => (World.ownsRow.lt hr2 i h).1))
        go_roundw
        case rel => exact ⟨k + 1, by omega, by go_num, by rw [HV.out, HS.out]; exact hrow, hb4⟩
        case measure => simp [intOf]; omega
      | false =>
        rw [if_neg (by simp)] at hsc
        have HS := Lib.hid hsc
        clear hsc
        go_wp2_with fail
        refine (hH _).mono ?_
        rintro e w2 ⟨rfl, hb2⟩
        have q1 : BoxV w2 wr.heap.size x y := (hb2.block _ (by simp)).trans q0
        have c0 := cell_of_row w2 wr.heap.size 0 _ _ _ q1
        have c1 := cell_of_row w2 wr.heap.size 1 _ _ _ q1
        have f0 := frozen_of_row w2 wr.heap.size 0 _ _ q1
        simp only [List.getElem?_toArray, List.getElem?_cons_zero, List.getElem?_cons_succ] at c0 c1
        have hb3 := (hb.alloc hzb (.cells #[.int .i32 x, .int .u32 (y : Int)] 83)).trans (hb2.mono (by simp; omega))
        have hr2 := RowC.ext (World.ownsRow.alloc hr (.cells #[.int .i32 x, .int .u32 (y : Int)] 83)) hb2
        have hr3 : RowC 83 (w2.setCell ⟨wr.heap.size, 0, none⟩ (.int .i32 0)) w.heap.size _ (viewL o (L.take k)) := RowC.mod hr2 (Mod.setCell w2 ⟨wr.heap.size, 0, none⟩ (.int .i32 0)) (fun i hi h => by
          have h2 := (World.ownsRow.lt hr i hi).2
          have h3 : i = wr.heap.size := h
          omega)
        have hb3 := hb3.setCell (p := ⟨wr.heap.size, 0, none⟩) (by simp; omega) (.int .i32 0)
        have hz3 := hb3.size
        have hsn := Sl.cell_new (w2.setCell ⟨wr.heap.size, 0, none⟩ (.int .i32 0)) (0, y) 83
        rw [show (w2.setCell ⟨wr.heap.size, 0, none⟩ (.int .i32 0)).heap.size = w2.heap.size by simp [World.setCell]] at hsn
        clear hb2 q0 hH
        go_wp2_with ((with_reducible refine at_ca 22 _ ?_); refine wpList_appC _ Try.underlying42 cellR_info rfl (.tmp 19) (.tmp 21) rfl w.heap.size _ (viewL o (L.take k)) rfl (World.ownsRow.alloc hr3 _) _ (some ⟨_, 0, none⟩) 1 1 [(0, y)] rfl hsn rfl (by rw [HL.out]; omega) (hb3.alloc hz3 _).size ?_; intro v' w4 hrow hmod hat)
        have hb4 := (hb3.alloc hz3 _).trans (hmod.below_own (B := w.heap.size) (hb3.alloc hz3 _).size (fun i h => (World.ownsRow.lt hr3 i h).1))
        go_roundw
        case rel => exact ⟨k + 1, by omega, by go_num, by rw [HV.out, HS.out]; exact hrow, hb4⟩
        case measure => simp [intOf]; omega
    · obtain rfl : k = L.length := by omega
      rw [List.take_length] at hr
      go_wp2_with fail
      go_ret
      exact ⟨_, rfl, hr, hb⟩
end Go.Proofs.Ytioahddobogpjaa
/- The first few of a list of cells; cells as the reference has them. Conditions: those said. -/
namespace Go.Proofs.Ytioahddobogpjaa
open Go.RowKit

set_option maxHeartbeats 4000000 in
set_option maxRecDepth 20000 in
theorem FewC_calls (A : Option Addr) (L : List (Int × Nat)) (n c b : Nat) (w : World) (hs : Sl w b A (cv L)) (hn : L.length = n) (hnc : n ≤ c) :
    Calls Try.prog 9 #[.slice A n c] w fun e w' => ∃ v, e = .returned v ∧ RowC 29 w' w.heap.size v (L.take 48) ∧ Below w.heap.size w w' := by
  have HN := Lib.hid hn
  obtain ⟨K, hK⟩ : ∃ K, K = min n 48 := ⟨_, rfl⟩
  have hmin : (if (48 : Int) < (n : Int) then (48 : Int) else (n : Int)) = (K : Int) := by split <;> omega
  have hKc : (K : Int) ≤ (c : Int) := by omega
  have hlt : L.take 48 = L.take K := by
    rw [hK, ← hn, ← List.take_take]
    exact (List.take_of_length_le (by rw [List.length_take]; omega)).symm
  have hpl : (L.take K).length = K := by rw [List.length_take, hn]; omega
  have hsK : Sl (w.alloc (.cells #[] 29)) b A (cv (L.take K)) := by
    have h1 := Sl.take (hs.alloc (.cells #[] 29)) (K * 2)
    rwa [cv_take] at h1
  have ho0 : RowC 29 (w.alloc (.cells #[] 29)) w.heap.size (.slice (some ⟨w.heap.size, 0, none⟩) 0 0) [] := World.ownsRow_made w #[] 0 (Nat.le_refl _) (by simp [maxLen]) rfl
  rw [hlt]
  have hK48 : K ≤ 48 := by omega
  clear hK hn hs hlt
  go_enter Try.func9, Try.ntmps9
  go_wp2_with ((with_reducible refine at_ca 9 _ ?_); refine wpList_appC _ Try.underlying22 cellB_info rfl (.tmp 3) (.tmp 8) rfl w.heap.size (.slice (some ⟨w.heap.size, 0, none⟩) 0 0) [] rfl ho0 b A K c (L.take K) rfl hsK hpl (by simp; omega) (by simp) ?_; intro v2 w2 hrow2 hmod2 hown2)
  go_ret
  exact ⟨_, rfl, by rw [List.nil_append] at hrow2; exact hrow2, (below_alloc1 w _).trans (hmod2.below_own (by simp) (fun i h => by simp [Value.ownBlock] at h; omega))⟩
set_option maxHeartbeats 4000000 in
set_option maxRecDepth 20000 in
theorem Own_calls (A : Option Addr) (L : List (Int × Nat)) (n c b : Nat) (w : World) (hs : Sl w b A (cv L)) (hn : L.length = n) (hm : n ≤ 1000000) :
    Calls Try.prog 16 #[.slice A n c] w fun e w' => ∃ v, e = .returned v ∧ RowC 83 w' w.heap.size v L ∧ Below w.heap.size w w' := by
  subst hn
  go_enter Try.func16, Try.ntmps16
  go_wp2_with fail
  go_loopw [3, 5, 8] (fun out p i wr => ∃ k : Nat, k ≤ L.length ∧ i = .int .i64 k ∧ RowC 83 wr w.heap.size out (L.take k) ∧ Below w.heap.size w wr) (fun _ _ i _ => L.length - (intOf i).toNat)
  case atStart => exact ⟨0, Nat.zero_le _, rfl, RowC.nil_ _ _ _, Below.refl _ _⟩
  case round =>
    obtain ⟨k, hk, rfl, hr, hb⟩ := hrel
    rename_i v0 _ _
    by_cases hlt : k < L.length
    · obtain ⟨off, rfl, h0, h1⟩ := sl_off (Sl.ext hs hb) hlt
      have hlen : (L.take k).length = k := by simp; omega
      have HT := Lib.hid (take_next hlt)
      obtain ⟨p, hp⟩ : ∃ p, p = L[k] := ⟨_, rfl⟩
      rw [← hp] at h0 h1 HT
      obtain ⟨x, y⟩ := p
      simp only at h0 h1
      have HL := Lib.hid hlen
      have ej : (k : Int) < (L.length : Int) := by omega
      have hzb := hb.size
      clear hp hlen
      have hb3 := hb.alloc hzb (.cells #[.int .i32 x, .int .u32 (y : Int)] 29)
      have hr2 := World.ownsRow.alloc hr (.cells #[.int .i32 x, .int .u32 (y : Int)] 29)
      have hz3 := hb3.size
      have hsn := Sl.cell_new (wr.alloc (.cells #[.int .i32 x, .int .u32 (y : Int)] 29)) (x, y) 83
      rw [show (wr.alloc (.cells #[.int .i32 x, .int .u32 (y : Int)] 29)).heap.size = wr.heap.size + 1 by simp] at hsn
      go_wp2_with ((with_reducible refine at_ca 19 _ ?_); refine wpList_appC _ Try.underlying42 cellR_info rfl (.tmp 12) (.tmp 18) rfl w.heap.size _ (L.take k) rfl (World.ownsRow.alloc hr2 _) _ (some ⟨_, 0, none⟩) 1 1 [(x, y)] rfl hsn rfl (by rw [HL.out]; omega) (hb3.alloc hz3 _).size ?_; intro v' w4 hrow hmod hat)
      have hb4 := (hb3.alloc hz3 _).trans (hmod.below_own (B := w.heap.size) (hb3.alloc hz3 _).size (fun i h => (World.ownsRow.lt hr2 i h).1))
      go_roundw
      case rel => exact ⟨k + 1, by omega, by go_num, by rw [HT.out]; exact hrow, hb4⟩
      case measure => simp [intOf]; omega
    · obtain rfl : k = L.length := by omega
      rw [List.take_length] at hr
      go_wp2_with fail
      go_ret
      exact ⟨_, rfl, hr, hb⟩
end Go.Proofs.Ytioahddobogpjaa
