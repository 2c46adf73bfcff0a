/- Parts of one proof, in their order. -/
import Derived.WalkKit
import Derived.WalkSpells
import Derived.WalkLawsBesides
import Derived.Deep.Draws
import Derived.Maps.AppendAt
import Derived.Deep.AppendLies
import Derived.Laws.Rows
import Derived.Lib.Hide
import Derived.Deep.QuietTactic
import Derived.BigQuiet
import Derived.IntWalk
import Derived.Test.YtfckgfoimpileaaDoorRows
/- Words for memory that every proof of this seat uses: which blocks a call may have turned (Mod), a slice that reads as a list (Sl), bytes as values (bv). No condition: plain lemmas. -/
namespace Go.Proofs.YtfckgfoimpileaaDoor
open Go.RowKit

/-- Of what was there, only blocks of S may have turned. -/
structure Mod (S : Nat → Prop) (w w' : World) : Prop where
  os : w'.os = w.os
  tape : w'.tape = w.tape
  output : w'.output = w.output
  size : w.heap.size ≤ w'.heap.size
  block : ∀ k, k < w.heap.size → ¬ S k → w'.heap[k]? = w.heap[k]?

namespace Mod
theorem refl (S : Nat → Prop) (w : World) : Mod S w w := ⟨rfl, rfl, rfl, Nat.le_refl _, fun _ _ _ => rfl⟩
theorem trans {S S1 S2 : Nat → Prop} {a b c : World} (h : Mod S1 a b) (k : Mod S2 b c) (h1 : ∀ i, i < a.heap.size → S1 i → S i) (h2 : ∀ i, i < a.heap.size → S2 i → S i) : Mod S a c :=
  ⟨k.os.trans h.os, k.tape.trans h.tape, k.output.trans h.output, Nat.le_trans h.size k.size,
    fun i hi hn => (k.block i (Nat.lt_of_lt_of_le hi h.size) (fun e => hn (h2 i hi e))).trans (h.block i hi (fun e => hn (h1 i hi e)))⟩
theorem mono {S T : Nat → Prop} {a b : World} (h : Mod S a b) (hs : ∀ i, i < a.heap.size → S i → T i) : Mod T a b :=
  ⟨h.os, h.tape, h.output, h.size, fun i hi hn => h.block i hi (fun e => hn (hs i hi e))⟩
theorem of_below {B : Nat} {a b : World} (h : Below B a b) : Mod (fun i => B ≤ i) a b :=
  ⟨h.os, h.tape, h.output, h.size, fun i _ hn => h.block i (by omega)⟩
theorem below {S : Nat → Prop} {B : Nat} {a b : World} (h : Mod S a b) (hB : B ≤ a.heap.size) (hs : ∀ i, i < B → ¬ S i) : Below B a b :=
  ⟨h.os, h.tape, h.output, h.size, fun i hi => h.block i (by omega) (hs i hi)⟩
theorem of_grown {row : Option Nat} {a b : World} (h : a.grownBy b row) : Mod (fun i => row = some i) a b :=
  ⟨h.os, h.tape, h.output, h.size, fun i hi hn => h.block i hi (fun e => hn e.symm)⟩
theorem setCell (w : World) (p : Addr) (u : Value) : Mod (fun i => i = p.block) w (w.setCell p u) :=
  ⟨rfl, rfl, rfl, by simp [World.setCell], fun i _ hn => Below.heap_setCell w p u i hn⟩
theorem alloc (S : Nat → Prop) (w : World) (o : Obj) : Mod S w (w.alloc o) :=
  ⟨rfl, rfl, rfl, by simp, fun i hi _ => Below.heap_alloc w o i hi⟩
theorem drew (S : Nat → Prop) (w : World) : Mod S w w.drew := ⟨rfl, rfl, rfl, Nat.le_refl _, fun _ _ _ => rfl⟩
theorem drewN (S : Nat → Prop) (w : World) (n : Nat) : Mod S w (w.drewN n) := ⟨rfl, rfl, rfl, Nat.le_refl _, fun _ _ _ => rfl⟩
end Mod

theorem below_drew {B : Nat} {a w : World} (h : Below B a w) : Below B a w.drew := ⟨h.os, h.tape, h.output, h.size, h.block⟩
theorem below_alloc2 (w : World) (a b : Obj) : Below w.heap.size w ((w.alloc a).alloc b) := ((Below.refl _ _).alloc (Nat.le_refl _) _).alloc (by simp) _
theorem below_alloc1 (w : World) (a : Obj) : Below w.heap.size w (w.alloc a) := (Below.refl _ _).alloc (Nat.le_refl _) _
theorem below_alloc3 (w : World) (a b c : Obj) : Below w.heap.size w (((w.alloc a).alloc b).alloc c) := (((Below.refl _ _).alloc (Nat.le_refl _) _).alloc (by simp) _).alloc (by simp; omega) _
theorem below_drewN {B : Nat} {a w : World} (h : Below B a w) (n : Nat) : Below B a (w.drewN n) := ⟨h.os, h.tape, h.output, h.size, h.block⟩

/-- The slice's address A leads to the cells xs, all in block b (nothing is said of an empty one). -/
def Sl (w : World) (b : Nat) (A : Option Addr) (xs : List Value) : Prop :=
  xs ≠ [] → ∃ off, A = some ⟨b, off, none⟩ ∧ ∀ j u, xs[j]? = some u → w.cell? ⟨b, off + j, none⟩ = some u

namespace Sl
variable {w w' : World} {b : Nat} {A : Option Addr} {xs : List Value}
theorem nil_ (w : World) (b : Nat) (A : Option Addr) : Sl w b A [] := fun h => absurd rfl h
theorem lt (h : Sl w b A xs) (hx : xs ≠ []) : b < w.heap.size := by
  obtain ⟨off, _, hc⟩ := h hx
  obtain ⟨x, l, rfl⟩ := List.exists_cons_of_ne_nil hx
  exact World.block_lt_of_cell? w _ (hc 0 x (by simp))
theorem keep (h : Sl w b A xs) (hk : b < w.heap.size → w'.heap[b]? = w.heap[b]?) : Sl w' b A xs := fun hx => by
  have hlt := h.lt hx
  obtain ⟨off, e, hc⟩ := h hx
  exact ⟨off, e, fun j u hu => (World.cell?_of_block (hk hlt)).trans (hc j u hu)⟩
theorem mod {S : Nat → Prop} (h : Sl w b A xs) (hm : Mod S w w') (hs : ¬ S b) : Sl w' b A xs := h.keep fun hlt => hm.block b hlt hs
theorem below {B : Nat} (h : Sl w b A xs) (hm : Below B w w') (hs : b < B) : Sl w' b A xs := h.keep fun _ => hm.block b hs
theorem ext (h : Sl w b A xs) (hm : Below w.heap.size w w') : Sl w' b A xs := h.keep fun hlt => hm.block b hlt
theorem drew (h : Sl w b A xs) : Sl w.drew b A xs := h
theorem drewN (h : Sl w b A xs) (n : Nat) : Sl (w.drewN n) b A xs := h
theorem alloc (h : Sl w b A xs) (o : Obj) : Sl (w.alloc o) b A xs := h.keep fun hlt => Below.heap_alloc w o b hlt
theorem setCell (h : Sl w b A xs) {p : Addr} (hp : b ≠ p.block) (u : Value) : Sl (w.setCell p u) b A xs := h.keep fun _ => Below.heap_setCell w p u b hp
theorem at_ (h : Sl w b A xs) {k : Nat} (hk : k < xs.length) : ∃ off, A = some ⟨b, off, none⟩ ∧ w.cell? ⟨b, off + k, none⟩ = some xs[k] ∧ ∀ j (hj : j < xs.length), w.cell? ⟨b, off + j, none⟩ = some xs[j] := by
  obtain ⟨off, e, hc⟩ := h (by rintro rfl; simp at hk)
  exact ⟨off, e, hc k _ (List.getElem?_eq_getElem hk), fun j hj => hc j _ (List.getElem?_eq_getElem hj)⟩
/-- What 's[k:]' of it reads as, the model's 'if' kept. -/
theorem drop (h : Sl w b A xs) {k cap : Nat} (hc : xs.length ≤ cap) : Sl w b (if cap = k then A else A.map (·.add k)) (xs.drop k) := fun hx => by
  have hk : k < xs.length := by
    rcases Nat.lt_or_ge k xs.length with h1 | h1
    · exact h1
    · exact absurd (List.drop_eq_nil_of_le h1) hx
  obtain ⟨off, rfl, hcell⟩ := h (by rintro rfl; simp at hk)
  rw [if_neg (by omega)]
  refine ⟨off + k, ?_, fun j u hu => ?_⟩
  · simp [Addr.add_lit]
  · rw [Nat.add_assoc]
    exact hcell (k + j) u (by rw [← hu, List.getElem?_drop])
theorem take (h : Sl w b A xs) (k : Nat) : Sl w b A (xs.take k) := fun hx => by
  obtain ⟨off, e, hc⟩ := h (by rintro rfl; simp at hx)
  exact ⟨off, e, fun j u hu => hc j u (by rw [List.getElem?_take] at hu; split at hu <;> first | exact hu | cases hu)⟩
theorem of_own {base : Nat} {e : TypeId} {n c : Nat} (h : w.ownsRow base e 1 (.slice A n c) n xs) : ∃ g, Sl w g A xs ∧ ∀ k, (Value.slice A n c).ownBlock = some k → k = g := by
  rcases h.2 with ⟨hv, hn⟩ | ⟨g, cap, cur, hv, _⟩
  · have hx : xs = [] := List.eq_nil_of_length_eq_zero (by simpa [hn] using h.1)
    subst hx
    injection hv with hA
    subst hA
    exact ⟨0, nil_ _ _ _, by simp [Value.ownBlock]⟩
  · injection hv with hA hn hc
    subst hA
    refine ⟨g, fun _ => ⟨0, rfl, fun j u hu => ?_⟩, by simp [Value.ownBlock]⟩
    have := h.cells (g := g) rfl j u hu
    simpa [Addr.add_lit] using this
end Sl

/-- Bytes as values. -/
def bv (l : List UInt8) : List Value := l.map fun x => .int .u8 (x.toNat : Int)
@[simp] theorem bv_length (l : List UInt8) : (bv l).length = l.length := by simp [bv]
@[simp] theorem bv_nil : bv [] = [] := rfl
theorem bv_append (a b : List UInt8) : bv (a ++ b) = bv a ++ bv b := by simp [bv]
theorem bv_get (l : List UInt8) (k : Nat) (h : k < (bv l).length) : (bv l)[k] = .int .u8 ((l[k]'(by simpa using h)).toNat : Int) := by simp [bv]
theorem bv_take (l : List UInt8) (k : Nat) : (bv l).take k = bv (l.take k) := by simp [bv]
theorem bv_drop (l : List UInt8) (k : Nat) : (bv l).drop k = bv (l.drop k) := by simp [bv]
theorem bv_one (l : List UInt8) : ∀ u ∈ bv l, u.oneCell' = true := by
  intro u hu
  obtain ⟨_, _, rfl⟩ := List.mem_map.1 hu
  rfl
theorem bv_nil_iff (l : List UInt8) : bv l = [] ↔ l = [] := by simp [bv]

/-- A slice of bytes: its address, the block it lies in. -/
abbrev Bs (w : World) (b : Nat) (A : Option Addr) (l : List UInt8) : Prop := Sl w b A (bv l)

theorem Bs.at_ {w : World} {b : Nat} {A : Option Addr} {l : List UInt8} (h : Bs w b A l) {k : Nat} (hk : k < l.length) :
    ∃ off, A = some ⟨b, off, none⟩ ∧ ∀ j (hj : j < l.length), w.cell? ⟨b, off + j, none⟩ = some (.int .u8 (l[j].toNat : Int)) := by
  obtain ⟨off, e, _, hc⟩ := Sl.at_ h (k := k) (by simpa using hk)
  exact ⟨off, e, fun j hj => by rw [hc j (by simpa using hj), bv_get]⟩

/-- A new slice of bytes that a call hands back: its block is new. -/
def NewBs (B : Nat) (w' : World) (v : Value) (l : List UInt8) : Prop :=
  ∃ A c b, v = .slice A l.length c ∧ l.length ≤ c ∧ c ≤ maxLen ∧ B ≤ b ∧ Sl w' b A (bv l)

theorem NewBs.of_own {B : Nat} {w' : World} {v : Value} {l : List UInt8} {e : TypeId} (h : w'.ownsRow B e 1 v l.length (bv l)) : NewBs B w' v l := by
  rcases h.2 with ⟨rfl, hn⟩ | ⟨g, cap, cur, rfl, hb, _, hnc, hcm, _⟩
  · have hl : l = [] := List.eq_nil_of_length_eq_zero hn
    subst hl
    exact ⟨none, 0, B, rfl, Nat.le_refl _, by simp [maxLen], Nat.le_refl _, Sl.nil_ _ _ _⟩
  · refine ⟨_, cap, g, rfl, hnc, hcm, hb, fun _ => ⟨0, rfl, fun j u hu => ?_⟩⟩
    have := h.cells (g := g) rfl j u hu
    simpa [Addr.add_lit] using this

theorem u8_ofNat (n : Nat) : ((UInt8.ofNat n).toNat : Int) = (n : Int) % 256 := by
  simp [UInt8.toNat_ofNat']
end Go.Proofs.YtfckgfoimpileaaDoor
/- The law on append onto a slice of the call's own, the source nil, empty or not: what the row reads as behind it, and that only that row (or a new one) has turned. Condition: the sum of the lengths fits. -/
namespace Go.Proofs.YtfckgfoimpileaaDoor
open Go.RowKit
section
variable {P : Program} (w : World)

theorem run_append_of_nil (base : Nat) (t ty e : TypeId) (i : TypeInfo) (size : Nat) (ht : P.underlying t = some (.slice e)) (hi : P.info? e = some i)
    (v : Value) (n : Nat) (xs : List Value) (hown : w.ownsRow base e size v n xs) (c : Nat) : (Builtin.append_ #[t, t] ty #[v, .slice none 0 c]).run P w = .ok v w := by
  rcases hown.2 with ⟨rfl, rfl⟩ | ⟨g, cap, cur, rfl, _, _, hnc, _⟩
  · simp [Builtin.append_, run_underlying ht, sizeOf, typeInfo, hi, Builtin.lenOf, Builtin.firstCells]
  · simp [Builtin.append_, run_underlying ht, sizeOf, typeInfo, hi, Builtin.lenOf, Builtin.firstCells, hnc, storeCells]

theorem run_append_sl (base : Nat) (t ty e : TypeId) (i : TypeInfo) (z : Value) (size bytes : Nat) (ht : P.underlying t = some (.slice e)) (hi : P.info? e = some i) (hz : i.zero = some z)
    (hsize : i.size = size) (hby : i.bytes = bytes) (hzs : z.cells.size = size) (hsz : 0 < size)
    (v : Value) (n : Nat) (xs : List Value) (hown : w.ownsRow base e size v n xs)
    (b : Nat) (A : Option Addr) (m c : Nat) (news : List Value) (hr : Sl w b A news) (hm : news.length = m * size) (hA : A = none → m = 0) (h1 : ∀ u ∈ news, u.oneCell' = true)
    (h63 : n + m ≤ maxLen) (hbytes : (n + m) * bytes ≤ 140737488355328) (hbase : base ≤ w.heap.size) :
    ∃ v' w', (Builtin.append_ #[t, t] ty #[v, .slice A m c]).run P w = .ok v' w' ∧ w'.ownsRow base e size v' (n + m) (xs ++ news) ∧ w.grownBy w' v.ownBlock ∧
      (v'.ownBlock = v.ownBlock ∨ v'.ownBlock = some w.heap.size) := by
  rcases A with _ | ad
  · obtain rfl : m = 0 := hA rfl
    have hn : news = [] := List.eq_nil_of_length_eq_zero (by simpa using hm)
    subst hn
    exact ⟨v, w, run_append_of_nil w base t ty e i size ht hi v n xs hown c, by simpa using hown, World.grownBy.refl w _, .inl rfl⟩
  · have hcells : ∀ j u, news[j]? = some u → w.cell? (ad.add j) = some u := by
      intro j u hu
      obtain ⟨off, h, hc⟩ := hr (by rintro rfl; simp at hu)
      injection h with h
      subst h
      rw [Addr.add_lit]
      exact hc j u hu
    obtain ⟨v', w', hrun, h2, h3, _, h5⟩ := run_append_own_at (P := P) w base t ty e i z size bytes ht hi hz hsize hby hzs hsz v n xs hown ad m c news hm hcells h1 h63 hbytes hbase
    exact ⟨v', w', hrun, h2, h3, h5⟩

theorem wp_append_sl {o : Oper} {a : Act} {K : Act → World → Prop} {Q : Exit → Act → World → Prop} (s x : Operand) (t : TypeId)
    (ho : o.op = .call { callee := .builtin .append, args := #[s, x], argTypes := #[t, t] })
    (base : Nat) (e : TypeId) (i : TypeInfo) (z : Value) (size bytes : Nat) (ht : P.underlying t = some (.slice e)) (hi : P.info? e = some i) (hz : i.zero = some z)
    (hsize : i.size = size) (hby : i.bytes = bytes) (hzs : z.cells.size = size) (hsz : 0 < size)
    (v : Value) (n : Nat) (xs : List Value) (hs : a.eval s = v) (hown : w.ownsRow base e size v n xs)
    (b : Nat) (A : Option Addr) (m c : Nat) (news : List Value) (hx : a.eval x = .slice A m c) (hr : Sl w b A news) (hm : news.length = m * size) (hA : A = none → m = 0) (h1 : ∀ u ∈ news, u.oneCell' = true)
    (h63 : n + m ≤ maxLen) (hbytes : (n + m) * bytes ≤ 140737488355328) (hbase : base ≤ w.heap.size)
    (h : ∀ v' w', w'.ownsRow base e size v' (n + m) (xs ++ news) → w.grownBy w' v.ownBlock → (v'.ownBlock = v.ownBlock ∨ v'.ownBlock = some w.heap.size) → K (a.put o.dst v') w') : o.wp P a w K Q := by
  obtain ⟨v', w', hrun, h2, h3, h4⟩ := run_append_sl (P := P) w base t o.type e i z size bytes ht hi hz hsize hby hzs hsz v n xs hown b A m c news hr hm hA h1 h63 hbytes hbase
  unfold Oper.wp execOp
  simp only [ho, resolve, invoke, builtin, Sem.run_bind, Sem.run_pure, Result.andThen_ok, List.map_toArray, List.map_cons, List.map_nil, hs, hx, hrun]
  exact h v' w' h2 h3 h4

theorem wpList_append_sl {ops : Array Oper} {rest : List Oper} {o : Oper} {a : Act} {Q : Exit → Act → World → Prop} (hgd : o.guard = none) (s x : Operand) (t : TypeId)
    (ho : o.op = .call { callee := .builtin .append, args := #[s, x], argTypes := #[t, t] })
    (base : Nat) (e : TypeId) (i : TypeInfo) (z : Value) (size bytes : Nat) (ht : P.underlying t = some (.slice e)) (hi : P.info? e = some i) (hz : i.zero = some z)
    (hsize : i.size = size) (hby : i.bytes = bytes) (hzs : z.cells.size = size) (hsz : 0 < size)
    (v : Value) (n : Nat) (xs : List Value) (hs : a.eval s = v) (hown : w.ownsRow base e size v n xs)
    (b : Nat) (A : Option Addr) (m c : Nat) (news : List Value) (hx : a.eval x = .slice A m c) (hr : Sl w b A news) (hm : news.length = m * size) (hA : A = none → m = 0) (h1 : ∀ u ∈ news, u.oneCell' = true)
    (h63 : n + m ≤ maxLen) (hbytes : (n + m) * bytes ≤ 140737488355328) (hbase : base ≤ w.heap.size)
    (h : ∀ v' w', w'.ownsRow base e size v' (n + m) (xs ++ news) → w.grownBy w' v.ownBlock → (v'.ownBlock = v.ownBlock ∨ v'.ownBlock = some w.heap.size) → wpList P ops Q rest (a.put o.dst v') w') : wpList P ops Q (o :: rest) a w :=
  wpList_plain hgd fun _ hK => wp_append_sl w s x t ho base e i z size bytes ht hi hz hsize hby hzs hsz v n xs hs hown b A m c news hx hr hm hA h1 h63 hbytes hbase fun v' w' h2 h3 h4 => hK _ _ (h v' w' h2 h3 h4)
end

theorem Sl.one_new (w : World) (x : Value) (t : TypeId) : Sl (w.alloc (.cells #[x] t)) w.heap.size (some ⟨w.heap.size, 0, none⟩) [x] := fun _ =>
  ⟨0, rfl, fun j u hu => by
    have := cell_one_new w x t j u hu
    simpa [Addr.add_lit] using this⟩
theorem Sl.cells_new (w : World) (cs : Array Value) (t : TypeId) : Sl (w.alloc (.cells cs t)) w.heap.size (some ⟨w.heap.size, 0, none⟩) cs.toList := fun _ =>
  ⟨0, rfl, fun j u hu => by
    rw [Nat.zero_add, cell_of_row _ _ _ cs t (0, 0) (heap_alloc_new w _)]
    simpa using hu⟩
/-- An address is there where there is anything. -/
theorem Sl.none_len {w : World} {b : Nat} {A : Option Addr} {xs : List Value} {m : Nat} (h : Sl w b A xs) (hm : xs.length = m) : A = none → m = 0 := fun hA => by
  rcases Nat.eq_zero_or_pos m with h0 | h0
  · exact h0
  · obtain ⟨off, e, _⟩ := h (by rintro rfl; simp at hm; omega)
    rw [hA] at e
    cases e
end Go.Proofs.YtfckgfoimpileaaDoor
/- The law on append at slices of bytes, in this program's numbers. Condition: the sum of the lengths fits. -/
namespace Go.Proofs.YtfckgfoimpileaaDoor
open Go.RowKit

theorem byte_info : (Tryd.prog.info? 5).map (fun i => (i.zero, i.size, i.bytes)) = some (some (.int .u8 0), 1, 1) := by kernel_rfl

/-- The slice value v is the call's own (its block not below B), and holds the bytes l. -/
abbrev Row (w : World) (B : Nat) (v : Value) (l : List UInt8) : Prop := w.ownsRow B 5 1 v l.length (bv l)

theorem Row.nil_ (w : World) (B : Nat) : Row w B (.slice none 0 0) [] := World.ownsRow_nil _ _ _ _
theorem Row.cast {w : World} {B : Nat} {v : Value} {l l' : List UInt8} (h : Row w B v l) (e : l = l') : Row w B v l' := e ▸ h
theorem Row.lt {w : World} {B : Nat} {v : Value} {l : List UInt8} (h : Row w B v l) : ∀ k, v.ownBlock = some k → B ≤ k ∧ k < w.heap.size := World.ownsRow.lt h
theorem Row.mod {w w' : World} {B : Nat} {v : Value} {l : List UInt8} (h : Row w B v l) {S : Nat → Prop} (hm : Mod S w w') (hs : ∀ k, v.ownBlock = some k → ¬ S k) : Row w' B v l := by
  refine ⟨h.1, ?_⟩
  rcases h.2 with h2 | ⟨g, cap, cur, rfl, hg, hh, r⟩
  · exact .inl h2
  · exact .inr ⟨g, cap, cur, rfl, hg, by rw [hm.block g (Array.getElem?_eq_some_iff.1 hh).1 (hs g rfl)]; exact hh, r⟩
theorem Row.ext {w w' : World} {B : Nat} {v : Value} {l : List UInt8} (h : Row w B v l) (hm : Below w.heap.size w w') : Row w' B v l :=
  h.mod (Mod.of_below hm) fun k hk => by have := (h.lt k hk).2; omega
theorem Row.low {w : World} {B B' : Nat} {v : Value} {l : List UInt8} (h : Row w B v l) (hB : B' ≤ B) : Row w B' v l := by
  refine ⟨h.1, ?_⟩
  rcases h.2 with h2 | ⟨g, cap, cur, rfl, hg, r⟩
  · exact .inl h2
  · exact .inr ⟨g, cap, cur, rfl, by omega, r⟩
/-- What it reads as. -/
theorem Row.sl {w : World} {B : Nat} {v : Value} {l : List UInt8} (h : Row w B v l) : ∃ A c b, v = .slice A l.length c ∧ l.length ≤ c ∧ c ≤ maxLen ∧ (A = none → c = 0) ∧ B ≤ b ∧ Bs w b A l ∧ (∀ k, v.ownBlock = some k → k = b) := by
  rcases h.2 with ⟨rfl, hn⟩ | ⟨g, cap, cur, rfl, hb, _, hnc, hcm, _⟩
  · have hl : l = [] := List.eq_nil_of_length_eq_zero hn
    subst hl
    exact ⟨none, 0, B, rfl, Nat.le_refl _, by simp [maxLen], fun _ => rfl, Nat.le_refl _, Sl.nil_ _ _ _, by simp [Value.ownBlock]⟩
  · refine ⟨_, cap, g, rfl, hnc, hcm, by simp, hb, fun _ => ⟨0, rfl, fun j u hu => ?_⟩, by simp [Value.ownBlock]⟩
    have := h.cells (g := g) rfl j u hu
    simpa [Addr.add_lit] using this

theorem Row.blk_sl {w : World} {B n c b : Nat} {v : Value} {A : Option Addr} {l : List UInt8} (h : Row w B v l) (hv : v = .slice A n c) (hs : Bs w b A l) (hl : l ≠ []) : ∃ cur, w.heap[b]? = some (.cells cur 5 (0, 0)) := by
  obtain ⟨off, hA, _⟩ := hs (by rw [ne_eq, bv_nil_iff]; exact hl)
  rcases h.2 with ⟨_, hn⟩ | ⟨g, cap, cur, hg, _, hh, _⟩
  · exact absurd (List.eq_nil_of_length_eq_zero hn) hl
  · rw [hv] at hg
    injection hg with h1 _ _
    rw [hA] at h1
    injection h1 with h1
    injection h1 with h1 _ _
    subst h1
    exact ⟨cur, hh⟩
theorem Bs.modne {w w' : World} {b : Nat} {A : Option Addr} {l : List UInt8} (h : Bs w b A l) {S : Nat → Prop} (hm : Mod S w w') (hs : l ≠ [] → ¬ S b) : Bs w' b A l := by
  by_cases hl : l = []
  · subst hl; exact Sl.nil_ _ _ _
  · exact Sl.mod h hm (hs hl)
theorem Bs.lt {w : World} {b : Nat} {A : Option Addr} {l : List UInt8} (h : Bs w b A l) (hl : l ≠ []) : b < w.heap.size := Sl.lt h (by rw [ne_eq, bv_nil_iff]; exact hl)
/-- One of its bytes, written. -/
theorem Bs.set_ {w : World} {b off k : Nat} {l : List UInt8} {cur : Array Value} {t : TypeId} {q : UInt8} (hg : w.heap[b]? = some (.cells cur t (0, 0))) (h : Bs w b (some ⟨b, off, none⟩) l) (hk : k < l.length) :
    Bs (w.setCell ⟨b, off + k, none⟩ (.int .u8 (q.toNat : Int))) b (some ⟨b, off, none⟩) (l.set k q) ∧ (w.setCell ⟨b, off + k, none⟩ (.int .u8 (q.toNat : Int))).heap[b]? = some (.cells (cur.setIfInBounds (off + k) (.int .u8 (q.toNat : Int))) t (0, 0)) := by
  have h2 := heap_setCell_same w b (off + k) cur t (.int .u8 (q.toNat : Int)) hg
  refine ⟨fun _ => ⟨off, rfl, fun j u hu => ?_⟩, h2⟩
  rw [cell_of_row _ _ _ _ _ _ h2]
  have hj : j < l.length := by
    have := (List.getElem?_eq_some_iff.1 hu).1
    simpa using this
  obtain ⟨off', hA, hc⟩ := Bs.at_ h hj
  injection hA with hA
  injection hA with _ hA _
  subst hA
  have h3 := hc j hj
  rw [cell_of_row _ _ _ _ _ _ hg] at h3
  have hsz : off + j < cur.size := (Array.getElem?_eq_some_iff.1 h3).1
  have hsz2 : off + k < cur.size := by
    have h4 := hc k hk
    rw [cell_of_row _ _ _ _ _ _ hg] at h4
    exact (Array.getElem?_eq_some_iff.1 h4).1
  have hu2 : u = .int .u8 (((l.set k q)[j]'(by simpa using hj)).toNat : Int) := by
    have h5 : (bv (l.set k q))[j]? = some ((bv (l.set k q))[j]'(by simpa using hj)) := List.getElem?_eq_getElem _
    rw [h5, bv_get] at hu
    injection hu with hu
    exact hu.symm
  rw [hu2, Array.getElem?_setIfInBounds]
  by_cases e : j = k
  · subst e
    simp [hsz2]
  · rw [if_neg (by omega), h3, List.getElem_set_ne (by omega)]

section
variable (w : World)
theorem wpList_app {ops : Array Oper} {rest : List Oper} {o : Oper} {a : Act} {Q : Exit → Act → World → Prop} (hgd : o.guard = none) (s x : Operand)
    (ho : o.op = .call { callee := .builtin .append, args := #[s, x], argTypes := #[36, 36] })
    (B : Nat) (v : Value) (l : List UInt8) (hs : a.eval s = v) (hown : Row w B v l)
    (b : Nat) (A : Option Addr) (m c : Nat) (news : List UInt8) (hx : a.eval x = .slice A m c) (hr : Bs w b A news) (hm : news.length = m)
    (hlen : l.length + m ≤ 140737488355328) (hbase : B ≤ w.heap.size)
    (h : ∀ v' w', Row w' B v' (l ++ news) → Mod (fun i => v.ownBlock = some i) w w' → (v'.ownBlock = v.ownBlock ∨ v'.ownBlock = some w.heap.size) → wpList Tryd.prog ops Q rest (a.put o.dst v') w') : wpList Tryd.prog ops Q (o :: rest) a w := by
  obtain ⟨i0, hi0, hz0, hz1, hz2⟩ := info_parts byte_info
  refine wpList_append_sl (P := Tryd.prog) w hgd s x _ ho B 5 i0 _ 1 1 Tryd.underlying36 hi0 hz0 hz1 hz2 rfl (by omega) v l.length (bv l) hs hown b A m c (bv news) hx hr (by simp [hm]) (Sl.none_len hr (by simp [hm])) (bv_one _)
    (by simp only [maxLen]; omega) (by omega) hbase ?_
  intro v' w' h1 h2 h3
  exact h v' w' (by unfold Row; rw [List.length_append, hm, bv_append]; exact h1) (Mod.of_grown h2) h3

/-- append(out, x) of one byte, which lies in a new block of its own. -/
theorem wpList_app1 {u : Value} {ops : Array Oper} {rest : List Oper} {o : Oper} {a : Act} {Q : Exit → Act → World → Prop} (hgd : o.guard = none) (s x : Operand)
    (ho : o.op = .call { callee := .builtin .append, args := #[s, x], argTypes := #[36, 36] })
    (B : Nat) (v : Value) (l : List UInt8) (hs : a.eval s = v) (hown : Row w B v l)
    (q : UInt8) (hu : u = .int .u8 (q.toNat : Int)) (hx : a.eval x = .slice (some ⟨w.heap.size, 0, none⟩) 1 1)
    (hlen : l.length + 1 ≤ 140737488355328) (hbase : B ≤ w.heap.size)
    (h : ∀ v' w', Row w' B v' (l ++ [q]) → Mod (fun i => v.ownBlock = some i) w w' → (v'.ownBlock = v.ownBlock ∨ ∃ k, v'.ownBlock = some k ∧ w.heap.size ≤ k) → wpList Tryd.prog ops Q rest (a.put o.dst v') w') : wpList Tryd.prog ops Q (o :: rest) a (w.alloc (.cells #[u] 5)) := by
  subst hu
  refine wpList_app (w.alloc (.cells #[.int .u8 (q.toNat : Int)] 5)) hgd s x ho B v l hs (World.ownsRow.alloc hown _) w.heap.size _ 1 1 [q] hx (Sl.one_new w _ _) rfl hlen (by simp; omega) ?_
  intro v' w' h1 h2 h3
  refine h v' w' h1 ((Mod.alloc (fun _ => False) w _).trans h2 (fun i _ h => h.elim) (fun i _ h => h)) (h3.imp id fun h => ⟨_, h, by simp⟩)
end
end Go.Proofs.YtfckgfoimpileaaDoor
/- The reference's Join: lists of bytes behind one another, in new memory; nothing that was there turns. Condition: the sum of the lengths fits. -/
namespace Go.Proofs.YtfckgfoimpileaaDoor
open Go.RowKit

/-- Values that are slices of bytes, and what they read as. -/
def Bss (w : World) (vs : List Value) (ls : List (List UInt8)) : Prop :=
  vs.length = ls.length ∧ ∀ (i : Nat) (l : List UInt8), ls[i]? = some l → ∃ A c b, vs[i]? = some (Value.slice A l.length c) ∧ Bs w b A l

theorem Bss.ext {w w' : World} {vs : List Value} {ls : List (List UInt8)} (h : Bss w vs ls) (hm : Below w.heap.size w w') : Bss w' vs ls :=
  ⟨h.1, fun i l hl => by
    obtain ⟨A, c, b, h1, h2⟩ := h.2 i l hl
    exact ⟨A, c, b, h1, Sl.ext h2 hm⟩⟩
theorem Bss.nil_ (w : World) : Bss w [] [] := ⟨rfl, fun i l h => by simp at h⟩
theorem Bss.cons {w : World} {vs : List Value} {ls : List (List UInt8)} {A : Option Addr} {l : List UInt8} {n c b : Nat} (h : Bs w b A l) (hn : l.length = n) (r : Bss w vs ls) : Bss w (Value.slice A n c :: vs) (l :: ls) :=
  ⟨by simp [r.1], fun i x hx => by
    cases i with
    | zero =>
      simp at hx
      subst hx
      exact ⟨A, c, b, by simp [hn], h⟩
    | succ i =>
      obtain ⟨A', c', b', h1, h2⟩ := r.2 i x (by simpa using hx)
      exact ⟨A', c', b', by simpa using h1, h2⟩⟩

theorem flatten_take_succ (ls : List (List UInt8)) (k : Nat) (h : k < ls.length) : (ls.take (k + 1)).flatten = (ls.take k).flatten ++ ls[k] := by
  rw [List.take_succ_eq_append_getElem h]
  simp only [List.flatten_append, List.flatten_cons, List.flatten_nil, List.append_nil]
theorem flatten_take_le (ls : List (List UInt8)) (k : Nat) : (ls.take k).flatten.length ≤ ls.flatten.length := by
  have : (ls.take k).flatten ++ (ls.drop k).flatten = ls.flatten := by rw [← List.flatten_append, List.take_append_drop]
  rw [← this]
  simp

set_option maxHeartbeats 400000 in
theorem Join_calls (A : Option Addr) (vs : List Value) (ls : List (List UInt8)) (n c b : Nat) (w : World) (hs : Sl w b A vs) (hv : Bss w vs ls) (hn : ls.length = n) (h1 : n ≤ maxLen) (h2 : ls.flatten.length ≤ 140737488355328) :
    Calls Tryd.prog 23 #[.slice A n c] w fun e w' => ∃ v, e = .returned v ∧ Row w' w.heap.size v ls.flatten ∧ Below w.heap.size w w' := by
  unfold maxLen at h1
  have HN := Lib.hid hn
  have HL := Lib.hid h2
  clear hn h2
  go_enter Tryd.func23, Tryd.ntmps23
  go_wp2
  go_loopw [3, 8] (fun v i wr => ∃ k : Nat, k ≤ n ∧ i = .int .i64 k ∧ Row wr w.heap.size v (ls.take k).flatten ∧ Below w.heap.size w wr) (fun _ i _ => n - (intOf i).toNat)
  case atStart => exact ⟨0, Nat.zero_le _, rfl, by simpa using Row.nil_ _ _, Below.refl _ _⟩
  case round =>
    obtain ⟨k, hk, rfl, hown, hb⟩ := hrel
    by_cases hlt : k < n
    · have hkl : k < ls.length := by rw [HN.out]; exact hlt
      obtain ⟨A1, c1, b1, hv1, hs1⟩ := (hv.ext hb).2 k ls[k] (List.getElem?_eq_getElem hkl)
      obtain ⟨oa, rfl, hca⟩ := (Sl.ext hs hb) (by rintro rfl; simp at hv1)
      have ca := hca k _ hv1
      have hbs : w.heap.size ≤ wr.heap.size := hb.size
      obtain ⟨q, hq⟩ : ∃ q, q = ls[k] := ⟨_, rfl⟩
      rw [← hq] at ca hs1
      have e1 := Lib.hid (flatten_take_succ ls k hkl)
      have hle : (ls.take k).flatten.length + q.length ≤ 140737488355328 := by
        have h3 := flatten_take_le ls (k + 1)
        have h4 := HL.out
        rw [e1.out, ← hq] at h3
        simp only [List.length_append] at h3
        omega
      have HQ := Lib.hid hq
      clear hca hv1 hq
      go_wp2_with (at_builtin; refine wpList_app wr rfl (.tmp 12) (.tmp 13) rfl w.heap.size _ _ rfl hown b1 A1 q.length c1 q rfl hs1 rfl hle hbs ?_; intro v' w1 hown' hmod _)
      go_roundw
      case rel => exact ⟨k + 1, by omega, by go_num, hown'.cast (by rw [e1.out, HQ.out]), hb.trans (hmod.below hbs (fun i hi hv => by have := (hown.lt i hv).1; omega))⟩
      case measure => simp [intOf]; omega
    · go_wp2
      go_ret
      refine ⟨_, rfl, hown.cast ?_, hb⟩
      have := HN.out
      rw [List.take_of_length_le (by omega)]
end Go.Proofs.YtfckgfoimpileaaDoor
/- The reference's Low and Value: a number's bytes, the lowest first, and back. Conditions: the numbers fit 64 bits. -/
namespace Go.Proofs.YtfckgfoimpileaaDoor
open Go.RowKit

def low (n k : Nat) : List UInt8 := (List.range k).map fun i => UInt8.ofNat (n / 256 ^ i)
theorem low_succ (n k : Nat) : low n (k + 1) = low n k ++ [UInt8.ofNat (n / 256 ^ k)] := by simp [low, List.range_succ]
@[simp] theorem low_length (n k : Nat) : (low n k).length = k := by simp [low]

set_option maxHeartbeats 400000 in
theorem Low_calls (n : Nat) (s : Int) (w : World) (hn : n ≤ 18446744073709551615) (h0 : 0 ≤ s) (h1 : s ≤ 1000) :
    Calls Tryd.prog 43 #[.int .u64 n, .int .i64 s] w fun e w' => ∃ v, e = .returned v ∧ Row w' w.heap.size v (low n s.toNat) ∧ Below w.heap.size w w' := by
  obtain ⟨t, rfl⟩ := Int.eq_ofNat_of_zero_le h0
  rw [Int.toNat_natCast]
  go_enter Tryd.func43, Tryd.ntmps43
  go_wp2
  go_loopw [0, 5, 6] (fun x v i wr => ∃ k m : Nat, k ≤ t ∧ i = .int .i64 k ∧ x = .int .u64 m ∧ Hid (m = n / 256 ^ k) ∧ m ≤ n ∧ Row wr w.heap.size v (low n k) ∧ Below w.heap.size w wr) (fun _ _ i _ => t - (intOf i).toNat)
  case atStart => exact ⟨0, n, Nat.zero_le _, rfl, rfl, Lib.hid (by simp), Nat.le_refl _, by simpa [low] using Row.nil_ _ _, Below.refl _ _⟩
  case round =>
    obtain ⟨k, m, hk, rfl, rfl, hm, hmn, hown, hb⟩ := hrel
    by_cases hlt : k < t
    · have hbs : w.heap.size ≤ wr.heap.size := hb.size
      have hle : (low n k).length + 1 ≤ 140737488355328 := by simp; omega
      have e2 := Lib.hid (u8_ofNat m)
      go_wp2_with (at_builtin; refine wpList_app1 wr rfl (.tmp 12) (.tmp 16) rfl w.heap.size _ _ rfl hown (UInt8.ofNat m) (by rw [e2.out]) rfl hle hbs ?_; intro v' w1 hown' hmod _)
      go_roundw
      case rel =>
        refine ⟨k + 1, m / 256, by omega, by go_num, by go_num, Lib.hid ?_, by omega, hown'.cast ?_, hb.trans (hmod.below hbs (fun i hi hv => by have := (hown.lt i hv).1; omega))⟩
        · rw [hm.out, Nat.div_div_eq_div_mul, Nat.pow_succ]
        · rw [low_succ, hm.out]
      case measure => simp [intOf]; omega
    · go_wp2
      go_ret
      refine ⟨_, rfl, hown.cast ?_, hb⟩
      rw [show k = t by omega]

def valN (l : List UInt8) : Nat := l.foldr (fun x acc => 256 * acc + x.toNat) 0
theorem valN_cons (x : UInt8) (l : List UInt8) : valN (x :: l) = 256 * valN l + x.toNat := rfl
theorem valN_lt (l : List UInt8) : valN l < 256 ^ l.length := by
  induction l with
  | nil => simp [valN]
  | cons x l ih =>
    rw [valN_cons, List.length_cons, Nat.pow_succ]
    have := x.toNat_lt
    omega
theorem valN_drop (l : List UInt8) (k : Nat) (h : k < l.length) : valN (l.drop k) = 256 * valN (l.drop (k + 1)) + l[k].toNat := by
  rw [List.drop_eq_getElem_cons h, valN_cons]

set_option maxHeartbeats 400000 in
theorem Value_calls (A : Option Addr) (l : List UInt8) (n c b : Nat) (w : World) (hs : Bs w b A l) (hn : l.length = n) (h8 : n ≤ 8) :
    Calls Tryd.prog 44 #[.slice A n c] w fun e w' => e = .returned (.int .u64 (valN l : Nat)) ∧ w = w' := by
  have HN := Lib.hid hn
  clear hn
  go_enter Tryd.func44, Tryd.ntmps44
  go_wp2
  go_loop [3, 4] (fun x i => ∃ k m : Nat, k ≤ n ∧ i = .int .i64 ((k : Int) - 1) ∧ x = .int .u64 m ∧ Hid (m = valN (l.drop k))) (fun _ i => (intOf i + 1).toNat)
  case atStart => exact ⟨n, 0, Nat.le_refl _, by go_num, rfl, Lib.hid (by rw [← HN.out, List.drop_length]; rfl)⟩
  case round =>
    obtain ⟨k, m, hk, rfl, rfl, hm⟩ := hrel
    by_cases hlt : 0 < k
    · obtain ⟨j, rfl⟩ : ∃ j, k = j + 1 := ⟨k - 1, by omega⟩
      have hjl : j < l.length := by rw [HN.out]; omega
      obtain ⟨oa, rfl, hca⟩ := Bs.at_ hs hjl
      have ca := hca j hjl
      have hv := Lib.hid (valN_drop l j hjl)
      obtain ⟨q, hq⟩ : ∃ q, q = l[j] := ⟨_, rfl⟩
      rw [← hq] at ca
      have HQ := Lib.hid hq
      have hq8 := q.toNat_lt
      have hm2 : m < 72057594037927936 := by
        rw [hm.out]
        refine Nat.lt_of_lt_of_le (valN_lt _) ?_
        have : (l.drop (j + 1)).length ≤ 7 := by rw [List.length_drop, HN.out]; omega
        exact Nat.le_trans (Nat.pow_le_pow_right (by omega) this) (by decide)
      clear hca hq
      go_wp2
      go_round
      case rel =>
        refine ⟨j, 256 * m + q.toNat, by omega, rfl, by go_num, Lib.hid ?_⟩
        rw [hv.out, hm.out, HQ.out]
      case measure => simp [intOf]
    · go_wp2
      go_ret
      refine ⟨?_, rfl⟩
      rw [show k = 0 by omega] at hm
      rw [hm.out]
      rfl
end Go.Proofs.YtfckgfoimpileaaDoor
/- The reference's Num: a number in as few bytes as may be, seven bits each. Condition: it fits 64 bits. -/
namespace Go.Proofs.YtfckgfoimpileaaDoor
open Go.RowKit

/-- A number in as few bytes as may be, seven bits each. -/
def numF : Nat → Nat → List UInt8
  | 0, _ => []
  | f + 1, n => if n < 128 then [UInt8.ofNat n] else UInt8.ofNat (n % 128 + 128) :: numF f (n / 128)
def num (n : Nat) : List UInt8 := numF 10 n
theorem numF_length (f n : Nat) : (numF f n).length ≤ f := by
  induction f generalizing n with
  | zero => simp [numF]
  | succ f ih =>
    rw [numF]
    split
    · simp
    · simp only [List.length_cons]; have := ih (n / 128); omega
theorem numF_big (f n : Nat) (h : 128 ≤ n) : numF (f + 1) n = UInt8.ofNat (n % 128 + 128) :: numF f (n / 128) := by rw [numF, if_neg (by omega)]
theorem numF_small (f n : Nat) (h : n < 128) : numF (f + 1) n = [UInt8.ofNat n] := by rw [numF, if_pos h]

theorem Row.lit1 (w : World) (q : UInt8) (x : Int) (hx : x = (q.toNat : Int)) : Row (w.alloc (.cells #[.int .u8 x] 5)) w.heap.size (.slice (some ⟨w.heap.size, 0, none⟩) 1 1) [q] := by
  subst hx
  exact World.ownsRow_lit w #[.int .u8 (q.toNat : Int)] 1 (Nat.le_refl _) (by simp [maxLen]) rfl

set_option maxHeartbeats 400000 in
set_option maxRecDepth 20000 in
theorem Num_fuel (f : Nat) : ∀ (n : Nat) (w : World), n < 128 ^ (f + 1) → n ≤ 18446744073709551615 → f ≤ 100 →
    Calls Tryd.prog 42 #[.int .u64 n] w fun e w' => ∃ v, e = .returned v ∧ Row w' w.heap.size v (numF (f + 1) n) ∧ Below w.heap.size w w' := by
  have small : ∀ (f n : Nat) (w : World), n < 128 →
    Calls Tryd.prog 42 #[.int .u64 n] w fun e w' => ∃ v, e = .returned v ∧ Row w' w.heap.size v (numF (f + 1) n) ∧ Below w.heap.size w w' := by
    intro f n w h
    go_enter Tryd.func42, Tryd.ntmps42
    go_wp2_with fail
    go_ret
    refine ⟨_, rfl, (Row.lit1 w (UInt8.ofNat n) n (by rw [u8_ofNat]; omega)).cast (numF_small f n h).symm, (Below.refl _ _).alloc (Nat.le_refl _) _⟩
  induction f with
  | zero =>
    intro n w hf hn _
    exact small 0 n w (by simpa using hf)
  | succ f ih =>
    intro n w hf hn h100
    by_cases hs : n < 128
    · exact small (f + 1) n w hs
    · have hd : n / 128 < 128 ^ (f + 1) := by
        rw [Nat.pow_succ] at hf
        exact Nat.div_lt_of_lt_mul (by rw [Nat.mul_comm]; exact hf)
      have ex : ((n % 128 + 128 : Nat) : Int) = ((UInt8.ofNat (n % 128 + 128)).toNat : Int) := by rw [u8_ofNat]; omega
      have HX := Lib.hid ex
      have HD := Lib.hid hd
      clear ex hd hf
      go_enter Tryd.func42, Tryd.ntmps42
      go_wp2_with fail
      refine (ih (n / 128) _ HD.out (by omega) (by omega)).mono ?_
      rintro e w1 ⟨v, rfl, hrow, hb⟩
      obtain ⟨A, c, b, rfl, _, _, _, _, hsl, _⟩ := hrow.sl
      have r1 := (Row.lit1 w (UInt8.ofNat (n % 128 + 128)) _ HX.out).ext hb
      obtain ⟨A1, c1, b1, hv1, _, _, _, _, hsl1, _⟩ := r1.sl
      injection hv1 with hA1 hn1 hc1
      subst hA1
      subst hc1
      clear hn1
      have R := numF_length (f + 1) (n / 128)
      obtain ⟨tl, htl⟩ : ∃ tl, tl = numF (f + 1) (n / 128) := ⟨_, rfl⟩
      rw [← htl] at hrow hsl R
      rw [← htl]
      have HT := Lib.hid htl
      clear htl
      have hbs : w.heap.size + 1 ≤ w1.heap.size := by have := hb.size; simpa using this
      go_wp2_with fail
      have hbss := Bss.cons (w := w1) (n := 1) (c := 1) hsl1 rfl (Bss.cons (n := tl.length) (c := c) hsl rfl (Bss.nil_ w1))
      refine (Join_calls _ _ _ 2 2 _ _ (Sl.cells_new w1 _ _) (hbss.ext ((Below.refl _ _).alloc (Nat.le_refl _) _)) rfl (by simp [maxLen]) (by simp; omega)).mono ?_
      rintro e w2 ⟨v2, rfl, hrow2, hb2⟩
      clear hbss hsl hsl1 r1 hrow R ih small hn h100
      have HS := Lib.hid hs
      clear hs
      go_wp2_with fail
      go_ret
      have hb3 : Below w.heap.size w w1 := ((Below.refl _ _).alloc (Nat.le_refl _) _).trans (hb.mono (by simp))
      refine ⟨_, rfl, (hrow2.low (by simp; omega)).cast (by rw [numF_big _ _ (by have := HS.out; omega), ← HT.out]; simp), (hb3.alloc (by omega) _).trans (hb2.mono (by simp; omega))⟩

theorem Num_calls (n : Nat) (w : World) (hn : n ≤ 18446744073709551615) :
    Calls Tryd.prog 42 #[.int .u64 n] w fun e w' => ∃ v, e = .returned v ∧ Row w' w.heap.size v (num n) ∧ Below w.heap.size w w' :=
  Num_fuel 9 n w (by simp; omega) hn (by omega)
end Go.Proofs.YtfckgfoimpileaaDoor
/- The pen's methods: what each call appends, and that only the pen's own memory turns; of a nil pen: nil, nothing. Condition: the sum of the lengths fits. -/
namespace Go.Proofs.YtfckgfoimpileaaDoor
open Go.RowKit

theorem Row.ne_blk {w : World} {B : Nat} {v : Value} {l : List UInt8} (h : Row w B v l) {g : Nat} {cs : Array Value} {t : TypeId} {fr : Nat × Nat} (hg : w.heap[g]? = some (.cells cs t fr)) (ht : t ≠ 5) : v.ownBlock ≠ some g := by
  intro hv
  rcases h.2 with ⟨rfl, _⟩ | ⟨g', cap, cur, rfl, _, hh, _⟩
  · simp [Value.ownBlock] at hv
  · have : g' = g := by simpa [Value.ownBlock] using hv
    subst this
    rw [hh] at hg
    injection hg with hg
    injection hg with _ h2 _
    exact ht h2.symm

/-- A pen in block g, its bytes l in the row r. -/
def PenAt (w : World) (g : Nat) (r : Option Nat) (l : List UInt8) : Prop :=
  ∃ v, w.heap[g]? = some (.cells #[v] 73 (0, 0)) ∧ Row w 0 v l ∧ v.ownBlock = r

/-- What a pen's write may turn: its block, its row; and where its row lies then. -/
def PenStep (g : Nat) (r r' : Option Nat) (w w' : World) : Prop :=
  (r' = r ∨ ∃ k, r' = some k ∧ w.heap.size ≤ k) ∧ Mod (fun i => i = g ∨ r = some i) w w'

theorem PenAt.lt {w : World} {g : Nat} {r : Option Nat} {l : List UInt8} (h : PenAt w g r l) : g < w.heap.size := by
  obtain ⟨v, hg, _⟩ := h
  exact (Array.getElem?_eq_some_iff.1 hg).1
theorem PenAt.mod {w w' : World} {g : Nat} {r : Option Nat} {l : List UInt8} (h : PenAt w g r l) {S : Nat → Prop} (hm : Mod S w w') (hg : ¬ S g) (hr : ∀ k, r = some k → ¬ S k) : PenAt w' g r l := by
  obtain ⟨v, h1, h2, h3⟩ := h
  exact ⟨v, by rw [hm.block g (Array.getElem?_eq_some_iff.1 h1).1 hg]; exact h1, h2.mod hm (fun k hk => hr k (h3 ▸ hk)), h3⟩
theorem PenAt.row_lt {w : World} {g : Nat} {r : Option Nat} {l : List UInt8} (h : PenAt w g r l) : ∀ k, r = some k → k < w.heap.size := by
  obtain ⟨v, _, h2, h3⟩ := h
  intro k hk
  exact (h2.lt k (h3.trans hk)).2
theorem PenAt.ext {w w' : World} {g : Nat} {r : Option Nat} {l : List UInt8} (h : PenAt w g r l) (hm : Below w.heap.size w w') : PenAt w' g r l :=
  h.mod (Mod.of_below hm) (by have := h.lt; omega) (fun k hk => by have := h.row_lt k hk; omega)
theorem PenAt.cast {w : World} {g : Nat} {r : Option Nat} {l l' : List UInt8} (h : PenAt w g r l) (e : l = l') : PenAt w g r l' := e ▸ h
theorem PenStep.refl (g : Nat) (r : Option Nat) (w : World) : PenStep g r r w w := ⟨.inl rfl, Mod.refl _ _⟩
theorem PenStep.trans {g : Nat} {r r1 r2 : Option Nat} {a b c : World} (h : PenStep g r r1 a b) (k : PenStep g r1 r2 b c) : PenStep g r r2 a c := by
  obtain ⟨h1, hm⟩ := h
  obtain ⟨k1, km⟩ := k
  refine ⟨?_, hm.trans km (fun i _ h => h) (fun i hi h => ?_)⟩
  · rcases k1 with rfl | ⟨q, rfl, hq⟩
    · exact h1
    · exact .inr ⟨q, rfl, Nat.le_trans hm.size hq⟩
  · rcases h with h | h
    · exact .inl h
    · rcases h1 with rfl | ⟨q, rfl, hq⟩
      · exact .inr h
      · injection h with h
        omega
theorem PenStep.below {g : Nat} {r r1 : Option Nat} {a b c : World} (h : Below a.heap.size a b) (k : PenStep g r r1 b c) : PenStep g r r1 a c :=
  ⟨k.1.imp id fun ⟨q, e, hq⟩ => ⟨q, e, Nat.le_trans h.size hq⟩, (Mod.of_below h).trans k.2 (fun i hi h => by omega) (fun i _ h => h)⟩
theorem PenStep.ext {g : Nat} {r r1 : Option Nat} {a b c : World} (h : PenStep g r r1 a b) (k : Below b.heap.size b c) : PenStep g r r1 a c :=
  ⟨h.1, h.2.trans (Mod.of_below k) (fun i _ h => h) (fun i hi hh => by have := h.2.size; omega)⟩

theorem pen_store {w : World} {g : Nat} {u v : Value} {l : List UInt8} {n : Nat} (hg : w.heap[g]? = some (.cells #[u] 73 (0, 0))) (hrow : w.ownsRow 0 5 1 v n (bv l)) : PenAt (w.setCell ⟨g, 0, none⟩ v) g v.ownBlock l := by
  have hn : n = l.length := by have := hrow.1; simpa using this.symm
  subst hn
  have hrow : Row w 0 v l := hrow
  exact ⟨v, by rw [heap_setCell_same w g 0 _ _ v hg]; rfl, hrow.mod (Mod.setCell w _ v) (fun k hk hkg => hrow.ne_blk hg (by decide) (by rw [hk, show k = g from hkg])), rfl⟩

set_option maxHeartbeats 400000 in
theorem add_calls (g : Nat) (r : Option Nat) (l : List UInt8) (A : Option Addr) (more : List UInt8) (n c b : Nat) (w : World) (hp : PenAt w g r l) (hs : Bs w b A more) (hn : more.length = n) (hlen : l.length + n ≤ 140737488355328) :
    Calls Tryd.prog 61 #[.pointer (some ⟨g, 0, none⟩), .slice A n c] w fun e w' => e = .returned (.pointer (some ⟨g, 0, none⟩)) ∧ ∃ r', PenAt w' g r' (l ++ more) ∧ PenStep g r r' w w' := by
  obtain ⟨v, hg, hrow, hr⟩ := hp
  have hc := cell_of_row w g 0 _ _ _ hg
  have hf := frozen_of_row w g 0 _ _ hg
  have hne := hrow.ne_blk hg (by decide)
  have hglt : g < w.heap.size := (Array.getElem?_eq_some_iff.1 hg).1
  simp only [List.getElem?_toArray, List.getElem?_cons_zero] at hc
  have HG := Lib.hid hg
  have HR := Lib.hid hr
  have HNE := Lib.hid hne
  clear hg hr hne
  go_enter Tryd.func61, Tryd.ntmps61
  go_wp2_with (at_builtin; refine wpList_app w rfl (.tmp 11) (.tmp 12) rfl 0 v l rfl hrow b A n c more rfl hs hn hlen (Nat.zero_le _) ?_; intro v' w1 hrow1 hmod hat; have hg1 := Lib.hid ((hmod.block g hglt HNE.out).trans HG.out); have hc1 : w1.cell? ⟨g, 0, none⟩ = some v := (cell_of_row w1 g 0 _ _ _ hg1.out).trans rfl; have hf1 := frozen_of_row w1 g 0 _ _ hg1.out; obtain ⟨A', c', b', hv', _⟩ := hrow1.sl; subst hv')
  go_ret
  have hmm : Mod (fun i => i = g ∨ r = some i) w w1 := hmod.mono fun i _ h => .inr (HR.out.symm.trans h)
  have el : (l ++ more).length = l.length + n := by simp [hn]
  rw [el] at hrow1 hat
  have hat' : (Value.slice A' (l.length + n) c').ownBlock = r ∨ ∃ k, (Value.slice A' (l.length + n) c').ownBlock = some k ∧ w.heap.size ≤ k := hat.imp (fun h => h.trans HR.out) (fun h => ⟨_, h, Nat.le_refl _⟩)
  exact ⟨rfl, _, pen_store hg1.out hrow1, hat', hmm.trans (Mod.setCell w1 _ _) (fun i _ h => h) (fun i _ h => .inl h)⟩

theorem add_nil (v : Value) (w : World) : Calls Tryd.prog 61 #[.pointer none, v] w fun e w' => e = .returned (.pointer none) ∧ w = w' := by
  go_enter Tryd.func61, Tryd.ntmps61
  go_wp2
  go_ret
  exact ⟨rfl, rfl⟩

/-- What each write's contract says. -/
def Wrote (g : Nat) (r : Option Nat) (l : List UInt8) (w : World) (e : Ending) (w' : World) : Prop :=
  e = .returned (.pointer (some ⟨g, 0, none⟩)) ∧ ∃ r', PenAt w' g r' l ∧ PenStep g r r' w w'

theorem low_one (n : Nat) : low n 1 = [UInt8.ofNat n] := by simp [low]
theorem bv_low_one (n : Nat) (h : n < 256) : bv (low n 1) = [.int .u8 (n : Int)] := by
  rw [low_one]
  simp only [bv, List.map_cons, List.map_nil, u8_ofNat]
  rw [Int.emod_eq_of_lt (by omega) (by omega)]
theorem bv_low_two (n : Nat) (h : n < 65536) : bv (low n 2) = [.int .u8 ((n : Int) % 256), .int .u8 ((n : Int) / 256)] := by
  simp only [low, List.range_succ, List.range_zero, List.nil_append, List.map_cons, List.map_nil, bv, u8_ofNat, List.cons_append]
  simp
  omega
theorem bv_low_four (n : Nat) (h : n < 4294967296) : bv (low n 4) = [.int .u8 ((n : Int) % 256), .int .u8 ((n : Int) / 256 % 256), .int .u8 ((n : Int) / 65536 % 256), .int .u8 ((n : Int) / 16777216)] := by
  simp only [low, List.range_succ, List.range_zero, List.nil_append, List.map_cons, List.map_nil, bv, u8_ofNat, List.cons_append]
  simp
  omega

set_option maxHeartbeats 400000 in
theorem PenByte_calls (g : Nat) (r : Option Nat) (l : List UInt8) (n : Nat) (w : World) (hp : PenAt w g r l) (hn : n < 256) (hlen : l.length + 1 ≤ 140737488355328) :
    Calls Tryd.prog 34 #[.pointer (some ⟨g, 0, none⟩), .int .u8 n] w (Wrote g r (l ++ low n 1) w) := by
  have hb := Lib.hid (bv_low_one n hn)
  go_enter Tryd.func34, Tryd.ntmps34
  go_wp2_with fail
  have hx : Below w.heap.size w (w.alloc (.cells #[.int .u8 (n : Int)] 5)) := (Below.refl _ _).alloc (Nat.le_refl _) _
  refine (add_calls g r l _ (low n 1) 1 1 w.heap.size _ (hp.ext hx) (by unfold Bs; rw [hb.out]; exact Sl.cells_new w _ _) (by simp) hlen).mono ?_
  rintro e w1 ⟨rfl, r', hp', hst⟩
  go_wp2
  go_ret
  exact ⟨rfl, r', hp', PenStep.below hx hst⟩

set_option maxHeartbeats 400000 in
theorem PenWord_calls (g : Nat) (r : Option Nat) (l : List UInt8) (n : Nat) (w : World) (hp : PenAt w g r l) (hn : n < 4294967296) (hlen : l.length + 4 ≤ 140737488355328) :
    Calls Tryd.prog 35 #[.pointer (some ⟨g, 0, none⟩), .int .u32 n] w (Wrote g r (l ++ low n 4) w) := by
  have hb := Lib.hid (bv_low_four n hn)
  go_enter Tryd.func35, Tryd.ntmps35
  go_wp2_with fail
  have hx : Below w.heap.size w (w.alloc (.cells #[.int .u8 ((n : Int) % 256), .int .u8 ((n : Int) / 256 % 256), .int .u8 ((n : Int) / 65536 % 256), .int .u8 ((n : Int) / 16777216)] 5)) := (Below.refl _ _).alloc (Nat.le_refl _) _
  refine (add_calls g r l _ (low n 4) 4 4 w.heap.size _ (hp.ext hx) (by unfold Bs; rw [hb.out]; exact Sl.cells_new w _ _) (by simp) hlen).mono ?_
  rintro e w1 ⟨rfl, r', hp', hst⟩
  go_wp2
  go_ret
  exact ⟨rfl, r', hp', PenStep.below hx hst⟩

set_option maxRecDepth 20000 in
theorem or128 (m : Nat) : bits .or .u8 ((m : Int) % 256) 128 = ((UInt8.ofNat (m % 128 + 128)).toNat : Int) := by
  have h : ∀ x : Fin 256, x.val ||| 128 = x.val % 128 + 128 := by decide
  rw [u8_or _ _ (by omega) (by omega) (by omega) (by omega), u8_ofNat]
  have h2 := h ⟨m % 256, by omega⟩
  have e1 : ((m : Int) % 256).toNat = m % 256 := by omega
  have e2 : (128 : Int).toNat = 128 := rfl
  rw [e1, e2]
  simp only at h2
  rw [h2]
  omega

set_option maxHeartbeats 400000 in
set_option maxRecDepth 20000 in
theorem PenNum_calls (g : Nat) (r : Option Nat) (l : List UInt8) (n : Nat) (w : World) (hp : PenAt w g r l) (hn : n ≤ 18446744073709551615) (hlen : l.length + 10 ≤ 140737488355328) :
    Calls Tryd.prog 33 #[.pointer (some ⟨g, 0, none⟩), .int .u64 n] w (Wrote g r (l ++ num n) w) := by
  have HN := Lib.hid hn
  go_enter Tryd.func33, Tryd.ntmps33
  go_wp2_with fail
  go_loopw [1] (fun x wr => ∃ (m f : Nat) (r1 : Option Nat) (l1 : List UInt8), x = .int .u64 m ∧ m ≤ n ∧ f ≤ 9 ∧ Hid (m < 128 ^ (f + 1) ∧ l1 ++ numF (f + 1) m = l ++ num n ∧ l1.length + f + 1 = l.length + 10) ∧ PenAt wr g r1 l1 ∧ PenStep g r r1 w wr) (fun x _ => (intOf x).toNat)
  case atStart => exact ⟨n, 9, r, l, rfl, Nat.le_refl _, Nat.le_refl _, Lib.hid ⟨by have := HN.out; simp; omega, rfl, rfl⟩, hp, PenStep.refl _ _ _⟩
  case round =>
    obtain ⟨m, f, r1, l1, rfl, hmn, hf, H, hp1, hst⟩ := hrel
    clear hp
    by_cases hm : 128 ≤ m
    · have hor := or128 m
      go_wp2_with fail
      have hx : Below wr.heap.size wr (wr.alloc (.cells #[.int .u8 ((UInt8.ofNat (m % 128 + 128)).toNat : Int)] 5)) := (Below.refl _ _).alloc (Nat.le_refl _) _
      refine (add_calls g r1 l1 _ [UInt8.ofNat (m % 128 + 128)] 1 1 wr.heap.size _ (hp1.ext hx) (Sl.cells_new wr _ _) rfl (by have := H.out.2.2; omega)).mono ?_
      rintro e w1 ⟨rfl, r2, hp2, hst2⟩
      clear hor hp1
      obtain ⟨f', rfl⟩ : ∃ f', f = f' + 1 := ⟨f - 1, by
        rcases f with _ | f'
        · have := H.out.1; simp at this; omega
        · omega⟩
      go_wp2
      go_roundw
      case rel =>
        refine ⟨m / 128, f', r2, _, by go_num, by omega, by omega, Lib.hid ⟨?_, ?_, ?_⟩, hp2, hst.trans (PenStep.below hx hst2)⟩
        · have := H.out.1
          rw [Nat.pow_succ] at this
          exact Nat.div_lt_of_lt_mul (by rw [Nat.mul_comm]; exact this)
        · rw [← H.out.2.1, numF_big _ m hm]
          simp
        · have := H.out.2.2
          simp only [List.length_append, List.length_cons, List.length_nil]
          omega
      case measure => simp [intOf]; omega
    · have hm' : m < 128 := by omega
      have e2 := Lib.hid (u8_ofNat m)
      go_wp2_with fail
      have hx : Below wr.heap.size wr (wr.alloc (.cells #[.int .u8 (m : Int)] 5)) := (Below.refl _ _).alloc (Nat.le_refl _) _
      refine (add_calls g r1 l1 _ [UInt8.ofNat m] 1 1 wr.heap.size _ (hp1.ext hx) ?_ rfl (by have := H.out.2.2; omega)).mono ?_
      · have : bv [UInt8.ofNat m] = [.int .u8 (m : Int)] := by
          simp only [bv, List.map_cons, List.map_nil, e2.out]
          rw [Int.emod_eq_of_lt (by omega) (by omega)]
        unfold Bs
        rw [this]
        exact Sl.cells_new wr _ _
      rintro e w1 ⟨rfl, r2, hp2, hst2⟩
      go_wp2
      go_ret
      refine ⟨rfl, r2, hp2.cast ?_, hst.trans (PenStep.below hx hst2)⟩
      rw [← H.out.2.1, numF_small _ _ hm']

set_option maxHeartbeats 400000 in
theorem PenBytes_calls (g : Nat) (r : Option Nat) (l : List UInt8) (w : World) (hp : PenAt w g r l) (hlen : l.length ≤ 140737488355328) :
    Calls Tryd.prog 36 #[.pointer (some ⟨g, 0, none⟩)] w fun e w' => ∃ v, e = .returned v ∧ Row w' w.heap.size v l ∧ Below w.heap.size w w' := by
  obtain ⟨v, hg, hrow, hr⟩ := hp
  obtain ⟨A, c, b, rfl, _, _, _, _, hs, _⟩ := hrow.sl
  have hc := cell_of_row w g 0 _ _ _ hg
  simp only [List.getElem?_toArray, List.getElem?_cons_zero] at hc
  clear hr hrow hg
  go_enter Tryd.func36, Tryd.ntmps36
  go_wp2_with (at_builtin; refine wpList_app w rfl (.const (.slice none 0 0)) (.tmp 8) rfl w.heap.size (.slice none 0 0) [] rfl (Row.nil_ _ _) b A l.length c l rfl hs rfl (by simp; omega) (Nat.le_refl _) ?_; intro v' w1 hrow1 hmod hat; obtain ⟨A', c', b', hv', _⟩ := hrow1.sl; subst hv')
  go_ret
  exact ⟨_, rfl, hrow1, hmod.below (Nat.le_refl _) (fun i _ h => by simp [Value.ownBlock] at h)⟩

/-! A nil pen. -/
end Go.Proofs.YtfckgfoimpileaaDoor
/- The eye's methods: what each call reads off the front, and when it isn't right any more; only the eye's own block turns. -/
namespace Go.Proofs.YtfckgfoimpileaaDoor
open Go.RowKit

/-- An eye in block g: what is left is l, its bytes in block b; has it been wrong? -/
def EyeAt (w : World) (g b : Nat) (l : List UInt8) (wr : Bool) : Prop :=
  b ≠ g ∧ ∃ A c, w.heap[g]? = some (.cells #[.slice A l.length c, .bool wr] 113 (0, 0)) ∧ l.length ≤ c ∧ c ≤ maxLen ∧ Bs w b A l

theorem EyeAt.lt {w : World} {g b : Nat} {l : List UInt8} {wr : Bool} (h : EyeAt w g b l wr) : g < w.heap.size := by
  obtain ⟨_, A, c, hg, _⟩ := h
  exact (Array.getElem?_eq_some_iff.1 hg).1
theorem EyeAt.mod {w w' : World} {g b : Nat} {l : List UInt8} {wr : Bool} (h : EyeAt w g b l wr) {S : Nat → Prop} (hm : Mod S w w') (hg : ¬ S g) (hb : ¬ S b) : EyeAt w' g b l wr := by
  obtain ⟨hne, A, c, h1, h2, h3, h4⟩ := h
  exact ⟨hne, A, c, by rw [hm.block g (Array.getElem?_eq_some_iff.1 h1).1 hg]; exact h1, h2, h3, Sl.mod h4 hm hb⟩
theorem EyeAt.ext {w w' : World} {g b : Nat} {l : List UInt8} {wr : Bool} (h : EyeAt w g b l wr) (hm : Below w.heap.size w w') : EyeAt w' g b l wr := by
  have hlt := h.lt
  obtain ⟨hne, A, c, h1, h2, h3, h4⟩ := h
  exact ⟨hne, A, c, by rw [hm.block g hlt]; exact h1, h2, h3, Sl.ext h4 hm⟩

/-- A cell of two, written. -/
theorem eye_set0 {w : World} {g : Nat} {u v x : Value} (hg : w.heap[g]? = some (.cells #[u, v] 113 (0, 0))) : (w.setCell ⟨g, 0, none⟩ x).heap[g]? = some (.cells #[x, v] 113 (0, 0)) := by
  rw [heap_setCell_same w g 0 _ _ x hg]; rfl
theorem eye_set1 {w : World} {g : Nat} {u v x : Value} (hg : w.heap[g]? = some (.cells #[u, v] 113 (0, 0))) : (w.setCell ⟨g, 1, none⟩ x).heap[g]? = some (.cells #[u, x] 113 (0, 0)) := by
  rw [heap_setCell_same w g 1 _ _ x hg]; rfl

theorem eye_store {w : World} {g b : Nat} {u : Value} {wr : Bool} {A : Option Addr} {l : List UInt8} {n c : Nat} (hne : b ≠ g) (hg : w.heap[g]? = some (.cells #[u, .bool wr] 113 (0, 0))) (hs : Bs w b A l) (hn : l.length = n) (h1 : n ≤ c) (h2 : c ≤ maxLen) : EyeAt (w.setCell ⟨g, 0, none⟩ (.slice A n c)) g b l wr := by
  subst hn
  exact ⟨hne, A, c, eye_set0 hg, h1, h2, Sl.setCell hs hne _⟩

set_option maxHeartbeats 400000 in
theorem fail_calls (g b : Nat) (l : List UInt8) (wr : Bool) (w : World) (he : EyeAt w g b l wr) :
    Calls Tryd.prog 62 #[.pointer (some ⟨g, 0, none⟩)] w fun e w' => e = .returned (.tuple #[]) ∧ EyeAt w' g b [] true ∧ Mod (fun i => i = g) w w' := by
  obtain ⟨hne, A, c, hg, _, _, _⟩ := he
  have hc0 := cell_of_row w g 0 _ _ _ hg
  have hc1 := cell_of_row w g 1 _ _ _ hg
  have hf0 := frozen_of_row w g 0 _ _ hg
  have hf1 := frozen_of_row w g 1 _ _ hg
  simp only [List.getElem?_toArray, List.getElem?_cons_zero, List.getElem?_cons_succ] at hc0 hc1
  have HG := Lib.hid hg
  clear hg
  go_enter Tryd.func62, Tryd.ntmps62
  go_wp2
  go_end0
  refine ⟨rfl, ⟨hne, none, 0, eye_set1 (eye_set0 HG.out), Nat.le_refl _, by simp [maxLen], Sl.nil_ _ _ _⟩, ?_⟩
  exact (Mod.setCell w _ _).trans (Mod.setCell _ _ _) (fun i _ h => h) (fun i _ h => h)

set_option maxHeartbeats 400000 in
theorem take_no (g b : Nat) (l : List UInt8) (wr : Bool) (k : Int) (w : World) (he : EyeAt w g b l wr) (hk : (l.length : Int) < k) :
    Calls Tryd.prog 64 #[.pointer (some ⟨g, 0, none⟩), .int .i64 k] w fun e w' => e = .returned (.slice none 0 0) ∧ EyeAt w' g b [] true ∧ Mod (fun i => i = g) w w' := by
  have he0 := he
  obtain ⟨hne, A, c, hg, _, _, _⟩ := he
  have hc0 := cell_of_row w g 0 _ _ _ hg
  simp only [List.getElem?_toArray, List.getElem?_cons_zero] at hc0
  clear hg
  go_enter Tryd.func64, Tryd.ntmps64
  go_wp2_with (go_at_call 62; refine (fail_calls g b l wr _ he0).mono ?_; rintro e w1 ⟨rfl, h1, h2⟩)
  go_ret
  exact ⟨rfl, h1, h2⟩

set_option maxHeartbeats 400000 in
theorem take_yes (g b : Nat) (l : List UInt8) (wr : Bool) (k : Nat) (w : World) (he : EyeAt w g b l wr) (hk : k ≤ l.length) :
    Calls Tryd.prog 64 #[.pointer (some ⟨g, 0, none⟩), .int .i64 k] w fun e w' => ∃ A', e = .returned (.slice A' k k) ∧ Bs w' b A' (l.take k) ∧ EyeAt w' g b (l.drop k) wr ∧ Mod (fun i => i = g) w w' := by
  obtain ⟨hne, A, c, hg, hlc, hcm, hs⟩ := he
  unfold maxLen at hcm
  have hc0 := cell_of_row w g 0 _ _ _ hg
  have hf0 := frozen_of_row w g 0 _ _ hg
  simp only [List.getElem?_toArray, List.getElem?_cons_zero] at hc0
  have HG := Lib.hid hg
  clear hg
  go_enter Tryd.func64, Tryd.ntmps64
  go_wp2_with fail
  · go_ret
    have h : c = k := by assumption
    have hd := hs.drop (k := k) (by simpa using hlc)
    rw [bv_drop, if_pos h] at hd
    exact ⟨A, rfl, by have := Sl.take hs k; rw [bv_take] at this; exact Sl.setCell this hne _, eye_store hne HG.out hd (by simp) (by omega) (Nat.zero_le _), Mod.setCell w ⟨g, 0, none⟩ _⟩
  · go_ret
    have h : ¬ c = k := by assumption
    have hd := hs.drop (k := k) (by simpa using hlc)
    rw [bv_drop, if_neg h] at hd
    exact ⟨A, rfl, by have := Sl.take hs k; rw [bv_take] at this; exact Sl.setCell this hne _, eye_store hne HG.out hd (by simp) (by omega) (by unfold maxLen; omega), Mod.setCell w ⟨g, 0, none⟩ _⟩

theorem take_nil (k : Int) (w : World) : Calls Tryd.prog 64 #[.pointer none, .int .i64 k] w fun e w' => e = .returned (.slice none 0 0) ∧ w = w' := by
  have hf : Calls Tryd.prog 62 #[.pointer none] w fun e w' => e = .returned (.tuple #[]) ∧ w = w' := by
    go_enter Tryd.func62, Tryd.ntmps62
    go_wp2
    go_end0
    exact ⟨rfl, rfl⟩
  have HF := Lib.hid hf
  clear hf
  go_enter Tryd.func64, Tryd.ntmps64
  go_wp2_with (go_at_call 62; refine HF.out.mono ?_; rintro e w1 ⟨rfl, rfl⟩)
  go_ret
  exact ⟨rfl, rfl⟩

theorem valN_snoc (l : List UInt8) (x : UInt8) : valN (l ++ [x]) = valN l + 256 ^ l.length * x.toNat := by
  induction l with
  | nil => simp [valN]
  | cons y l ih => rw [List.cons_append, valN_cons, ih, valN_cons, List.length_cons, Nat.pow_succ, Nat.mul_add, Nat.mul_comm (256 ^ l.length) 256, Nat.mul_assoc]; omega
theorem valN_take_succ (l : List UInt8) (k : Nat) (h : k < l.length) : valN (l.take (k + 1)) = valN (l.take k) + 256 ^ k * l[k].toNat := by
  rw [List.take_succ_eq_append_getElem h, valN_snoc, List.length_take, Nat.min_eq_left (by omega)]

theorem or_add (m q i : Nat) (h : m < 2 ^ i) : m ||| (q * 2 ^ i) = m + q * 2 ^ i := by
  rw [Nat.or_comm, ← Nat.shiftLeft_eq, ← Nat.shiftLeft_add_eq_or_of_lt h, Nat.add_comm]
theorem u32_or_add (m q P i : Nat) (hP : P = 2 ^ i) (h : m < P) (hb : m + q * P < 4294967296) : bits .or .u32 (m : Int) ((q : Int) * (P : Int)) = ((m + q * P : Nat) : Int) := by
  have e : ((q : Int) * (P : Int)) = ((q * P : Nat) : Int) := by simp
  rw [e, u32_or_nat m (q * P) (by omega) (by omega)]
  subst hP
  rw [or_add _ _ _ h]

set_option maxHeartbeats 400000 in
theorem number_calls (A : Option Addr) (l : List UInt8) (n c b : Nat) (w : World) (hs : Bs w b A l) (hn : l.length = n) (h4 : n ≤ 4) :
    Calls Tryd.prog 63 #[.slice A n c] w fun e w' => e = .returned (.int .u32 (valN l : Nat)) ∧ w = w' := by
  have HN := Lib.hid hn
  clear hn
  go_enter Tryd.func63, Tryd.ntmps63
  go_wp2
  go_loop [3, 8] (fun x i => ∃ k m : Nat, k ≤ n ∧ i = .int .i64 k ∧ x = .int .u32 m ∧ Hid (m = valN (l.take k))) (fun _ i => n - (intOf i).toNat)
  case atStart => exact ⟨0, 0, Nat.zero_le _, rfl, rfl, Lib.hid rfl⟩
  case round =>
    obtain ⟨k, m, hk, rfl, rfl, hm⟩ := hrel
    by_cases hlt : k < n
    · have hkl : k < l.length := by rw [HN.out]; exact hlt
      obtain ⟨oa, rfl, hca⟩ := Bs.at_ hs hkl
      have ca := hca k hkl
      have hv := Lib.hid (valN_take_succ l k hkl)
      obtain ⟨q, hq⟩ : ∃ q, q = l[k] := ⟨_, rfl⟩
      rw [← hq] at ca
      have HQ := Lib.hid hq
      have hq8 := q.toNat_lt
      have hml := Lib.hid (valN_lt (l.take k))
      clear hca hq
      have hk4 : k = 0 ∨ k = 1 ∨ k = 2 ∨ k = 3 := by omega
      rcases hk4 with rfl | rfl | rfl | rfl
      · simp only [Nat.add_zero] at ca
        go_wp2
        have hb1 : m < 1 := by
          have h1 := hml.out
          rw [← hm.out] at h1
          refine Nat.lt_of_lt_of_le h1 (Nat.le_trans (Nat.pow_le_pow_right (by omega) (List.length_take_le 0 l)) (by decide))
        have e1 := u32_or_add m q.toNat 1 0 (by decide) hb1 (by omega)
        go_round
        case rel =>
          refine ⟨1, m + q.toNat * 1, by omega, rfl, by rw [← e1]; simp, Lib.hid ?_⟩
          rw [hv.out, ← hm.out, HQ.out]
          omega
        case measure => simp [intOf]; omega
      · go_wp2
        have hb1 : m < 256 := by
          have h1 := hml.out
          rw [← hm.out] at h1
          refine Nat.lt_of_lt_of_le h1 (Nat.le_trans (Nat.pow_le_pow_right (by omega) (List.length_take_le 1 l)) (by decide))
        have e1 := u32_or_add m q.toNat 256 8 (by decide) hb1 (by omega)
        go_round
        case rel =>
          refine ⟨2, m + q.toNat * 256, by omega, rfl, by rw [← e1]; rfl, Lib.hid ?_⟩
          rw [hv.out, ← hm.out, HQ.out]
          omega
        case measure => simp [intOf]; omega
      · go_wp2
        have hb1 : m < 65536 := by
          have h1 := hml.out
          rw [← hm.out] at h1
          refine Nat.lt_of_lt_of_le h1 (Nat.le_trans (Nat.pow_le_pow_right (by omega) (List.length_take_le 2 l)) (by decide))
        have e1 := u32_or_add m q.toNat 65536 16 (by decide) hb1 (by omega)
        go_round
        case rel =>
          refine ⟨3, m + q.toNat * 65536, by omega, rfl, by rw [← e1]; rfl, Lib.hid ?_⟩
          rw [hv.out, ← hm.out, HQ.out]
          omega
        case measure => simp [intOf]; omega
      · go_wp2
        have hb1 : m < 16777216 := by
          have h1 := hml.out
          rw [← hm.out] at h1
          refine Nat.lt_of_lt_of_le h1 (Nat.le_trans (Nat.pow_le_pow_right (by omega) (List.length_take_le 3 l)) (by decide))
        have e1 := u32_or_add m q.toNat 16777216 24 (by decide) hb1 (by omega)
        go_round
        case rel =>
          refine ⟨4, m + q.toNat * 16777216, by omega, rfl, by rw [← e1]; rfl, Lib.hid ?_⟩
          rw [hv.out, ← hm.out, HQ.out]
          omega
        case measure => simp [intOf]; omega
    · go_wp2
      go_ret
      rw [show k = n by omega, List.take_of_length_le (by rw [HN.out]; exact Nat.le_refl _)] at hm
      exact ⟨by rw [← hm.out]; rfl, rfl⟩

/-- What an eye's read of k fixed bytes says. -/
def ReadN (g b k : Nat) (l : List UInt8) (wr : Bool) (K : IntKind) (w : World) (e : Ending) (w' : World) : Prop :=
  (k ≤ l.length → e = .returned (.int K (valN (l.take k) : Nat)) ∧ EyeAt w' g b (l.drop k) wr ∧ Mod (fun i => i = g) w w') ∧
  (l.length < k → e = .returned (.int K 0) ∧ EyeAt w' g b [] true ∧ Mod (fun i => i = g) w w')

set_option maxHeartbeats 400000 in
theorem EyeByte_calls (g b : Nat) (l : List UInt8) (wr : Bool) (w : World) (he : EyeAt w g b l wr) :
    Calls Tryd.prog 39 #[.pointer (some ⟨g, 0, none⟩)] w (ReadN g b 1 l wr .u8 w) := by
  by_cases hk : 1 ≤ l.length
  · have hv := valN_lt (l.take 1)
    rw [List.length_take, Nat.min_eq_left hk] at hv
    go_enter Tryd.func39, Tryd.ntmps39
    go_wp2_with fail
    refine (take_yes g b l wr 1 _ he hk).mono ?_
    rintro e w1 ⟨A', rfl, hs, he1, hm⟩
    go_wp2_with fail
    refine (number_calls A' (l.take 1) 1 1 b _ hs (by simp; omega) (by omega)).mono ?_
    rintro e w2 ⟨rfl, rfl⟩
    go_wp2
    go_ret
    exact ⟨fun _ => ⟨rfl, he1, hm⟩, fun h => by omega⟩
  · go_enter Tryd.func39, Tryd.ntmps39
    go_wp2_with fail
    refine (take_no g b l wr 1 _ he (by omega)).mono ?_
    rintro e w1 ⟨rfl, he1, hm⟩
    go_wp2_with fail
    refine (number_calls none [] 0 0 b _ (Sl.nil_ _ _ _) rfl (by omega)).mono ?_
    rintro e w2 ⟨rfl, rfl⟩
    go_wp2
    go_ret
    exact ⟨fun h => by omega, fun _ => ⟨rfl, he1, hm⟩⟩

set_option maxHeartbeats 400000 in
theorem EyeWord_calls (g b : Nat) (l : List UInt8) (wr : Bool) (w : World) (he : EyeAt w g b l wr) :
    Calls Tryd.prog 40 #[.pointer (some ⟨g, 0, none⟩)] w (ReadN g b 4 l wr .u32 w) := by
  by_cases hk : 4 ≤ l.length
  · go_enter Tryd.func40, Tryd.ntmps40
    go_wp2_with fail
    refine (take_yes g b l wr 4 _ he hk).mono ?_
    rintro e w1 ⟨A', rfl, hs, he1, hm⟩
    go_wp2_with fail
    refine (number_calls A' (l.take 4) 4 4 b _ hs (by simp; omega) (by omega)).mono ?_
    rintro e w2 ⟨rfl, rfl⟩
    go_wp2
    go_ret
    exact ⟨fun _ => ⟨rfl, he1, hm⟩, fun h => by omega⟩
  · go_enter Tryd.func40, Tryd.ntmps40
    go_wp2_with fail
    refine (take_no g b l wr 4 _ he (by omega)).mono ?_
    rintro e w1 ⟨rfl, he1, hm⟩
    go_wp2_with fail
    refine (number_calls none [] 0 0 b _ (Sl.nil_ _ _ _) rfl (by omega)).mono ?_
    rintro e w2 ⟨rfl, rfl⟩
    go_wp2
    go_ret
    exact ⟨fun h => by omega, fun _ => ⟨rfl, he1, hm⟩⟩
theorem EyeAt.castl {w : World} {g b : Nat} {l l' : List UInt8} {bad : Bool} (h : EyeAt w g b l bad) (e : l = l') : EyeAt w g b l' bad := e ▸ h
def doneErr (l : List UInt8) (bad : Bool) : Int := if bad = true ∨ l ≠ [] then 2 else 0
theorem Done_calls (g b : Nat) (l : List UInt8) (bad : Bool) (w : World) (he : EyeAt w g b l bad) :
    Calls Tryd.prog 41 #[.pointer (some ⟨g, 0, none⟩)] w fun e w' => e = .returned (.int .i64 (doneErr l bad)) ∧ w = w' := by
  obtain ⟨hne, A, c, hg, hlc, hcm, hs⟩ := he
  unfold maxLen at hcm
  have hc0 := cell_of_row w g 0 _ _ _ hg
  have hc1 := cell_of_row w g 1 _ _ _ hg
  simp only [List.getElem?_toArray, List.getElem?_cons_zero, List.getElem?_cons_succ] at hc0 hc1
  clear hg
  cases bad
  · rcases Nat.eq_zero_or_pos l.length with h | h
    · have hl : l = [] := List.eq_nil_of_length_eq_zero h
      subst hl
      go_enter Tryd.func41, Tryd.ntmps41
      go_wp2
      go_ret
      exact ⟨by simp [doneErr], rfl⟩
    · have hl : l ≠ [] := by rintro rfl; simp at h
      have HL := Lib.hid hl
      clear hl
      have h' : (0 : Int) < (l.length : Int) := by omega
      go_enter Tryd.func41, Tryd.ntmps41
      go_wp2
      go_ret
      exact ⟨by simp [doneErr, HL.out], rfl⟩
  · go_enter Tryd.func41, Tryd.ntmps41
    go_wp2
    go_ret
    exact ⟨by simp [doneErr], rfl⟩

set_option maxHeartbeats 400000 in
theorem Read_own (A : Option Addr) (l : List UInt8) (n c b : Nat) (w : World) (hs : Bs w b A l) (hn : l.length = n) (hlen : n ≤ 140737488355328) :
    Calls Tryd.prog 37 #[.slice A n c] w fun e w' => ∃ g b', e = .returned (.pointer (some ⟨g, 0, none⟩)) ∧ EyeAt w' g b' l false ∧ w.heap.size ≤ g ∧ w.heap.size ≤ b' ∧ Below w.heap.size w w' ∧ (l ≠ [] → ∃ cur, w'.heap[b']? = some (.cells cur 5 (0, 0))) := by
  go_enter Tryd.func37, Tryd.ntmps37
  go_wp2_with (at_builtin; refine wpList_app w rfl (.const (.slice none 0 0)) (.tmp 3) rfl w.heap.size (.slice none 0 0) [] rfl (Row.nil_ _ _) b A n c l rfl hs hn (by simp; omega) (Nat.le_refl _) ?_; intro v' w1 hrow1 hmod hat; obtain ⟨A', c', b', hv', hlc, hcm, _, hb', hs', _⟩ := hrow1.sl; have hblk := Lib.hid (Row.blk_sl hrow1 hv' hs'); subst hv')
  go_ret
  have hb1 : Below w.heap.size w w1 := hmod.below (Nat.le_refl _) (fun i _ h => by simp [Value.ownBlock] at h)
  have hx : Below w1.heap.size w1 (w1.alloc (.cells #[.slice A' n c', .bool false] 113)) := (Below.refl _ _).alloc (Nat.le_refl _) _
  have hn' : n = l.length := hn.symm
  have hne : b' ≠ w1.heap.size ∨ l = [] := by
    rcases Nat.eq_zero_or_pos l.length with h | h
    · exact .inr (List.eq_nil_of_length_eq_zero h)
    · exact .inl (by have := Sl.lt hs' (by simp only [List.nil_append, ne_eq, bv_nil_iff]; rintro rfl; simp at h); omega)
  simp only [List.nil_append] at hs' hlc
  have hnew : (w1.alloc (.cells #[.slice A' n c', .bool false] 113)).heap[w1.heap.size]? = some (.cells #[.slice A' n c', .bool false] 113 (0, 0)) := heap_alloc_new w1 _
  rw [hn'] at hnew ⊢
  rcases hne with hne | rfl
  · refine ⟨_, b', rfl, ⟨hne, A', c', hnew, hlc, hcm, Sl.alloc hs' _⟩, hb1.size, hb', hb1.alloc hb1.size _, fun hl => ?_⟩
    obtain ⟨cur, hcur⟩ := hblk.out (by simpa using hl)
    exact ⟨cur, (Below.heap_alloc _ _ _ (Array.getElem?_eq_some_iff.1 hcur).1).trans hcur⟩
  · exact ⟨_, w1.heap.size + 1, rfl, ⟨by omega, A', c', hnew, hlc, hcm, Sl.nil_ _ _ _⟩, hb1.size, by have := hb1.size; omega, hb1.alloc hb1.size _, fun hl => absurd rfl hl⟩

theorem Read_calls (A : Option Addr) (l : List UInt8) (n c b : Nat) (w : World) (hs : Bs w b A l) (hn : l.length = n) (hlen : n ≤ 140737488355328) :
    Calls Tryd.prog 37 #[.slice A n c] w fun e w' => ∃ g b', e = .returned (.pointer (some ⟨g, 0, none⟩)) ∧ EyeAt w' g b' l false ∧ w.heap.size ≤ g ∧ w.heap.size ≤ b' ∧ Below w.heap.size w w' :=
  (Read_own A l n c b w hs hn hlen).mono fun _ _ ⟨g, b', h1, h2, h3, h4, h5, _⟩ => ⟨g, b', h1, h2, h3, h4, h5⟩

theorem EyeAt.modne {w w' : World} {g b : Nat} {l : List UInt8} {wr : Bool} (h : EyeAt w g b l wr) {S : Nat → Prop} (hm : Mod S w w') (hg : ¬ S g) (hb : l ≠ [] → ¬ S b) : EyeAt w' g b l wr := by
  obtain ⟨hne, A, c, h1, h2, h3, h4⟩ := h
  exact ⟨hne, A, c, by rw [hm.block g (Array.getElem?_eq_some_iff.1 h1).1 hg]; exact h1, h2, h3, Bs.modne h4 hm hb⟩
end Go.Proofs.YtfckgfoimpileaaDoor
/- The eye's Num and Blob; Left, Done, Read; a nil eye. -/
namespace Go.Proofs.YtfckgfoimpileaaDoor
open Go.RowKit

/-- A number off the front: its value, how many bytes; the byte at its head is number i of it. -/
def rd : Nat → List UInt8 → Option (Nat × Nat)
  | _, [] => none
  | i, x :: l =>
    if x.toNat < 128 then (if (0 < i ∧ x.toNat = 0) ∨ (i = 9 ∧ 1 < x.toNat) then none else some (x.toNat, 1))
    else if i = 9 then none else (rd (i + 1) l).map fun y => (x.toNat % 128 + 128 * y.1, y.2 + 1)

theorem u64_or_add (m q P i : Nat) (hP : P = 2 ^ i) (h : m < P) (hb : m + q * P < 18446744073709551616) : bits .or .u64 (m : Int) ((q : Int) * (P : Int)) = ((m + q * P : Nat) : Int) := by
  have e : ((q : Int) * (P : Int)) = ((q * P : Nat) : Int) := by simp
  rw [e, u64_or_nat m (q * P) (by omega) (by omega)]
  subst hP
  rw [or_add _ _ _ h]
set_option maxRecDepth 20000 in
theorem and127 (q : Nat) (hq : q < 256) : bits .and .u8 (q : Int) 127 = ((q % 128 : Nat) : Int) := by
  have h : ∀ x : Fin 256, x.val &&& 127 = x.val % 128 := by decide
  have e : (127 : Int) = ((127 : Nat) : Int) := rfl
  rw [e, u8_and_nat q 127 hq (by omega)]
  have := h ⟨q, hq⟩
  simp only at this
  rw [this]

/-- One byte more of a number. -/
theorem num_or (p q k : Nat) (hq : q < 256) (hp : p < 128 ^ k) (hb : p + 128 ^ k * (q % 128) < 18446744073709551616) :
    bits .or .u64 (p : Int) (IntKind.u64.wrap (IntKind.u64.wrap (bits .and .u8 (q : Int) 127) * 2 ^ (7 * k))) = ((p + 128 ^ k * (q % 128) : Nat) : Int) := by
  have hk : (128 : Nat) ^ k = 2 ^ (7 * k) := by rw [Nat.pow_mul]
  have hpw : (2 : Int) ^ (7 * k) = ((128 ^ k : Nat) : Int) := by rw [hk]; simp
  have e1 : IntKind.u64.wrap ((q % 128 : Nat) : Int) = ((q % 128 : Nat) : Int) := IntWalk.u64_in _ (by omega)
  have e : (((q % 128 : Nat) : Int) * ((128 ^ k : Nat) : Int)) = ((128 ^ k * (q % 128) : Nat) : Int) := by rw [Nat.mul_comm (128 ^ k)]; simp
  have e2 : IntKind.u64.wrap (((q % 128 : Nat) : Int) * ((128 ^ k : Nat) : Int)) = ((q % 128 : Nat) : Int) * ((128 ^ k : Nat) : Int) := IntWalk.u64_in _ (by rw [e]; omega)
  rw [and127 q hq, e1, hpw, e2, u64_or_add p (q % 128) (128 ^ k) (7 * k) hk hp (by rw [Nat.mul_comm]; exact hb), Nat.mul_comm (128 ^ k)]
theorem pow128_le (k : Nat) (hk : k < 9) : 128 ^ k * 128 ≤ 9223372036854775808 := by
  rw [← Nat.pow_succ]
  exact Nat.le_trans (Nat.pow_le_pow_right (by omega) (show k + 1 ≤ 9 by omega)) (by decide)

/-- What reading a number says. -/
def ReadNum (g b : Nat) (l : List UInt8) (bad : Bool) (most : Nat) (w : World) (e : Ending) (w' : World) : Prop :=
  (∀ v k, rd 0 l = some (v, k) → v ≤ most → e = .returned (.int .u64 (v : Nat)) ∧ EyeAt w' g b (l.drop k) bad) ∧
  ((∀ v k, rd 0 l = some (v, k) → ¬ v ≤ most) → e = .returned (.int .u64 0) ∧ EyeAt w' g b [] true) ∧ Mod (fun i => i = g) w w'

/-- Where the reading stands behind k bytes, of value p. -/
def At (l : List UInt8) (k p : Nat) : Prop := p < 128 ^ k ∧ rd 0 l = (rd k (l.drop k)).map fun y => (p + 128 ^ k * y.1, k + y.2)

theorem At.zero (l : List UInt8) : At l 0 0 := ⟨by simp, by simp⟩
theorem At.end_ {l : List UInt8} {k p : Nat} (h : At l k p) (hk : l.length ≤ k) : rd 0 l = none := by
  rw [h.2, List.drop_eq_nil_of_le hk]; rfl
theorem At.here {l : List UInt8} {k p : Nat} (h : At l k p) (hk : k < l.length) : rd 0 l = (rd k (l[k] :: l.drop (k + 1))).map fun y => (p + 128 ^ k * y.1, k + y.2) := by
  rw [h.2, List.drop_eq_getElem_cons hk]
theorem At.big9 {l : List UInt8} {k p : Nat} (h9 : k = 9) (h : At l k p) (hk : k < l.length) (hq : 1 < l[k].toNat) : rd 0 l = none := by
  subst h9
  rw [h.here hk, rd]
  split
  · rw [if_pos (.inr ⟨rfl, hq⟩)]; rfl
  · rfl
theorem At.zero_last {l : List UInt8} {k p : Nat} (h : At l k p) (hk : k < l.length) (h0 : 0 < k) (hq : l[k].toNat = 0) : rd 0 l = none := by
  rw [h.here hk, rd, if_pos (by omega), if_pos (.inl ⟨h0, hq⟩)]; rfl
theorem At.last {l : List UInt8} {k p : Nat} (h : At l k p) (hk : k < l.length) (hq : l[k].toNat < 128) (h0 : ¬ (0 < k ∧ l[k].toNat = 0)) (h9 : ¬ (k = 9 ∧ 1 < l[k].toNat)) : rd 0 l = some (p + 128 ^ k * l[k].toNat, k + 1) := by
  rw [h.here hk, rd, if_pos hq, if_neg (by rintro (h | h); exact h0 h; exact h9 h)]; rfl
theorem At.next {l : List UInt8} {k p : Nat} (h : At l k p) (hk : k < l.length) (hq : 128 ≤ l[k].toNat) (h9 : k ≠ 9) : At l (k + 1) (p + 128 ^ k * (l[k].toNat % 128)) := by
  refine ⟨?_, ?_⟩
  · have h1 := h.1
    have h2 : l[k].toNat % 128 + 1 ≤ 128 := by omega
    have h3 := Nat.mul_le_mul_left (128 ^ k) h2
    rw [Nat.pow_succ]
    rw [Nat.mul_add] at h3
    omega
  · rw [h.here hk, rd, if_neg (by omega), if_neg h9, Option.map_map]
    congr 1
    funext y
    simp only [Function.comp, Nat.pow_succ, Prod.mk.injEq]
    refine ⟨?_, by omega⟩
    rw [Nat.mul_add, Nat.mul_assoc]
    omega

theorem ReadNum.none_ {g b : Nat} {l : List UInt8} {bad : Bool} {most : Nat} {w w' : World} (h : rd 0 l = none) (he : EyeAt w' g b [] true) (hm : Mod (fun i => i = g) w w') : ReadNum g b l bad most w (.returned (.int .u64 0)) w' :=
  ⟨fun v k hv => (by rw [h] at hv; cases hv), fun _ => ⟨rfl, he⟩, hm⟩
theorem ReadNum.much {g b : Nat} {l : List UInt8} {bad : Bool} {most v k : Nat} {w w' : World} (h : rd 0 l = some (v, k)) (hv : most < v) (he : EyeAt w' g b [] true) (hm : Mod (fun i => i = g) w w') : ReadNum g b l bad most w (.returned (.int .u64 0)) w' :=
  ⟨fun v' k' hv' hle => by rw [h] at hv'; injection hv' with hv'; injection hv' with h1 h2; omega, fun _ => ⟨rfl, he⟩, hm⟩
theorem ReadNum.ok {g b : Nat} {l : List UInt8} {bad : Bool} {most v k : Nat} {w w' : World} (h : rd 0 l = some (v, k)) (hv : v ≤ most) (he : EyeAt w' g b (l.drop k) bad) (hm : Mod (fun i => i = g) w w') : ReadNum g b l bad most w (.returned (.int .u64 (v : Nat))) w' := by
  refine ⟨fun v' k' hv' _ => ?_, fun hn => absurd hv (hn v k h), hm⟩
  rw [h] at hv'
  injection hv' with hv'
  injection hv' with h1 h2
  subst h1
  subst h2
  exact ⟨rfl, he⟩
theorem Mod.step {g : Nat} {a b c : World} (h : Mod (fun i => i = g) a b) (k : Mod (fun i => i = g) b c) : Mod (fun i => i = g) a c := h.trans k (fun _ _ h => h) (fun _ _ h => h)

set_option maxHeartbeats 1000000 in
set_option maxRecDepth 20000 in
theorem EyeNum_calls (g b : Nat) (l : List UInt8) (bad : Bool) (most : Nat) (w : World) (he : EyeAt w g b l bad) (hm : most ≤ 18446744073709551615) :
    Calls Tryd.prog 38 #[.pointer (some ⟨g, 0, none⟩), .int .u64 most] w (ReadNum g b l bad most w) := by
  have HM := Lib.hid hm
  clear hm
  go_enter Tryd.func38, Tryd.ntmps38
  go_wp2_with fail
  go_loopw [5, 8] (fun x i wr => ∃ k p : Nat, k ≤ 9 ∧ k ≤ l.length ∧ i = .int .i64 k ∧ x = .int .u64 p ∧ Hid (At l k p) ∧ EyeAt wr g b (l.drop k) bad ∧ Mod (fun i => i = g) w wr) (fun _ i _ => 10 - (intOf i).toNat)
  case atStart => exact ⟨0, 0, by omega, by omega, rfl, rfl, Lib.hid (At.zero l), he, Mod.refl _ _⟩
  case round =>
    obtain ⟨k, p, hk, hkl, rfl, rfl, hp, he1, hmod⟩ := hrel
    clear he
    by_cases hlt : k < l.length
    · have hx : valN ((l.drop k).take 1) = l[k].toNat := by
        rw [List.drop_eq_getElem_cons hlt, List.take_succ_cons, List.take_zero, valN_cons]
        simp [valN]
      have HX := Lib.hid hx
      clear hx
      obtain ⟨q, hq⟩ : ∃ q, q = l[k] := ⟨_, rfl⟩
      have HQ := Lib.hid hq
      clear hq
      have hq8 := q.toNat_lt
      have hdr : l.drop (k + 1) = (l.drop k).drop 1 := by simp
      have HD := Lib.hid hdr
      clear hdr
      rcases Nat.lt_or_ge k 9 with h9 | h9
      · have h9' : ((k : Int) == 9) = false := by simp; omega
        have hor := num_or p q.toNat k hq8 hp.out.1 (by have h1 := hp.out.1; have h2 := pow128_le k h9; have h3 : 128 ^ k * (q.toNat % 128) ≤ 128 ^ k * 127 := Nat.mul_le_mul_left _ (by omega); omega)
        obtain ⟨p', hp'⟩ : ∃ p', p' = p + 128 ^ k * (q.toNat % 128) := ⟨_, rfl⟩
        rw [← hp'] at hor
        have HP := Lib.hid hp'
        clear hp'
        by_cases hge : 128 ≤ q.toNat
        · go_wp2_with fail
          refine (EyeByte_calls g b _ bad _ he1).mono ?_
          rintro e w1 ⟨hy, _⟩
          obtain ⟨rfl, he2, hm2⟩ := hy (by simp; omega)
          rw [HX.out, ← HQ.out]
          clear hy he1
          go_wp2_with fail
          go_roundw
          case rel => exact ⟨k + 1, p', by omega, by omega, by go_num, rfl, Lib.hid (by rw [HP.out, HQ.out]; exact hp.out.next hlt (by rw [← HQ.out]; exact hge) (by omega)), he2.castl HD.out.symm, hmod.step hm2⟩
          case measure => simp [intOf]; omega
        · have hq7 : q.toNat < 128 := by omega
          by_cases hz : 0 < k ∧ q.toNat = 0
          · have hr : rd 0 l = none := hp.out.zero_last hlt hz.1 (by rw [← HQ.out]; exact hz.2)
            have HR := Lib.hid hr
            clear hr
            have hk0 : (0 : Int) < (k : Int) := by omega
            have hq0 : ((q.toNat : Int) == 0) = true := by simp [hz.2]
            have hz1 := hz.1
            have hz2 : q.toNat ≤ 0 := by omega
            clear hz
            by_cases hmo : most < p'
            all_goals
              go_wp2_with fail
              refine (EyeByte_calls g b _ bad _ he1).mono ?_
              rintro e w1 ⟨hy, _⟩
              obtain ⟨rfl, he2, hm2⟩ := hy (by simp; omega)
              rw [HX.out, ← HQ.out]
              clear hy he1
              go_wp2_with fail
              refine (fail_calls g b _ _ _ he2).mono ?_
              rintro e w2 ⟨rfl, he3, hm3⟩
              go_wp2_with fail
              go_ret
              exact ReadNum.none_ HR.out he3 ((hmod.step hm2).step hm3)
          · have hr := hp.out.last hlt (by rw [← HQ.out]; exact hq7) (by rw [← HQ.out]; exact hz) (by omega)
            rw [← HQ.out, show 128 ^ k * q.toNat = 128 ^ k * (q.toNat % 128) by rw [Nat.mod_eq_of_lt hq7], ← HP.out] at hr
            have HR := Lib.hid hr
            clear hr
            have hzz : ¬ (0 : Int) < (k : Int) ∨ ((q.toNat : Int) == 0) = false := by
              rcases Nat.eq_zero_or_pos k with h | h
              · exact .inl (by omega)
              · refine .inr ?_
                simp only [beq_eq_false_iff_ne, ne_eq]
                omega
            clear hz
            by_cases hmo : most < p'
            · go_wp2_with fail
              refine (EyeByte_calls g b _ bad _ he1).mono ?_
              rintro e w1 ⟨hy, _⟩
              obtain ⟨rfl, he2, hm2⟩ := hy (by simp; omega)
              rw [HX.out, ← HQ.out]
              clear hy he1 hzz
              go_wp2_with fail
              refine (fail_calls g b _ _ _ he2).mono ?_
              rintro e w2 ⟨rfl, he3, hm3⟩
              go_wp2_with fail
              go_ret
              exact ReadNum.much HR.out hmo he3 ((hmod.step hm2).step hm3)
            · rcases hzz with hzz | hzz
              all_goals
                go_wp2_with fail
                refine (EyeByte_calls g b _ bad _ he1).mono ?_
                rintro e w1 ⟨hy, _⟩
                obtain ⟨rfl, he2, hm2⟩ := hy (by simp; omega)
                rw [HX.out, ← HQ.out]
                clear hy he1
                go_wp2_with fail
                all_goals
                  go_ret
                  exact ReadNum.ok HR.out (by omega) (he2.castl HD.out.symm) (hmod.step hm2)
      · have hk9 : k = 9 := by omega
        have HK := Lib.hid hk9
        clear hk9
        have h9' : ((k : Int) == 9) = true := by simp [HK.out]
        rcases Nat.lt_or_ge 1 q.toNat with hbig | hsm
        · have hr := At.big9 HK.out hp.out hlt (by rw [← HQ.out]; exact hbig)
          have HR := Lib.hid hr
          clear hr
          go_wp2_with fail
          refine (EyeByte_calls g b _ bad _ he1).mono ?_
          rintro e w1 ⟨hy, _⟩
          obtain ⟨rfl, he2, hm2⟩ := hy (by simp; omega)
          rw [HX.out, ← HQ.out]
          clear hy he1
          go_wp2_with fail
          refine (fail_calls g b _ _ _ he2).mono ?_
          rintro e w2 ⟨rfl, he3, hm3⟩
          go_wp2_with fail
          go_ret
          exact ReadNum.none_ HR.out he3 ((hmod.step hm2).step hm3)
        · have hor := num_or p q.toNat k hq8 hp.out.1 (by
            have h1 := hp.out.1
            have h2 : (128 : Nat) ^ 9 = 9223372036854775808 := by decide
            rw [HK.out, h2] at h1
            rw [HK.out, h2]
            omega)
          obtain ⟨p', hp'⟩ : ∃ p', p' = p + 128 ^ k * (q.toNat % 128) := ⟨_, rfl⟩
          rw [← hp'] at hor
          have HP := Lib.hid hp'
          clear hp'
          rcases Nat.eq_zero_or_pos q.toNat with h0 | h0
          · have hr : rd 0 l = none := hp.out.zero_last hlt (by omega) (by rw [← HQ.out]; exact h0)
            have HR := Lib.hid hr
            have hq0 : ((q.toNat : Int) == 0) = true := by simp [h0]
            have h0' : q.toNat ≤ 0 := by omega
            clear hr h0
            by_cases hmo : most < p'
            all_goals
              go_wp2_with fail
              refine (EyeByte_calls g b _ bad _ he1).mono ?_
              rintro e w1 ⟨hy, _⟩
              obtain ⟨rfl, he2, hm2⟩ := hy (by simp; omega)
              rw [HX.out, ← HQ.out]
              clear hy he1
              go_wp2_with fail
              refine (fail_calls g b _ _ _ he2).mono ?_
              rintro e w2 ⟨rfl, he3, hm3⟩
              go_wp2_with fail
              go_ret
              exact ReadNum.none_ HR.out he3 ((hmod.step hm2).step hm3)
          · have hr := hp.out.last hlt (by rw [← HQ.out]; omega) (by rw [← HQ.out]; omega) (by rw [← HQ.out]; omega)
            rw [← HQ.out, show 128 ^ k * q.toNat = 128 ^ k * (q.toNat % 128) by rw [Nat.mod_eq_of_lt (by omega)], ← HP.out] at hr
            have HR := Lib.hid hr
            have hq0 : ((q.toNat : Int) == 0) = false := by simp only [beq_eq_false_iff_ne, ne_eq]; omega
            clear hr
            by_cases hmo : most < p'
            · go_wp2_with fail
              refine (EyeByte_calls g b _ bad _ he1).mono ?_
              rintro e w1 ⟨hy, _⟩
              obtain ⟨rfl, he2, hm2⟩ := hy (by simp; omega)
              rw [HX.out, ← HQ.out]
              clear hy he1
              go_wp2_with fail
              refine (fail_calls g b _ _ _ he2).mono ?_
              rintro e w2 ⟨rfl, he3, hm3⟩
              go_wp2_with fail
              go_ret
              exact ReadNum.much HR.out hmo he3 ((hmod.step hm2).step hm3)
            · go_wp2_with fail
              refine (EyeByte_calls g b _ bad _ he1).mono ?_
              rintro e w1 ⟨hy, _⟩
              obtain ⟨rfl, he2, hm2⟩ := hy (by simp; omega)
              rw [HX.out, ← HQ.out]
              clear hy he1
              go_wp2_with fail
              go_ret
              exact ReadNum.ok HR.out (by omega) (he2.castl HD.out.symm) (hmod.step hm2)
    · have hr := hp.out.end_ (by omega)
      have HR := Lib.hid hr
      clear hr
      have hn0 : (l.drop k).length < 1 := by simp; omega
      have hor := num_or p 0 k (by omega) hp.out.1 (by
        have h1 := hp.out.1
        have h2 : (128 : Nat) ^ k ≤ 128 ^ 9 := Nat.pow_le_pow_right (by omega) hk
        have h3 : (128 : Nat) ^ 9 = 9223372036854775808 := by decide
        omega)
      simp only [Nat.zero_mod, Nat.mul_zero, Nat.add_zero, Int.natCast_zero] at hor
      rcases Nat.eq_zero_or_pos k with hk0 | hk0
      · have hp0 : p = 0 := by have := hp.out.1; rw [hk0] at this; simp at this; exact this
        have HP := Lib.hid hp0
        have hk0' : ¬ (0 : Int) < (k : Int) := by omega
        have h9' : ((k : Int) == 9) = false := by simp; omega
        have hmo : ¬ most < p := by omega
        clear hp0 hk0
        go_wp2_with fail
        refine (EyeByte_calls g b _ bad _ he1).mono ?_
        rintro e w1 ⟨_, hy⟩
        obtain ⟨rfl, he2, hm2⟩ := hy hn0
        clear hy he1
        go_wp2_with fail
        go_ret
        have hz := HP.out
        rw [hz]
        exact ReadNum.none_ HR.out he2 (hmod.step hm2)
      · have hk0' : (0 : Int) < (k : Int) := by omega
        have h9' : ((k : Int) == 9) = false ∨ ((k : Int) == 9) = true := by cases ((k : Int) == 9) <;> simp
        rcases h9' with h9' | h9'
        all_goals
          by_cases hmo : most < p
          all_goals
            go_wp2_with fail
            refine (EyeByte_calls g b _ bad _ he1).mono ?_
            rintro e w1 ⟨_, hy⟩
            obtain ⟨rfl, he2, hm2⟩ := hy hn0
            clear hy he1
            go_wp2_with fail
            refine (fail_calls g b _ _ _ he2).mono ?_
            rintro e w2 ⟨rfl, he3, hm3⟩
            go_wp2_with fail
            go_ret
            exact ReadNum.none_ HR.out he3 ((hmod.step hm2).step hm3)
end Go.Proofs.YtfckgfoimpileaaDoor
