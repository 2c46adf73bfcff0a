/- Parts of one proof, in their order. -/
import Derived.WalkKit
import Derived.WalkSpells
import Derived.WalkLawsBesides
import Derived.Deep.Draws
import Derived.Maps.AppendAt
import Derived.Deep.AppendLies
import Derived.Laws.Rows
import Derived.Lib.Hide
import Derived.Deep.QuietTactic
import Derived.BigQuiet
import Derived.IntWalk
import Derived.Test.YtcgbamkfflcdfaaDoorRows
import Derived.OwnWalk
import Derived.OrdersHeld
import Derived.Deep.RegionHeld
import Derived.ArgAppend
import Derived.Lib.SliceRun
import Derived.Deep.DeepCutAuto
import Derived.BigRegion
import Derived.Carry
import Derived.Outline
/- Words for memory that every proof of this seat uses: which blocks a call may have turned (Mod), a slice that reads as a list (Sl), bytes as values (bv). No condition: plain lemmas. -/
namespace Go.Proofs.YtcgbamkfflcdfaaDoor
open Go.RowKit

/-- Of what was there, only blocks of S may have turned. -/
structure Mod (S : Nat → Prop) (w w' : World) : Prop where
  os : w'.os = w.os
  tape : w'.tape = w.tape
  output : w'.output = w.output
  size : w.heap.size ≤ w'.heap.size
  block : ∀ k, k < w.heap.size → ¬ S k → w'.heap[k]? = w.heap[k]?

namespace Mod
theorem refl (S : Nat → Prop) (w : World) : Mod S w w := ⟨rfl, rfl, rfl, Nat.le_refl _, fun _ _ _ => rfl⟩
theorem trans {S S1 S2 : Nat → Prop} {a b c : World} (h : Mod S1 a b) (k : Mod S2 b c) (h1 : ∀ i, i < a.heap.size → S1 i → S i) (h2 : ∀ i, i < a.heap.size → S2 i → S i) : Mod S a c :=
  ⟨k.os.trans h.os, k.tape.trans h.tape, k.output.trans h.output, Nat.le_trans h.size k.size,
    fun i hi hn => (k.block i (Nat.lt_of_lt_of_le hi h.size) (fun e => hn (h2 i hi e))).trans (h.block i hi (fun e => hn (h1 i hi e)))⟩
theorem mono {S T : Nat → Prop} {a b : World} (h : Mod S a b) (hs : ∀ i, i < a.heap.size → S i → T i) : Mod T a b :=
  ⟨h.os, h.tape, h.output, h.size, fun i hi hn => h.block i hi (fun e => hn (hs i hi e))⟩
theorem of_below {B : Nat} {a b : World} (h : Below B a b) : Mod (fun i => B ≤ i) a b :=
  ⟨h.os, h.tape, h.output, h.size, fun i _ hn => h.block i (by omega)⟩
theorem below {S : Nat → Prop} {B : Nat} {a b : World} (h : Mod S a b) (hB : B ≤ a.heap.size) (hs : ∀ i, i < B → ¬ S i) : Below B a b :=
  ⟨h.os, h.tape, h.output, h.size, fun i hi => h.block i (by omega) (hs i hi)⟩
theorem of_grown {row : Option Nat} {a b : World} (h : a.grownBy b row) : Mod (fun i => row = some i) a b :=
  ⟨h.os, h.tape, h.output, h.size, fun i hi hn => h.block i hi (fun e => hn e.symm)⟩
theorem setCell (w : World) (p : Addr) (u : Value) : Mod (fun i => i = p.block) w (w.setCell p u) :=
  ⟨rfl, rfl, rfl, by simp [World.setCell], fun i _ hn => Below.heap_setCell w p u i hn⟩
theorem alloc (S : Nat → Prop) (w : World) (o : Obj) : Mod S w (w.alloc o) :=
  ⟨rfl, rfl, rfl, by simp, fun i hi _ => Below.heap_alloc w o i hi⟩
theorem drew (S : Nat → Prop) (w : World) : Mod S w w.drew := ⟨rfl, rfl, rfl, Nat.le_refl _, fun _ _ _ => rfl⟩
theorem drewN (S : Nat → Prop) (w : World) (n : Nat) : Mod S w (w.drewN n) := ⟨rfl, rfl, rfl, Nat.le_refl _, fun _ _ _ => rfl⟩
end Mod

theorem below_drew {B : Nat} {a w : World} (h : Below B a w) : Below B a w.drew := ⟨h.os, h.tape, h.output, h.size, h.block⟩
theorem below_alloc2 (w : World) (a b : Obj) : Below w.heap.size w ((w.alloc a).alloc b) := ((Below.refl _ _).alloc (Nat.le_refl _) _).alloc (by simp) _
theorem below_alloc1 (w : World) (a : Obj) : Below w.heap.size w (w.alloc a) := (Below.refl _ _).alloc (Nat.le_refl _) _
theorem below_alloc3 (w : World) (a b c : Obj) : Below w.heap.size w (((w.alloc a).alloc b).alloc c) := (((Below.refl _ _).alloc (Nat.le_refl _) _).alloc (by simp) _).alloc (by simp; omega) _
theorem below_drewN {B : Nat} {a w : World} (h : Below B a w) (n : Nat) : Below B a (w.drewN n) := ⟨h.os, h.tape, h.output, h.size, h.block⟩

/-- The slice's address A leads to the cells xs, all in block b (nothing is said of an empty one). -/
def Sl (w : World) (b : Nat) (A : Option Addr) (xs : List Value) : Prop :=
  xs ≠ [] → ∃ off, A = some ⟨b, off, none⟩ ∧ ∀ j u, xs[j]? = some u → w.cell? ⟨b, off + j, none⟩ = some u

namespace Sl
variable {w w' : World} {b : Nat} {A : Option Addr} {xs : List Value}
theorem nil_ (w : World) (b : Nat) (A : Option Addr) : Sl w b A [] := fun h => absurd rfl h
theorem lt (h : Sl w b A xs) (hx : xs ≠ []) : b < w.heap.size := by
  obtain ⟨off, _, hc⟩ := h hx
  obtain ⟨x, l, rfl⟩ := List.exists_cons_of_ne_nil hx
  exact World.block_lt_of_cell? w _ (hc 0 x (by simp))
theorem keep (h : Sl w b A xs) (hk : b < w.heap.size → w'.heap[b]? = w.heap[b]?) : Sl w' b A xs := fun hx => by
  have hlt := h.lt hx
  obtain ⟨off, e, hc⟩ := h hx
  exact ⟨off, e, fun j u hu => (World.cell?_of_block (hk hlt)).trans (hc j u hu)⟩
theorem mod {S : Nat → Prop} (h : Sl w b A xs) (hm : Mod S w w') (hs : ¬ S b) : Sl w' b A xs := h.keep fun hlt => hm.block b hlt hs
theorem below {B : Nat} (h : Sl w b A xs) (hm : Below B w w') (hs : b < B) : Sl w' b A xs := h.keep fun _ => hm.block b hs
theorem ext (h : Sl w b A xs) (hm : Below w.heap.size w w') : Sl w' b A xs := h.keep fun hlt => hm.block b hlt
theorem drew (h : Sl w b A xs) : Sl w.drew b A xs := h
theorem drewN (h : Sl w b A xs) (n : Nat) : Sl (w.drewN n) b A xs := h
theorem alloc (h : Sl w b A xs) (o : Obj) : Sl (w.alloc o) b A xs := h.keep fun hlt => Below.heap_alloc w o b hlt
theorem setCell (h : Sl w b A xs) {p : Addr} (hp : b ≠ p.block) (u : Value) : Sl (w.setCell p u) b A xs := h.keep fun _ => Below.heap_setCell w p u b hp
theorem at_ (h : Sl w b A xs) {k : Nat} (hk : k < xs.length) : ∃ off, A = some ⟨b, off, none⟩ ∧ w.cell? ⟨b, off + k, none⟩ = some xs[k] ∧ ∀ j (hj : j < xs.length), w.cell? ⟨b, off + j, none⟩ = some xs[j] := by
  obtain ⟨off, e, hc⟩ := h (by rintro rfl; simp at hk)
  exact ⟨off, e, hc k _ (List.getElem?_eq_getElem hk), fun j hj => hc j _ (List.getElem?_eq_getElem hj)⟩
/-- What 's[k:]' of it reads as, the model's 'if' kept. -/
theorem drop (h : Sl w b A xs) {k cap : Nat} (hc : xs.length ≤ cap) : Sl w b (if cap = k then A else A.map (·.add k)) (xs.drop k) := fun hx => by
  have hk : k < xs.length := by
    rcases Nat.lt_or_ge k xs.length with h1 | h1
    · exact h1
    · exact absurd (List.drop_eq_nil_of_le h1) hx
  obtain ⟨off, rfl, hcell⟩ := h (by rintro rfl; simp at hk)
  rw [if_neg (by omega)]
  refine ⟨off + k, ?_, fun j u hu => ?_⟩
  · simp [Addr.add_lit]
  · rw [Nat.add_assoc]
    exact hcell (k + j) u (by rw [← hu, List.getElem?_drop])
theorem take (h : Sl w b A xs) (k : Nat) : Sl w b A (xs.take k) := fun hx => by
  obtain ⟨off, e, hc⟩ := h (by rintro rfl; simp at hx)
  exact ⟨off, e, fun j u hu => hc j u (by rw [List.getElem?_take] at hu; split at hu <;> first | exact hu | cases hu)⟩
theorem of_own {base : Nat} {e : TypeId} {n c : Nat} (h : w.ownsRow base e 1 (.slice A n c) n xs) : ∃ g, Sl w g A xs ∧ ∀ k, (Value.slice A n c).ownBlock = some k → k = g := by
  rcases h.2 with ⟨hv, hn⟩ | ⟨g, cap, cur, hv, _⟩
  · have hx : xs = [] := List.eq_nil_of_length_eq_zero (by simpa [hn] using h.1)
    subst hx
    injection hv with hA
    subst hA
    exact ⟨0, nil_ _ _ _, by simp [Value.ownBlock]⟩
  · injection hv with hA hn hc
    subst hA
    refine ⟨g, fun _ => ⟨0, rfl, fun j u hu => ?_⟩, by simp [Value.ownBlock]⟩
    have := h.cells (g := g) rfl j u hu
    simpa [Addr.add_lit] using this
end Sl

/-- Bytes as values. -/
def bv (l : List UInt8) : List Value := l.map fun x => .int .u8 (x.toNat : Int)
@[simp] theorem bv_length (l : List UInt8) : (bv l).length = l.length := by simp [bv]
@[simp] theorem bv_nil : bv [] = [] := rfl
theorem bv_append (a b : List UInt8) : bv (a ++ b) = bv a ++ bv b := by simp [bv]
theorem bv_get (l : List UInt8) (k : Nat) (h : k < (bv l).length) : (bv l)[k] = .int .u8 ((l[k]'(by simpa using h)).toNat : Int) := by simp [bv]
theorem bv_take (l : List UInt8) (k : Nat) : (bv l).take k = bv (l.take k) := by simp [bv]
theorem bv_drop (l : List UInt8) (k : Nat) : (bv l).drop k = bv (l.drop k) := by simp [bv]
theorem bv_one (l : List UInt8) : ∀ u ∈ bv l, u.oneCell' = true := by
  intro u hu
  obtain ⟨_, _, rfl⟩ := List.mem_map.1 hu
  rfl
theorem bv_nil_iff (l : List UInt8) : bv l = [] ↔ l = [] := by simp [bv]

/-- A slice of bytes: its address, the block it lies in. -/
abbrev Bs (w : World) (b : Nat) (A : Option Addr) (l : List UInt8) : Prop := Sl w b A (bv l)

theorem Bs.at_ {w : World} {b : Nat} {A : Option Addr} {l : List UInt8} (h : Bs w b A l) {k : Nat} (hk : k < l.length) :
    ∃ off, A = some ⟨b, off, none⟩ ∧ ∀ j (hj : j < l.length), w.cell? ⟨b, off + j, none⟩ = some (.int .u8 (l[j].toNat : Int)) := by
  obtain ⟨off, e, _, hc⟩ := Sl.at_ h (k := k) (by simpa using hk)
  exact ⟨off, e, fun j hj => by rw [hc j (by simpa using hj), bv_get]⟩

/-- A new slice of bytes that a call hands back: its block is new. -/
def NewBs (B : Nat) (w' : World) (v : Value) (l : List UInt8) : Prop :=
  ∃ A c b, v = .slice A l.length c ∧ l.length ≤ c ∧ c ≤ maxLen ∧ B ≤ b ∧ Sl w' b A (bv l)

theorem NewBs.of_own {B : Nat} {w' : World} {v : Value} {l : List UInt8} {e : TypeId} (h : w'.ownsRow B e 1 v l.length (bv l)) : NewBs B w' v l := by
  rcases h.2 with ⟨rfl, hn⟩ | ⟨g, cap, cur, rfl, hb, _, hnc, hcm, _⟩
  · have hl : l = [] := List.eq_nil_of_length_eq_zero hn
    subst hl
    exact ⟨none, 0, B, rfl, Nat.le_refl _, by simp [maxLen], Nat.le_refl _, Sl.nil_ _ _ _⟩
  · refine ⟨_, cap, g, rfl, hnc, hcm, hb, fun _ => ⟨0, rfl, fun j u hu => ?_⟩⟩
    have := h.cells (g := g) rfl j u hu
    simpa [Addr.add_lit] using this

theorem u8_ofNat (n : Nat) : ((UInt8.ofNat n).toNat : Int) = (n : Int) % 256 := by
  simp [UInt8.toNat_ofNat']
end Go.Proofs.YtcgbamkfflcdfaaDoor
/- The law on append onto a slice of the call's own, the source nil, empty or not: what the row reads as behind it, and that only that row (or a new one) has turned. Condition: the sum of the lengths fits. -/
namespace Go.Proofs.YtcgbamkfflcdfaaDoor
open Go.RowKit
section
variable {P : Program} (w : World)

theorem run_append_of_nil (base : Nat) (t ty e : TypeId) (i : TypeInfo) (size : Nat) (ht : P.underlying t = some (.slice e)) (hi : P.info? e = some i)
    (v : Value) (n : Nat) (xs : List Value) (hown : w.ownsRow base e size v n xs) (c : Nat) : (Builtin.append_ #[t, t] ty #[v, .slice none 0 c]).run P w = .ok v w := by
  rcases hown.2 with ⟨rfl, rfl⟩ | ⟨g, cap, cur, rfl, _, _, hnc, _⟩
  · simp [Builtin.append_, run_underlying ht, sizeOf, typeInfo, hi, Builtin.lenOf, Builtin.firstCells]
  · simp [Builtin.append_, run_underlying ht, sizeOf, typeInfo, hi, Builtin.lenOf, Builtin.firstCells, hnc, storeCells]

theorem run_append_sl (base : Nat) (t ty e : TypeId) (i : TypeInfo) (z : Value) (size bytes : Nat) (ht : P.underlying t = some (.slice e)) (hi : P.info? e = some i) (hz : i.zero = some z)
    (hsize : i.size = size) (hby : i.bytes = bytes) (hzs : z.cells.size = size) (hsz : 0 < size)
    (v : Value) (n : Nat) (xs : List Value) (hown : w.ownsRow base e size v n xs)
    (b : Nat) (A : Option Addr) (m c : Nat) (news : List Value) (hr : Sl w b A news) (hm : news.length = m * size) (hA : A = none → m = 0) (h1 : ∀ u ∈ news, u.oneCell' = true)
    (h63 : n + m ≤ maxLen) (hbytes : (n + m) * bytes ≤ 140737488355328) (hbase : base ≤ w.heap.size) :
    ∃ v' w', (Builtin.append_ #[t, t] ty #[v, .slice A m c]).run P w = .ok v' w' ∧ w'.ownsRow base e size v' (n + m) (xs ++ news) ∧ w.grownBy w' v.ownBlock ∧
      (v'.ownBlock = v.ownBlock ∨ v'.ownBlock = some w.heap.size) := by
  rcases A with _ | ad
  · obtain rfl : m = 0 := hA rfl
    have hn : news = [] := List.eq_nil_of_length_eq_zero (by simpa using hm)
    subst hn
    exact ⟨v, w, run_append_of_nil w base t ty e i size ht hi v n xs hown c, by simpa using hown, World.grownBy.refl w _, .inl rfl⟩
  · have hcells : ∀ j u, news[j]? = some u → w.cell? (ad.add j) = some u := by
      intro j u hu
      obtain ⟨off, h, hc⟩ := hr (by rintro rfl; simp at hu)
      injection h with h
      subst h
      rw [Addr.add_lit]
      exact hc j u hu
    obtain ⟨v', w', hrun, h2, h3, _, h5⟩ := run_append_own_at (P := P) w base t ty e i z size bytes ht hi hz hsize hby hzs hsz v n xs hown ad m c news hm hcells h1 h63 hbytes hbase
    exact ⟨v', w', hrun, h2, h3, h5⟩

theorem wp_append_sl {o : Oper} {a : Act} {K : Act → World → Prop} {Q : Exit → Act → World → Prop} (s x : Operand) (t : TypeId)
    (ho : o.op = .call { callee := .builtin .append, args := #[s, x], argTypes := #[t, t] })
    (base : Nat) (e : TypeId) (i : TypeInfo) (z : Value) (size bytes : Nat) (ht : P.underlying t = some (.slice e)) (hi : P.info? e = some i) (hz : i.zero = some z)
    (hsize : i.size = size) (hby : i.bytes = bytes) (hzs : z.cells.size = size) (hsz : 0 < size)
    (v : Value) (n : Nat) (xs : List Value) (hs : a.eval s = v) (hown : w.ownsRow base e size v n xs)
    (b : Nat) (A : Option Addr) (m c : Nat) (news : List Value) (hx : a.eval x = .slice A m c) (hr : Sl w b A news) (hm : news.length = m * size) (hA : A = none → m = 0) (h1 : ∀ u ∈ news, u.oneCell' = true)
    (h63 : n + m ≤ maxLen) (hbytes : (n + m) * bytes ≤ 140737488355328) (hbase : base ≤ w.heap.size)
    (h : ∀ v' w', w'.ownsRow base e size v' (n + m) (xs ++ news) → w.grownBy w' v.ownBlock → (v'.ownBlock = v.ownBlock ∨ v'.ownBlock = some w.heap.size) → K (a.put o.dst v') w') : o.wp P a w K Q := by
  obtain ⟨v', w', hrun, h2, h3, h4⟩ := run_append_sl (P := P) w base t o.type e i z size bytes ht hi hz hsize hby hzs hsz v n xs hown b A m c news hr hm hA h1 h63 hbytes hbase
  unfold Oper.wp execOp
  simp only [ho, resolve, invoke, builtin, Sem.run_bind, Sem.run_pure, Result.andThen_ok, List.map_toArray, List.map_cons, List.map_nil, hs, hx, hrun]
  exact h v' w' h2 h3 h4

theorem wpList_append_sl {ops : Array Oper} {rest : List Oper} {o : Oper} {a : Act} {Q : Exit → Act → World → Prop} (hgd : o.guard = none) (s x : Operand) (t : TypeId)
    (ho : o.op = .call { callee := .builtin .append, args := #[s, x], argTypes := #[t, t] })
    (base : Nat) (e : TypeId) (i : TypeInfo) (z : Value) (size bytes : Nat) (ht : P.underlying t = some (.slice e)) (hi : P.info? e = some i) (hz : i.zero = some z)
    (hsize : i.size = size) (hby : i.bytes = bytes) (hzs : z.cells.size = size) (hsz : 0 < size)
    (v : Value) (n : Nat) (xs : List Value) (hs : a.eval s = v) (hown : w.ownsRow base e size v n xs)
    (b : Nat) (A : Option Addr) (m c : Nat) (news : List Value) (hx : a.eval x = .slice A m c) (hr : Sl w b A news) (hm : news.length = m * size) (hA : A = none → m = 0) (h1 : ∀ u ∈ news, u.oneCell' = true)
    (h63 : n + m ≤ maxLen) (hbytes : (n + m) * bytes ≤ 140737488355328) (hbase : base ≤ w.heap.size)
    (h : ∀ v' w', w'.ownsRow base e size v' (n + m) (xs ++ news) → w.grownBy w' v.ownBlock → (v'.ownBlock = v.ownBlock ∨ v'.ownBlock = some w.heap.size) → wpList P ops Q rest (a.put o.dst v') w') : wpList P ops Q (o :: rest) a w :=
  wpList_plain hgd fun _ hK => wp_append_sl w s x t ho base e i z size bytes ht hi hz hsize hby hzs hsz v n xs hs hown b A m c news hx hr hm hA h1 h63 hbytes hbase fun v' w' h2 h3 h4 => hK _ _ (h v' w' h2 h3 h4)
end

theorem Sl.one_new (w : World) (x : Value) (t : TypeId) : Sl (w.alloc (.cells #[x] t)) w.heap.size (some ⟨w.heap.size, 0, none⟩) [x] := fun _ =>
  ⟨0, rfl, fun j u hu => by
    have := cell_one_new w x t j u hu
    simpa [Addr.add_lit] using this⟩
theorem Sl.cells_new (w : World) (cs : Array Value) (t : TypeId) : Sl (w.alloc (.cells cs t)) w.heap.size (some ⟨w.heap.size, 0, none⟩) cs.toList := fun _ =>
  ⟨0, rfl, fun j u hu => by
    rw [Nat.zero_add, cell_of_row _ _ _ cs t (0, 0) (heap_alloc_new w _)]
    simpa using hu⟩
/-- An address is there where there is anything. -/
theorem Sl.none_len {w : World} {b : Nat} {A : Option Addr} {xs : List Value} {m : Nat} (h : Sl w b A xs) (hm : xs.length = m) : A = none → m = 0 := fun hA => by
  rcases Nat.eq_zero_or_pos m with h0 | h0
  · exact h0
  · obtain ⟨off, e, _⟩ := h (by rintro rfl; simp at hm; omega)
    rw [hA] at e
    cases e
end Go.Proofs.YtcgbamkfflcdfaaDoor
/- The law on append at slices of bytes, in this program's numbers. Condition: the sum of the lengths fits. -/
namespace Go.Proofs.YtcgbamkfflcdfaaDoor
open Go.RowKit

theorem byte_info : (Tryd.prog.info? 5).map (fun i => (i.zero, i.size, i.bytes)) = some (some (.int .u8 0), 1, 1) := by kernel_rfl

/-- The slice value v is the call's own (its block not below B), and holds the bytes l. -/
abbrev Row (w : World) (B : Nat) (v : Value) (l : List UInt8) : Prop := w.ownsRow B 5 1 v l.length (bv l)

theorem Row.nil_ (w : World) (B : Nat) : Row w B (.slice none 0 0) [] := World.ownsRow_nil _ _ _ _
theorem Row.cast {w : World} {B : Nat} {v : Value} {l l' : List UInt8} (h : Row w B v l) (e : l = l') : Row w B v l' := e ▸ h
theorem Row.lt {w : World} {B : Nat} {v : Value} {l : List UInt8} (h : Row w B v l) : ∀ k, v.ownBlock = some k → B ≤ k ∧ k < w.heap.size := World.ownsRow.lt h
theorem Row.mod {w w' : World} {B : Nat} {v : Value} {l : List UInt8} (h : Row w B v l) {S : Nat → Prop} (hm : Mod S w w') (hs : ∀ k, v.ownBlock = some k → ¬ S k) : Row w' B v l := by
  refine ⟨h.1, ?_⟩
  rcases h.2 with h2 | ⟨g, cap, cur, rfl, hg, hh, r⟩
  · exact .inl h2
  · exact .inr ⟨g, cap, cur, rfl, hg, by rw [hm.block g (Array.getElem?_eq_some_iff.1 hh).1 (hs g rfl)]; exact hh, r⟩
theorem Row.ext {w w' : World} {B : Nat} {v : Value} {l : List UInt8} (h : Row w B v l) (hm : Below w.heap.size w w') : Row w' B v l :=
  h.mod (Mod.of_below hm) fun k hk => by have := (h.lt k hk).2; omega
theorem Row.low {w : World} {B B' : Nat} {v : Value} {l : List UInt8} (h : Row w B v l) (hB : B' ≤ B) : Row w B' v l := by
  refine ⟨h.1, ?_⟩
  rcases h.2 with h2 | ⟨g, cap, cur, rfl, hg, r⟩
  · exact .inl h2
  · exact .inr ⟨g, cap, cur, rfl, by omega, r⟩
/-- What it reads as. -/
theorem Row.sl {w : World} {B : Nat} {v : Value} {l : List UInt8} (h : Row w B v l) : ∃ A c b, v = .slice A l.length c ∧ l.length ≤ c ∧ c ≤ maxLen ∧ (A = none → c = 0) ∧ B ≤ b ∧ Bs w b A l ∧ (∀ k, v.ownBlock = some k → k = b) := by
  rcases h.2 with ⟨rfl, hn⟩ | ⟨g, cap, cur, rfl, hb, _, hnc, hcm, _⟩
  · have hl : l = [] := List.eq_nil_of_length_eq_zero hn
    subst hl
    exact ⟨none, 0, B, rfl, Nat.le_refl _, by simp [maxLen], fun _ => rfl, Nat.le_refl _, Sl.nil_ _ _ _, by simp [Value.ownBlock]⟩
  · refine ⟨_, cap, g, rfl, hnc, hcm, by simp, hb, fun _ => ⟨0, rfl, fun j u hu => ?_⟩, by simp [Value.ownBlock]⟩
    have := h.cells (g := g) rfl j u hu
    simpa [Addr.add_lit] using this

theorem Row.blk_sl {w : World} {B n c b : Nat} {v : Value} {A : Option Addr} {l : List UInt8} (h : Row w B v l) (hv : v = .slice A n c) (hs : Bs w b A l) (hl : l ≠ []) : ∃ cur, w.heap[b]? = some (.cells cur 5 (0, 0)) := by
  obtain ⟨off, hA, _⟩ := hs (by rw [ne_eq, bv_nil_iff]; exact hl)
  rcases h.2 with ⟨_, hn⟩ | ⟨g, cap, cur, hg, _, hh, _⟩
  · exact absurd (List.eq_nil_of_length_eq_zero hn) hl
  · rw [hv] at hg
    injection hg with h1 _ _
    rw [hA] at h1
    injection h1 with h1
    injection h1 with h1 _ _
    subst h1
    exact ⟨cur, hh⟩
theorem Bs.modne {w w' : World} {b : Nat} {A : Option Addr} {l : List UInt8} (h : Bs w b A l) {S : Nat → Prop} (hm : Mod S w w') (hs : l ≠ [] → ¬ S b) : Bs w' b A l := by
  by_cases hl : l = []
  · subst hl; exact Sl.nil_ _ _ _
  · exact Sl.mod h hm (hs hl)
theorem Bs.lt {w : World} {b : Nat} {A : Option Addr} {l : List UInt8} (h : Bs w b A l) (hl : l ≠ []) : b < w.heap.size := Sl.lt h (by rw [ne_eq, bv_nil_iff]; exact hl)
/-- One of its bytes, written. -/
theorem Bs.set_ {w : World} {b off k : Nat} {l : List UInt8} {cur : Array Value} {t : TypeId} {q : UInt8} (hg : w.heap[b]? = some (.cells cur t (0, 0))) (h : Bs w b (some ⟨b, off, none⟩) l) (hk : k < l.length) :
    Bs (w.setCell ⟨b, off + k, none⟩ (.int .u8 (q.toNat : Int))) b (some ⟨b, off, none⟩) (l.set k q) ∧ (w.setCell ⟨b, off + k, none⟩ (.int .u8 (q.toNat : Int))).heap[b]? = some (.cells (cur.setIfInBounds (off + k) (.int .u8 (q.toNat : Int))) t (0, 0)) := by
  have h2 := heap_setCell_same w b (off + k) cur t (.int .u8 (q.toNat : Int)) hg
  refine ⟨fun _ => ⟨off, rfl, fun j u hu => ?_⟩, h2⟩
  rw [cell_of_row _ _ _ _ _ _ h2]
  have hj : j < l.length := by
    have := (List.getElem?_eq_some_iff.1 hu).1
    simpa using this
  obtain ⟨off', hA, hc⟩ := Bs.at_ h hj
  injection hA with hA
  injection hA with _ hA _
  subst hA
  have h3 := hc j hj
  rw [cell_of_row _ _ _ _ _ _ hg] at h3
  have hsz : off + j < cur.size := (Array.getElem?_eq_some_iff.1 h3).1
  have hsz2 : off + k < cur.size := by
    have h4 := hc k hk
    rw [cell_of_row _ _ _ _ _ _ hg] at h4
    exact (Array.getElem?_eq_some_iff.1 h4).1
  have hu2 : u = .int .u8 (((l.set k q)[j]'(by simpa using hj)).toNat : Int) := by
    have h5 : (bv (l.set k q))[j]? = some ((bv (l.set k q))[j]'(by simpa using hj)) := List.getElem?_eq_getElem _
    rw [h5, bv_get] at hu
    injection hu with hu
    exact hu.symm
  rw [hu2, Array.getElem?_setIfInBounds]
  by_cases e : j = k
  · subst e
    simp [hsz2]
  · rw [if_neg (by omega), h3, List.getElem_set_ne (by omega)]

section
variable (w : World)
theorem wpList_app {ops : Array Oper} {rest : List Oper} {o : Oper} {a : Act} {Q : Exit → Act → World → Prop} (hgd : o.guard = none) (s x : Operand)
    (ho : o.op = .call { callee := .builtin .append, args := #[s, x], argTypes := #[31, 31] })
    (B : Nat) (v : Value) (l : List UInt8) (hs : a.eval s = v) (hown : Row w B v l)
    (b : Nat) (A : Option Addr) (m c : Nat) (news : List UInt8) (hx : a.eval x = .slice A m c) (hr : Bs w b A news) (hm : news.length = m)
    (hlen : l.length + m ≤ 140737488355328) (hbase : B ≤ w.heap.size)
    (h : ∀ v' w', Row w' B v' (l ++ news) → Mod (fun i => v.ownBlock = some i) w w' → (v'.ownBlock = v.ownBlock ∨ v'.ownBlock = some w.heap.size) → wpList Tryd.prog ops Q rest (a.put o.dst v') w') : wpList Tryd.prog ops Q (o :: rest) a w := by
  obtain ⟨i0, hi0, hz0, hz1, hz2⟩ := info_parts byte_info
  refine wpList_append_sl (P := Tryd.prog) w hgd s x _ ho B 5 i0 _ 1 1 Tryd.underlying31 hi0 hz0 hz1 hz2 rfl (by omega) v l.length (bv l) hs hown b A m c (bv news) hx hr (by simp [hm]) (Sl.none_len hr (by simp [hm])) (bv_one _)
    (by simp only [maxLen]; omega) (by omega) hbase ?_
  intro v' w' h1 h2 h3
  exact h v' w' (by unfold Row; rw [List.length_append, hm, bv_append]; exact h1) (Mod.of_grown h2) h3

/-- append(out, x) of one byte, which lies in a new block of its own. -/
theorem wpList_app1 {u : Value} {ops : Array Oper} {rest : List Oper} {o : Oper} {a : Act} {Q : Exit → Act → World → Prop} (hgd : o.guard = none) (s x : Operand)
    (ho : o.op = .call { callee := .builtin .append, args := #[s, x], argTypes := #[31, 31] })
    (B : Nat) (v : Value) (l : List UInt8) (hs : a.eval s = v) (hown : Row w B v l)
    (q : UInt8) (hu : u = .int .u8 (q.toNat : Int)) (hx : a.eval x = .slice (some ⟨w.heap.size, 0, none⟩) 1 1)
    (hlen : l.length + 1 ≤ 140737488355328) (hbase : B ≤ w.heap.size)
    (h : ∀ v' w', Row w' B v' (l ++ [q]) → Mod (fun i => v.ownBlock = some i) w w' → (v'.ownBlock = v.ownBlock ∨ ∃ k, v'.ownBlock = some k ∧ w.heap.size ≤ k) → wpList Tryd.prog ops Q rest (a.put o.dst v') w') : wpList Tryd.prog ops Q (o :: rest) a (w.alloc (.cells #[u] 5)) := by
  subst hu
  refine wpList_app (w.alloc (.cells #[.int .u8 (q.toNat : Int)] 5)) hgd s x ho B v l hs (World.ownsRow.alloc hown _) w.heap.size _ 1 1 [q] hx (Sl.one_new w _ _) rfl hlen (by simp; omega) ?_
  intro v' w' h1 h2 h3
  refine h v' w' h1 ((Mod.alloc (fun _ => False) w _).trans h2 (fun i _ h => h.elim) (fun i _ h => h)) (h3.imp id fun h => ⟨_, h, by simp⟩)
end
end Go.Proofs.YtcgbamkfflcdfaaDoor
/- A variable that lies in a block of one cell: what it reads as, and how that stays. No condition. -/
namespace Go.Proofs.YtcgbamkfflcdfaaDoor
open Go.RowKit

/-- Block g is one cell, v. -/
def Box (w : World) (g : Nat) (v : Value) (t : TypeId) : Prop := w.heap[g]? = some (.cells #[v] t (0, 0))
namespace Box
variable {w w' : World} {g : Nat} {v : Value} {t : TypeId}
theorem new_ (w : World) (v : Value) (t : TypeId) : Box (w.alloc (.cells #[v] t)) w.heap.size v t := heap_alloc_new w _
theorem lt (h : Box w g v t) : g < w.heap.size := (Array.getElem?_eq_some_iff.1 h).1
theorem cell (h : Box w g v t) : w.cell? ⟨g, 0, none⟩ = some v := by
  have := cell_of_row w g 0 _ _ _ h
  simpa using this
theorem frozen (h : Box w g v t) : w.frozen? ⟨g, 0, none⟩ = false := frozen_of_row w g 0 _ _ h
theorem below {B : Nat} (h : Box w g v t) (hb : Below B w w') (hg : g < B) : Box w' g v t := (hb.block g hg).trans h
theorem ext (h : Box w g v t) (hb : Below w.heap.size w w') : Box w' g v t := (hb.block g h.lt).trans h
theorem alloc (h : Box w g v t) (o : Obj) : Box (w.alloc o) g v t := (Below.heap_alloc w o g h.lt).trans h
theorem set_ (h : Box w g v t) (u : Value) : Box (w.setCell ⟨g, 0, none⟩ u) g u t := heap_setCell_same w g 0 _ _ u h
theorem other (h : Box w g v t) {p : Addr} (hp : g ≠ p.block) (u : Value) : Box (w.setCell p u) g v t := (heap_setCell_other w p g u hp).trans h
theorem drew (h : Box w g v t) : Box w.drew g v t := h
theorem drewN (h : Box w g v t) (n : Nat) : Box (w.drewN n) g v t := h
theorem mod {S : Nat → Prop} (h : Box w g v t) (hm : Mod S w w') (hs : ¬ S g) : Box w' g v t := (hm.block g h.lt hs).trans h
end Box
end Go.Proofs.YtcgbamkfflcdfaaDoor
/- Pieces of a message, plainly, and how they lie in a slice of the call's own. No condition: plain lemmas. -/
namespace Go.Proofs.YtcgbamkfflcdfaaDoor
open Go.RowKit

/-- A piece, plainly. -/
structure Pc where
  first : Bool
  last : Bool
  data : List UInt8
/-- How many pieces so many bytes make. -/
def cnt (n : Nat) : Nat := if n = 0 then 1 else (n + 63) / 64
def pieceAt (l : List UInt8) (i : Nat) : Pc := ⟨decide (i = 0), decide (i + 1 = cnt l.length), (l.drop (64 * i)).take 64⟩
def splitP (l : List UInt8) : List Pc := (List.range (cnt l.length)).map (pieceAt l)
theorem splitP_length (l : List UInt8) : (splitP l).length = cnt l.length := by simp [splitP]
theorem splitP_get (l : List UInt8) (i : Nat) (h : i < (splitP l).length) : (splitP l)[i] = pieceAt l i := by simp [splitP]
theorem cnt_pos (n : Nat) : 1 ≤ cnt n := by unfold cnt; split <;> omega
theorem cnt_le (n : Nat) (h : n ≤ 1024) : cnt n ≤ 16 := by unfold cnt; split <;> omega

/-- A piece as it lies in memory. -/
structure PV where
  p : Pc
  A : Option Addr
  c : Nat
  b : Nat
abbrev PV.cells (x : PV) : List Value := [.bool x.p.first, .bool x.p.last, .slice x.A x.p.data.length x.c]
def PV.In (w : World) (x : PV) : Prop := Bs w x.b x.A x.p.data ∧ x.p.data.length ≤ maxLen
theorem PV.In.ext {w w' : World} {x : PV} (h : PV.In w x) (hm : Below w.heap.size w w') : PV.In w' x := ⟨Sl.ext h.1 hm, h.2⟩
def pz : PV := ⟨⟨false, false, []⟩, none, 0, 0⟩
def pvs (xs : List PV) : List Value := xs.flatMap PV.cells
theorem pvs_cons (x : PV) (xs : List PV) : pvs (x :: xs) = x.cells ++ pvs xs := rfl
theorem pvs_append (xs ys : List PV) : pvs (xs ++ ys) = pvs xs ++ pvs ys := by simp [pvs]
theorem pvs_length (xs : List PV) : (pvs xs).length = xs.length * 3 := by
  induction xs with
  | nil => rfl
  | cons x l ih => rw [pvs_cons, List.length_append, ih, List.length_cons]; simp; omega
theorem pvs_at : ∀ (xs : List PV) (k : Nat) (hk : k < xs.length) (j : Nat), j < 3 → (pvs xs)[k * 3 + j]? = xs[k].cells[j]?
  | x :: l, 0, _, j, hj => by
    rw [pvs_cons, List.getElem?_append_left (by simp; omega)]
    simp
  | x :: l, k + 1, hk, j, hj => by
    rw [pvs_cons, List.getElem?_append_right (by simp; omega), show (k + 1) * 3 + j - x.cells.length = k * 3 + j by simp; omega, pvs_at l k (by simpa using hk) j hj]
    simp
theorem pvs_set : ∀ (xs : List PV) (k : Nat) (y : PV), k < xs.length → (((pvs xs).set (k * 3) (.bool y.p.first)).set (k * 3 + 1) (.bool y.p.last)).set (k * 3 + 2) (.slice y.A y.p.data.length y.c) = pvs (xs.set k y)
  | x :: l, 0, y, _ => rfl
  | x :: l, k + 1, y, hk => by
    have := pvs_set l k y (by simpa using hk)
    rw [pvs_cons, show (k + 1) * 3 + 2 = k * 3 + 2 + 1 + 1 + 1 by omega, show (k + 1) * 3 + 1 = k * 3 + 1 + 1 + 1 + 1 by omega, show (k + 1) * 3 = k * 3 + 1 + 1 + 1 by omega]
    rw [show x.cells ++ pvs l = .bool x.p.first :: .bool x.p.last :: .slice x.A x.p.data.length x.c :: pvs l from rfl]
    simp only [List.set_cons_succ]
    rw [this]
    rfl
theorem pvs_pz (n : Nat) : (madeCells (Value.agg #[.bool false, .bool false, .slice none 0 0]).cells (n * 3)).toList = pvs (List.replicate n pz) := by
  have h1 : (pvs (List.replicate n pz)).length = n * 3 := by rw [pvs_length]; simp
  apply List.ext_getElem (by rw [h1]; simp [madeCells])
  intro j h2 h3
  have hj : j < n * 3 := by rw [← h1]; exact h3
  have := pvs_at (List.replicate n pz) (j / 3) (by simp; omega) (j % 3) (by omega)
  rw [show j / 3 * 3 + j % 3 = j by omega, List.getElem?_eq_getElem h3] at this
  simp only [List.getElem_replicate] at this
  have e : j % 3 = 0 ∨ j % 3 = 1 ∨ j % 3 = 2 := by omega
  have hq : ((madeCells (Value.agg #[.bool false, .bool false, .slice none 0 0]).cells (n * 3)).toList)[j]? = some (((#[Value.bool false, .bool false, .slice none 0 0] : Array Value))[j % 3]!) := by
    simp [madeCells, Value.cells, hj]
  rw [List.getElem?_eq_getElem h2] at hq
  injection hq with hq
  rw [hq]
  rcases e with e | e | e <;> (rw [e] at this; replace this := Option.some.inj this; rw [this, e]; rfl)

/-- Pieces in a slice of the call's own. -/
abbrev RowP (e : TypeId) (w : World) (B : Nat) (v : Value) (xs : List PV) : Prop := w.ownsRow B e 3 v xs.length (pvs xs)
/-- Pieces that lie in a slice. -/
def PcsIn (w : World) (b : Nat) (A : Option Addr) (xs : List PV) : Prop := Sl w b A (pvs xs) ∧ ∀ x ∈ xs, PV.In w x
theorem PcsIn.ext {w w' : World} {b : Nat} {A : Option Addr} {xs : List PV} (h : PcsIn w b A xs) (hm : Below w.heap.size w w') : PcsIn w' b A xs := ⟨Sl.ext h.1 hm, fun x hx => (h.2 x hx).ext hm⟩
theorem sl_pv {w : World} {b : Nat} {A : Option Addr} {xs : List PV} (h : Sl w b A (pvs xs)) {k : Nat} (hk : k < xs.length) :
    ∃ off, A = some ⟨b, off, none⟩ ∧ w.cell? ⟨b, off + k * 3, none⟩ = some (.bool xs[k].p.first) ∧ w.cell? ⟨b, off + k * 3 + 1, none⟩ = some (.bool xs[k].p.last) ∧ w.cell? ⟨b, off + k * 3 + 2, none⟩ = some (.slice xs[k].A xs[k].p.data.length xs[k].c) := by
  have hne : pvs xs ≠ [] := by
    intro h0
    have := pvs_length xs
    rw [h0] at this
    simp at this
    omega
  obtain ⟨off, e, hc⟩ := h hne
  exact ⟨off, e, hc (k * 3 + 0) _ (pvs_at xs k hk 0 (by omega)), hc (k * 3 + 1) _ (pvs_at xs k hk 1 (by omega)), hc (k * 3 + 2) _ (pvs_at xs k hk 2 (by omega))⟩
theorem ownsP_mod {w w' : World} {B n sz : Nat} {e : TypeId} {v : Value} {xs : List Value} (h : w.ownsRow B e sz v n xs) {S : Nat → Prop} (hm : Mod S w w') (hs : ∀ k, v.ownBlock = some k → ¬ S k) : w'.ownsRow B e sz v n xs := by
  refine ⟨h.1, ?_⟩
  rcases h.2 with h2 | ⟨g, cap, cur, rfl, hg, hh, r⟩
  · exact .inl h2
  · exact .inr ⟨g, cap, cur, rfl, hg, by rw [hm.block g (Array.getElem?_eq_some_iff.1 hh).1 (hs g rfl)]; exact hh, r⟩
theorem ownsP_ext {w w' : World} {B n sz : Nat} {e : TypeId} {v : Value} {xs : List Value} (h : w.ownsRow B e sz v n xs) (hm : Below w.heap.size w w') : w'.ownsRow B e sz v n xs :=
  ownsP_mod h (Mod.of_below hm) fun k hk => by have := (World.ownsRow.lt h k hk).2; omega
theorem ownsP_low {w : World} {B B' n sz : Nat} {e : TypeId} {v : Value} {xs : List Value} (h : w.ownsRow B e sz v n xs) (hB : B' ≤ B) : w.ownsRow B' e sz v n xs := by
  refine ⟨h.1, ?_⟩
  rcases h.2 with h2 | ⟨g, cap, cur, rfl, hg, r⟩
  · exact .inl h2
  · exact .inr ⟨g, cap, cur, rfl, by omega, r⟩
theorem ownsP_sl {w : World} {B n sz : Nat} {e : TypeId} {v : Value} {xs : List Value} (h : w.ownsRow B e sz v n xs) : ∃ A c b, v = .slice A n c ∧ n ≤ c ∧ c ≤ maxLen ∧ (A = none → n = 0) ∧ B ≤ b ∧ Sl w b A xs ∧ (∀ k, v.ownBlock = some k → k = b) := by
  obtain ⟨hl, h2⟩ := h
  rcases h2 with ⟨rfl, hn⟩ | ⟨g, cap, cur, rfl, hb, hh, hnc, hcm, hcs, hct⟩
  · have hx : xs = [] := List.eq_nil_of_length_eq_zero (by simpa [hn] using hl)
    subst hx hn
    exact ⟨none, 0, B, rfl, Nat.le_refl _, by simp [maxLen], fun _ => rfl, Nat.le_refl _, Sl.nil_ _ _ _, by simp [Value.ownBlock]⟩
  · refine ⟨_, cap, g, rfl, hnc, hcm, by simp, hb, fun _ => ⟨0, rfl, fun j u hu => ?_⟩, by simp [Value.ownBlock]⟩
    have h : w.ownsRow B e sz (.slice (some ⟨g, 0, none⟩) n cap) n xs := ⟨hl, .inr ⟨g, cap, cur, rfl, hb, hh, hnc, hcm, hcs, hct⟩⟩
    have := h.cells (g := g) rfl j u hu
    simpa [Addr.add_lit] using this
/-- A piece of it, written. -/
theorem RowP.set_ {e : TypeId} {w : World} {B : Nat} {v : Value} {xs : List PV} (h : RowP e w B v xs) {k : Nat} (hk : k < xs.length) :
    ∃ g cap, v = .slice (some ⟨g, 0, none⟩) xs.length cap ∧ B ≤ g ∧ g < w.heap.size ∧ xs.length ≤ cap ∧ (∃ u, w.cell? ⟨g, k * 3, none⟩ = some u) ∧ (∃ u, w.cell? ⟨g, k * 3 + 1, none⟩ = some u) ∧ (∃ u, w.cell? ⟨g, k * 3 + 2, none⟩ = some u) ∧ (∀ j, w.frozen? ⟨g, j, none⟩ = false) ∧
      (∀ (y : PV) w', w'.heap[g]? = (((w.setCell ⟨g, k * 3, none⟩ (.bool y.p.first)).setCell ⟨g, k * 3 + 1, none⟩ (.bool y.p.last)).setCell ⟨g, k * 3 + 2, none⟩ (.slice y.A y.p.data.length y.c)).heap[g]? → RowP e w' B v (xs.set k y)) := by
  rcases h.2 with ⟨_, hn⟩ | ⟨g, cap, cur, hv, hg, hh, hnc, hcm, hcs, hct⟩
  · omega
  · have hcell : ∀ j u, (pvs xs)[j]? = some u → w.cell? ⟨g, j, none⟩ = some u := fun j u hu => by
      rw [cell_of_row w g j _ _ _ hh]
      rw [← hct, List.getElem?_take] at hu
      split at hu
      · simpa using hu
      · cases hu
    refine ⟨g, cap, hv, hg, (Array.getElem?_eq_some_iff.1 hh).1, hnc, ⟨_, hcell _ _ (pvs_at xs k hk 0 (by omega))⟩, ⟨_, hcell _ _ (pvs_at xs k hk 1 (by omega))⟩, ⟨_, hcell _ _ (pvs_at xs k hk 2 (by omega))⟩, fun j => frozen_of_row w g j _ _ hh, fun y w' hw => ?_⟩
    rw [heap_setCell_same _ g _ _ _ _ (heap_setCell_same _ g _ _ _ _ (heap_setCell_same w g _ cur _ _ hh))] at hw
    refine ⟨by rw [pvs_length], .inr ⟨g, cap, _, by rw [hv, List.length_set], hg, hw, by simp; omega, hcm, by simpa using hcs, ?_⟩⟩
    rw [Array.toList_setIfInBounds, Array.toList_setIfInBounds, Array.toList_setIfInBounds, List.length_set, List.take_set, List.take_set, List.take_set, hct, pvs_set xs k y hk]
end Go.Proofs.YtcgbamkfflcdfaaDoor
/- Clip's Count and Split: how many pieces, and the pieces, in new memory. Conditions: the lengths fit. -/
namespace Go.Proofs.YtcgbamkfflcdfaaDoor
open Go.RowKit

set_option maxHeartbeats 400000 in
theorem Count_calls (n : Nat) (w : World) (h : n ≤ 1024) :
    Calls Tryd.prog 65 #[.int .i64 (n : Int)] w fun e w' => e = .returned (.int .i64 ((cnt n : Nat) : Int)) ∧ w' = w := by
  have e1 := IntWalk.i64_in ((n : Int) + 64) (by omega)
  have e2 := IntWalk.i64_in ((n : Int) + 64 - 1) (by omega)
  have e3 : ((n : Int) + 64 - 1).tdiv 64 = (((n + 63) / 64 : Nat) : Int) := by rw [Int.tdiv_eq_ediv_of_nonneg (by omega)]; omega
  have e4 := IntWalk.i64_in ((((n + 63) / 64 : Nat) : Int)) (by omega)
  have e5 : (if ((1 : Int) < (((n + 63) / 64 : Nat) : Int)) then (((n + 63) / 64 : Nat) : Int) else 1) = ((cnt n : Nat) : Int) := by unfold cnt; split <;> split <;> omega
  obtain ⟨c, hc⟩ : ∃ c, c = cnt n := ⟨_, rfl⟩
  obtain ⟨d, hd⟩ : ∃ d, d = (n + 63) / 64 := ⟨_, rfl⟩
  rw [← hc] at e5 ⊢
  rw [← hd] at e3 e4 e5
  clear hc hd
  go_enter Tryd.func65, Tryd.ntmps65
  go_wp2_with fail
  go_ret
  exact ⟨rfl, rfl⟩
set_option maxHeartbeats 400000 in
theorem Count_out (z : Int) (w : World) (h : z < 0 ∨ 1024 < z) :
    Calls Tryd.prog 65 #[.int .i64 z] w fun e w' => e = .returned (.int .i64 0) ∧ w' = w := by
  have e1 : (decide (z < 0) || decide (1024 < z)) = true := by simpa using h
  by_cases h0 : z < 0
  · go_enter Tryd.func65, Tryd.ntmps65
    go_wp2_with fail
    go_ret
    exact ⟨rfl, rfl⟩
  · have h1 : 1024 < z := by omega
    go_enter Tryd.func65, Tryd.ntmps65
    go_wp2_with fail
    go_ret
    exact ⟨rfl, rfl⟩

theorem piece_info : (Tryd.prog.info? 96).map (fun i => (i.zero, i.size, i.bytes)) = some (some (.agg #[.bool false, .bool false, .slice none 0 0]), 3, 32) := by kernel_rfl
theorem set_next (xs : List PV) (k m : Nat) (y : PV) (hx : xs.length = k) (hk : k < m) : (xs ++ List.replicate (m - k) pz).set k y = (xs ++ [y]) ++ List.replicate (m - (k + 1)) pz := by
  obtain ⟨r, hr⟩ : ∃ r, m - k = r + 1 := ⟨m - k - 1, by omega⟩
  rw [List.set_append_right _ _ (by omega), hx, Nat.sub_self, hr, List.replicate_succ, List.set_cons_zero, show m - (k + 1) = r by omega]
  simp
theorem drop_next (l : List UInt8) (k r s : Nat) (hr : r = (l.drop (64 * k)).length) (hs : s = min 64 r) : (l.drop (64 * k)).drop s = l.drop (64 * (k + 1)) := by
  simp only [List.length_drop] at hr
  rw [List.drop_drop]
  by_cases h : 64 ≤ r
  · rw [show 64 * k + s = 64 * (k + 1) by omega]
  · rw [List.drop_eq_nil_of_le (by omega), List.drop_eq_nil_of_le (by omega)]
theorem splitP_next (l : List UInt8) (k : Nat) (hk : k < cnt l.length) : (splitP l).take (k + 1) = (splitP l).take k ++ [pieceAt l k] := by
  rw [List.take_succ_eq_append_getElem (by rw [splitP_length]; exact hk), splitP_get]
/-- A piece whose data lies in a block of bytes. -/
structure PV.InT (w : World) (x : PV) : Prop where
  in_ : PV.In w x
  typ : x.p.data ≠ [] → ∃ cur fr, w.heap[x.b]? = some (.cells cur 5 fr)
theorem PV.InT.mod {w w' : World} {x : PV} (h : PV.InT w x) {S : Nat → Prop} (hm : Mod S w w') (hs : x.p.data ≠ [] → ¬ S x.b) : PV.InT w' x := by
  refine ⟨⟨Bs.modne h.in_.1 hm hs, h.in_.2⟩, fun h0 => ?_⟩
  obtain ⟨cur, fr, hc⟩ := h.typ h0
  exact ⟨cur, fr, (hm.block _ (Array.getElem?_eq_some_iff.1 hc).1 (hs h0)).trans hc⟩
theorem at_mkS {P : Program} {ops : Array Oper} {rest : List Oper} {a : Act} {w : World} {Q : Exit → Act → World → Prop} {d : Option Tmp} {ty : TypeId} {pos : String} {af : Array Edge} {g : Option (Nat × Bool)} (T : TypeId) (x y : Tmp) (h : wpList P ops Q (Oper.mk d (.makeSlice T (.tmp x) (.tmp y)) ty pos af g :: rest) a w) : wpList P ops Q (Oper.mk d (.makeSlice T (.tmp x) (.tmp y)) ty pos af g :: rest) a w := h
theorem at_caS {P : Program} {ops : Array Oper} {rest : List Oper} {a : Act} {w : World} {Q : Exit → Act → World → Prop} {ty : TypeId} {pos : String} {af : Array Edge} {g : Option (Nat × Bool)} (k : Tmp) (c : Call) (h : wpList P ops Q (Oper.mk (some k) (.call c) ty pos af g :: rest) a w) : wpList P ops Q (Oper.mk (some k) (.call c) ty pos af g :: rest) a w := h

set_option maxHeartbeats 1000000 in
set_option maxRecDepth 20000 in
theorem Split_calls (A : Option Addr) (l : List UInt8) (n c b : Nat) (w : World) (hs : Bs w b A l) (hn : l.length = n) (h1 : n ≤ 1024) (hc : n ≤ c) (hcm : c ≤ maxLen) :
    Calls Tryd.prog 32 #[.slice A n c] w fun e w' => ∃ v xs, e = .returned (.tuple #[v, .int .i64 0]) ∧ xs.map PV.p = splitP l ∧ RowP 96 w' w.heap.size v xs ∧ (∀ x ∈ xs, PV.InT w' x ∧ w.heap.size ≤ x.b) ∧ Below w.heap.size w w' := by
  obtain ⟨m, hm⟩ : ∃ m, m = cnt l.length := ⟨_, rfl⟩
  have hm1 : 1 ≤ m := by rw [hm]; exact cnt_pos _
  have hm2 : m ≤ 16 := by rw [hm]; exact cnt_le _ (by omega)
  have hC := Count_calls n
  rw [← hn, ← hm, hn] at hC
  have hne : ((m : Int) == 0) = false := by simp; omega
  unfold maxLen at hcm
  have HM := Lib.hid hm
  have HN := Lib.hid hn
  clear hm hn
  go_enter Tryd.func32, Tryd.ntmps32
  go_wp2_with fail
  refine (hC w h1).mono ?_
  rintro e w1 ⟨rfl, rfl⟩
  obtain ⟨i0, hi0, hz0, hz1, hz2⟩ := info_parts piece_info
  go_wp2_with (refine at_mkS 82 13 13 ?_; go_loud (refine wpList_make_full _ rfl (.tmp 13) (.tmp 13) 82 rfl w1.heap.size 96 i0 _ 3 Tryd.underlying82 hi0 hz0 hz1 _ _ (m : Int) (m : Int) m rfl rfl rfl rfl (by rw [hz2]; omega) (by simp only [maxLen]; omega) (Nat.le_refl _) ?_); intro w2 hown hgr)
  obtain ⟨g, hg⟩ : ∃ g, g = w1.heap.size := ⟨_, rfl⟩
  rw [pvs_pz] at hown
  have hb2 : Below w1.heap.size w1 w2 := (Mod.of_grown hgr).below (Nat.le_refl _) (fun i _ h => by cases h)
  have hg2 : w1.heap.size < w2.heap.size := (World.ownsRow.lt hown w1.heap.size rfl).2
  have hown0 : RowP 96 w2 w1.heap.size (.slice (some ⟨w1.heap.size, 0, none⟩) m m) ([] ++ List.replicate (m - 0) pz) := by unfold RowP; simpa using hown
  have hs2 := Sl.ext hs hb2
  rw [← hg] at hown0 hg2 ⊢
  have HG := Lib.hid hg
  have hbl : l ≠ [] → b < g := fun hl => by have := Bs.lt hs hl; omega
  have HBL := Lib.hid hbl
  clear hown hgr hs hg hC hi0 hz0 hz1 hz2 hbl
  go_loopw [0, 17] (fun v i wr => ∃ (k : Nat) (xs : List PV) (A' : Option Addr) (r c' : Nat), k ≤ m ∧ i = .int .i64 k ∧ v = .slice A' r c' ∧ Hid (r = (l.drop (64 * k)).length) ∧ r ≤ c' ∧ c' ≤ 9223372036854775807 ∧ Bs wr b A' (l.drop (64 * k)) ∧ Hid (xs.length = k) ∧ Hid (xs.map PV.p = (splitP l).take k) ∧ Hid (RowP 96 wr g (.slice (some ⟨g, 0, none⟩) m m) (xs ++ List.replicate (m - k) pz)) ∧ Hid (∀ x ∈ xs, PV.InT wr x ∧ g + 1 ≤ x.b) ∧ Below w1.heap.size w1 wr) (fun _ i _ => m - (intOf i).toNat)
  case atStart => exact ⟨0, [], A, n, c, Nat.zero_le _, rfl, rfl, Lib.hid (by have := HN.out; simp; omega), hc, hcm, by simpa using hs2, Lib.hid rfl, Lib.hid rfl, Lib.hid hown0, Lib.hid (by simp), hb2⟩
  case round =>
    obtain ⟨k, xs, A', r, c', hk, rfl, rfl, hr, hrc, hcc, hbs, hxl, hxp, hown, hin, hb⟩ := hrel
    by_cases hlt : k < m
    · obtain ⟨d, hd⟩ : ∃ d, d = (l.drop (64 * k)).take 64 := ⟨_, rfl⟩
      obtain ⟨s, hss⟩ : ∃ s, s = min 64 r := ⟨_, rfl⟩
      have hdl : d.length = s := by rw [hd, hss, hr.out]; simp only [List.length_take]
      obtain ⟨f, hf⟩ : ∃ f, f = decide (k = 0) := ⟨_, rfl⟩
      obtain ⟨la, hla⟩ : ∃ la, la = decide (k + 1 = m) := ⟨_, rfl⟩
      have e26 : ((k : Int) == 0) = f := by rw [hf, Bool.eq_iff_iff]; simp
      have e29 := IntWalk.i64_in ((m : Int) - 1) (by omega)
      have e30 : ((k : Int) == (m : Int) - 1) = la := by rw [hla, Bool.eq_iff_iff]; simp; omega
      have hsr : s ≤ r := by omega
      have HD := Lib.hid hd
      have HS := Lib.hid hss
      have HF := Lib.hid hf
      have HLA := Lib.hid hla
      have hsd : Bs wr b A' d := by rw [hd]; unfold Bs; rw [← bv_take]; exact hbs.take 64
      have HDL := Lib.hid hdl
      clear hd hss hf hla hdl
      have emn : (if (r : Int) < 64 then (r : Int) else 64) = (s : Int) := by have := HS.out; split <;> omega
      have hs64 : s ≤ 64 := by have := HS.out; omega
      have hgw : g + 1 ≤ wr.heap.size := by have := (World.ownsRow.lt hown.out g rfl).2; omega
      go_wp2_with (refine at_caS 34 _ ?_; go_loud (refine wpList_app wr rfl (.const (.slice none 0 0)) (.tmp 33) rfl (g + 1) _ [] rfl (Row.nil_ wr (g + 1)) b A' s c' d rfl hsd HDL.out (by simp; omega) hgw ?_); intro v' w3 hrow hmod _; (have hown3 := ownsP_mod hown.out hmod (fun k hk h => by cases h)); (obtain ⟨g', cap, hv, -, hgl, -, ⟨u0, c0⟩, ⟨u1, c1⟩, ⟨u2, c2⟩, hfr, hset⟩ := RowP.set_ hown3 (k := k) (by have := hxl.out; simp; omega)); (injection hv with hv hz1 hz2); (injection hv with hv); (injection hv with hv hz3 hz4); subst hv; (clear hz1 hz2 hz3 hz4); (have f0 := hfr (k * 3)); (have f1 := hfr (k * 3 + 1)); (have f2 := hfr (k * 3 + 2)); (obtain ⟨A3, c3, b3, rfl, -, -, -, hb3, hs3, -⟩ := hrow.sl); (rw [List.nil_append] at hs3 hrow ⊢); (have HTY := Lib.hid (fun h0 => Row.blk_sl hrow rfl hs3 h0)); (rw [HDL.out]); (have HSET := Lib.hid hset); (have HOWN := Lib.hid hown3); clear hset hown3 hfr hrow)
      go_roundw
      case rel =>
        have hbw := hb.size
        obtain ⟨W, hW⟩ : ∃ W, W = ((w3.setCell ⟨g, k * 3, none⟩ (.bool f)).setCell ⟨g, k * 3 + 1, none⟩ (.bool la)).setCell ⟨g, k * 3 + 2, none⟩ (.slice A3 s c3) := ⟨_, rfl⟩
        rw [← hW]
        have hmW : Mod (fun i => i = g) w3 W := by
          rw [hW]
          exact ((Mod.setCell w3 ⟨g, k * 3, none⟩ _).trans (Mod.setCell _ ⟨g, k * 3 + 1, none⟩ _) (fun i _ h => h) (fun i _ h => h)).trans (Mod.setCell _ ⟨g, k * 3 + 2, none⟩ _) (fun i _ h => h) (fun i _ h => h)
        have hm3 : Mod (fun i => i = g) wr W := hmod.trans hmW (fun i _ h => by cases h) (fun i _ h => h)
        have hrow := HSET.out ⟨⟨f, la, d⟩, A3, c3, b3⟩ W (by rw [hW, HDL.out])
        rw [set_next xs k m _ hxl.out hlt] at hrow
        have hnx := drop_next l k r s hr.out HS.out
        have hrl : (l.drop (64 * k)).length = r := hr.out.symm
        have hbs2 := Sl.drop hbs (k := s) (cap := c') (by rw [bv_length, hrl]; exact hrc)
        rw [bv_drop, hnx] at hbs2
        have hy : (⟨f, la, d⟩ : Pc) = pieceAt l k := by
          rw [HF.out, HLA.out, HD.out, HM.out]; rfl
        refine ⟨k + 1, xs ++ [⟨⟨f, la, d⟩, A3, c3, b3⟩], _, _, _, by omega, by go_num, rfl, Lib.hid ?_, by omega, by omega, ?_, Lib.hid (by have := hxl.out; simp; omega), Lib.hid ?_, Lib.hid hrow, Lib.hid ?_, hb.trans (hm3.below hbw (fun i hi h => by have := HG.out; omega))⟩
        · rw [← hnx, List.length_drop, hrl]
        · exact Bs.modne hbs2 hm3 (fun hl h => by have := HBL.out (by rintro rfl; simp at hl); omega)
        · rw [splitP_next l k (by rw [← HM.out]; exact hlt), List.map_append, hxp.out, List.map_cons, List.map_nil, hy]
        · intro x hx
          rw [List.mem_append] at hx
          rcases hx with hx | hx
          · obtain ⟨h1, h3⟩ := hin.out x hx
            exact ⟨h1.mod hm3 (fun _ h => by omega), h3⟩
          · simp only [List.mem_singleton] at hx
            subst hx
            have hT3 : PV.InT w3 ⟨⟨f, la, d⟩, A3, c3, b3⟩ := ⟨⟨hs3, by have := HDL.out; simp only [maxLen]; omega⟩, fun h0 => by obtain ⟨cur, hc⟩ := HTY.out h0; exact ⟨cur, _, hc⟩⟩
            refine ⟨hT3.mod hmW (fun _ h => ?_), hb3⟩
            have h2 : b3 = g := h
            omega
      case measure => simp [intOf]; omega
    · go_wp2_with fail
      go_ret2
      have hkm : k = m := by omega
      subst hkm
      have hown2 := hown.out
      simp only [Nat.sub_self, List.replicate_zero, List.append_nil] at hown2
      have hg1 := HG.out
      have hw := hown2.1
      refine ⟨_, xs, rfl, ?_, ?_, fun x hx => ⟨(hin.out x hx).1, by have := (hin.out x hx).2; omega⟩, hb⟩
      · rw [hxp.out, List.take_of_length_le (by rw [splitP_length, ← HM.out]; exact Nat.le_refl _)]
      · rw [← hg1]; have e : xs.length = k := hxl.out; unfold RowP; rw [e]; unfold RowP at hown2; rw [e] at hown2; exact hown2

set_option maxHeartbeats 400000 in
theorem Split_long (A : Option Addr) (n c : Nat) (w : World) (h1 : 1024 < n) (hm : n ≤ maxLen) :
    Calls Tryd.prog 32 #[.slice A n c] w fun e w' => e = .returned (.tuple #[.slice none 0 0, .int .i64 4]) ∧ w' = w := by
  unfold maxLen at hm
  have hC := fun W => Count_out (n : Int) W (Or.inr (by omega))
  go_enter Tryd.func32, Tryd.ntmps32
  go_wp2_with fail
  refine (hC w).mono ?_
  rintro e w1 ⟨rfl, rfl⟩
  go_wp2_with fail
  go_ret2
  exact ⟨rfl, rfl⟩
end Go.Proofs.YtcgbamkfflcdfaaDoor
/- A region that draws its order, with operations (K) that come behind all others: what is asked of the world is asked up to these alone, so that a cell that they write may be read ahead of them in one step. Conditions: those said. -/
namespace Go.Proofs.YtcgbamkfflcdfaaDoor
open Go.RowKit

section
variable {P : Program} {ops : Array Oper} {Q : Exit → Act → World → Prop} {md : Region.Mode} {S : World → Prop} {K : Nat → Bool}

/-- Whatever comes up, all the way; S behind each that is none of K. -/
def wpAnyE (P : Program) (md : Region.Mode) (ops : Array Oper) (Q : Exit → Act → World → Prop) (S : World → Prop) (K : Nat → Bool) : Nat → Array Bool → Act → World → Prop
  | 0, done, a, w => Region.ready md ops done = [] ∧ Q .normal a w
  | n + 1, done, a, w =>
    (Region.ready md ops done = [] → Q .normal a w) ∧
    ∀ j ∈ Region.ready md ops done, wpOp P ops Q j (fun a' w' => (K j = false → S w') ∧ wpAnyE P md ops Q S K n (done.setIfInBounds j true) a' w') a w

theorem wpAny_of_E : ∀ (n : Nat) (done : Array Bool) (a : Act) (w : World), wpAnyE P md ops Q S K n done a w → wpAny P md ops Q n done a w
  | 0, _, _, _, h => h
  | n + 1, _, _, _, h => ⟨h.1, fun j hj => wpOp_mono (fun a' w' h' => wpAny_of_E n _ a' w' h'.2) (h.2 j hj)⟩

/-- Does j wait for i, be it by way of others? -/
def backTo (md : Region.Mode) (ops : Array Oper) (i : Nat) : Nat → Nat → Bool
  | 0, _ => false
  | n + 1, j => match ops[j]? with
    | some o => o.after.any fun e => Region.binds md e && (e.on == i || backTo md ops i n e.on)
    | none => false
/-- Do all of K wait for i? -/
def waitK (md : Region.Mode) (ops : Array Oper) (K : Nat → Bool) (i : Nat) : Bool := (List.range ops.size).all fun j => !K j || backTo md ops i 20 j
/-- What is done has what it waits for behind it. -/
def closedB (md : Region.Mode) (ops : Array Oper) (done : Array Bool) : Bool :=
  (List.range ops.size).all fun j => !done.getD j false || match ops[j]? with | some o => o.after.all fun e => !Region.binds md e || done.getD e.on false | none => true
def Closed (md : Region.Mode) (ops : Array Oper) (done : Array Bool) : Prop := ∀ j o, done.getD j false = true → ops[j]? = some o → ∀ e ∈ o.after, Region.binds md e = true → done.getD e.on false = true
theorem closed_of {done : Array Bool} (h : closedB md ops done = true) : Closed md ops done := fun j o hd ho e he hb => by
  simp only [closedB, List.all_eq_true, List.mem_range] at h
  have h1 := h j (Array.getElem?_eq_some_iff.1 ho).1
  simp only [hd, ho, Bool.not_true, Bool.false_or] at h1
  have h2 := Array.all_eq_true_iff_forall_mem.1 h1 e he
  simpa [hb] using h2
theorem Closed.set {done : Array Bool} (h : Closed md ops done) {j : Nat} (hj : j ∈ Region.ready md ops done) : Closed md ops (done.setIfInBounds j true) := fun k o hd ho e he hb => by
  by_cases hkj : j = k
  · subst hkj
    obtain ⟨_, o', ho', hall⟩ := mem_ready.1 hj
    rw [ho] at ho'
    injection ho' with ho'
    subst ho'
    exact getD_set_true (hall e he hb)
  · rw [getD_set_ne false hkj] at hd
    exact getD_set_true (h k o hd ho e he hb)
theorem back_done {done : Array Bool} (hc : Closed md ops done) {i : Nat} : ∀ (n j : Nat) (o : Oper), ops[j]? = some o → (∀ e ∈ o.after, Region.binds md e = true → done.getD e.on false = true) → backTo md ops i n j = true → done.getD i false = true
  | 0, _, _, _, _, h => by cases h
  | n + 1, j, o, ho, hall, h => by
    simp only [backTo, ho] at h
    obtain ⟨e, he, hb⟩ := Array.any_eq_true'.1 h
    simp only [Bool.and_eq_true, Bool.or_eq_true, beq_iff_eq] at hb
    obtain ⟨hb, h1 | h1⟩ := hb
    · rw [← h1]
      exact hall e he hb
    · cases n with
      | zero => cases h1
      | succ n =>
        cases ho2 : ops[e.on]? with
        | none => simp [backTo, ho2] at h1
        | some o2 => exact back_done hc (n + 1) e.on o2 ho2 (hc e.on o2 (hall e he hb) ho2) h1
theorem waitK_spec {i : Nat} (h : waitK md ops K i = true) : ∀ j, j < ops.size → K j = true → backTo md ops i 20 j = true := fun j hj hk => by
  simp only [waitK, List.all_eq_true, List.mem_range] at h
  simpa [hk] using h j hj

theorem wpAnyE_first {i : Nat} {oi : Oper} {v : Value} (hi : ops[i]? = some oi) (hsel : ∀ (j : Nat) (o : Oper) cs b, ops[j]? = some o → o.op ≠ .select cs b)
    (hQ : ∀ c a w, Q (.panic c) (a.put oi.dst v) w → Q (.panic c) a w) (hw : ∀ j, j < ops.size → K j = true → backTo md ops i 20 j = true) (n : Nat) :
    ∀ (done : Array Bool) (a : Act) (w : World), Closed md ops done →
      (∀ j oj, ops[j]? = some oj → j ≠ i → done.getD j true = false → (∀ e ∈ oj.after, Region.binds md e = true → e.on ≠ i) → oi.apart ops oj = true) →
      i ∈ Region.ready md ops done → YieldsIf P ops S oi v a → S w →
      wpAnyE P md ops Q S K n (done.setIfInBounds i true) (a.put oi.dst v) w → wpAnyE P md ops Q S K (n + 1) done a w := by
  induction n with
  | zero =>
    intro done a w _ _ hr hy hS H
    refine ⟨fun h => absurd hr (by rw [h]; simp), fun j hj => ?_⟩
    by_cases hji : j = i
    · subst hji
      exact hy.wpOp hi hS ⟨fun _ => hS, H⟩
    · have := ready_mono hj hji
      rw [H.1] at this
      cases this
  | succ n ih =>
    intro done a w hcl hfree hr hy hS H
    refine ⟨fun h => absurd hr (by rw [h]; simp), fun j hj => ?_⟩
    by_cases hji : j = i
    · subst hji
      exact hy.wpOp hi hS ⟨fun _ => hS, H⟩
    · obtain ⟨hun, oj, hoj, hall⟩ := mem_ready.1 hj
      have hnot : ∀ e ∈ oj.after, Region.binds md e = true → e.on ≠ i := fun e he hb heq => by
        have h1 := hall e he hb
        have h0 := (mem_ready.1 hr).1
        rw [heq] at h1
        rcases Nat.lt_or_ge i done.size with h' | h'
        · simp [h'] at h0 h1
          rw [h0] at h1
          cases h1
        · simp [Array.getElem?_eq_none h'] at h1
      have hkj : K j = false := by
        cases hk : K j with
        | false => rfl
        | true =>
          have h1 := back_done hcl 20 j oj hoj hall (hw j (Array.getElem?_eq_some_iff.1 hoj).1 hk)
          have h0 := (mem_ready.1 hr).1
          rcases Nat.lt_or_ge i done.size with h' | h'
          · simp [h'] at h0 h1
            rw [h0] at h1
            cases h1
          · simp [Array.getElem?_eq_none h'] at h1
      have h2 := wpOp_putIf hoj (hfree j oj hoj hji hun hnot) (fun cs b => hsel i oi cs b hi) (fun cs b => hsel j oj cs b hoj) hQ hy (H.2 j (ready_mono hj hji))
      refine wpOp_mono (fun a' w' h3 => ?_) h2
      have hS' := h3.2.1 hkj
      refine ⟨fun _ => hS', ih _ a' w' (hcl.set hj) (fun k ok hk hki' hun' hno => ?_) (ready_mono hr (Ne.symm hji)) h3.1 hS' ?_⟩
      · refine hfree k ok hk hki' ?_ hno
        by_cases hjk : j = k
        · subst hjk; exact hun
        · rw [getD_set_ne true hjk] at hun'; exact hun'
      · rw [Array.setIfInBounds_comm _ _ hji]
        exact h3.2.2

theorem wpAnyE_take {i : Nat} {oi : Oper} {v : Value} {n : Nat} {done : Array Bool} {a : Act} {w : World} (hi : ops[i]? = some oi)
    (hs : Region.noSelect ops = true) (hf : Region.free md ops done i = true) (hr : (Region.ready md ops done).contains i = true) (hc : closedB md ops done = true) (hk : waitK md ops K i = true)
    (hQ : ∀ c a w, Q (.panic c) (a.put oi.dst v) w → Q (.panic c) a w) (hy : YieldsIf P ops S oi v a) (hS : S w)
    (h : wpAnyE P md ops Q S K n (done.setIfInBounds i true) (a.put oi.dst v) w) : wpAnyE P md ops Q S K (n + 1) done a w :=
  wpAnyE_first hi (Region.noSelect_spec hs) hQ (waitK_spec hk) n done a w (closed_of hc) (Region.free_spec hi hf) (by simpa using hr) hy hS h

/-- What comes up of those that may. -/
def EachE (P : Program) (md : Region.Mode) (ops : Array Oper) (Q : Exit → Act → World → Prop) (S : World → Prop) (K : Nat → Bool) (n : Nat) (done : Array Bool) (a : Act) (w : World) (rs : List Nat) : Prop :=
  ∀ j ∈ rs, wpOp P ops Q j (fun a' w' => (K j = false → S w') ∧ wpAnyE P md ops Q S K n (done.setIfInBounds j true) a' w') a w
theorem EachE.nil {n : Nat} {done : Array Bool} {a : Act} {w : World} : EachE P md ops Q S K n done a w [] := fun _ h => by cases h
theorem EachE.cons {n : Nat} {done : Array Bool} {a : Act} {w : World} {j : Nat} {o : Oper} {rs : List Nat} (hk : K j = false) (ho : ops[j]? = some o)
    (h : ∀ K' : Act → World → Prop, Shut (∀ a w, S w → (S w → wpAnyE P md ops Q S K n (done.setIfInBounds j true) a w) → K' a w) → if Region.wanted o (yielded ops a.tmps) = true then Oper.wp P o a w K' Q else K' (a.put o.dst undef) w)
    (hs : EachE P md ops Q S K n done a w rs) : EachE P md ops Q S K n done a w (j :: rs) := fun i hi => by
  rcases List.mem_cons.1 hi with rfl | hi
  · exact wpOp_step ho (fun K' hK => h K' (fun a w hS hW => hK a w ⟨fun _ => hS, hW hS⟩))
  · exact hs i hi
/-- One of K: nothing is asked of the world behind it. -/
theorem EachE.last {n : Nat} {done : Array Bool} {a : Act} {w : World} {j : Nat} {o : Oper} (hk : K j = true) (ho : ops[j]? = some o)
    (h : ∀ K' : Act → World → Prop, Shut (∀ a w, wpAnyE P md ops Q S K n (done.setIfInBounds j true) a w → K' a w) → if Region.wanted o (yielded ops a.tmps) = true then Oper.wp P o a w K' Q else K' (a.put o.dst undef) w) : EachE P md ops Q S K n done a w [j] := fun i hi => by
  rw [List.mem_singleton] at hi
  subst hi
  exact wpOp_step ho (fun K' hK => h K' (fun a w hW => hK a w ⟨fun e => absurd (hk.symm.trans e) (by decide), hW⟩))
theorem wpAnyE_ready {rs : List Nat} {n : Nat} {done : Array Bool} {a : Act} {w : World} (hr : Region.ready md ops done = rs) (hne : rs ≠ [])
    (h : EachE P md ops Q S K n done a w rs) : wpAnyE P md ops Q S K (n + 1) done a w :=
  ⟨fun h0 => absurd (hr ▸ h0) hne, hr ▸ h⟩
theorem wpAnyE_done {done : Array Bool} {a : Act} {w : World} (hr : Region.ready md ops done = []) (h : Q .normal a w) :
    ∀ n, wpAnyE P md ops Q S K n done a w
  | 0 => ⟨hr, h⟩
  | _ + 1 => ⟨fun _ => h, by rw [hr]; simp⟩
theorem wp_pure {op : Oper} {a : Act} {w : World} {KK : Act → World → Prop} (v : Value) (h : ∀ w, (execOp a.eval op).run P w = .ok (.value v) w) (hk : KK (a.put op.dst v) w) : op.wp P a w KK Q := by
  unfold Oper.wp
  rw [h w]
  exact hk
/-- The beginning. -/
theorem wp_region_E {id : Nat} {a : Act} {w : World} (K : Nat → Bool) (S : World → Prop) (hm : P.follows .mixedOrders = true) (hS : S w.drew)
    (h : S w.drew → wpAnyE P .any ops Q S K ops.size (Array.replicate ops.size false) a w.drew) : (Code.region id ops true).wp P Q a w :=
  wp_region_any hm (wpAny_of_E _ _ _ _ (h hS))
end
end Go.Proofs.YtcgbamkfflcdfaaDoor
/- slices.Delete of the first piece of a row of the call's own. Conditions: those said. -/
namespace Go.Proofs.YtcgbamkfflcdfaaDoor
open Go.RowKit
set_option linter.unusedVariables false

section
variable {ops : Array Oper} {S : World → Prop} {op : Oper} {a : Act}
theorem yk (v : Value) (hw : Region.wanted op (yielded ops a.tmps) = true) (h : ∀ w, (execOp a.eval op).run Tryd.prog w = .ok (.value v) w) : YieldsIf Tryd.prog ops S op v a := .inl ⟨hw, fun w _ => h w⟩
theorem yk_no (hw : Region.wanted op (yielded ops a.tmps) = false) : YieldsIf Tryd.prog ops S op undef a := .inr ⟨hw, rfl⟩
end
theorem piece_zero (w : World) : (zeroValue 96).run Tryd.prog w = .ok (.agg #[.bool false, .bool false, .slice none 0 0]) w := by kernel_rfl
theorem pvs_one : ∀ (xs : List PV), ∀ u ∈ pvs xs, u.oneCell' = true := fun xs u hu => by
  obtain ⟨x, _, hx⟩ := List.mem_flatMap.1 hu
  simp at hx
  rcases hx with rfl | rfl | rfl <;> rfl
theorem run_clear_piece (w : World) (ty : TypeId) (b o c : Nat) (hc : ∀ j, j < 3 → (w.cell? ⟨b, o + j, none⟩).isSome = true) (hf : ∀ j, j < 3 → w.frozen? ⟨b, o + j, none⟩ = false) :
    (Builtin.clear_ #[82] ty #[.slice (some ⟨b, o, none⟩) 1 c]).run Tryd.prog w = .ok (.tuple #[]) (w.setCells b o [.bool false, .bool false, .slice none 0 0]) := by
  have hst := run_storeCells_cells (P := Tryd.prog) b o [.bool false, .bool false, .slice none 0 0] 0 w (by simpa using hc) (by simpa using hf) (by intro v hv; simp at hv; rcases hv with rfl | rfl <;> rfl)
  simp only [Nat.add_zero] at hst
  have hz : (Builtin.zeroCells (Value.agg #[.bool false, .bool false, .slice none 0 0]).cells 1).toList = [.bool false, .bool false, .slice none 0 0] := by kernel_rfl
  have hz0 : (zeroValue 96).run Tryd.prog w = .ok (.agg #[.bool false, .bool false, .slice none 0 0]) w := piece_zero w
  simp [Builtin.clear_, run_underlying Tryd.underlying82, hz0, hz, hst]
theorem setCells_heap (g : Nat) : ∀ (vs : List Value) (o : Nat) (w : World) (cs : List Value) (t : TypeId), w.heap[g]? = some (.cells cs.toArray t (0, 0)) → o + vs.length ≤ cs.length → (w.setCells g o vs).heap[g]? = some (.cells (cs.take o ++ vs ++ cs.drop (o + vs.length)).toArray t (0, 0))
  | [], o, w, cs, t, h, _ => by simpa [World.setCells] using h
  | v :: vs, o, w, cs, t, h, hl => by
    have h1 := heap_setCell_same w g o _ _ v h
    have e : cs.toArray.setIfInBounds o v = (cs.set o v).toArray := by simp
    rw [e] at h1
    simp only [List.length_cons] at hl
    have ih := setCells_heap g vs (o + 1) _ _ t h1 (by simp; omega)
    rw [World.setCells, ih]
    congr 3
    rw [List.take_set, List.take_add_one, List.getElem?_eq_getElem (by omega), List.drop_set]
    rw [List.set_append_right _ _ (by simp; omega)]
    simp only [List.length_take, Option.toList_some, List.length_cons, List.append_assoc, List.cons_append]
    rw [show o - min o cs.length = 0 by omega, if_pos (by omega), show o + 1 + vs.length = o + (vs.length + 1) by omega]
    rfl
theorem mod_setCells (w : World) (b o : Nat) (vs : List Value) : Mod (fun i => i = b) w (w.setCells b o vs) := by
  induction vs generalizing o w with
  | nil => exact Mod.refl _ _
  | cons v vs ih => exact (Mod.setCell w ⟨b, o, none⟩ v).trans (ih _ _) (fun _ _ h => h) (fun _ _ h => h)
section
variable {w : World} {op : Oper} {a : Act} {K : Act → World → Prop} {Q : Exit → Act → World → Prop}
theorem wp_appRoom (s x : Operand) (ho : op.op = .call { callee := .builtin .append, args := #[s, x], argTypes := #[82, 82] }) (g cap : Nat) (A : Option Addr) (m c : Nat) (xs : List PV) (hs : a.eval s = .slice (some ⟨g, 0, none⟩) 0 cap) (hx : a.eval x = .slice A m c) (hm : xs.length = m) (b : Nat) (hr : Sl w b A (pvs xs)) (hroom : m ≤ cap)
    (hc : ∀ j, j < cap * 3 → (w.cell? ⟨g, j, none⟩).isSome = true) (hf : ∀ j, w.frozen? ⟨g, j, none⟩ = false) (h : K (a.put op.dst (.slice (some ⟨g, 0, none⟩) m cap)) (w.setCells g 0 (pvs xs))) : op.wp Tryd.prog a w K Q := by
  have hrun : (Builtin.append_ #[82, 82] op.type #[.slice (some ⟨g, 0, none⟩) 0 cap, .slice A m c]).run Tryd.prog w = .ok (.slice (some ⟨g, 0, none⟩) m cap) (w.setCells g 0 (pvs xs)) := by
    obtain ⟨i0, hi0, hz0, hz1, hz2⟩ := info_parts piece_info
    have hl : (pvs xs).length = m * 3 := by rw [pvs_length, hm]
    rcases Nat.eq_zero_or_pos m with h0 | h0
    · subst h0
      have hx0 : xs = [] := List.eq_nil_of_length_eq_zero hm
      subst hx0
      have e : w.setCells g 0 (pvs []) = w := rfl
      rw [e]
      cases A with
      | none => simp [Builtin.append_, run_underlying Tryd.underlying82, sizeOf, typeInfo, hi0, Builtin.lenOf, Builtin.firstCells, storeCells]
      | some ad => simp [Builtin.append_, run_underlying Tryd.underlying82, sizeOf, typeInfo, hi0, Builtin.lenOf, Builtin.firstCells, storeCells, loadCells, loadCellsFrom]
    · obtain ⟨off, rfl, hcell⟩ := hr (by intro h5; have h6 := congrArg List.length h5; rw [hl, List.length_nil] at h6; omega)
      have := run_append_room_cells (P := Tryd.prog) w 82 op.type 96 i0 Tryd.underlying82 hi0 g 0 0 cap ⟨b, off, none⟩ m c (pvs xs) (by rw [hz1]; exact hl) (fun j u hu => by rw [Addr.add_lit]; exact hcell j u hu) (pvs_one xs) (by omega) (fun j hj => by rw [hz1]; simp only [Nat.zero_mul, Nat.zero_add, Nat.add_zero]; exact hc j (by rw [hl] at hj; have := Nat.mul_le_mul_right 3 hroom; omega)) (fun j _ => hf _)
      rw [hz1] at this
      simpa using this
  unfold Oper.wp execOp
  simp only [ho, resolve, invoke, builtin, Sem.run_bind, Sem.run_pure, Result.andThen_ok, List.map_toArray, List.map_cons, List.map_nil, hs, hx, hrun]
  exact h
end
set_option maxHeartbeats 8000000 in
set_option maxRecDepth 20000 in
theorem Delete_calls (B : Nat) (v : Value) (x : PV) (xs : List PV) (w : World) (h : RowP 96 w B v (x :: xs)) (hl : xs.length ≤ 1000000) :
    Calls Tryd.prog 67 #[v, .int .i64 0, .int .i64 1] w fun e w' => ∃ v', e = .returned v' ∧ RowP 96 w' B v' xs ∧ v'.ownBlock = v.ownBlock ∧ Mod (fun i => v.ownBlock = some i) w w' := by
  rcases h.2 with ⟨_, hn⟩ | ⟨g, cap, cur, hv, hBg, hh, hnc, hcm, hcs, hct⟩
  · simp at hn
  · subst hv
    obtain ⟨N, hN⟩ : ∃ N, N = (x :: xs).length := ⟨_, rfl⟩
    obtain ⟨m, hm⟩ : ∃ m, m = xs.length := ⟨_, rfl⟩
    have hNm : N = m + 1 := by rw [hN, hm]; simp
    rw [← hN] at hnc hct ⊢
    have hcell : ∀ j u, (pvs (x :: xs))[j]? = some u → w.cell? ⟨g, j, none⟩ = some u := fun j u hu => by
      rw [cell_of_row w g j _ _ _ hh]
      rw [← hct, List.getElem?_take] at hu
      split at hu
      · simpa using hu
      · cases hu
    have hcj : ∀ j, j < cap * 3 → (w.cell? ⟨g, j, none⟩).isSome = true := fun j hj => by
      rw [cell_of_row w g j _ _ _ hh, Array.getElem?_eq_getElem (by omega)]
      rfl
    have hfr : ∀ j, w.frozen? ⟨g, j, none⟩ = false := fun j => frozen_of_row w g j _ _ hh
    have hsl : Sl w g (if cap = 1 then some ⟨g, 0, none⟩ else some ⟨g, 3, none⟩) (pvs xs) := fun hne => by
      have hx0 : 0 < xs.length := by
        refine List.length_pos_iff.2 ?_
        rintro rfl
        exact hne rfl
      rw [if_neg (by omega)]
      refine ⟨3, rfl, fun j u hu => hcell (3 + j) u ?_⟩
      rw [pvs_cons, List.getElem?_append_right (by simp)]
      simpa using hu
    have e1 : (1 : Int) ≤ (N : Int) := by omega
    have e2 : (N : Int) ≤ (cap : Int) := by omega
    have e3 : (1 : Int) ≤ (cap : Int) := by omega
    have e4 : (N : Int) - 1 = (m : Int) := by omega
    have HNM := Lib.hid hNm
    have HCS := Lib.hid hcs
    have HCT := Lib.hid hct
    have HM := Lib.hid hm
    have hgl : g < w.heap.size := (Array.getElem?_eq_some_iff.1 hh).1
    have hNc : N ≤ cap := hnc
    have hN1 : 1 ≤ N := by omega
    clear hcj hfr hct hcell hcs h hN hNm hm hnc e4
    go_enter Tryd.func67, Tryd.ntmps67
    go_upto_region 5 with fail
    go_wp2_with fail
    refine wp_region_E (fun j => false) (fun w9 => w.heap.size ≤ w9.heap.size) (by kernel_rfl) ?_ (fun hHeld => ?_)
    · exact (by first | exact Nat.le_refl _ | exact hmw.size)
    obtain ⟨wd1', hwd⟩ : ∃ wd1', wd1' = World.drew w := ⟨_, rfl⟩
    have h9 : Below w.heap.size w wd1' := by rw [hwd]; exact below_drew (Below.refl _ _)
    rw [← hwd] at hHeld ⊢
    clear hwd
    have hmw : Mod (fun i => g = i) w wd1' := Mod.of_below h9 |>.mono (fun i hi h => absurd hi (by omega))
    replace hsl := Sl.ext hsl h9
    replace hh := (h9.block g hgl).trans hh
    clear h9
    refine wpAnyE_take (i := 0) (by simp only [List.getElem?_toArray]; rfl) (by kernel_rfl) (by kernel_rfl) (by kernel_rfl) (by kernel_rfl) (by kernel_rfl) (by exact fun _ _ _ h => h) (by exact yk (.slice (some ⟨g, 0, none⟩) N cap) (by kernel_rfl) (fun _ => by kernel_rfl)) hHeld ?_
    refine wpAnyE_take (i := 1) (by simp only [List.getElem?_toArray]; rfl) (by kernel_rfl) (by kernel_rfl) (by kernel_rfl) (by kernel_rfl) (by kernel_rfl) (by exact fun _ _ _ h => h) (by exact yk (.int .i64 0) (by kernel_rfl) (fun _ => by kernel_rfl)) hHeld ?_
    refine wpAnyE_take (i := 2) (v := .slice (some ⟨g, 0, none⟩) 0 cap) (by simp only [List.getElem?_toArray]; rfl) (by kernel_rfl) (by kernel_rfl) (by kernel_rfl) (by kernel_rfl) (by kernel_rfl) (by exact fun _ _ _ h => h) (.inl ⟨by kernel_rfl, fun ww hSw => by clear hSw; go_simp⟩) hHeld ?_
    refine wpAnyE_take (i := 3) (by simp only [List.getElem?_toArray]; rfl) (by kernel_rfl) (by kernel_rfl) (by kernel_rfl) (by kernel_rfl) (by kernel_rfl) (by exact fun _ _ _ h => h) (by exact yk (.slice (some ⟨g, 0, none⟩) N cap) (by kernel_rfl) (fun _ => by kernel_rfl)) hHeld ?_
    refine wpAnyE_take (i := 4) (by simp only [List.getElem?_toArray]; rfl) (by kernel_rfl) (by kernel_rfl) (by kernel_rfl) (by kernel_rfl) (by kernel_rfl) (by exact fun _ _ _ h => h) (by exact yk (.int .i64 1) (by kernel_rfl) (fun _ => by kernel_rfl)) hHeld ?_
    refine wpAnyE_take (i := 5) (v := .slice (if cap = 1 then some ⟨g, 0, none⟩ else some ⟨g, 3, none⟩) (N - 1) (cap - 1)) (by simp only [List.getElem?_toArray]; rfl) (by kernel_rfl) (by kernel_rfl) (by kernel_rfl) (by kernel_rfl) (by kernel_rfl) (by exact fun _ _ _ h => h) (.inl ⟨by kernel_rfl, fun ww hSw => by clear hSw; go_simp⟩) hHeld ?_
    refine wpAnyE_ready (rs := [6]) (by kernel_rfl) (by simp) ?_
    refine EachE.cons (by rfl) (by simp only [List.getElem?_toArray]; rfl) (fun KK hKK => ?_) EachE.nil
    rw [if_pos (by kernel_rfl)]
    have hcj : ∀ j, j < cap * 3 → (World.cell? wd1' ⟨g, j, none⟩).isSome = true := fun j hj => by rw [cell_of_row wd1' g j _ _ _ hh, Array.getElem?_eq_getElem (by have := HCS.out; omega)]; rfl
    have hfr : ∀ j, World.frozen? wd1' ⟨g, j, none⟩ = false := fun j => frozen_of_row wd1' g j _ _ hh
    refine wp_appRoom (.tmp 22) (.tmp 25) rfl g cap (if cap = 1 then some ⟨g, 0, none⟩ else some ⟨g, 3, none⟩) (N - 1) (cap - 1) xs (by kernel_rfl) (by kernel_rfl) (by have := HNM.out; have := HM.out; omega) g hsl (by omega) hcj hfr ?_
    have hx1 := setCells_heap g (pvs xs) 0 wd1' cur.toList 96 (by simpa using hh) (by rw [pvs_length]; have := HNM.out; have := HM.out; have := HCS.out; simp; omega)
    have hm1 := mod_setCells wd1' g 0 (pvs xs)
    obtain ⟨w2', e⟩ : ∃ w2', w2' = World.setCells wd1' g 0 (pvs xs) := ⟨_, rfl⟩
    rw [← e] at hx1 hm1 ⊢
    replace hmw := hmw.trans hm1 (fun i hi h => h) (fun i hi h => h.symm)
    clear e hm1 hcj hfr
    refine hKK.out _ _ ?_ (fun hHeld => ?_)
    · exact (by first | exact Nat.le_refl _ | exact hmw.size)
    clear hKK KK
    refine wpAnyE_take (i := 7) (by simp only [List.getElem?_toArray]; rfl) (by kernel_rfl) (by kernel_rfl) (by kernel_rfl) (by kernel_rfl) (by kernel_rfl) (by exact fun _ _ _ h => h) (by exact yk (.slice (some ⟨g, 0, none⟩) (N - 1) cap) (by kernel_rfl) (fun _ => by kernel_rfl)) hHeld ?_
    refine wpAnyE_done (by kernel_rfl) ?_ _
    generalize (if cap = 1 then (some ⟨g, 0, none⟩ : Option Addr) else some ⟨g, 3, none⟩) = AD
    obtain ⟨n1, hn1⟩ : ∃ n1, n1 = N - 1 := ⟨_, rfl⟩
    rw [← hn1]
    have hn1' : N = n1 + 1 := by omega
    have f1 : (n1 : Int) ≤ (N : Int) := by omega
    have f2 : (N : Int) ≤ (cap : Int) := by omega
    have f3 : ¬ cap = n1 := by omega
    have f4 : N - n1 = 1 := by omega
    have hcc : ∀ j, j < 3 → (World.cell? w2' ⟨g, n1 * 3 + j, none⟩).isSome = true := fun j hj => by
      rw [cell_of_row w2' g _ _ _ _ hx1, Array.getElem?_eq_getElem (by have := HCS.out; have := HNM.out; have := HM.out; simp [pvs_length]; omega)]
      rfl
    have hff : ∀ j, j < 3 → World.frozen? w2' ⟨g, n1 * 3 + j, none⟩ = false := fun j _ => frozen_of_row w2' g _ _ _ hx1
    have hcl := fun ty => run_clear_piece w2' ty g (n1 * 3) (cap - n1) hcc hff
    have HN1 := Lib.hid hn1'
    have hxl : (pvs xs).length = n1 * 3 := by rw [pvs_length]; have := HM.out; have := HNM.out; omega
    have hx2 := setCells_heap g [.bool false, .bool false, .slice none 0 0] (n1 * 3) w2' _ 96 hx1 (by have := HCS.out; simp [hxl]; omega)
    have hm2 := mod_setCells w2' g (n1 * 3) [.bool false, .bool false, .slice none 0 0]
    have HX2 := Lib.hid hx2
    have HM2 := Lib.hid (hmw.trans hm2 (fun i hi h => h) (fun i hi h => h.symm))
    have HXL := Lib.hid hxl
    clear hn1 hn1' hcc hff hx1 hx2 hm2 hmw hxl hh hsl
    go_wp2_with fail
    go_ret
    have hl1 := HXL.out
    have h1 := HM.out
    have h2 := HNM.out
    have h3 := HN1.out
    have h4 := HCS.out
    refine ⟨.slice (some ⟨g, 0, none⟩) n1 cap, rfl, ⟨by rw [hl1]; omega, .inr ⟨g, cap, _, by rw [show n1 = xs.length by omega], hBg, HX2.out, by omega, hcm, ?_, ?_⟩⟩, rfl, HM2.out.mono (fun i _ h => by have h : g = i := h; rw [h]; rfl)⟩
    · simp [hl1]; omega
    · simp only [List.take_zero, List.nil_append, Nat.zero_add]
      rw [show xs.length * 3 = n1 * 3 by omega]
      simp [hl1]
end Go.Proofs.YtcgbamkfflcdfaaDoor
/- How a link lies: its ten cells, what waits, what flies. No condition: plain lemmas. -/
namespace Go.Proofs.YtcgbamkfflcdfaaDoor
open Go.RowKit
set_option linter.unusedVariables false

/-- A piece that flies: its number, whether it was sent, when last. -/
structure Fl where
  p : PV
  seq : Nat
  sent : Bool
  at_ : Int
abbrev Fl.cells (x : Fl) : List Value := [.bool x.p.p.first, .bool x.p.p.last, .slice x.p.A x.p.p.data.length x.p.c, .int .u16 (x.seq : Int), .bool x.sent, .int .i64 x.at_]
def fvs (xs : List Fl) : List Value := xs.flatMap Fl.cells
theorem fvs_cons (x : Fl) (xs : List Fl) : fvs (x :: xs) = x.cells ++ fvs xs := rfl
theorem fvs_append (xs ys : List Fl) : fvs (xs ++ ys) = fvs xs ++ fvs ys := by simp [fvs]
theorem fvs_length (xs : List Fl) : (fvs xs).length = xs.length * 6 := by
  induction xs with
  | nil => rfl
  | cons x l ih => rw [fvs_cons, List.length_append, ih, List.length_cons]; simp; omega
theorem fvs_at : ∀ (xs : List Fl) (k : Nat) (hk : k < xs.length) (j : Nat), j < 6 → (fvs xs)[k * 6 + j]? = xs[k].cells[j]?
  | x :: l, 0, _, j, hj => by
    rw [fvs_cons, List.getElem?_append_left (by simp; omega)]
    simp
  | x :: l, k + 1, hk, j, hj => by
    rw [fvs_cons, List.getElem?_append_right (by simp; omega), show (k + 1) * 6 + j - x.cells.length = k * 6 + j by simp; omega, fvs_at l k (by simpa using hk) j hj]
    simp
theorem fvs_one (xs : List Fl) : ∀ u ∈ fvs xs, u.oneCell' = true := fun u hu => by
  obtain ⟨x, _, hx⟩ := List.mem_flatMap.1 hu
  simp at hx
  rcases hx with rfl | rfl | rfl | rfl | rfl | rfl <;> rfl
/-- What flies, in a slice of the link's own. -/
abbrev RowF (w : World) (B : Nat) (v : Value) (xs : List Fl) : Prop := w.ownsRow B 98 6 v xs.length (fvs xs)
/-- The numbers of a link. -/
structure Lk where
  ep : Nat
  nx : Nat
  cn : Nat
  cb : Nat
  lv : Bool
  ow : Bool
abbrev Lk.cells (L : Lk) (vw vf : Value) (bm : Nat) (vh : Value) : Array Value := #[.int .u16 (L.ep : Int), vw, vf, .int .u16 (L.nx : Int), .int .u16 (L.cn : Int), .int .u32 (L.cb : Int), .map (some bm), vh, .bool L.lv, .bool L.ow]
/-- Block g is a link. -/
def LkB (w : World) (g bm : Nat) (L : Lk) (vw vf vh : Value) : Prop := w.heap[g]? = some (.cells (L.cells vw vf bm vh) 87 (0, 0))
namespace LkB
variable {w w' : World} {g bm : Nat} {L : Lk} {vw vf vh : Value}
theorem lt (q : LkB w g bm L vw vf vh) : g < w.heap.size := (Array.getElem?_eq_some_iff.1 q).1
theorem c0 (q : LkB w g bm L vw vf vh) : w.cell? ⟨g, 0, none⟩ = some (.int .u16 (L.ep : Int)) := by rw [cell_of_row w g 0 _ _ _ q]; rfl
theorem c1 (q : LkB w g bm L vw vf vh) : w.cell? ⟨g, 1, none⟩ = some (vw) := by rw [cell_of_row w g 1 _ _ _ q]; rfl
theorem c2 (q : LkB w g bm L vw vf vh) : w.cell? ⟨g, 2, none⟩ = some (vf) := by rw [cell_of_row w g 2 _ _ _ q]; rfl
theorem c3 (q : LkB w g bm L vw vf vh) : w.cell? ⟨g, 3, none⟩ = some (.int .u16 (L.nx : Int)) := by rw [cell_of_row w g 3 _ _ _ q]; rfl
theorem c4 (q : LkB w g bm L vw vf vh) : w.cell? ⟨g, 4, none⟩ = some (.int .u16 (L.cn : Int)) := by rw [cell_of_row w g 4 _ _ _ q]; rfl
theorem c5 (q : LkB w g bm L vw vf vh) : w.cell? ⟨g, 5, none⟩ = some (.int .u32 (L.cb : Int)) := by rw [cell_of_row w g 5 _ _ _ q]; rfl
theorem c6 (q : LkB w g bm L vw vf vh) : w.cell? ⟨g, 6, none⟩ = some (.map (some bm)) := by rw [cell_of_row w g 6 _ _ _ q]; rfl
theorem c7 (q : LkB w g bm L vw vf vh) : w.cell? ⟨g, 7, none⟩ = some (vh) := by rw [cell_of_row w g 7 _ _ _ q]; rfl
theorem c8 (q : LkB w g bm L vw vf vh) : w.cell? ⟨g, 8, none⟩ = some (.bool L.lv) := by rw [cell_of_row w g 8 _ _ _ q]; rfl
theorem c9 (q : LkB w g bm L vw vf vh) : w.cell? ⟨g, 9, none⟩ = some (.bool L.ow) := by rw [cell_of_row w g 9 _ _ _ q]; rfl
theorem fz (q : LkB w g bm L vw vf vh) (j : Nat) : w.frozen? ⟨g, j, none⟩ = false := frozen_of_row w g j _ _ q
theorem mod {S : Nat → Prop} (q : LkB w g bm L vw vf vh) (hm : Mod S w w') (hs : ¬ S g) : LkB w' g bm L vw vf vh := (hm.block g q.lt hs).trans q
theorem ext (q : LkB w g bm L vw vf vh) (hm : Below w.heap.size w w') : LkB w' g bm L vw vf vh := (hm.block g q.lt).trans q
theorem set1 (q : LkB w g bm L vw vf vh) (v : Value) : LkB (w.setCell ⟨g, 1, none⟩ v) g bm L v vf vh := heap_setCell_same w g 1 _ _ v q
theorem set2 (q : LkB w g bm L vw vf vh) (v : Value) : LkB (w.setCell ⟨g, 2, none⟩ v) g bm L vw v vh := heap_setCell_same w g 2 _ _ v q
theorem set3 (q : LkB w g bm L vw vf vh) (n : Nat) : LkB (w.setCell ⟨g, 3, none⟩ (.int .u16 (n : Int))) g bm { L with nx := n } vw vf vh := heap_setCell_same w g 3 _ _ _ q
theorem set9 (q : LkB w g bm L vw vf vh) (b : Bool) : LkB (w.setCell ⟨g, 9, none⟩ (.bool b)) g bm { L with ow := b } vw vf vh := heap_setCell_same w g 9 _ _ _ q
end LkB
end Go.Proofs.YtcgbamkfflcdfaaDoor
/- New, Epoch, Waiting, Flying, Acks of a link; what a flight's due says. Conditions: those said. -/
namespace Go.Proofs.YtcgbamkfflcdfaaDoor
open Go.RowKit
set_option linter.unusedVariables false

set_option maxHeartbeats 2000000 in
set_option maxRecDepth 20000 in
theorem LNew_calls (ep : Nat) (w : World) :
    Calls Tryd.prog 13 #[.int .u16 (ep : Int)] w fun e w' => ∃ g bm, e = .returned (.pointer (some ⟨g, 0, none⟩)) ∧ LkB w' g bm ⟨ep, 0, 0, 0, false, false⟩ (.slice none 0 0) (.slice none 0 0) (.slice none 0 0) ∧ w'.heap[bm]? = some (.map #[] 0) ∧ w.heap.size ≤ g ∧ w.heap.size ≤ bm ∧ Below w.heap.size w w' := by
  have hmm := @run_makeMap Tryd.prog
  have h2 := below_alloc1 w (.map #[] 0)
  have h3 := below_alloc1 (w.alloc (.map #[] 0)) (.cells #[.int .u16 (ep : Int), .slice none 0 0, .slice none 0 0, .int .u16 0, .int .u16 0, .int .u32 0, .map (some w.heap.size), .slice none 0 0, .bool false, .bool false] 87)
  have q := heap_alloc_new (w.alloc (.map #[] 0)) (.cells #[.int .u16 (ep : Int), .slice none 0 0, .slice none 0 0, .int .u16 0, .int .u16 0, .int .u32 0, .map (some w.heap.size), .slice none 0 0, .bool false, .bool false] 87)
  have qm := (Below.heap_alloc (w.alloc (.map #[] 0)) (.cells #[.int .u16 (ep : Int), .slice none 0 0, .slice none 0 0, .int .u16 0, .int .u16 0, .int .u32 0, .map (some w.heap.size), .slice none 0 0, .bool false, .bool false] 87) w.heap.size (by simp)).trans (heap_alloc_new w (.map #[] 0))
  have HB := Lib.hid (h2.trans (h3.mono h2.size))
  have HQ := Lib.hid q
  have HM := Lib.hid qm
  clear h2 h3 q qm
  go_enter Tryd.func13, Tryd.ntmps13
  go_wp2_with fail
  go_ret
  have h1 := HQ.out
  rw [show (w.alloc (.map #[] 0)).heap.size = w.heap.size + 1 by simp] at h1
  exact ⟨w.heap.size + 1, w.heap.size, rfl, h1, HM.out, by omega, Nat.le_refl _, HB.out⟩
set_option maxRecDepth 20000 in
theorem LEpoch_calls (g bm : Nat) (L : Lk) (vw vf vh : Value) (w : World) (q : LkB w g bm L vw vf vh) :
    Calls Tryd.prog 29 #[.pointer (some ⟨g, 0, none⟩)] w fun e w' => e = .returned (.int .u16 (L.ep : Int)) ∧ w = w' := by
  have c0 := q.c0
  clear q
  go_enter Tryd.func29, Tryd.ntmps29
  go_wp2_with fail
  go_ret
  exact ⟨rfl, rfl⟩
set_option maxRecDepth 20000 in
theorem LWaiting_calls (g bm : Nat) (L : Lk) (A : Option Addr) (n c : Nat) (vf vh : Value) (w : World) (q : LkB w g bm L (.slice A n c) vf vh) :
    Calls Tryd.prog 24 #[.pointer (some ⟨g, 0, none⟩)] w fun e w' => e = .returned (.int .i64 (n : Int)) ∧ w = w' := by
  have c1 := q.c1
  clear q
  go_enter Tryd.func24, Tryd.ntmps24
  go_wp2_with fail
  go_ret
  exact ⟨rfl, rfl⟩
set_option maxRecDepth 20000 in
theorem LFlying_calls (g bm : Nat) (L : Lk) (vw : Value) (A : Option Addr) (n c : Nat) (vh : Value) (w : World) (q : LkB w g bm L vw (.slice A n c) vh) :
    Calls Tryd.prog 25 #[.pointer (some ⟨g, 0, none⟩)] w fun e w' => e = .returned (.int .i64 (n : Int)) ∧ w = w' := by
  have c2 := q.c2
  clear q
  go_enter Tryd.func25, Tryd.ntmps25
  go_wp2_with fail
  go_ret
  exact ⟨rfl, rfl⟩
set_option maxRecDepth 20000 in
/-- Ticks are near: their difference fits. -/
theorem due_calls (x : Fl) (now : Int) (w : World) (h0 : 0 ≤ x.at_) (h1 : x.at_ ≤ 1000000) (h2 : 0 ≤ now) (h3 : now ≤ 1000000) :
    Calls Tryd.prog 35 #[.agg x.cells.toArray, .int .i64 now] w fun e w' => e = .returned (.bool (!x.sent || decide (3 ≤ now - x.at_))) ∧ Below w.heap.size w w' := by
  obtain ⟨⟨⟨fi, la, d⟩, A, c, b⟩, s, se, at0⟩ := x
  simp only at h0 h1 ⊢
  have hb := below_alloc1 w (.cells #[.bool fi, .bool la, .slice A d.length c, .int .u16 (s : Int), .bool se, .int .i64 at0] 98)
  obtain ⟨z, hz⟩ : ∃ z, z = decide (3 ≤ now - at0) := ⟨_, rfl⟩
  rw [← hz]
  have e1 : decide (now - at0 ≥ 3) = z := by rw [hz]
  have hw : wrap64 (now - at0) = now - at0 := by simp only [wrap64]; omega
  have hw2 : IntKind.i64.wrap (now - at0) = now - at0 := IntWalk.i64_in _ (by omega)
  clear hz
  cases se with
  | false =>
    go_enter Tryd.func35, Tryd.ntmps35
    go_wp2_with fail
    go_ret
    exact ⟨rfl, hb⟩
  | true =>
    go_enter Tryd.func35, Tryd.ntmps35
    go_wp2_with fail
    go_ret
    exact ⟨by simp, hb⟩
end Go.Proofs.YtcgbamkfflcdfaaDoor
/- Send of a message for which there is room. Conditions: those said. -/
namespace Go.Proofs.YtcgbamkfflcdfaaDoor
open Go.RowKit
set_option linter.unusedVariables false

theorem row_apart {w : World} {B n sz : Nat} {e t : TypeId} {v : Value} {xs : List Value} (hr : w.ownsRow B e sz v n xs) {g : Nat} {cs : Array Value} {fr : Nat × Nat} (hg : w.heap[g]? = some (.cells cs t fr)) (ht : t ≠ e) : v.ownBlock ≠ some g := by
  intro hv
  rcases hr.2 with ⟨rfl, _⟩ | ⟨g', cap, cur, rfl, _, hh, _⟩
  · simp [Value.ownBlock] at hv
  · have : g' = g := by simpa [Value.ownBlock] using hv
    subst this
    rw [hh] at hg
    injection hg with hg
    injection hg with _ h2 _
    exact ht h2.symm
theorem LkB.pap {w : World} {g bm : Nat} {L : Lk} {vw vf vh : Value} (q : LkB w g bm L vw vf vh) {B : Nat} {v : Value} {xs : List PV} (hr : RowP 96 w B v xs) : v.ownBlock ≠ some g := row_apart hr q (by decide)
theorem LkB.fap {w : World} {g bm : Nat} {L : Lk} {vw vf vh : Value} (q : LkB w g bm L vw vf vh) {B : Nat} {v : Value} {xs : List Fl} (hr : RowF w B v xs) : v.ownBlock ≠ some g := row_apart hr q (by decide)
theorem wpList_appPs (w : World) {ops : Array Oper} {rest : List Oper} {o : Oper} {a : Act} {Q : Exit → Act → World → Prop} (hgd : o.guard = none) (s x : Operand) (ho : o.op = .call { callee := .builtin .append, args := #[s, x], argTypes := #[82, 82] })
    (B : Nat) (v : Value) (xs : List PV) (hs : a.eval s = v) (hown : RowP 96 w B v xs) (b : Nat) (A : Option Addr) (m c : Nat) (ys : List PV) (hx : a.eval x = .slice A m c) (hr : Sl w b A (pvs ys)) (hm : ys.length = m) (hlen : xs.length + m ≤ 1000000) (hbase : B ≤ w.heap.size)
    (h : ∀ v' w', RowP 96 w' B v' (xs ++ ys) → Mod (fun i => v.ownBlock = some i) w w' → (v'.ownBlock = v.ownBlock ∨ v'.ownBlock = some w.heap.size) → wpList Tryd.prog ops Q rest (a.put o.dst v') w') : wpList Tryd.prog ops Q (o :: rest) a w := by
  obtain ⟨i0, hi0, hz0, hz1, hz2⟩ := info_parts piece_info
  refine wpList_append_sl (P := Tryd.prog) w hgd s x _ ho B 96 i0 _ 3 32 Tryd.underlying82 hi0 hz0 hz1 hz2 rfl (by omega) v xs.length (pvs xs) hs hown b A m c (pvs ys) hx hr (by rw [pvs_length, hm]) (fun hA => by have := Sl.none_len hr (m := m * 3) (by rw [pvs_length, hm]) hA; omega) (pvs_one ys)
    (by simp only [maxLen]; omega) (by omega) hbase ?_
  intro v' w' h1 h2 h3
  exact h v' w' (by unfold RowP; rw [List.length_append, hm, pvs_append]; exact h1) (Mod.of_grown h2) h3
set_option maxHeartbeats 4000000 in
set_option maxRecDepth 20000 in
theorem LSend_calls (B g bm : Nat) (L : Lk) (A1 : Option Addr) (n1 k1 : Nat) (ws : List PV) (vf vh : Value) (A : Option Addr) (l : List UInt8) (n c b : Nat) (w : World) (q : LkB w g bm L (.slice A1 n1 k1) vf vh) (hw : RowP 96 w B (.slice A1 n1 k1) ws) (hn1 : ws.length = n1) (hs : Bs w b A l) (hn : l.length = n) (h1024 : n ≤ 1024) (hc : n ≤ c) (hcm : c ≤ maxLen) (hroom : n1 + cnt n ≤ 128) (hB : B ≤ w.heap.size) :
    Calls Tryd.prog 15 #[.pointer (some ⟨g, 0, none⟩), .slice A n c] w fun e w' => ∃ A2 c2 xs, e = .returned (.int .i64 0) ∧ LkB w' g bm L (.slice A2 (n1 + xs.length) c2) vf vh ∧ RowP 96 w' B (.slice A2 (n1 + xs.length) c2) (ws ++ xs) ∧ xs.map PV.p = splitP l ∧ (∀ x ∈ xs, PV.InT w' x ∧ w.heap.size ≤ x.b) ∧ (∀ i, (Value.slice A2 (n1 + xs.length) c2).ownBlock = some i → (Value.slice A1 n1 k1).ownBlock = some i ∨ w.heap.size ≤ i) ∧ Mod (fun i => i = g ∨ (Value.slice A1 n1 k1).ownBlock = some i) w w' := by
  have hS := fun W h => Split_calls A l n c b W h hn h1024 hc hcm
  have HN := Lib.hid hn
  have HN1 := Lib.hid hn1
  have hgl := q.lt
  clear hn hn1
  go_enter Tryd.func15, Tryd.ntmps15
  go_wp2_with fail
  refine (hS _ hs).mono ?_
  rintro e w1 ⟨v, xs, rfl, hxs, hrow, hin, hb⟩
  have hxl : xs.length = cnt n := by
    have := congrArg List.length hxs
    rw [List.length_map, splitP_length, HN.out] at this
    exact this
  obtain ⟨A5, c5, b5, hve, -, -, -, -, hs5, -⟩ := ownsP_sl hrow
  obtain ⟨m, hm⟩ : ∃ m, m = xs.length := ⟨_, rfl⟩
  rw [← hm] at hve hxl
  subst hve
  have HM := Lib.hid hm.symm
  have hm128 : n1 + m ≤ 128 := by omega
  have hwlt := fun k hk => World.ownsRow.lt hw k hk
  replace q := q.ext hb
  replace hw := ownsP_ext hw hb
  have c1 := q.c1
  have fz1 := q.fz 1
  have hap := q.pap hw
  have HL := Lib.hid (show ws.length + m ≤ 1000000 by rw [HN1.out]; omega)
  have e1 : decide (((n1 : Int) + (m : Int)) > 128) = false := by simp; omega
  have hB1 : B ≤ w1.heap.size := Nat.le_trans hB hb.size
  have HQ := Lib.hid q
  have HB := Lib.hid hb
  have HXS := Lib.hid hxs
  have HIN := Lib.hid hin
  have HLT := Lib.hid hwlt
  clear hm hxs hin hrow hxl hb q hwlt
  go_wp2_with ((with_reducible refine at_caS 32 _ ?_); refine wpList_appPs w1 rfl (.tmp 30) (.tmp 31) rfl B _ ws rfl hw b5 A5 m c5 xs rfl hs5 HM.out HL.out hB1 ?_; intro v2 w2 hrow hmod hat; obtain ⟨A2, c2, b2, hve, -⟩ := ownsP_sl hrow; (rw [List.length_append, HN1.out, HM.out] at hve); subst hve; have q2 := HQ.out.mod hmod hap; have HAT := Lib.hid hat; have c12 := q2.c1; have fz12 := q2.fz 1; have HQ2 := Lib.hid q2; clear q2)
  go_ret
  have q3 := HQ2.out.set1 (.slice A2 (n1 + m) c2)
  have hm1 := Mod.setCell w2 ⟨g, 1, none⟩ (.slice A2 (n1 + m) c2)
  have hap2 := HQ2.out.pap hrow
  refine ⟨A2, c2, xs, rfl, by rw [HM.out]; exact q3, by rw [HM.out]; exact ownsP_mod hrow hm1 (fun k hk h => hap2 (by rw [hk]; exact congrArg some h)), HXS.out, fun x hx => ⟨?_, (HIN.out x hx).2⟩, fun i hi => ?_, ?_⟩
  · have hi := (HIN.out x hx)
    exact (hi.1.mod hmod (fun _ h => by have := (HLT.out _ h).2; omega)).mod hm1 (fun _ h => by have h : x.b = g := h; omega)
  · rw [HM.out] at hi
    rcases HAT.out with h1 | h1
    · exact .inl (h1.symm.trans hi)
    · rw [h1] at hi
      injection hi with hi
      have := HB.out.size
      exact .inr (by omega)
  · exact ((Mod.of_below HB.out).trans hmod (S := fun i => i = g ∨ (Value.slice A1 n1 k1).ownBlock = some i) (fun i hi h => absurd hi (by omega)) (fun i hi h => .inr h)).trans hm1 (fun i hi h => h) (fun i hi h => .inl h)
end Go.Proofs.YtcgbamkfflcdfaaDoor
