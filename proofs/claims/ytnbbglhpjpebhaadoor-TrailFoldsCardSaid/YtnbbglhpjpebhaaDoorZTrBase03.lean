/- Parts of one proof, in their order. -/
import Derived.Test.YtnbbglhpjpebhaaDoorZTrBase02
import Derived.Deep.Upon
import Derived.Deep.MidRow
import Derived.BigRegion
/- The machine, as it lies: what its cells are, what a store makes of them. No condition beyond those said. -/
namespace Go.Proofs.YtnbbglhpjpebhaaDoor
open Go.RowKit

/-- What of it stays. -/
structure MX where
  cmp : Value
  cd : Value
  mv : Value
  tk : Nat
  al : Nat
def mMid (X : MX) (sh : Value) (s : VS) : List Value := [.int .u64 (s.d : Int), .int .u64 (s.t : Int), sh, .int .i64 (s.u : Int), .int .i64 (s.e : Int), X.cmp, X.cd, .int .i64 (s.nx : Int)]
def mEnd (X : MX) : List Value := [X.mv, .int .u32 (X.tk : Int), .int .u32 (X.al : Int)]
def mRow (X : MX) (sh : Value) (s : VS) : List Value := (bdL s.L).toList ++ (mMid X sh s ++ (cv s.R ++ mEnd X))
/-- Shows, as they lie. -/
def sv (l : List (Nat × Nat × Int)) : List Value := l.flatMap fun x => [Value.int .i64 (x.1 : Int), Value.int .u32 (x.2.1 : Int), Value.int .i32 x.2.2]
@[simp] theorem sv_nil : sv [] = [] := rfl
theorem sv_append (a b : List (Nat × Nat × Int)) : sv (a ++ b) = sv a ++ sv b := by simp [sv]
@[simp] theorem sv_length (l : List (Nat × Nat × Int)) : (sv l).length = l.length * 3 := by
  induction l with
  | nil => rfl
  | cons c l ih =>
    have e : sv (c :: l) = [Value.int .i64 (c.1 : Int), Value.int .u32 (c.2.1 : Int), Value.int .i32 c.2.2] ++ sv l := rfl
    rw [e, List.length_append, ih]; simp; omega
theorem sv_one (l : List (Nat × Nat × Int)) : ∀ u ∈ sv l, u.oneCell' = true := by
  intro u hu
  simp only [sv, List.mem_flatMap] at hu
  obtain ⟨c, _, hc⟩ := hu
  simp only [List.mem_cons, List.not_mem_nil, or_false] at hc
  rcases hc with rfl | rfl | rfl <;> rfl
/-- The shows' row is the machine's own. -/
abbrev RowS (w : World) (B : Nat) (v : Value) (l : List (Nat × Nat × Int)) : Prop := w.ownsRow B 56 3 v l.length (sv l)
/-- Block b is the machine. -/
def MB (w : World) (b : Nat) (X : MX) (sh : Value) (s : VS) : Prop := w.heap[b]? = some (.cells (mRow X sh s).toArray 106 (0, 0)) ∧ s.R.length = 8
theorem bdL_list (L : List (Int × Nat)) : (bdL L).toList.length = 97 := by rw [Array.length_toList, bdL_size]
theorem mRow_at {X : MX} {sh : Value} {s : VS} {k : Nat} {v : Value} (h : (mMid X sh s ++ (cv s.R ++ mEnd X))[k]? = some v) : (mRow X sh s)[97 + k]? = some v := by
  unfold mRow
  rw [List.getElem?_append_right (by rw [bdL_list]; omega), bdL_list, show 97 + k - 97 = k by omega]
  exact h
theorem mRow_size {X : MX} {sh : Value} {s : VS} (hR : s.R.length = 8) : (mRow X sh s).length = 124 := by
  unfold mRow mMid mEnd
  simp [bdL_size, hR]
namespace MB
variable {w w' : World} {b : Nat} {X : MX} {sh : Value} {s : VS}
theorem lt (h : MB w b X sh s) : b < w.heap.size := (Array.getElem?_eq_some_iff.1 h.1).1
theorem keep (h : MB w b X sh s) (hk : w'.heap[b]? = w.heap[b]?) : MB w' b X sh s := ⟨hk.trans h.1, h.2⟩
theorem mod {S : Nat → Prop} (h : MB w b X sh s) (hm : Mod S w w') (hs : ¬ S b) : MB w' b X sh s := h.keep (hm.block b h.lt hs)
theorem ext (h : MB w b X sh s) (hm : Below w.heap.size w w') : MB w' b X sh s := h.keep (hm.block b h.lt)
theorem below {B : Nat} (h : MB w b X sh s) (hm : Below B w w') (hb : b < B) : MB w' b X sh s := h.keep (hm.block b hb)
theorem alloc (h : MB w b X sh s) (o : Obj) : MB (w.alloc o) b X sh s := h.keep (Below.heap_alloc w o b h.lt)
theorem other (h : MB w b X sh s) {p : Addr} (hp : b ≠ p.block) (u : Value) : MB (w.setCell p u) b X sh s := h.keep (heap_setCell_other w p b u hp)
theorem at_ (h : MB w b X sh s) {k : Nat} {v : Value} (hv : (mRow X sh s)[k]? = some v) : w.cell? ⟨b, k, none⟩ = some v := by
  rw [cell_of_row w b k _ _ _ h.1]
  simpa using hv
theorem free (h : MB w b X sh s) (k : Nat) : w.frozen? ⟨b, k, none⟩ = false := frozen_of_row w b k _ _ h.1
theorem cD (h : MB w b X sh s) : w.cell? ⟨b, 97, none⟩ = some (.int .u64 (s.d : Int)) := h.at_ (mRow_at (k := 0) rfl)
theorem cT (h : MB w b X sh s) : w.cell? ⟨b, 98, none⟩ = some (.int .u64 (s.t : Int)) := h.at_ (mRow_at (k := 1) rfl)
theorem cS (h : MB w b X sh s) : w.cell? ⟨b, 99, none⟩ = some sh := h.at_ (mRow_at (k := 2) rfl)
theorem cU (h : MB w b X sh s) : w.cell? ⟨b, 100, none⟩ = some (.int .i64 (s.u : Int)) := h.at_ (mRow_at (k := 3) rfl)
theorem cE (h : MB w b X sh s) : w.cell? ⟨b, 101, none⟩ = some (.int .i64 (s.e : Int)) := h.at_ (mRow_at (k := 4) rfl)
theorem cCmp (h : MB w b X sh s) : w.cell? ⟨b, 102, none⟩ = some X.cmp := h.at_ (mRow_at (k := 5) rfl)
theorem cCd (h : MB w b X sh s) : w.cell? ⟨b, 103, none⟩ = some X.cd := h.at_ (mRow_at (k := 6) rfl)
theorem cN (h : MB w b X sh s) : w.cell? ⟨b, 104, none⟩ = some (.int .i64 (s.nx : Int)) := h.at_ (mRow_at (k := 7) rfl)
theorem reg_get {k : Nat} {v : Value} (hk : (cv s.R)[k]? = some v) : (mRow X sh s)[105 + k]? = some v := by
  have e : (mRow X sh s)[97 + (8 + k)]? = some v := mRow_at (by
    rw [List.getElem?_append_right (by simp [mMid]), show (mMid X sh s).length = 8 from rfl, show 8 + k - 8 = k by omega]
    rw [List.getElem?_append_left (List.getElem?_eq_some_iff.1 hk).1]
    exact hk)
  rw [← e]
  congr 1
  omega
theorem rg_eq {i : Nat} (hi : i < s.R.length) : s.rg i = s.R[i] := by simp [VS.rg, List.getD, hi]
theorem cRv (h : MB w b X sh s) {i : Nat} (hi : i < 8) : w.cell? ⟨b, 105 + i * 2, none⟩ = some (.int .i32 (s.rg i).1) := by
  rw [rg_eq (by rw [h.2]; exact hi)]
  exact h.at_ (reg_get (cv_val (by rw [h.2]; exact hi)))
theorem cRl (h : MB w b X sh s) {i : Nat} (hi : i < 8) : w.cell? ⟨b, 105 + i * 2 + 1, none⟩ = some (.int .u32 (((s.rg i).2 : Nat) : Int)) := by
  rw [rg_eq (by rw [h.2]; exact hi), Nat.add_assoc]
  exact h.at_ (reg_get (cv_lab (by rw [h.2]; exact hi)))
theorem end_get (hR : s.R.length = 8) {k : Nat} {v : Value} (hk : (mEnd X)[k]? = some v) : (mRow X sh s)[121 + k]? = some v := by
  have e : (mRow X sh s)[97 + (24 + k)]? = some v := mRow_at (by
    rw [List.getElem?_append_right (by simp [mMid]; omega), show (mMid X sh s).length = 8 from rfl, List.getElem?_append_right (by simp [hR]; omega), show 24 + k - 8 - (cv s.R).length = k by simp [hR]; omega]
    exact hk)
  rw [← e]
  congr 1
  omega
theorem cM (h : MB w b X sh s) : w.cell? ⟨b, 121, none⟩ = some X.mv := h.at_ (end_get h.2 (k := 0) rfl)
theorem cK (h : MB w b X sh s) : w.cell? ⟨b, 122, none⟩ = some (.int .u32 (X.tk : Int)) := h.at_ (end_get h.2 (k := 1) rfl)
theorem cA (h : MB w b X sh s) : w.cell? ⟨b, 123, none⟩ = some (.int .u32 (X.al : Int)) := h.at_ (end_get h.2 (k := 2) rfl)
/-- A cell of it, written. -/
theorem set_ (h : MB w b X sh s) {s' : VS} {sh' : Value} {k : Nat} {v : Value} (hR : s'.R.length = 8) (hk : (mRow X sh s).set k v = mRow X sh' s') : MB (w.setCell ⟨b, k, none⟩ v) b X sh' s' := by
  refine ⟨?_, hR⟩
  rw [heap_setCell_same w b k _ _ v h.1, ← hk]
  simp
theorem mset {k : Nat} {v : Value} {s' : VS} {sh' : Value} (hL : s'.L = s.L) (hR : s'.R = s.R) (hk : k < 8) (e : (mMid X sh s).set k v = mMid X sh' s') : (mRow X sh s).set (97 + k) v = mRow X sh' s' := by
  unfold mRow
  rw [List.set_append_right _ _ (by rw [bdL_list]; omega), bdL_list, show 97 + k - 97 = k by omega, List.set_append_left _ _ (show k < (mMid X sh s).length from hk), e, hL, hR]
theorem sD (h : MB w b X sh s) (n : Nat) : MB (w.setCell ⟨b, 97, none⟩ (.int .u64 (n : Int))) b X sh { s with d := n } := h.set_ h.2 (mset (k := 0) rfl rfl (by omega) rfl)
theorem sT (h : MB w b X sh s) (n : Nat) : MB (w.setCell ⟨b, 98, none⟩ (.int .u64 (n : Int))) b X sh { s with t := n } := h.set_ h.2 (mset (k := 1) rfl rfl (by omega) rfl)
theorem sS (h : MB w b X sh s) (sh' : Value) (l : List (Nat × Nat × Int)) : MB (w.setCell ⟨b, 99, none⟩ sh') b X sh' { s with sh := l } := h.set_ h.2 (mset (k := 2) rfl rfl (by omega) rfl)
theorem sU (h : MB w b X sh s) (n : Nat) : MB (w.setCell ⟨b, 100, none⟩ (.int .i64 (n : Int))) b X sh { s with u := n } := h.set_ h.2 (mset (k := 3) rfl rfl (by omega) rfl)
theorem sE (h : MB w b X sh s) (n : Nat) : MB (w.setCell ⟨b, 101, none⟩ (.int .i64 (n : Int))) b X sh { s with e := n } := h.set_ h.2 (mset (k := 4) rfl rfl (by omega) rfl)
theorem sN (h : MB w b X sh s) (n : Nat) : MB (w.setCell ⟨b, 104, none⟩ (.int .i64 (n : Int))) b X sh { s with nx := n } := h.set_ h.2 (mset (k := 7) rfl rfl (by omega) rfl)
theorem cv_set2 : ∀ {L : List (Int × Nat)} {k : Nat} (_ : k < L.length) (c : Int × Nat), ((cv L).set (k * 2) (.int .i32 c.1)).set (k * 2 + 1) (.int .u32 ((c.2 : Nat) : Int)) = cv (L.set k c)
  | [], _, h, _ => by simp at h
  | d :: L, 0, _, c => rfl
  | d :: L, k + 1, h, c => by
    have := cv_set2 (L := L) (k := k) (by simpa using h) c
    rw [cv_cons, show (k + 1) * 2 + 1 = k * 2 + 1 + 1 + 1 by omega, show (k + 1) * 2 = k * 2 + 1 + 1 by omega, List.set_cons_succ, List.set_cons_succ, List.set_cons_succ, List.set_cons_succ, this]
    rfl
theorem rset {k : Nat} {v : Value} (hk : k < (cv s.R).length) : (mRow X sh s).set (105 + k) v = (bdL s.L).toList ++ (mMid X sh s ++ ((cv s.R).set k v ++ mEnd X)) := by
  unfold mRow
  rw [List.set_append_right _ _ (by rw [bdL_list]; omega), bdL_list, List.set_append_right _ _ (by simp [mMid]; omega), show 105 + k - 97 - (mMid X sh s).length = k by simp [mMid]; omega, List.set_append_left _ _ hk]
theorem sR (h : MB w b X sh s) {i : Nat} (hi : i < 8) (c : Int × Nat) : MB ((w.setCell ⟨b, 105 + i * 2, none⟩ (.int .i32 c.1)).setCell ⟨b, 105 + i * 2 + 1, none⟩ (.int .u32 ((c.2 : Nat) : Int))) b X sh (s.setR i c) := by
  refine ⟨?_, by simp [VS.setR, h.2]⟩
  have h1 := heap_setCell_same w b (105 + i * 2) _ _ (.int .i32 c.1) h.1
  rw [heap_setCell_same _ b _ _ _ _ h1]
  have hl : (cv s.R).length = 16 := by simp [h.2]
  have e : ((mRow X sh s).set (105 + i * 2) (.int .i32 c.1)).set (105 + i * 2 + 1) (.int .u32 ((c.2 : Nat) : Int)) = mRow X sh (s.setR i c) := by
    rw [rset (by omega)]
    have e1 := rset (X := X) (sh := sh) (s := s) (k := i * 2 + 1) (v := .int .u32 ((c.2 : Nat) : Int)) (by omega)
    rw [Nat.add_assoc, List.set_append_right _ _ (by rw [bdL_list]; omega), bdL_list, List.set_append_right _ _ (by simp [mMid]; omega), show 105 + (i * 2 + 1) - 97 - (mMid X sh s).length = i * 2 + 1 by simp [mMid]; omega, List.set_append_left _ _ (by rw [List.length_set]; omega), cv_set2 (by rw [h.2]; exact hi)]
    rfl
  rw [← e]
  simp
end MB
theorem setCells_heap (g : Nat) : ∀ (vs : List Value) (o : Nat) (w : World) (cs : List Value) (t : TypeId), w.heap[g]? = some (.cells cs.toArray t (0, 0)) → o + vs.length ≤ cs.length → (w.setCells g o vs).heap[g]? = some (.cells (cs.take o ++ vs ++ cs.drop (o + vs.length)).toArray t (0, 0))
  | [], o, w, cs, t, h, _ => by simpa [World.setCells] using h
  | v :: vs, o, w, cs, t, h, hl => by
    have h1 := heap_setCell_same w g o _ _ v h
    have e : cs.toArray.setIfInBounds o v = (cs.set o v).toArray := by simp
    rw [e] at h1
    simp only [List.length_cons] at hl
    have ih := setCells_heap g vs (o + 1) _ _ t h1 (by simp; omega)
    rw [World.setCells, ih]
    congr 3
    rw [List.take_set, List.take_add_one, List.getElem?_eq_getElem (by omega), List.drop_set]
    rw [List.set_append_right _ _ (by simp; omega)]
    simp only [List.length_take, Option.toList_some, List.length_cons, List.append_assoc, List.cons_append]
    rw [show o - min o cs.length = 0 by omega, if_pos (by omega), show o + 1 + vs.length = o + (vs.length + 1) by omega]
    rfl
theorem MB.sL {w : World} {b : Nat} {X : MX} {sh : Value} {s : VS} (h : MB w b X sh s) (M : List (Int × Nat)) : MB (w.setCells b 0 (bdL M).toList) b X sh { s with L := M } := by
  refine ⟨?_, h.2⟩
  rw [setCells_heap b (bdL M).toList 0 w _ _ h.1 (by rw [bdL_list, mRow_size h.2]; omega), bdL_list]
  congr 3
theorem MB.range {w : World} {b : Nat} {X : MX} {sh : Value} {s : VS} (h : MB w b X sh s) : w.rangeAt b 0 (bdL s.L).toList := fun j v hv => by
  rw [Nat.zero_add]
  refine h.at_ ?_
  unfold mRow
  rw [List.getElem?_append_left (List.getElem?_eq_some_iff.1 hv).1]
  exact hv
theorem MB.there {w : World} {b : Nat} {X : MX} {sh : Value} {s : VS} (h : MB w b X sh s) : w.there b 0 97 := fun j hj => by
  refine ⟨?_, h.free _⟩
  obtain ⟨v, hv⟩ : ∃ v, (bdL s.L).toList[j]? = some v := ⟨_, List.getElem?_eq_getElem (by rw [bdL_list]; exact hj)⟩
  rw [h.range j v hv]
  rfl
theorem mod_setCells (w : World) (b o : Nat) (vs : List Value) : Mod (fun i => i = b) w (w.setCells b o vs) := by
  induction vs generalizing o w with
  | nil => exact Mod.refl _ _
  | cons v vs ih => exact (Mod.setCell w ⟨b, o, none⟩ v).trans (ih _ _) (fun _ _ h => h) (fun _ _ h => h)
/-- Its parts, in another block: a row of the shows, kept. -/
theorem RowS.mod {w w' : World} {B : Nat} {v : Value} {l : List (Nat × Nat × Int)} (h : RowS w B v l) {S : Nat → Prop} (hm : Mod S w w') (hs : ∀ k, v.ownBlock = some k → ¬ S k) : RowS w' B v l := owns_mod h hm hs
/-- The machine, and its shows' row. -/
def MAt (w : World) (b : Nat) (r : Option Nat) (B : Nat) (X : MX) (s : VS) : Prop := ∃ sh, MB w b X sh s ∧ RowS w B sh s.sh ∧ sh.ownBlock = r ∧ r ≠ some b
namespace MAt
variable {w w' : World} {b : Nat} {r : Option Nat} {B : Nat} {X : MX} {s : VS}
theorem lt (h : MAt w b r B X s) : b < w.heap.size := by obtain ⟨_, h1, _⟩ := h; exact h1.lt
theorem rlt (h : MAt w b r B X s) : ∀ k, r = some k → B ≤ k ∧ k < w.heap.size := by
  obtain ⟨_, _, h2, h3, _⟩ := h
  intro k hk
  exact World.ownsRow.lt h2 k (h3.trans hk)
theorem mod (h : MAt w b r B X s) {S : Nat → Prop} (hm : Mod S w w') (hb : ¬ S b) (hr : ∀ k, r = some k → ¬ S k) : MAt w' b r B X s := by
  obtain ⟨sh, h1, h2, h3, h4⟩ := h
  exact ⟨sh, h1.mod hm hb, h2.mod hm (fun k hk => hr k (h3 ▸ hk)), h3, h4⟩
theorem ext (h : MAt w b r B X s) (hm : Below w.heap.size w w') : MAt w' b r B X s :=
  h.mod (Mod.of_below hm) (by have := h.lt; omega) (fun k hk => by have := (h.rlt k hk).2; omega)
end MAt
end Go.Proofs.YtnbbglhpjpebhaaDoor
/- The machine's small methods: what each makes of it. Conditions: the numbers fit; the place is a cell's. -/
namespace Go.Proofs.YtnbbglhpjpebhaaDoor
open Go.RowKit

abbrev MM (b : Nat) (w w' : World) : Prop := Mod (fun k => k = b) w w'
namespace MM
variable {b : Nat} {w w' w2 : World}
theorem refl_ (b : Nat) (w : World) : MM b w w := Mod.refl _ _
theorem ofB (h : Below w.heap.size w w') : MM b w w' := (Mod.of_below h).mono fun i hi h => by omega
theorem then_ (h : MM b w w') (k : MM b w' w2) : MM b w w2 := h.trans k (fun _ _ h => h) (fun _ _ h => h)
theorem cell (h : MM b w w') (k : Nat) (v : Value) : MM b w (w'.setCell ⟨b, k, none⟩ v) := h.then_ (Mod.setCell w' ⟨b, k, none⟩ v)
theorem ext (h : MM b w w') (k : Below w'.heap.size w' w2) : MM b w w2 := h.then_ (ofB k)
theorem al (h : MM b w w') (o : Obj) : MM b w (w'.alloc o) := h.then_ (Mod.alloc _ _ _)
theorem dr (h : MM b w w') : MM b w w'.drew := h.then_ (Mod.drew _ _)
theorem long (h : MM b w w') (vs : List Value) : MM b w (w'.setCells b 0 vs) := h.then_ (mod_setCells _ _ _ _)
end MM
theorem MAt.back {w w' : World} {b : Nat} {r : Option Nat} {B : Nat} {X : MX} {s s' : VS} {sh : Value} (hS : RowS w B sh s.sh) (hr : sh.ownBlock = r) (hrb : r ≠ some b) (hM : MB w' b X sh s') (hm : MM b w w') (e : s'.sh = s.sh) : MAt w' b r B X s' :=
  ⟨sh, hM, by rw [e]; exact hS.mod hm (fun k hk h => hrb (hr.symm.trans (hk.trans (congrArg some h)))), hr, hrb⟩
theorem bd_sizeL (L : List (Int × Nat)) : (Tryd.prog.info? 36).map (·.size) = some (bdL L).toList.length := by rw [bdL_list]; kernel_rfl
theorem bdL_all (L : List (Int × Nat)) : (bdL L).all (·.oneCell') = true := bdA_all _ _ _
section
variable {ops : Array Oper} {rest : List Oper} {o : Oper} {a : Act} {w : World} {Q : Exit → Act → World → Prop} {X : MX} {sh : Value} {s : VS}
theorem wpList_ldM (hgd : o.guard = none) (x : Operand) (ho : o.op = .load 36 x) (b : Nat) (hx : a.eval x = .pointer (some ⟨b, 0, none⟩)) (h : MB w b X sh s)
    (k : wpList Tryd.prog ops Q rest (a.put o.dst (.agg (bdL s.L))) w) : wpList Tryd.prog ops Q (o :: rest) a w :=
  wpList_load_mid hgd _ x ho b 0 hx _ _ h.range Tryd.underlying36 rfl (bd_sizeL _) (by rw [Array.toArray_toList]; exact k)
theorem wpList_stM (hgd : o.guard = none) (x y : Operand) (ho : o.op = .store 36 x y) (b : Nat) (M : List (Int × Nat)) (hx : a.eval x = .pointer (some ⟨b, 0, none⟩)) (hy : a.eval y = .agg (bdL M)) (h : MB w b X sh s)
    (k : wpList Tryd.prog ops Q rest (a.put o.dst undef) (w.setCells b 0 (bdL M).toList)) : wpList Tryd.prog ops Q (o :: rest) a w :=
  wpList_store_mid hgd _ x y ho b 0 (bdL M) hx hy (by rw [bdL_size]; exact h.there) (by rw [bdL_size]; kernel_rfl) (bdL_all M) k
theorem wp_stM {K : Act → World → Prop} (x y : Operand) (ho : o.op = .store 36 x y) (b : Nat) (M : List (Int × Nat)) (hx : a.eval x = .pointer (some ⟨b, 0, none⟩)) (hy : a.eval y = .agg (bdL M)) (h : MB w b X sh s)
    (k : K (a.put o.dst undef) (w.setCells b 0 (bdL M).toList)) : o.wp Tryd.prog a w K Q :=
  wp_store_mid _ x y ho b 0 (bdL M) hx hy (by rw [bdL_size]; exact h.there) (by rw [bdL_size]; kernel_rfl) (bdL_all M) k
theorem wp_ldM {K : Act → World → Prop} (x : Operand) (ho : o.op = .load 36 x) (b : Nat) (hx : a.eval x = .pointer (some ⟨b, 0, none⟩)) (h : MB w b X sh s)
    (k : K (a.put o.dst (.agg (bdL s.L))) w) : o.wp Tryd.prog a w K Q :=
  wp_load_mid _ x ho b 0 hx _ _ h.range Tryd.underlying36 rfl (bd_sizeL _) (by rw [Array.toArray_toList]; exact k)
theorem yieldsIf_ldM {S : World → Prop} (hw : Region.wanted o (yielded ops a.tmps) = true) (x : Operand) (ho : o.op = .load 36 x) (b : Nat) (hx : a.eval x = .pointer (some ⟨b, 0, none⟩)) (hS : ∀ w, S w → MB w b X sh s) : YieldsIf Tryd.prog ops S o (.agg (bdL s.L)) a := by
  have h := yieldsIf_load_mid (P := Tryd.prog) (S := S) hw _ x ho b 0 hx (bdL s.L).toList _ (fun w h => (hS w h).range) Tryd.underlying36 rfl (bd_sizeL _)
  rw [Array.toArray_toList] at h
  exact h
end
theorem cl_eq {s : VS} {i : Nat} (hi : i < s.L.length) : s.cl i = s.L[i] := by simp [VS.cl, List.getD, hi]
set_option maxHeartbeats 2000000 in
set_option maxRecDepth 20000 in
theorem touch_calls (b : Nat) (r : Option Nat) (B : Nat) (X : MX) (s : VS) (i : Nat) (w : World) (h : MAt w b r B X s) (hi : i < 48) (ht : s.t < 18446744073709551616) :
    Calls Tryd.prog 89 #[.pointer (some ⟨b, 0, none⟩), .int .i64 i] w fun e w' => e = .returned (.tuple #[]) ∧ MAt w' b r B X { s with t := s.t ||| 2 ^ i } ∧ Mod (fun k => k = b) w w' := by
  obtain ⟨sh, hM, hS, hr, hrb⟩ := h
  have cT := hM.cT
  have fT := hM.free 98
  obtain ⟨t, hte⟩ : ∃ t, t = s.t := ⟨_, rfl⟩
  rw [← hte] at cT ht ⊢
  obtain ⟨P, hP⟩ : ∃ P : Nat, P = 2 ^ i := ⟨_, rfl⟩
  have hPl : P < 18446744073709551616 := by
    have : (2 : Nat) ^ i < 2 ^ 64 := Nat.pow_lt_pow_right (by omega) (by omega)
    omega
  have hPi : (2 : Int) ^ i = (P : Int) := by rw [hP]; simp
  have hw : IntKind.u64.wrap (P : Int) = (P : Int) := IntWalk.u64_in _ (by omega)
  have hor := Go.u64_or_nat t P ht hPl
  have hk2 : (i : Int) < 64 := by omega
  rw [← hP]
  obtain ⟨z, hz⟩ : ∃ z, z = t ||| P := ⟨_, rfl⟩
  rw [← hz] at hor ⊢
  have HM := Lib.hid hM
  have HS := Lib.hid hS
  clear hP hz hM hS hte ht
  go_enter Tryd.func89, Tryd.ntmps89
  go_wp2_with fail
  go_region
  go_wp2_with fail
  go_end0
  have hm := ((MM.refl_ b w).cell 98 (.int .u64 (z : Int))).dr
  exact ⟨rfl, MAt.back HS.out hr hrb ((HM.out.sT z).keep rfl) hm rfl, hm⟩
/-- A value that all may see. -/
theorem open_calls (b : Nat) (r : Option Nat) (B : Nat) (X : MX) (s : VS) (v : Int) (w : World) (h : MAt w b r B X s) :
    Calls Tryd.prog 48 #[.pointer (some ⟨b, 0, none⟩), .int .i32 v] w fun e w' => e = .returned (.agg #[.int .i32 v, .int .u32 (X.al : Int)]) ∧ Below w.heap.size w w' := by
  have h1 := h.ext (below_alloc1 w (.cells #[.int .i32 0, .int .u32 0] 103))
  obtain ⟨sh, hM, _⟩ := h1
  have cA := hM.cA
  have hl := h.lt
  clear h hM
  go_enter Tryd.func48, Tryd.ntmps48
  go_wp2_with fail
  exact bodyPost_ret (results_cell_row (P := Tryd.prog) rfl _ _ w.heap.size _ _ (0, 0) _ rfl (heap_alloc_new w _) Tryd.underlying103 rfl (by kernel_rfl)) rfl ⟨rfl, below_alloc1 _ _⟩
set_option maxHeartbeats 2000000 in
set_option maxRecDepth 20000 in
theorem load_calls (b : Nat) (r : Option Nat) (B : Nat) (X : MX) (s : VS) (k i : Nat) (w : World) (h : MAt w b r B X s) (hL : s.L.length ≤ 48) (hi : i < s.L.length) (hk : k < 8) :
    Calls Tryd.prog 65 #[.pointer (some ⟨b, 0, none⟩), .pointer (some ⟨b, 105 + k * 2, none⟩), .int .i64 i] w fun e w' => e = .returned (.tuple #[]) ∧ MAt w' b r B X (s.setR k (s.cl i)) ∧ MM b w w' := by
  obtain ⟨sh, hM, hS, hr, hrb⟩ := h
  have hlt := hM.lt
  have hA := fun W => At_in s.L i W hL hi
  rw [cl_eq hi]
  obtain ⟨x, hx⟩ : ∃ x, x = s.L[i].1 := ⟨_, rfl⟩
  obtain ⟨y, hy⟩ : ∃ y, y = s.L[i].2 := ⟨_, rfl⟩
  rw [← hx, ← hy] at hA
  have he : s.L[i] = (x, y) := Prod.ext hx.symm hy.symm
  rw [he]
  have HM := Lib.hid hM
  have HS := Lib.hid hS
  clear hx hy he hM hS
  go_enter Tryd.func65, Tryd.ntmps65
  go_wp2_with ((with_reducible refine at_ld 36 12 ?_); refine wpList_ldM rfl (.tmp 12) rfl b rfl HM.out ?_)
  refine (hA _).mono ?_
  rintro e w1 ⟨rfl, hb⟩
  have hM1 := (HM.out.ext hb).alloc (.cells #[.int .i32 x, .int .u32 (y : Int)] 33)
  have c0 := hM1.cRv hk
  have c1 := hM1.cRl hk
  have f0 := hM1.free (105 + k * 2)
  have f1 := hM1.free (105 + k * 2 + 1)
  have hm := ((((MM.ofB (b := b) hb)).al (.cells #[.int .i32 x, .int .u32 (y : Int)] 33)).cell (105 + k * 2) (.int .i32 x)).cell (105 + k * 2 + 1) (.int .u32 (y : Int))
  have hM2 := Lib.hid (hM1.sR hk (x, y))
  have hlt1 := hM1.lt
  have hsz := hb.size
  clear hM1 hb hA
  go_wp2_with fail
  go_end0
  exact ⟨rfl, MAt.back HS.out hr hrb hM2.out hm rfl, hm⟩
end Go.Proofs.YtnbbglhpjpebhaaDoor
/- The machine's clear, store, place: what each makes of it. Conditions: the numbers fit; the place is a cell's. -/
namespace Go.Proofs.YtnbbglhpjpebhaaDoor
open Go.RowKit

theorem below_undrew2 {B : Nat} {w w' : World} (h : Below B w.drew w') : Below B w w' := ⟨h.os, h.tape, h.output, h.size, h.block⟩
/-- Block g is a register that came. -/
def BoxG (w : World) (g : Nat) (x : Int) (y : Nat) : Prop := w.heap[g]? = some (.cells #[.int .i32 x, .int .u32 (y : Int)] 103 (0, 0))
namespace BoxG
variable {w w' : World} {g : Nat} {x : Int} {y : Nat}
theorem lt (h : BoxG w g x y) : g < w.heap.size := (Array.getElem?_eq_some_iff.1 h).1
theorem c0 (h : BoxG w g x y) : w.cell? ⟨g, 0, none⟩ = some (.int .i32 x) := (cell_of_row w g 0 _ _ _ h).trans (show _ = some _ from rfl)
theorem c1 (h : BoxG w g x y) : w.cell? ⟨g, 1, none⟩ = some (.int .u32 (y : Int)) := (cell_of_row w g 1 _ _ _ h).trans (show _ = some _ from rfl)
theorem ext (h : BoxG w g x y) (hb : Below w.heap.size w w') : BoxG w' g x y := (hb.block g h.lt).trans h
theorem mod {S : Nat → Prop} (h : BoxG w g x y) (hm : Mod S w w') (hs : ¬ S g) : BoxG w' g x y := (hm.block g h.lt hs).trans h
end BoxG
set_option maxHeartbeats 2000000 in
set_option maxRecDepth 20000 in
theorem clear_calls (b : Nat) (r : Option Nat) (B : Nat) (X : MX) (s : VS) (x : Int) (m : Nat) (w : World) (h : MAt w b r B X s) (hal : X.al < 4294967296) (hm : m < 4294967296) :
    Calls Tryd.prog 69 #[.pointer (some ⟨b, 0, none⟩), .agg #[.int .i32 x, .int .u32 (m : Int)]] w fun e w' => e = .returned (.bool (VS.clr X.al (x, m))) ∧ MAt w' b r B X (if VS.clr X.al (x, m) = true then s else s.fail 8) ∧ MM b w w' := by
  obtain ⟨sh, hM, hS, hr, hrb⟩ := h
  have hb0 := below_alloc1 w (.cells #[.int .i32 x, .int .u32 (m : Int)] 103)
  have hM1 := hM.alloc (.cells #[.int .i32 x, .int .u32 (m : Int)] 103)
  have cA := hM1.cA
  have cE := hM1.cE
  have fE := hM1.free 101
  have hW := fun W => MWithin_calls X.al m W hal hm
  rw [show VS.clr X.al (x, m) = decide (lessN X.al m = 0) from rfl]
  obtain ⟨d, hd⟩ : ∃ d, d = decide (lessN X.al m = 0) := ⟨_, rfl⟩
  rw [← hd] at hW ⊢
  have HS := Lib.hid hS
  have hlt := hM.lt
  obtain ⟨wz, hwz⟩ : ∃ wz, wz = w.alloc (.cells #[.int .i32 x, .int .u32 (m : Int)] 103) := ⟨_, rfl⟩
  have g1 : BoxG (w.alloc (.cells #[.int .i32 x, .int .u32 (m : Int)] 103)) w.heap.size x m := heap_alloc_new w _
  have gc := g1.c1
  clear hd hM hS g1
  go_enter Tryd.func69, Tryd.ntmps69
  go_wp2_with fail
  rw [← hwz] at hb0 hM1 cA cE fE gc ⊢
  have HM := Lib.hid hM1
  clear hwz hM1
  go_region_with (go_at_call 44; refine (hW _).mono ?_; rintro e w2 ⟨rfl, rfl⟩)
  all_goals
    cases d with
    | true =>
      go_wp2_with fail
      go_ret
      have hmm := (MM.ofB (b := b) hb0).dr
      exact ⟨rfl, MAt.back HS.out hr hrb (HM.out.keep rfl) hmm rfl, hmm⟩
    | false =>
      go_wp2_with fail
      go_ret
      have hmm := ((MM.ofB (b := b) hb0).dr).cell 101 (.int .i64 8)
      exact ⟨rfl, MAt.back HS.out hr hrb ((HM.out.keep (w' := wz.drew) rfl).sE 8) hmm rfl, hmm⟩

set_option maxHeartbeats 4000000 in
set_option maxRecDepth 20000 in
theorem store_calls (b : Nat) (r : Option Nat) (B : Nat) (X : MX) (s : VS) (i : Nat) (x : Int) (y : Nat) (w : World) (h : MAt w b r B X s) (hL : s.L.length ≤ 48) (hi : i < s.L.length) (ht : s.t < 18446744073709551616) :
    Calls Tryd.prog 66 #[.pointer (some ⟨b, 0, none⟩), .int .i64 i, .agg #[.int .i32 x, .int .u32 (y : Int)]] w fun e w' => e = .returned (.tuple #[]) ∧ MAt w' b r B X (s.put i (x, y)) ∧ MM b w w' := by
  obtain ⟨sh, hM, hS, hr, hrb⟩ := h
  have hmm := MM.ofB (b := b) (below_alloc1 w (.cells #[.int .i32 x, .int .u32 (y : Int)] 103))
  have q1 := hM.alloc (.cells #[.int .i32 x, .int .u32 (y : Int)] 103)
  have g1 : BoxG (w.alloc (.cells #[.int .i32 x, .int .u32 (y : Int)] 103)) w.heap.size x y := heap_alloc_new w _
  have hlt := hM.lt
  have hP := fun W => Put_in s.L i x y W hL hi
  obtain ⟨wz, hwz⟩ : ∃ wz, wz = w.alloc (.cells #[.int .i32 x, .int .u32 (y : Int)] 103) := ⟨_, rfl⟩
  have HS := Lib.hid hS
  clear hS hM
  go_enter Tryd.func66, Tryd.ntmps66
  go_wp2_with fail
  rw [← hwz] at hmm q1 g1 ⊢
  clear hwz
  refine wp_region_held_drew (S := fun w' => BoxG w' w.heap.size x y) (by kernel_rfl) ?_ (fun hHeld => ?_)
  · exact g1
  refine wpAnyH_take (i := 0) (v := ?zv0) (by simp only [List.getElem?_toArray, List.getElem?_cons_zero]; rfl) (by kernel_rfl) (by kernel_rfl) (by kernel_rfl) (by exact fun _ _ _ h => h) (Or.inl ⟨by rfl, ?zy0⟩) hHeld ?_
  case zy0 => (intro w hSw; (try dsimp only at hSw); have hy0 := hSw.c0; have hy1 := hSw.c1; clear hSw; go_simp; try (with_reducible rfl))
  try simp only [Act.put, List.setIfInBounds_toArray, List.set_cons_zero, List.set_cons_succ]
  refine wpAnyH_take (i := 1) (v := ?zv1) (by simp only [List.getElem?_toArray, List.getElem?_cons_succ, List.getElem?_cons_zero]; rfl) (by kernel_rfl) (by kernel_rfl) (by kernel_rfl) (by exact fun _ _ _ h => h) (Or.inl ⟨by rfl, ?zy1⟩) hHeld ?_
  case zy1 => (intro w hSw; (try dsimp only at hSw); have hy0 := hSw.c0; have hy1 := hSw.c1; clear hSw; go_simp; try (with_reducible rfl))
  try simp only [Act.put, List.setIfInBounds_toArray, List.set_cons_zero, List.set_cons_succ]
  refine wpAnyH_take (i := 2) (v := ?zv2) (by simp only [List.getElem?_toArray, List.getElem?_cons_succ, List.getElem?_cons_zero]; rfl) (by kernel_rfl) (by kernel_rfl) (by kernel_rfl) (by exact fun _ _ _ h => h) (Or.inl ⟨by rfl, ?zy2⟩) hHeld ?_
  case zy2 => (intro w hSw; (try dsimp only at hSw); have hy0 := hSw.c0; have hy1 := hSw.c1; clear hSw; go_simp; try (with_reducible rfl))
  try simp only [Act.put, List.setIfInBounds_toArray, List.set_cons_zero, List.set_cons_succ]
  refine wpAnyH_take (i := 3) (v := ?zv3) (by simp only [List.getElem?_toArray, List.getElem?_cons_succ, List.getElem?_cons_zero]; rfl) (by kernel_rfl) (by kernel_rfl) (by kernel_rfl) (by exact fun _ _ _ h => h) (Or.inl ⟨by rfl, ?zy3⟩) hHeld ?_
  case zy3 => (intro w hSw; (try dsimp only at hSw); have hy0 := hSw.c0; have hy1 := hSw.c1; clear hSw; go_simp; try (with_reducible rfl))
  try simp only [Act.put, List.setIfInBounds_toArray, List.set_cons_zero, List.set_cons_succ]
  refine wpAnyH_take (i := 4) (v := ?zv4) (by simp only [List.getElem?_toArray, List.getElem?_cons_succ, List.getElem?_cons_zero]; rfl) (by kernel_rfl) (by kernel_rfl) (by kernel_rfl) (by exact fun _ _ _ h => h) (Or.inl ⟨by rfl, ?zy4⟩) hHeld ?_
  case zy4 => (intro w hSw; (try dsimp only at hSw); have hy0 := hSw.c0; have hy1 := hSw.c1; clear hSw; go_simp; try (with_reducible rfl))
  try simp only [Act.put, List.setIfInBounds_toArray, List.set_cons_zero, List.set_cons_succ]
  refine wpAnyH_take (i := 6) (v := ?zv6) (by simp only [List.getElem?_toArray, List.getElem?_cons_succ, List.getElem?_cons_zero]; rfl) (by kernel_rfl) (by kernel_rfl) (by kernel_rfl) (by exact fun _ _ _ h => h) (Or.inl ⟨by rfl, ?zy6⟩) hHeld ?_
  case zy6 => (intro w hSw; (try dsimp only at hSw); have hy0 := hSw.c0; have hy1 := hSw.c1; clear hSw; go_simp; try (with_reducible rfl))
  try simp only [Act.put, List.setIfInBounds_toArray, List.set_cons_zero, List.set_cons_succ]
  refine wpAnyH_take (i := 7) (v := ?zv7) (by simp only [List.getElem?_toArray, List.getElem?_cons_succ, List.getElem?_cons_zero]; rfl) (by kernel_rfl) (by kernel_rfl) (by kernel_rfl) (by exact fun _ _ _ h => h) (Or.inl ⟨by rfl, ?zy7⟩) hHeld ?_
  case zy7 => (intro w hSw; (try dsimp only at hSw); have hy0 := hSw.c0; have hy1 := hSw.c1; clear hSw; go_simp; try (with_reducible rfl))
  try simp only [Act.put, List.setIfInBounds_toArray, List.set_cons_zero, List.set_cons_succ]
  refine wpAnyH_ready (rs := [5]) (by kernel_rfl) (by simp) ?_
  refine AllReadyH.cons (by simp only [List.getElem?_toArray, List.getElem?_cons_succ, List.getElem?_cons_zero]; rfl) (fun KK hKK => ?_) AllReadyH.nil
  rw [if_pos (by rfl)]
  refine wp_ldM (.tmp 11) rfl b rfl q1 ?_
  refine hKK.out _ _ ?_ (fun hHeld => ?_)
  · exact g1
  clear hKK KK
  try simp only [Act.put]
  refine wpAnyH_ready (rs := [8]) (by kernel_rfl) (by simp) ?_
  refine AllReadyH.cons (by simp only [List.getElem?_toArray, List.getElem?_cons_succ, List.getElem?_cons_zero]; rfl) (fun KK hKK => ?_) AllReadyH.nil
  go_simp
  (with_reducible refine (hP _).mono ?_)
  rintro e w6 ⟨rfl, h9⟩
  have h9 := below_undrew2 h9
  have hmm := hmm.ext h9
  have g1 := g1.ext h9
  have q1 := q1.ext h9
  clear h9
  go_wp2_with fail
  refine hKK.out _ _ ?_ (fun hHeld => ?_)
  · exact g1
  clear hKK KK
  try simp only [Act.put, List.setIfInBounds_toArray, List.set_cons_zero, List.set_cons_succ]
  refine wpAnyH_take (i := 9) (v := ?zv9) (by simp only [List.getElem?_toArray, List.getElem?_cons_succ, List.getElem?_cons_zero]; rfl) (by kernel_rfl) (by kernel_rfl) (by kernel_rfl) (by exact fun _ _ _ h => h) (Or.inl ⟨by rfl, ?zy9⟩) hHeld ?_
  case zy9 => (intro w hSw; (try dsimp only at hSw); have hy0 := hSw.c0; have hy1 := hSw.c1; clear hSw; go_simp; try (with_reducible rfl))
  try simp only [Act.put, List.setIfInBounds_toArray, List.set_cons_zero, List.set_cons_succ]
  refine wpAnyH_take (i := 10) (v := ?zv10) (by simp only [List.getElem?_toArray, List.getElem?_cons_succ, List.getElem?_cons_zero]; rfl) (by kernel_rfl) (by kernel_rfl) (by kernel_rfl) (by exact fun _ _ _ h => h) (Or.inl ⟨by rfl, ?zy10⟩) hHeld ?_
  case zy10 => (intro w hSw; (try dsimp only at hSw); have hy0 := hSw.c0; have hy1 := hSw.c1; clear hSw; go_simp; try (with_reducible rfl))
  try simp only [Act.put, List.setIfInBounds_toArray, List.set_cons_zero, List.set_cons_succ]
  refine wpAnyH_take (i := 11) (v := ?zv11) (by simp only [List.getElem?_toArray, List.getElem?_cons_succ, List.getElem?_cons_zero]; rfl) (by kernel_rfl) (by kernel_rfl) (by kernel_rfl) (by exact fun _ _ _ h => h) (Or.inl ⟨by rfl, ?zy11⟩) hHeld ?_
  case zy11 => (intro w hSw; (try dsimp only at hSw); have hy0 := hSw.c0; have hy1 := hSw.c1; clear hSw; go_simp; try (with_reducible rfl))
  try simp only [Act.put, List.setIfInBounds_toArray, List.set_cons_zero, List.set_cons_succ]
  refine wpAnyH_take (i := 12) (v := ?zv12) (by simp only [List.getElem?_toArray, List.getElem?_cons_succ, List.getElem?_cons_zero]; rfl) (by kernel_rfl) (by kernel_rfl) (by kernel_rfl) (by exact fun _ _ _ h => h) (Or.inl ⟨by rfl, ?zy12⟩) hHeld ?_
  case zy12 => (intro w hSw; (try dsimp only at hSw); have hy0 := hSw.c0; have hy1 := hSw.c1; clear hSw; go_simp; try (with_reducible rfl))
  try simp only [Act.put, List.setIfInBounds_toArray, List.set_cons_zero, List.set_cons_succ]
  refine wpAnyH_take (i := 13) (v := ?zv13) (by simp only [List.getElem?_toArray, List.getElem?_cons_succ, List.getElem?_cons_zero]; rfl) (by kernel_rfl) (by kernel_rfl) (by kernel_rfl) (by exact fun _ _ _ h => h) (Or.inl ⟨by rfl, ?zy13⟩) hHeld ?_
  case zy13 => (intro w hSw; (try dsimp only at hSw); have hy0 := hSw.c0; have hy1 := hSw.c1; clear hSw; go_simp; try (with_reducible rfl))
  try simp only [Act.put, List.setIfInBounds_toArray, List.set_cons_zero, List.set_cons_succ]
  refine wpAnyH_take (i := 14) (v := ?zv14) (by simp only [List.getElem?_toArray, List.getElem?_cons_succ, List.getElem?_cons_zero]; rfl) (by kernel_rfl) (by kernel_rfl) (by kernel_rfl) (by exact fun _ _ _ h => h) (Or.inl ⟨by rfl, ?zy14⟩) hHeld ?_
  case zy14 => (intro w hSw; (try dsimp only at hSw); have hy0 := hSw.c0; have hy1 := hSw.c1; clear hSw; go_simp; try (with_reducible rfl))
  try simp only [Act.put, List.setIfInBounds_toArray, List.set_cons_zero, List.set_cons_succ]
  refine wpAnyH_ready (rs := [15]) (by kernel_rfl) (by simp) ?_
  refine AllReadyH.cons (by simp only [List.getElem?_toArray, List.getElem?_cons_succ, List.getElem?_cons_zero]; rfl) (fun KK hKK => ?_) AllReadyH.nil
  rw [if_pos (by rfl)]
  refine wp_stM (.tmp 20) (.tmp 16) rfl b (s.L.set i (x, y)) rfl rfl q1 ?_
  have hmm := hmm.long (bdL (s.L.set i (x, y))).toList
  have g1 := g1.mod (mod_setCells _ b 0 (bdL (s.L.set i (x, y))).toList) (by omega)
  have q1 := q1.sL (s.L.set i (x, y))
  refine hKK.out _ _ ?_ (fun hHeld => ?_)
  · exact g1
  clear hKK KK
  try simp only [Act.put]
  refine wpAnyH_done (by kernel_rfl) ?_ _
  have hA := MAt.back HS.out hr hrb q1 hmm rfl
  have hT := fun W (hW : W = w6.setCells b 0 (bdL (s.L.set i (x, y))).toList) => touch_calls b r B X { s with L := s.L.set i (x, y) } i W (by rw [hW]; exact hA) (by omega) ht
  clear q1 g1 hA
  go_wp2_with fail
  refine (hT _ rfl).mono ?_
  rintro e w7 ⟨rfl, h1, h2⟩
  clear hT
  go_wp2_with fail
  go_end0
  exact ⟨rfl, h1, hmm.then_ h2⟩
end Go.Proofs.YtnbbglhpjpebhaaDoor
/- The machine's place: an error, or the place that is meant. Conditions: the numbers fit. -/
namespace Go.Proofs.YtnbbglhpjpebhaaDoor
open Go.RowKit

/-- Block g is an instruction. -/
def BoxK (w : World) (g : Nat) (c : Cd) : Prop := w.heap[g]? = some (.cells (cdA c) 80 (0, 0))
namespace BoxK
variable {w w' : World} {g : Nat} {c : Cd}
theorem lt (h : BoxK w g c) : g < w.heap.size := (Array.getElem?_eq_some_iff.1 h).1
theorem c0 (h : BoxK w g c) : w.cell? ⟨g, 0, none⟩ = some (.int .u8 (c.op : Int)) := (cell_of_row w g 0 _ _ _ h).trans (show _ = some _ from rfl)
theorem c1 (h : BoxK w g c) : w.cell? ⟨g, 1, none⟩ = some (.int .u8 (c.a : Int)) := (cell_of_row w g 1 _ _ _ h).trans (show _ = some _ from rfl)
theorem c2 (h : BoxK w g c) : w.cell? ⟨g, 2, none⟩ = some (.int .u8 (c.b : Int)) := (cell_of_row w g 2 _ _ _ h).trans (show _ = some _ from rfl)
theorem c3 (h : BoxK w g c) : w.cell? ⟨g, 3, none⟩ = some (.int .u8 (c.c : Int)) := (cell_of_row w g 3 _ _ _ h).trans (show _ = some _ from rfl)
theorem c4 (h : BoxK w g c) : w.cell? ⟨g, 4, none⟩ = some (.int .i32 c.n) := (cell_of_row w g 4 _ _ _ h).trans (show _ = some _ from rfl)
theorem c5 (h : BoxK w g c) : w.cell? ⟨g, 5, none⟩ = some (.int .u32 (c.m : Int)) := (cell_of_row w g 5 _ _ _ h).trans (show _ = some _ from rfl)
theorem ext (h : BoxK w g c) (hb : Below w.heap.size w w') : BoxK w' g c := (hb.block g h.lt).trans h
theorem mod {S : Nat → Prop} (h : BoxK w g c) (hm : Mod S w w') (hs : ¬ S g) : BoxK w' g c := (hm.block g h.lt hs).trans h
end BoxK
theorem MAt.hB {w : World} {b : Nat} {r : Option Nat} {B : Nat} {X : MX} {s : VS} (h : MAt w b r B X s) : ∃ sh, MB w b X sh s ∧ RowS w B sh s.sh ∧ sh.ownBlock = r ∧ r ≠ some b := h
theorem MAt.mm {w w' : World} {b : Nat} {r : Option Nat} {B : Nat} {X : MX} {s : VS} (h : MAt w b r B X s) (hb : Below w.heap.size w w') : MAt w' b r B X s := h.ext hb
set_option maxHeartbeats 4000000 in
set_option maxRecDepth 20000 in
theorem place_calls (b : Nat) (r : Option Nat) (B : Nat) (X : MX) (s : VS) (c : Cd) (w : World) (h : MAt w b r B X s) (hok : okC s.R) (hal : X.al < 4294967296) (hL : s.L.length ≤ 48) (hb8 : c.b < 8) (hn0 : -2147483648 ≤ c.n) (hn1 : c.n ≤ 2147483647) :
    Calls Tryd.prog 67 #[.pointer (some ⟨b, 0, none⟩), .agg (cdA c)] w fun e w' => e = .returned (.tuple #[.int .i64 ((s.place X.al c).2 : Nat), .bool (decide ((s.place X.al c).1 = 0))]) ∧ MAt w' b r B X (if (s.place X.al c).1 = 0 then s else s.fail (s.place X.al c).1) ∧ MM b w w' := by
  obtain ⟨x, hx⟩ : ∃ x, x = (s.rg c.b).1 := ⟨_, rfl⟩
  obtain ⟨y, hy⟩ : ∃ y, y = (s.rg c.b).2 := ⟨_, rfl⟩
  have hRl : s.R.length = 8 := by obtain ⟨_, h1, _⟩ := h; exact h1.2
  have hfit := okC_get hok (i := c.b) (by omega)
  rw [← MB.rg_eq (s := s) (by omega), ← hx, ← hy] at hfit
  have hpl : s.place X.al c = if VS.clr X.al (x, y) = true then (if 0 ≤ c.n + x ∧ c.n + x < (s.L.length : Int) then (0, (c.n + x).toNat) else (7, 0)) else (8, 0) := by
    unfold VS.place
    rw [hx, hy]
  obtain ⟨d, hd⟩ : ∃ d, d = VS.clr X.al (x, y) := ⟨_, rfl⟩
  rw [← hd] at hpl
  have hC := fun W h => clear_calls b r B X s x y W h hal hfit.2
  rw [← hd] at hC
  obtain ⟨PE, hPE⟩ : ∃ PE, PE = (s.place X.al c).1 := ⟨_, rfl⟩
  obtain ⟨PI, hPI⟩ : ∃ PI, PI = (s.place X.al c).2 := ⟨_, rfl⟩
  rw [← hPE, ← hPI]
  rw [hpl] at hPE hPI
  obtain ⟨s1, hs1⟩ : ∃ s1, s1 = (if PE = 0 then s else s.fail PE) := ⟨_, rfl⟩
  obtain ⟨q, hq⟩ : ∃ q, q = decide (PE = 0) := ⟨_, rfl⟩
  rw [← hs1, ← hq]
  have HS1 := Lib.hid hs1
  have HQ := Lib.hid hq
  have HPE := Lib.hid hPE
  have HPI := Lib.hid hPI
  have hb0 := below_alloc1 w (.cells (cdA c) 80)
  have h1 := h.ext hb0
  have k1 : BoxK (w.alloc (.cells (cdA c) 80)) w.heap.size c := heap_alloc_new w _
  obtain ⟨sh, hM, _⟩ := h1.hB
  have c0 := hM.cRv hb8
  have c1 := hM.cRl hb8
  rw [← hx] at c0
  rw [← hy] at c1
  have hlt := h.lt
  have k2 := k1.c2
  have k4 := k1.c4
  have hsz : (w.alloc (.cells (cdA c) 80)).heap.size = w.heap.size + 1 := by simp
  have ei : (c.b : Int) < 8 := by omega
  obtain ⟨wz, hwz⟩ : ∃ wz, wz = w.alloc (.cells (cdA c) 80) := ⟨_, rfl⟩
  have hm := MM.ofB (b := b) hb0
  clear hpl hx hy hM h hd hPE hPI hs1 hq
  go_enter Tryd.func67, Tryd.ntmps67
  go_wp2_with fail
  rw [← hwz] at hb0 h1 k1 c0 c1 k2 k4 hsz hm ⊢
  clear hwz
  go_region
  go_wp2_with fail
  have hb1 : Below wz.heap.size wz (wz.alloc (.cells #[.int .i32 x, .int .u32 (y : Int)] 103)).drew := below_drew (below_alloc1 _ _)
  have h2 := h1.ext hb1
  have k2' := k1.ext hb1
  have g2 : BoxG (wz.alloc (.cells #[.int .i32 x, .int .u32 (y : Int)] 103)).drew wz.heap.size x y := heap_alloc_new wz _
  rw [hsz] at g2
  have hm2 := hm.ext hb1
  obtain ⟨W2, hW2⟩ : ∃ W2, W2 = (wz.alloc (.cells #[.int .i32 x, .int .u32 (y : Int)] 103)).drew := ⟨_, rfl⟩
  rw [← hW2] at h2 k2' g2 hm2 ⊢
  clear hW2 hb1 h1 k1 c0 c1 k2 k4 hm hb0 ei
  refine (hC W2 h2).mono ?_
  rintro e w3 ⟨rfl, h3, h4⟩
  have k3 := k2'.mod h4 (by omega)
  have g3 := g2.mod h4 (by omega)
  have hm3 := hm2.then_ h4
  clear hC k2' g2 hm2 h4 h2
  cases d with
  | false =>
    go_wp2_with fail
    go_ret2
    obtain rfl : PE = 8 := HPE.out
    obtain rfl : PI = 0 := HPI.out
    obtain rfl : s1 = s.fail 8 := HS1.out
    obtain rfl : q = false := HQ.out
    exact ⟨rfl, h3, hm3⟩
  | true =>
    rw [if_pos rfl] at h3
    have k4 := k3.c4
    have g0 := g3.c0
    have hwr : IntKind.i64.wrap (c.n + x) = c.n + x := IntWalk.i64_in _ (by omega)
    have hn2 : IntKind.i64.wrap c.n = c.n := IntWalk.i64_in _ (by omega)
    have hx2 : IntKind.i64.wrap x = x := IntWalk.i64_in _ (by omega)
    obtain ⟨sh, hM, hS, hr, hrb⟩ := h3
    have HM := Lib.hid hM
    have HS := Lib.hid hS
    by_cases hin : 0 ≤ c.n + x ∧ c.n + x < (s.L.length : Int)
    · obtain ⟨p, hp⟩ : ∃ p : Nat, (p : Int) = c.n + x := ⟨(c.n + x).toNat, by omega⟩
      have hpn : (c.n + x).toNat = p := by omega
      have hpl2 : p < s.L.length := by omega
      have hA := fun W => At_in s.L p W hL hpl2
      obtain ⟨x1, hx1⟩ : ∃ x1, x1 = s.L[p].1 := ⟨_, rfl⟩
      obtain ⟨y1, hy1⟩ : ∃ y1, y1 = s.L[p].2 := ⟨_, rfl⟩
      rw [← hx1, ← hy1] at hA
      obtain rfl : PE = 0 := by rw [HPE.out, if_pos rfl, if_pos hin]
      obtain rfl : s1 = s := HS1.out
      obtain rfl : q = true := HQ.out
      obtain rfl : PI = p := by rw [HPI.out, if_pos rfl, if_pos hin]; exact hpn
      have hadd : c.n + x = (PI : Int) := hp.symm
      rw [hadd] at hwr
      clear hpn hM hS hp hx1 hy1
      go_wp2_with ((with_reducible refine at_ld 36 32 ?_); refine wpList_ldM rfl (.tmp 32) rfl b rfl HM.out ?_)
      refine (hA _).mono ?_
      rintro e w4 ⟨rfl, hb4⟩
      clear hA
      go_wp2_with fail
      go_ret2
      have hmm := MM.al (MM.ofB (b := b) hb4) (.cells #[.int .i32 x1, .int .u32 (y1 : Int)] 33)
      exact ⟨rfl, MAt.back HS.out hr hrb ((HM.out.ext hb4).alloc _) hmm rfl, hm3.then_ hmm⟩
    · have hA := fun W => At_out s.L (c.n + x) W hin
      obtain rfl : PE = 7 := by rw [HPE.out, if_pos rfl, if_neg hin]
      obtain rfl : PI = 0 := by rw [HPI.out, if_pos rfl, if_neg hin]
      obtain rfl : s1 = s.fail 7 := HS1.out
      obtain rfl : q = false := HQ.out
      clear hM hS
      go_wp2_with ((with_reducible refine at_ld 36 32 ?_); refine wpList_ldM rfl (.tmp 32) rfl b rfl HM.out ?_)
      refine (hA _).mono ?_
      rintro e w4 ⟨rfl, hb4⟩
      have hmm := MM.al (MM.ofB (b := b) hb4) (.cells #[.int .i32 0, .int .u32 0] 33)
      have hM5 := (HM.out.ext hb4).alloc (.cells #[.int .i32 0, .int .u32 0] 33)
      have cE := hM5.cE
      have fE := hM5.free 101
      have HM5 := Lib.hid hM5
      have hl5 := hM5.lt
      clear hA hM5
      go_wp2_with fail
      go_ret2
      have hm6 := hmm.cell 101 (.int .i64 7)
      exact ⟨rfl, MAt.back HS.out hr hrb (HM5.out.sE 7) hm6 rfl, hm3.then_ hm6⟩
end Go.Proofs.YtnbbglhpjpebhaaDoor
/- What becomes of two registers, of three. Conditions: the numbers fit. -/
namespace Go.Proofs.YtnbbglhpjpebhaaDoor
open Go.RowKit

theorem meet_one (a b : Nat) : meetN a [b] = a &&& b := rfl
theorem meet_two (a b c : Nat) : meetN a [b, c] = a &&& b &&& c := rfl
theorem ms_new1 (w : World) (y : Nat) (t : TypeId) : Sl (w.alloc (.cells #[.int .u32 (y : Int)] t)) w.heap.size (some ⟨w.heap.size, 0, none⟩) (ms [y]) := Sl.cells_new w _ t
theorem ms_new2 (w : World) (y z : Nat) (t : TypeId) : Sl (w.alloc (.cells #[.int .u32 (y : Int), .int .u32 (z : Int)] t)) w.heap.size (some ⟨w.heap.size, 0, none⟩) (ms [y, z]) := Sl.cells_new w _ t
theorem boxg_new (w : World) (x : Int) (y : Nat) : BoxG (w.alloc (.cells #[.int .i32 x, .int .u32 (y : Int)] 103)) w.heap.size x y := heap_alloc_new w _
theorem BoxG.al {w : World} {g : Nat} {x : Int} {y : Nat} (h : BoxG w g x y) (o : Obj) : BoxG (w.alloc o) g x y := h.ext (below_alloc1 _ _)
theorem BoxG.other {w : World} {g : Nat} {x : Int} {y : Nat} (h : BoxG w g x y) {p : Addr} (hp : g ≠ p.block) (u : Value) : BoxG (w.setCell p u) g x y := (heap_setCell_other w p g u hp).trans h
theorem BoxG.f0 {w : World} {g : Nat} {x : Int} {y : Nat} (h : BoxG w g x y) : w.frozen? ⟨g, 0, none⟩ = false := frozen_of_row w g 0 _ _ h
theorem BoxG.f1 {w : World} {g : Nat} {x : Int} {y : Nat} (h : BoxG w g x y) : w.frozen? ⟨g, 1, none⟩ = false := frozen_of_row w g 1 _ _ h
theorem BoxG.put {w : World} {g : Nat} {x : Int} {y : Nat} (h : BoxG w g x y) (u : Int) (v : Nat) : BoxG ((w.setCell ⟨g, 0, none⟩ (.int .i32 u)).setCell ⟨g, 1, none⟩ (.int .u32 (v : Int))) g u v :=
  heap_setCell_same _ g 1 _ _ _ (heap_setCell_same w g 0 _ _ (.int .i32 u) h)
theorem BoxG.result {w : World} {g : Nat} {x : Int} {y : Nat} (h : BoxG w g x y) {fn : Func} {p : Tmp} (hf : fn.results = #[.cell p 103]) (tmps : Array Value) (hp : tmps.getD p undef = .pointer (some ⟨g, 0, none⟩)) : (results fn tmps).run Tryd.prog w = .ok (.agg #[.int .i32 x, .int .u32 (y : Int)]) w :=
  results_cell_row (P := Tryd.prog) hf tmps w g _ _ (0, 0) _ hp h Tryd.underlying103 rfl (by kernel_rfl)

set_option maxHeartbeats 4000000 in
set_option maxRecDepth 20000 in
theorem choose_calls (x y z : Int) (a b c : Nat) (w : World) (ha : a < 4294967296) (hb : b < 4294967296) (hc : c < 4294967296) :
    Calls Tryd.prog 68 #[.agg #[.int .i32 x, .int .u32 (a : Int)], .agg #[.int .i32 y, .int .u32 (b : Int)], .agg #[.int .i32 z, .int .u32 (c : Int)]] w fun e w' => e = .returned (.agg #[.int .i32 (if x ≠ 0 then y else z), .int .u32 ((a &&& b &&& c : Nat) : Int)]) ∧ Below w.heap.size w w' := by
  obtain ⟨v, hv⟩ : ∃ v, v = (if x ≠ 0 then y else z) := ⟨_, rfl⟩
  rw [← hv]
  have HV := Lib.hid hv
  have hM := fun W A bb hs => MMeet_calls a A [b, c] 2 2 bb W ha (by intro q hq; simp at hq; rcases hq with rfl | rfl <;> omega) hs rfl (by omega)
  rw [meet_two] at hM
  obtain ⟨m, hm⟩ : ∃ m, m = a &&& b &&& c := ⟨_, rfl⟩
  rw [← hm] at hM ⊢
  clear hv hm
  by_cases hx : x = 0
  · obtain rfl : v = z := by rw [HV.out]; simp [hx]
    subst hx
    go_enter Tryd.func68, Tryd.ntmps68
    have hb5 := (((below_alloc3 w (.cells #[.int .i32 0, .int .u32 (a : Int)] 103) (.cells #[.int .i32 y, .int .u32 (b : Int)] 103) (.cells #[.int .i32 v, .int .u32 (c : Int)] 103)).alloc (by simp; omega) (.cells #[.int .i32 0, .int .u32 0] 103)).alloc (by simp; omega) (.cells #[.int .i32 v, .int .u32 (c : Int)] 103))
    have g0 := ((((boxg_new w 0 a).al (.cells #[.int .i32 y, .int .u32 (b : Int)] 103)).al (.cells #[.int .i32 v, .int .u32 (c : Int)] 103)).al (.cells #[.int .i32 0, .int .u32 0] 103)).al (.cells #[.int .i32 v, .int .u32 (c : Int)] 103)
    have g1 := (((boxg_new (w.alloc (.cells #[.int .i32 0, .int .u32 (a : Int)] 103)) y b).al (.cells #[.int .i32 v, .int .u32 (c : Int)] 103)).al (.cells #[.int .i32 0, .int .u32 0] 103)).al (.cells #[.int .i32 v, .int .u32 (c : Int)] 103)
    have g2 := ((boxg_new ((w.alloc (.cells #[.int .i32 0, .int .u32 (a : Int)] 103)).alloc (.cells #[.int .i32 y, .int .u32 (b : Int)] 103)) v c).al (.cells #[.int .i32 0, .int .u32 0] 103)).al (.cells #[.int .i32 v, .int .u32 (c : Int)] 103)
    have g3 := (boxg_new (((w.alloc (.cells #[.int .i32 0, .int .u32 (a : Int)] 103)).alloc (.cells #[.int .i32 y, .int .u32 (b : Int)] 103)).alloc (.cells #[.int .i32 v, .int .u32 (c : Int)] 103)) 0 0).al (.cells #[.int .i32 v, .int .u32 (c : Int)] 103)
    have g4 := boxg_new ((((w.alloc (.cells #[.int .i32 0, .int .u32 (a : Int)] 103)).alloc (.cells #[.int .i32 y, .int .u32 (b : Int)] 103)).alloc (.cells #[.int .i32 v, .int .u32 (c : Int)] 103)).alloc (.cells #[.int .i32 0, .int .u32 0] 103)) v c
    have hz1 : (w.alloc (.cells #[.int .i32 0, .int .u32 (a : Int)] 103)).heap.size = w.heap.size + 1 := by simp
    have hz2 : ((w.alloc (.cells #[.int .i32 0, .int .u32 (a : Int)] 103)).alloc (.cells #[.int .i32 y, .int .u32 (b : Int)] 103)).heap.size = w.heap.size + 1 + 1 := by simp
    have hz3 : (((w.alloc (.cells #[.int .i32 0, .int .u32 (a : Int)] 103)).alloc (.cells #[.int .i32 y, .int .u32 (b : Int)] 103)).alloc (.cells #[.int .i32 v, .int .u32 (c : Int)] 103)).heap.size = w.heap.size + 1 + 1 + 1 := by simp
    have hz4 : ((((w.alloc (.cells #[.int .i32 0, .int .u32 (a : Int)] 103)).alloc (.cells #[.int .i32 y, .int .u32 (b : Int)] 103)).alloc (.cells #[.int .i32 v, .int .u32 (c : Int)] 103)).alloc (.cells #[.int .i32 0, .int .u32 0] 103)).heap.size = w.heap.size + 1 + 1 + 1 + 1 := by simp
    rw [hz1] at g1; rw [hz2] at g2; rw [hz3] at g3; rw [hz4] at g4
    clear hz1 hz2 hz3 hz4
    go_wp2_with fail
    obtain ⟨wz, hwz⟩ : ∃ wz, wz = (((((w.alloc (.cells #[.int .i32 0, .int .u32 (a : Int)] 103)).alloc (.cells #[.int .i32 y, .int .u32 (b : Int)] 103)).alloc (.cells #[.int .i32 v, .int .u32 (c : Int)] 103)).alloc (.cells #[.int .i32 0, .int .u32 0] 103)).alloc (.cells #[.int .i32 v, .int .u32 (c : Int)] 103)) := ⟨_, rfl⟩
    have g3 : BoxG ((((((w.alloc (.cells #[.int .i32 0, .int .u32 (a : Int)] 103)).alloc (.cells #[.int .i32 y, .int .u32 (b : Int)] 103)).alloc (.cells #[.int .i32 v, .int .u32 (c : Int)] 103)).alloc (.cells #[.int .i32 0, .int .u32 0] 103)).alloc (.cells #[.int .i32 v, .int .u32 (c : Int)] 103))) (w.heap.size + 1 + 1 + 1) 0 0 := g3
    rw [← hwz] at hb5 g0 g1 g2 g3 g4 ⊢
    clear hwz
    refine wp_region_held_drew (S := fun w' => BoxG w' w.heap.size 0 a ∧ BoxG w' (w.heap.size + 1) y b ∧ BoxG w' (w.heap.size + 1 + 1) v c ∧ BoxG w' (w.heap.size + 1 + 1 + 1 + 1) v c) (by kernel_rfl) ?_ (fun hHeld => ?_)
    · exact ⟨g0, g1, g2, g4⟩
    refine wpAnyH_take (i := 0) (v := ?zv0) (by simp only [List.getElem?_toArray, List.getElem?_cons_zero]; rfl) (by kernel_rfl) (by kernel_rfl) (by kernel_rfl) (by exact fun _ _ _ h => h) (Or.inl ⟨by rfl, ?zy0⟩) hHeld ?_
    case zy0 => (intro w hSw; (try dsimp only at hSw); have hy0 := hSw.1.c1; have hy1 := hSw.2.1.c1; have hy2 := hSw.2.2.1.c1; have hy3 := hSw.2.2.2.c0; clear hSw; go_simp; try (with_reducible rfl))
    try simp only [Act.put, List.setIfInBounds_toArray, List.set_cons_zero, List.set_cons_succ]
    refine wpAnyH_take (i := 1) (v := ?zv1) (by simp only [List.getElem?_toArray, List.getElem?_cons_succ, List.getElem?_cons_zero]; rfl) (by kernel_rfl) (by kernel_rfl) (by kernel_rfl) (by exact fun _ _ _ h => h) (Or.inl ⟨by rfl, ?zy1⟩) hHeld ?_
    case zy1 => (intro w hSw; (try dsimp only at hSw); have hy0 := hSw.1.c1; have hy1 := hSw.2.1.c1; have hy2 := hSw.2.2.1.c1; have hy3 := hSw.2.2.2.c0; clear hSw; go_simp; try (with_reducible rfl))
    try simp only [Act.put, List.setIfInBounds_toArray, List.set_cons_zero, List.set_cons_succ]
    refine wpAnyH_take (i := 2) (v := ?zv2) (by simp only [List.getElem?_toArray, List.getElem?_cons_succ, List.getElem?_cons_zero]; rfl) (by kernel_rfl) (by kernel_rfl) (by kernel_rfl) (by exact fun _ _ _ h => h) (Or.inl ⟨by rfl, ?zy2⟩) hHeld ?_
    case zy2 => (intro w hSw; (try dsimp only at hSw); have hy0 := hSw.1.c1; have hy1 := hSw.2.1.c1; have hy2 := hSw.2.2.1.c1; have hy3 := hSw.2.2.2.c0; clear hSw; go_simp; try (with_reducible rfl))
    try simp only [Act.put, List.setIfInBounds_toArray, List.set_cons_zero, List.set_cons_succ]
    refine wpAnyH_take (i := 3) (v := ?zv3) (by simp only [List.getElem?_toArray, List.getElem?_cons_succ, List.getElem?_cons_zero]; rfl) (by kernel_rfl) (by kernel_rfl) (by kernel_rfl) (by exact fun _ _ _ h => h) (Or.inl ⟨by rfl, ?zy3⟩) hHeld ?_
    case zy3 => (intro w hSw; (try dsimp only at hSw); have hy0 := hSw.1.c1; have hy1 := hSw.2.1.c1; have hy2 := hSw.2.2.1.c1; have hy3 := hSw.2.2.2.c0; clear hSw; go_simp; try (with_reducible rfl))
    try simp only [Act.put, List.setIfInBounds_toArray, List.set_cons_zero, List.set_cons_succ]
    refine wpAnyH_take (i := 4) (v := ?zv4) (by simp only [List.getElem?_toArray, List.getElem?_cons_succ, List.getElem?_cons_zero]; rfl) (by kernel_rfl) (by kernel_rfl) (by kernel_rfl) (by exact fun _ _ _ h => h) (Or.inl ⟨by rfl, ?zy4⟩) hHeld ?_
    case zy4 => (intro w hSw; (try dsimp only at hSw); have hy0 := hSw.1.c1; have hy1 := hSw.2.1.c1; have hy2 := hSw.2.2.1.c1; have hy3 := hSw.2.2.2.c0; clear hSw; go_simp; try (with_reducible rfl))
    try simp only [Act.put, List.setIfInBounds_toArray, List.set_cons_zero, List.set_cons_succ]
    refine wpAnyH_take (i := 5) (v := ?zv5) (by simp only [List.getElem?_toArray, List.getElem?_cons_succ, List.getElem?_cons_zero]; rfl) (by kernel_rfl) (by kernel_rfl) (by kernel_rfl) (by exact fun _ _ _ h => h) (Or.inl ⟨by rfl, ?zy5⟩) hHeld ?_
    case zy5 => (intro w hSw; (try dsimp only at hSw); have hy0 := hSw.1.c1; have hy1 := hSw.2.1.c1; have hy2 := hSw.2.2.1.c1; have hy3 := hSw.2.2.2.c0; clear hSw; go_simp; try (with_reducible rfl))
    try simp only [Act.put, List.setIfInBounds_toArray, List.set_cons_zero, List.set_cons_succ]
    refine wpAnyH_take (i := 6) (v := ?zv6) (by simp only [List.getElem?_toArray, List.getElem?_cons_succ, List.getElem?_cons_zero]; rfl) (by kernel_rfl) (by kernel_rfl) (by kernel_rfl) (by exact fun _ _ _ h => h) (Or.inl ⟨by rfl, ?zy6⟩) hHeld ?_
    case zy6 => (intro w hSw; (try dsimp only at hSw); have hy0 := hSw.1.c1; have hy1 := hSw.2.1.c1; have hy2 := hSw.2.2.1.c1; have hy3 := hSw.2.2.2.c0; clear hSw; go_simp; try (with_reducible rfl))
    try simp only [Act.put, List.setIfInBounds_toArray, List.set_cons_zero, List.set_cons_succ]
    refine wpAnyH_take (i := 7) (v := ?zv7) (by simp only [List.getElem?_toArray, List.getElem?_cons_succ, List.getElem?_cons_zero]; rfl) (by kernel_rfl) (by kernel_rfl) (by kernel_rfl) (by exact fun _ _ _ h => h) (Or.inl ⟨by rfl, ?zy7⟩) hHeld ?_
    case zy7 => (intro w hSw; (try dsimp only at hSw); have hy0 := hSw.1.c1; have hy1 := hSw.2.1.c1; have hy2 := hSw.2.2.1.c1; have hy3 := hSw.2.2.2.c0; clear hSw; go_simp; try (with_reducible rfl))
    try simp only [Act.put, List.setIfInBounds_toArray, List.set_cons_zero, List.set_cons_succ]
    refine wpAnyH_ready (rs := [8]) (by kernel_rfl) (by simp) ?_
    refine AllReadyH.cons (by simp only [List.getElem?_toArray, List.getElem?_cons_succ, List.getElem?_cons_zero]; rfl) (fun KK hKK => ?_) AllReadyH.nil
    go_simp
    have hb5 := hb5.alloc hb5.size (.cells #[.int .u32 (b : Int), .int .u32 (c : Int)] 31)
    have g0 := BoxG.al g0 (.cells #[.int .u32 (b : Int), .int .u32 (c : Int)] 31)
    have g1 := BoxG.al g1 (.cells #[.int .u32 (b : Int), .int .u32 (c : Int)] 31)
    have g2 := BoxG.al g2 (.cells #[.int .u32 (b : Int), .int .u32 (c : Int)] 31)
    have g3 := BoxG.al g3 (.cells #[.int .u32 (b : Int), .int .u32 (c : Int)] 31)
    have g4 := BoxG.al g4 (.cells #[.int .u32 (b : Int), .int .u32 (c : Int)] 31)
    have hs := ms_new2 wz b c 31
    have e0 := g3.c0
    have e1 := g3.c1
    have e2 := g3.f0
    have e3 := g3.f1
    refine hKK.out _ _ ?_ (fun hHeld => ?_)
    · exact ⟨g0, g1, g2, g4⟩
    clear hKK KK
    try simp only [Act.put, List.setIfInBounds_toArray, List.set_cons_zero, List.set_cons_succ]
    refine wpAnyH_ready (rs := [9]) (by kernel_rfl) (by simp) ?_
    refine AllReadyH.cons (by simp only [List.getElem?_toArray, List.getElem?_cons_succ, List.getElem?_cons_zero]; rfl) (fun KK hKK => ?_) AllReadyH.nil
    go_simp
    refine (hM _ _ _ (Sl.drew hs)).mono ?_
    rintro e w6 ⟨rfl, rfl⟩
    go_wp2_with fail
    refine hKK.out _ _ ?_ (fun hHeld => ?_)
    · exact ⟨g0, g1, g2, g4⟩
    clear hKK KK
    try simp only [Act.put, List.setIfInBounds_toArray, List.set_cons_zero, List.set_cons_succ]
    refine wpAnyH_take (i := 10) (v := ?zv10) (by simp only [List.getElem?_toArray, List.getElem?_cons_succ, List.getElem?_cons_zero]; rfl) (by kernel_rfl) (by kernel_rfl) (by kernel_rfl) (by exact fun _ _ _ h => h) (Or.inl ⟨by rfl, ?zy10⟩) hHeld ?_
    case zy10 => (intro w hSw; (try dsimp only at hSw); have hy0 := hSw.1.c1; have hy1 := hSw.2.1.c1; have hy2 := hSw.2.2.1.c1; have hy3 := hSw.2.2.2.c0; clear hSw; go_simp; try (with_reducible rfl))
    try simp only [Act.put, List.setIfInBounds_toArray, List.set_cons_zero, List.set_cons_succ]
    refine wpAnyH_ready (rs := [11]) (by kernel_rfl) (by simp) ?_
    refine AllReadyH.cons (by simp only [List.getElem?_toArray, List.getElem?_cons_succ, List.getElem?_cons_zero]; rfl) (fun KK hKK => ?_) AllReadyH.nil
    go_simp
    have g0 := (g0.other (p := ⟨w.heap.size + 1 + 1 + 1, 0, none⟩) (by dsimp only; omega) (.int .i32 v)).other (p := ⟨w.heap.size + 1 + 1 + 1, 1, none⟩) (by dsimp only; omega) (.int .u32 (m : Int))
    have g1 := (g1.other (p := ⟨w.heap.size + 1 + 1 + 1, 0, none⟩) (by dsimp only; omega) (.int .i32 v)).other (p := ⟨w.heap.size + 1 + 1 + 1, 1, none⟩) (by dsimp only; omega) (.int .u32 (m : Int))
    have g2 := (g2.other (p := ⟨w.heap.size + 1 + 1 + 1, 0, none⟩) (by dsimp only; omega) (.int .i32 v)).other (p := ⟨w.heap.size + 1 + 1 + 1, 1, none⟩) (by dsimp only; omega) (.int .u32 (m : Int))
    have g4 := (g4.other (p := ⟨w.heap.size + 1 + 1 + 1, 0, none⟩) (by dsimp only; omega) (.int .i32 v)).other (p := ⟨w.heap.size + 1 + 1 + 1, 1, none⟩) (by dsimp only; omega) (.int .u32 (m : Int))
    have g3 := g3.put v m
    have hb5 := (hb5.setCell (p := ⟨w.heap.size + 1 + 1 + 1, 0, none⟩) (by dsimp only; omega) (.int .i32 v)).setCell (p := ⟨w.heap.size + 1 + 1 + 1, 1, none⟩) (by dsimp only; omega) (.int .u32 (m : Int))
    refine hKK.out _ _ ?_ (fun hHeld => ?_)
    · exact ⟨g0, g1, g2, g4⟩
    clear hKK KK
    try simp only [Act.put, List.setIfInBounds_toArray, List.set_cons_zero, List.set_cons_succ]
    refine wpAnyH_done (by kernel_rfl) ?_ _
    go_wp2_with fail
    refine bodyPost_ret (BoxG.result (g := w.heap.size + 1 + 1 + 1) (x := v) (y := m) ?_ rfl _ rfl) rfl ⟨rfl, below_drew hb5⟩
    exact g3
  · obtain rfl : v = y := by rw [HV.out]; simp [hx]
    have hx1 : (x != 0) = true := by simp [hx]
    go_enter Tryd.func68, Tryd.ntmps68
    have hb5 := (((below_alloc3 w (.cells #[.int .i32 x, .int .u32 (a : Int)] 103) (.cells #[.int .i32 v, .int .u32 (b : Int)] 103) (.cells #[.int .i32 z, .int .u32 (c : Int)] 103)).alloc (by simp; omega) (.cells #[.int .i32 0, .int .u32 0] 103)).alloc (by simp; omega) (.cells #[.int .i32 v, .int .u32 (b : Int)] 103))
    have g0 := ((((boxg_new w x a).al (.cells #[.int .i32 v, .int .u32 (b : Int)] 103)).al (.cells #[.int .i32 z, .int .u32 (c : Int)] 103)).al (.cells #[.int .i32 0, .int .u32 0] 103)).al (.cells #[.int .i32 v, .int .u32 (b : Int)] 103)
    have g1 := (((boxg_new (w.alloc (.cells #[.int .i32 x, .int .u32 (a : Int)] 103)) v b).al (.cells #[.int .i32 z, .int .u32 (c : Int)] 103)).al (.cells #[.int .i32 0, .int .u32 0] 103)).al (.cells #[.int .i32 v, .int .u32 (b : Int)] 103)
    have g2 := ((boxg_new ((w.alloc (.cells #[.int .i32 x, .int .u32 (a : Int)] 103)).alloc (.cells #[.int .i32 v, .int .u32 (b : Int)] 103)) z c).al (.cells #[.int .i32 0, .int .u32 0] 103)).al (.cells #[.int .i32 v, .int .u32 (b : Int)] 103)
    have g3 := (boxg_new (((w.alloc (.cells #[.int .i32 x, .int .u32 (a : Int)] 103)).alloc (.cells #[.int .i32 v, .int .u32 (b : Int)] 103)).alloc (.cells #[.int .i32 z, .int .u32 (c : Int)] 103)) 0 0).al (.cells #[.int .i32 v, .int .u32 (b : Int)] 103)
    have g4 := boxg_new ((((w.alloc (.cells #[.int .i32 x, .int .u32 (a : Int)] 103)).alloc (.cells #[.int .i32 v, .int .u32 (b : Int)] 103)).alloc (.cells #[.int .i32 z, .int .u32 (c : Int)] 103)).alloc (.cells #[.int .i32 0, .int .u32 0] 103)) v b
    have hz1 : (w.alloc (.cells #[.int .i32 x, .int .u32 (a : Int)] 103)).heap.size = w.heap.size + 1 := by simp
    have hz2 : ((w.alloc (.cells #[.int .i32 x, .int .u32 (a : Int)] 103)).alloc (.cells #[.int .i32 v, .int .u32 (b : Int)] 103)).heap.size = w.heap.size + 1 + 1 := by simp
    have hz3 : (((w.alloc (.cells #[.int .i32 x, .int .u32 (a : Int)] 103)).alloc (.cells #[.int .i32 v, .int .u32 (b : Int)] 103)).alloc (.cells #[.int .i32 z, .int .u32 (c : Int)] 103)).heap.size = w.heap.size + 1 + 1 + 1 := by simp
    have hz4 : ((((w.alloc (.cells #[.int .i32 x, .int .u32 (a : Int)] 103)).alloc (.cells #[.int .i32 v, .int .u32 (b : Int)] 103)).alloc (.cells #[.int .i32 z, .int .u32 (c : Int)] 103)).alloc (.cells #[.int .i32 0, .int .u32 0] 103)).heap.size = w.heap.size + 1 + 1 + 1 + 1 := by simp
    rw [hz1] at g1; rw [hz2] at g2; rw [hz3] at g3; rw [hz4] at g4
    clear hz1 hz2 hz3 hz4
    go_wp2_with fail
    obtain ⟨wz, hwz⟩ : ∃ wz, wz = (((((w.alloc (.cells #[.int .i32 x, .int .u32 (a : Int)] 103)).alloc (.cells #[.int .i32 v, .int .u32 (b : Int)] 103)).alloc (.cells #[.int .i32 z, .int .u32 (c : Int)] 103)).alloc (.cells #[.int .i32 0, .int .u32 0] 103)).alloc (.cells #[.int .i32 v, .int .u32 (b : Int)] 103)) := ⟨_, rfl⟩
    have g3 : BoxG ((((((w.alloc (.cells #[.int .i32 x, .int .u32 (a : Int)] 103)).alloc (.cells #[.int .i32 v, .int .u32 (b : Int)] 103)).alloc (.cells #[.int .i32 z, .int .u32 (c : Int)] 103)).alloc (.cells #[.int .i32 0, .int .u32 0] 103)).alloc (.cells #[.int .i32 v, .int .u32 (b : Int)] 103))) (w.heap.size + 1 + 1 + 1) 0 0 := g3
    rw [← hwz] at hb5 g0 g1 g2 g3 g4 ⊢
    clear hwz
    refine wp_region_held_drew (S := fun w' => BoxG w' w.heap.size x a ∧ BoxG w' (w.heap.size + 1) v b ∧ BoxG w' (w.heap.size + 1 + 1) z c ∧ BoxG w' (w.heap.size + 1 + 1 + 1 + 1) v b) (by kernel_rfl) ?_ (fun hHeld => ?_)
    · exact ⟨g0, g1, g2, g4⟩
    refine wpAnyH_take (i := 0) (v := ?zv0) (by simp only [List.getElem?_toArray, List.getElem?_cons_zero]; rfl) (by kernel_rfl) (by kernel_rfl) (by kernel_rfl) (by exact fun _ _ _ h => h) (Or.inl ⟨by rfl, ?zy0⟩) hHeld ?_
    case zy0 => (intro w hSw; (try dsimp only at hSw); have hy0 := hSw.1.c1; have hy1 := hSw.2.1.c1; have hy2 := hSw.2.2.1.c1; have hy3 := hSw.2.2.2.c0; clear hSw; go_simp; try (with_reducible rfl))
    try simp only [Act.put, List.setIfInBounds_toArray, List.set_cons_zero, List.set_cons_succ]
    refine wpAnyH_take (i := 1) (v := ?zv1) (by simp only [List.getElem?_toArray, List.getElem?_cons_succ, List.getElem?_cons_zero]; rfl) (by kernel_rfl) (by kernel_rfl) (by kernel_rfl) (by exact fun _ _ _ h => h) (Or.inl ⟨by rfl, ?zy1⟩) hHeld ?_
    case zy1 => (intro w hSw; (try dsimp only at hSw); have hy0 := hSw.1.c1; have hy1 := hSw.2.1.c1; have hy2 := hSw.2.2.1.c1; have hy3 := hSw.2.2.2.c0; clear hSw; go_simp; try (with_reducible rfl))
    try simp only [Act.put, List.setIfInBounds_toArray, List.set_cons_zero, List.set_cons_succ]
    refine wpAnyH_take (i := 2) (v := ?zv2) (by simp only [List.getElem?_toArray, List.getElem?_cons_succ, List.getElem?_cons_zero]; rfl) (by kernel_rfl) (by kernel_rfl) (by kernel_rfl) (by exact fun _ _ _ h => h) (Or.inl ⟨by rfl, ?zy2⟩) hHeld ?_
    case zy2 => (intro w hSw; (try dsimp only at hSw); have hy0 := hSw.1.c1; have hy1 := hSw.2.1.c1; have hy2 := hSw.2.2.1.c1; have hy3 := hSw.2.2.2.c0; clear hSw; go_simp; try (with_reducible rfl))
    try simp only [Act.put, List.setIfInBounds_toArray, List.set_cons_zero, List.set_cons_succ]
    refine wpAnyH_take (i := 3) (v := ?zv3) (by simp only [List.getElem?_toArray, List.getElem?_cons_succ, List.getElem?_cons_zero]; rfl) (by kernel_rfl) (by kernel_rfl) (by kernel_rfl) (by exact fun _ _ _ h => h) (Or.inl ⟨by rfl, ?zy3⟩) hHeld ?_
    case zy3 => (intro w hSw; (try dsimp only at hSw); have hy0 := hSw.1.c1; have hy1 := hSw.2.1.c1; have hy2 := hSw.2.2.1.c1; have hy3 := hSw.2.2.2.c0; clear hSw; go_simp; try (with_reducible rfl))
    try simp only [Act.put, List.setIfInBounds_toArray, List.set_cons_zero, List.set_cons_succ]
    refine wpAnyH_take (i := 4) (v := ?zv4) (by simp only [List.getElem?_toArray, List.getElem?_cons_succ, List.getElem?_cons_zero]; rfl) (by kernel_rfl) (by kernel_rfl) (by kernel_rfl) (by exact fun _ _ _ h => h) (Or.inl ⟨by rfl, ?zy4⟩) hHeld ?_
    case zy4 => (intro w hSw; (try dsimp only at hSw); have hy0 := hSw.1.c1; have hy1 := hSw.2.1.c1; have hy2 := hSw.2.2.1.c1; have hy3 := hSw.2.2.2.c0; clear hSw; go_simp; try (with_reducible rfl))
    try simp only [Act.put, List.setIfInBounds_toArray, List.set_cons_zero, List.set_cons_succ]
    refine wpAnyH_take (i := 5) (v := ?zv5) (by simp only [List.getElem?_toArray, List.getElem?_cons_succ, List.getElem?_cons_zero]; rfl) (by kernel_rfl) (by kernel_rfl) (by kernel_rfl) (by exact fun _ _ _ h => h) (Or.inl ⟨by rfl, ?zy5⟩) hHeld ?_
    case zy5 => (intro w hSw; (try dsimp only at hSw); have hy0 := hSw.1.c1; have hy1 := hSw.2.1.c1; have hy2 := hSw.2.2.1.c1; have hy3 := hSw.2.2.2.c0; clear hSw; go_simp; try (with_reducible rfl))
    try simp only [Act.put, List.setIfInBounds_toArray, List.set_cons_zero, List.set_cons_succ]
    refine wpAnyH_take (i := 6) (v := ?zv6) (by simp only [List.getElem?_toArray, List.getElem?_cons_succ, List.getElem?_cons_zero]; rfl) (by kernel_rfl) (by kernel_rfl) (by kernel_rfl) (by exact fun _ _ _ h => h) (Or.inl ⟨by rfl, ?zy6⟩) hHeld ?_
    case zy6 => (intro w hSw; (try dsimp only at hSw); have hy0 := hSw.1.c1; have hy1 := hSw.2.1.c1; have hy2 := hSw.2.2.1.c1; have hy3 := hSw.2.2.2.c0; clear hSw; go_simp; try (with_reducible rfl))
    try simp only [Act.put, List.setIfInBounds_toArray, List.set_cons_zero, List.set_cons_succ]
    refine wpAnyH_take (i := 7) (v := ?zv7) (by simp only [List.getElem?_toArray, List.getElem?_cons_succ, List.getElem?_cons_zero]; rfl) (by kernel_rfl) (by kernel_rfl) (by kernel_rfl) (by exact fun _ _ _ h => h) (Or.inl ⟨by rfl, ?zy7⟩) hHeld ?_
    case zy7 => (intro w hSw; (try dsimp only at hSw); have hy0 := hSw.1.c1; have hy1 := hSw.2.1.c1; have hy2 := hSw.2.2.1.c1; have hy3 := hSw.2.2.2.c0; clear hSw; go_simp; try (with_reducible rfl))
    try simp only [Act.put, List.setIfInBounds_toArray, List.set_cons_zero, List.set_cons_succ]
    refine wpAnyH_ready (rs := [8]) (by kernel_rfl) (by simp) ?_
    refine AllReadyH.cons (by simp only [List.getElem?_toArray, List.getElem?_cons_succ, List.getElem?_cons_zero]; rfl) (fun KK hKK => ?_) AllReadyH.nil
    go_simp
    have hb5 := hb5.alloc hb5.size (.cells #[.int .u32 (b : Int), .int .u32 (c : Int)] 31)
    have g0 := BoxG.al g0 (.cells #[.int .u32 (b : Int), .int .u32 (c : Int)] 31)
    have g1 := BoxG.al g1 (.cells #[.int .u32 (b : Int), .int .u32 (c : Int)] 31)
    have g2 := BoxG.al g2 (.cells #[.int .u32 (b : Int), .int .u32 (c : Int)] 31)
    have g3 := BoxG.al g3 (.cells #[.int .u32 (b : Int), .int .u32 (c : Int)] 31)
    have g4 := BoxG.al g4 (.cells #[.int .u32 (b : Int), .int .u32 (c : Int)] 31)
    have hs := ms_new2 wz b c 31
    have e0 := g3.c0
    have e1 := g3.c1
    have e2 := g3.f0
    have e3 := g3.f1
    refine hKK.out _ _ ?_ (fun hHeld => ?_)
    · exact ⟨g0, g1, g2, g4⟩
    clear hKK KK
    try simp only [Act.put, List.setIfInBounds_toArray, List.set_cons_zero, List.set_cons_succ]
    refine wpAnyH_ready (rs := [9]) (by kernel_rfl) (by simp) ?_
    refine AllReadyH.cons (by simp only [List.getElem?_toArray, List.getElem?_cons_succ, List.getElem?_cons_zero]; rfl) (fun KK hKK => ?_) AllReadyH.nil
    go_simp
    refine (hM _ _ _ (Sl.drew hs)).mono ?_
    rintro e w6 ⟨rfl, rfl⟩
    go_wp2_with fail
    refine hKK.out _ _ ?_ (fun hHeld => ?_)
    · exact ⟨g0, g1, g2, g4⟩
    clear hKK KK
    try simp only [Act.put, List.setIfInBounds_toArray, List.set_cons_zero, List.set_cons_succ]
    refine wpAnyH_take (i := 10) (v := ?zv10) (by simp only [List.getElem?_toArray, List.getElem?_cons_succ, List.getElem?_cons_zero]; rfl) (by kernel_rfl) (by kernel_rfl) (by kernel_rfl) (by exact fun _ _ _ h => h) (Or.inl ⟨by rfl, ?zy10⟩) hHeld ?_
    case zy10 => (intro w hSw; (try dsimp only at hSw); have hy0 := hSw.1.c1; have hy1 := hSw.2.1.c1; have hy2 := hSw.2.2.1.c1; have hy3 := hSw.2.2.2.c0; clear hSw; go_simp; try (with_reducible rfl))
    try simp only [Act.put, List.setIfInBounds_toArray, List.set_cons_zero, List.set_cons_succ]
    refine wpAnyH_ready (rs := [11]) (by kernel_rfl) (by simp) ?_
    refine AllReadyH.cons (by simp only [List.getElem?_toArray, List.getElem?_cons_succ, List.getElem?_cons_zero]; rfl) (fun KK hKK => ?_) AllReadyH.nil
    go_simp
    have g0 := (g0.other (p := ⟨w.heap.size + 1 + 1 + 1, 0, none⟩) (by dsimp only; omega) (.int .i32 v)).other (p := ⟨w.heap.size + 1 + 1 + 1, 1, none⟩) (by dsimp only; omega) (.int .u32 (m : Int))
    have g1 := (g1.other (p := ⟨w.heap.size + 1 + 1 + 1, 0, none⟩) (by dsimp only; omega) (.int .i32 v)).other (p := ⟨w.heap.size + 1 + 1 + 1, 1, none⟩) (by dsimp only; omega) (.int .u32 (m : Int))
    have g2 := (g2.other (p := ⟨w.heap.size + 1 + 1 + 1, 0, none⟩) (by dsimp only; omega) (.int .i32 v)).other (p := ⟨w.heap.size + 1 + 1 + 1, 1, none⟩) (by dsimp only; omega) (.int .u32 (m : Int))
    have g4 := (g4.other (p := ⟨w.heap.size + 1 + 1 + 1, 0, none⟩) (by dsimp only; omega) (.int .i32 v)).other (p := ⟨w.heap.size + 1 + 1 + 1, 1, none⟩) (by dsimp only; omega) (.int .u32 (m : Int))
    have g3 := g3.put v m
    have hb5 := (hb5.setCell (p := ⟨w.heap.size + 1 + 1 + 1, 0, none⟩) (by dsimp only; omega) (.int .i32 v)).setCell (p := ⟨w.heap.size + 1 + 1 + 1, 1, none⟩) (by dsimp only; omega) (.int .u32 (m : Int))
    refine hKK.out _ _ ?_ (fun hHeld => ?_)
    · exact ⟨g0, g1, g2, g4⟩
    clear hKK KK
    try simp only [Act.put, List.setIfInBounds_toArray, List.set_cons_zero, List.set_cons_succ]
    refine wpAnyH_done (by kernel_rfl) ?_ _
    go_wp2_with fail
    refine bodyPost_ret (BoxG.result (g := w.heap.size + 1 + 1 + 1) (x := v) (y := m) ?_ rfl _ rfl) rfl ⟨rfl, below_drew hb5⟩
    exact g3
def Comp (comp : Nat → Int → Int → Int) : Prop := ∀ (op : Nat) (x y : Int) (w : World), op ≤ 255 → -2147483648 ≤ x → x ≤ 2147483647 → -2147483648 ≤ y → y ≤ 2147483647 → (Calls Tryd.prog 47 #[.int .u8 (op : Int), .int .i32 x, .int .i32 y] w fun e w' => e = .returned (.int .i32 (comp op x y)) ∧ w' = w) ∧ -2147483648 ≤ comp op x y ∧ comp op x y ≤ 2147483647
set_option maxHeartbeats 4000000 in
set_option maxRecDepth 20000 in
theorem combine_calls (comp : Nat → Int → Int → Int) (hcomp : Comp comp) (b : Nat) (r : Option Nat) (B : Nat) (X : MX) (s : VS) (op : Nat) (x y : Int) (m n : Nat) (w : World) (h : MAt w b r B X s) (hX : X.cmp = .func (.func 47) #[] #[]) (hop : op ≤ 255) (hx0 : -2147483648 ≤ x) (hx1 : x ≤ 2147483647) (hy0 : -2147483648 ≤ y) (hy1 : y ≤ 2147483647) (hm : m < 4294967296) (hn : n < 4294967296) :
    Calls Tryd.prog 75 #[.pointer (some ⟨b, 0, none⟩), .int .u8 (op : Int), .agg #[.int .i32 x, .int .u32 (m : Int)], .agg #[.int .i32 y, .int .u32 (n : Int)]] w fun e w' => e = .returned (.agg #[.int .i32 (comp op x y), .int .u32 ((m &&& n : Nat) : Int)]) ∧ Below w.heap.size w w' := by
  have hM := fun W A bb hs => MMeet_calls m A [n] 1 1 bb W hm (by intro q hq; simp at hq; rcases hq with rfl; omega) hs rfl (by omega)
  rw [meet_one] at hM
  have hQ := fun W => (hcomp op x y W hop hx0 hx1 hy0 hy1).1
  obtain ⟨v, hv⟩ : ∃ v, v = comp op x y := ⟨_, rfl⟩
  obtain ⟨k, hk⟩ : ∃ k, k = m &&& n := ⟨_, rfl⟩
  rw [← hk] at hM ⊢
  rw [← hv] at hQ ⊢
  have h3 := ((h.ext (below_alloc1 w (.cells #[.int .i32 x, .int .u32 (m : Int)] 103))).ext (below_alloc1 _ (.cells #[.int .i32 y, .int .u32 (n : Int)] 103))).ext (below_alloc1 _ (.cells #[.int .i32 0, .int .u32 0] 103))
  have hb5 := below_alloc3 w (.cells #[.int .i32 x, .int .u32 (m : Int)] 103) (.cells #[.int .i32 y, .int .u32 (n : Int)] 103) (.cells #[.int .i32 0, .int .u32 0] 103)
  have g0 := ((boxg_new w x m).al (.cells #[.int .i32 y, .int .u32 (n : Int)] 103)).al (.cells #[.int .i32 0, .int .u32 0] 103)
  have g1 := (boxg_new (w.alloc (.cells #[.int .i32 x, .int .u32 (m : Int)] 103)) y n).al (.cells #[.int .i32 0, .int .u32 0] 103)
  have g3 := boxg_new ((w.alloc (.cells #[.int .i32 x, .int .u32 (m : Int)] 103)).alloc (.cells #[.int .i32 y, .int .u32 (n : Int)] 103)) 0 0
  rw [show (w.alloc (.cells #[.int .i32 x, .int .u32 (m : Int)] 103)).heap.size = w.heap.size + 1 by simp] at g1
  rw [show ((w.alloc (.cells #[.int .i32 x, .int .u32 (m : Int)] 103)).alloc (.cells #[.int .i32 y, .int .u32 (n : Int)] 103)).heap.size = w.heap.size + 1 + 1 by simp] at g3
  obtain ⟨sh, q, _⟩ := h3
  have hlt := h.lt
  clear h hv hk hm hn hx0 hx1 hy0 hy1
  go_enter Tryd.func75, Tryd.ntmps75
  go_wp2_with fail
  obtain ⟨wz, hwz⟩ : ∃ wz, wz = ((w.alloc (.cells #[.int .i32 x, .int .u32 (m : Int)] 103)).alloc (.cells #[.int .i32 y, .int .u32 (n : Int)] 103)).alloc (.cells #[.int .i32 0, .int .u32 0] 103) := ⟨_, rfl⟩
  have g3 : BoxG (((w.alloc (.cells #[.int .i32 x, .int .u32 (m : Int)] 103)).alloc (.cells #[.int .i32 y, .int .u32 (n : Int)] 103)).alloc (.cells #[.int .i32 0, .int .u32 0] 103)) (w.heap.size + 1 + 1) 0 0 := g3
  rw [← hwz] at hb5 g0 g1 g3 q ⊢
  clear hwz
  refine wp_region_held_drew (S := fun w' => BoxG w' w.heap.size x m ∧ BoxG w' (w.heap.size + 1) y n ∧ MB w' b X sh s) (by kernel_rfl) ?_ (fun hHeld => ?_)
  · exact ⟨g0, g1, q⟩
  refine wpAnyH_take (i := 0) (v := ?zv0) (by simp only [List.getElem?_toArray, List.getElem?_cons_zero]; rfl) (by kernel_rfl) (by kernel_rfl) (by kernel_rfl) (by exact fun _ _ _ h => h) (Or.inl ⟨by rfl, ?zy0⟩) hHeld ?_
  case zy0 => (intro w hSw; (try dsimp only at hSw); have hy0 := hSw.1.c0; have hy1 := hSw.1.c1; have hy2 := hSw.2.1.c0; have hy3 := hSw.2.1.c1; have hy4 := hSw.2.2.cCmp; rw [hX] at hy4; clear hSw; go_simp; try (with_reducible rfl))
  try simp only [Act.put, List.setIfInBounds_toArray, List.set_cons_zero, List.set_cons_succ]
  refine wpAnyH_take (i := 1) (v := ?zv1) (by simp only [List.getElem?_toArray, List.getElem?_cons_succ, List.getElem?_cons_zero]; rfl) (by kernel_rfl) (by kernel_rfl) (by kernel_rfl) (by exact fun _ _ _ h => h) (Or.inl ⟨by rfl, ?zy1⟩) hHeld ?_
  case zy1 => (intro w hSw; (try dsimp only at hSw); have hy0 := hSw.1.c0; have hy1 := hSw.1.c1; have hy2 := hSw.2.1.c0; have hy3 := hSw.2.1.c1; have hy4 := hSw.2.2.cCmp; rw [hX] at hy4; clear hSw; go_simp; try (with_reducible rfl))
  try simp only [Act.put, List.setIfInBounds_toArray, List.set_cons_zero, List.set_cons_succ]
  refine wpAnyH_take (i := 2) (v := ?zv2) (by simp only [List.getElem?_toArray, List.getElem?_cons_succ, List.getElem?_cons_zero]; rfl) (by kernel_rfl) (by kernel_rfl) (by kernel_rfl) (by exact fun _ _ _ h => h) (Or.inl ⟨by rfl, ?zy2⟩) hHeld ?_
  case zy2 => (intro w hSw; (try dsimp only at hSw); have hy0 := hSw.1.c0; have hy1 := hSw.1.c1; have hy2 := hSw.2.1.c0; have hy3 := hSw.2.1.c1; have hy4 := hSw.2.2.cCmp; rw [hX] at hy4; clear hSw; go_simp; try (with_reducible rfl))
  try simp only [Act.put, List.setIfInBounds_toArray, List.set_cons_zero, List.set_cons_succ]
  refine wpAnyH_take (i := 3) (v := ?zv3) (by simp only [List.getElem?_toArray, List.getElem?_cons_succ, List.getElem?_cons_zero]; rfl) (by kernel_rfl) (by kernel_rfl) (by kernel_rfl) (by exact fun _ _ _ h => h) (Or.inl ⟨by rfl, ?zy3⟩) hHeld ?_
  case zy3 => (intro w hSw; (try dsimp only at hSw); have hy0 := hSw.1.c0; have hy1 := hSw.1.c1; have hy2 := hSw.2.1.c0; have hy3 := hSw.2.1.c1; have hy4 := hSw.2.2.cCmp; rw [hX] at hy4; clear hSw; go_simp; try (with_reducible rfl))
  try simp only [Act.put, List.setIfInBounds_toArray, List.set_cons_zero, List.set_cons_succ]
  refine wpAnyH_take (i := 4) (v := ?zv4) (by simp only [List.getElem?_toArray, List.getElem?_cons_succ, List.getElem?_cons_zero]; rfl) (by kernel_rfl) (by kernel_rfl) (by kernel_rfl) (by exact fun _ _ _ h => h) (Or.inl ⟨by rfl, ?zy4⟩) hHeld ?_
  case zy4 => (intro w hSw; (try dsimp only at hSw); have hy0 := hSw.1.c0; have hy1 := hSw.1.c1; have hy2 := hSw.2.1.c0; have hy3 := hSw.2.1.c1; have hy4 := hSw.2.2.cCmp; rw [hX] at hy4; clear hSw; go_simp; try (with_reducible rfl))
  try simp only [Act.put, List.setIfInBounds_toArray, List.set_cons_zero, List.set_cons_succ]
  refine wpAnyH_take (i := 5) (v := ?zv5) (by simp only [List.getElem?_toArray, List.getElem?_cons_succ, List.getElem?_cons_zero]; rfl) (by kernel_rfl) (by kernel_rfl) (by kernel_rfl) (by exact fun _ _ _ h => h) (Or.inl ⟨by rfl, ?zy5⟩) hHeld ?_
  case zy5 => (intro w hSw; (try dsimp only at hSw); have hy0 := hSw.1.c0; have hy1 := hSw.1.c1; have hy2 := hSw.2.1.c0; have hy3 := hSw.2.1.c1; have hy4 := hSw.2.2.cCmp; rw [hX] at hy4; clear hSw; go_simp; try (with_reducible rfl))
  try simp only [Act.put, List.setIfInBounds_toArray, List.set_cons_zero, List.set_cons_succ]
  refine wpAnyH_take (i := 6) (v := ?zv6) (by simp only [List.getElem?_toArray, List.getElem?_cons_succ, List.getElem?_cons_zero]; rfl) (by kernel_rfl) (by kernel_rfl) (by kernel_rfl) (by exact fun _ _ _ h => h) (Or.inl ⟨by rfl, ?zy6⟩) hHeld ?_
  case zy6 => (intro w hSw; (try dsimp only at hSw); have hy0 := hSw.1.c0; have hy1 := hSw.1.c1; have hy2 := hSw.2.1.c0; have hy3 := hSw.2.1.c1; have hy4 := hSw.2.2.cCmp; rw [hX] at hy4; clear hSw; go_simp; try (with_reducible rfl))
  try simp only [Act.put, List.setIfInBounds_toArray, List.set_cons_zero, List.set_cons_succ]
  refine wpAnyH_take (i := 7) (v := ?zv7) (by simp only [List.getElem?_toArray, List.getElem?_cons_succ, List.getElem?_cons_zero]; rfl) (by kernel_rfl) (by kernel_rfl) (by kernel_rfl) (by exact fun _ _ _ h => h) (Or.inl ⟨by rfl, ?zy7⟩) hHeld ?_
  case zy7 => (intro w hSw; (try dsimp only at hSw); have hy0 := hSw.1.c0; have hy1 := hSw.1.c1; have hy2 := hSw.2.1.c0; have hy3 := hSw.2.1.c1; have hy4 := hSw.2.2.cCmp; rw [hX] at hy4; clear hSw; go_simp; try (with_reducible rfl))
  try simp only [Act.put, List.setIfInBounds_toArray, List.set_cons_zero, List.set_cons_succ]
  refine wpAnyH_take (i := 8) (v := ?zv8) (by simp only [List.getElem?_toArray, List.getElem?_cons_succ, List.getElem?_cons_zero]; rfl) (by kernel_rfl) (by kernel_rfl) (by kernel_rfl) (by exact fun _ _ _ h => h) (Or.inl ⟨by rfl, ?zy8⟩) hHeld ?_
  case zy8 => (intro w hSw; (try dsimp only at hSw); have hy0 := hSw.1.c0; have hy1 := hSw.1.c1; have hy2 := hSw.2.1.c0; have hy3 := hSw.2.1.c1; have hy4 := hSw.2.2.cCmp; rw [hX] at hy4; clear hSw; go_simp; try (with_reducible rfl))
  try simp only [Act.put, List.setIfInBounds_toArray, List.set_cons_zero, List.set_cons_succ]
  refine wpAnyH_take (i := 10) (v := ?zv10) (by simp only [List.getElem?_toArray, List.getElem?_cons_succ, List.getElem?_cons_zero]; rfl) (by kernel_rfl) (by kernel_rfl) (by kernel_rfl) (by exact fun _ _ _ h => h) (Or.inl ⟨by rfl, ?zy10⟩) hHeld ?_
  case zy10 => (intro w hSw; (try dsimp only at hSw); have hy0 := hSw.1.c0; have hy1 := hSw.1.c1; have hy2 := hSw.2.1.c0; have hy3 := hSw.2.1.c1; have hy4 := hSw.2.2.cCmp; rw [hX] at hy4; clear hSw; go_simp; try (with_reducible rfl))
  try simp only [Act.put, List.setIfInBounds_toArray, List.set_cons_zero, List.set_cons_succ]
  refine wpAnyH_take (i := 11) (v := ?zv11) (by simp only [List.getElem?_toArray, List.getElem?_cons_succ, List.getElem?_cons_zero]; rfl) (by kernel_rfl) (by kernel_rfl) (by kernel_rfl) (by exact fun _ _ _ h => h) (Or.inl ⟨by rfl, ?zy11⟩) hHeld ?_
  case zy11 => (intro w hSw; (try dsimp only at hSw); have hy0 := hSw.1.c0; have hy1 := hSw.1.c1; have hy2 := hSw.2.1.c0; have hy3 := hSw.2.1.c1; have hy4 := hSw.2.2.cCmp; rw [hX] at hy4; clear hSw; go_simp; try (with_reducible rfl))
  try simp only [Act.put, List.setIfInBounds_toArray, List.set_cons_zero, List.set_cons_succ]
  refine wpAnyH_take (i := 12) (v := ?zv12) (by simp only [List.getElem?_toArray, List.getElem?_cons_succ, List.getElem?_cons_zero]; rfl) (by kernel_rfl) (by kernel_rfl) (by kernel_rfl) (by exact fun _ _ _ h => h) (Or.inl ⟨by rfl, ?zy12⟩) hHeld ?_
  case zy12 => (intro w hSw; (try dsimp only at hSw); have hy0 := hSw.1.c0; have hy1 := hSw.1.c1; have hy2 := hSw.2.1.c0; have hy3 := hSw.2.1.c1; have hy4 := hSw.2.2.cCmp; rw [hX] at hy4; clear hSw; go_simp; try (with_reducible rfl))
  try simp only [Act.put, List.setIfInBounds_toArray, List.set_cons_zero, List.set_cons_succ]
  refine wpAnyH_take (i := 13) (v := ?zv13) (by simp only [List.getElem?_toArray, List.getElem?_cons_succ, List.getElem?_cons_zero]; rfl) (by kernel_rfl) (by kernel_rfl) (by kernel_rfl) (by exact fun _ _ _ h => h) (Or.inl ⟨by rfl, ?zy13⟩) hHeld ?_
  case zy13 => (intro w hSw; (try dsimp only at hSw); have hy0 := hSw.1.c0; have hy1 := hSw.1.c1; have hy2 := hSw.2.1.c0; have hy3 := hSw.2.1.c1; have hy4 := hSw.2.2.cCmp; rw [hX] at hy4; clear hSw; go_simp; try (with_reducible rfl))
  try simp only [Act.put, List.setIfInBounds_toArray, List.set_cons_zero, List.set_cons_succ]
  refine wpAnyH_ready (rs := [9, 14]) (by kernel_rfl) (by simp) ?_
  refine AllReadyH.cons (by simp only [List.getElem?_toArray, List.getElem?_cons_succ, List.getElem?_cons_zero]; rfl) (fun KK hKK => ?_) (AllReadyH.cons (by simp only [List.getElem?_toArray, List.getElem?_cons_succ, List.getElem?_cons_zero]; rfl) (fun KK hKK => ?_) AllReadyH.nil)
  · go_simp
    refine (hQ _).mono ?_
    rintro e w6 ⟨rfl, rfl⟩
    go_wp2_with fail
    refine hKK.out _ _ ?_ (fun hHeld => ?_)
    · exact ⟨g0, g1, q⟩
    clear hKK KK
    try simp only [Act.put, List.setIfInBounds_toArray, List.set_cons_zero, List.set_cons_succ]
    refine wpAnyH_ready (rs := [14]) (by kernel_rfl) (by simp) ?_
    refine AllReadyH.cons (by simp only [List.getElem?_toArray, List.getElem?_cons_succ, List.getElem?_cons_zero]; rfl) (fun KK hKK => ?_) AllReadyH.nil
    go_simp
    have hb5 := hb5.alloc hb5.size (.cells #[.int .u32 (n : Int)] 31)
    have g0 := BoxG.al g0 (.cells #[.int .u32 (n : Int)] 31)
    have g1 := BoxG.al g1 (.cells #[.int .u32 (n : Int)] 31)
    have g3 := BoxG.al g3 (.cells #[.int .u32 (n : Int)] 31)
    have q := q.alloc (.cells #[.int .u32 (n : Int)] 31)
    have hs := ms_new1 wz n 31
    have e0 := g3.c0
    have e1 := g3.c1
    have e2 := g3.f0
    have e3 := g3.f1
    refine hKK.out _ _ ?_ (fun hHeld => ?_)
    · exact ⟨g0, g1, q⟩
    clear hKK KK
    try simp only [Act.put, List.setIfInBounds_toArray, List.set_cons_zero, List.set_cons_succ]
    refine wpAnyH_ready (rs := [15]) (by kernel_rfl) (by simp) ?_
    refine AllReadyH.cons (by simp only [List.getElem?_toArray, List.getElem?_cons_succ, List.getElem?_cons_zero]; rfl) (fun KK hKK => ?_) AllReadyH.nil
    go_simp
    refine (hM _ _ _ (Sl.drew hs)).mono ?_
    rintro e w6 ⟨rfl, rfl⟩
    go_wp2_with fail
    refine hKK.out _ _ ?_ (fun hHeld => ?_)
    · exact ⟨g0, g1, q⟩
    clear hKK KK
    try simp only [Act.put, List.setIfInBounds_toArray, List.set_cons_zero, List.set_cons_succ]
    refine wpAnyH_take (i := 16) (v := ?yv16) (by simp only [List.getElem?_toArray, List.getElem?_cons_succ, List.getElem?_cons_zero]; rfl) (by kernel_rfl) (by kernel_rfl) (by kernel_rfl) (by exact fun _ _ _ h => h) (Or.inl ⟨by rfl, ?yy16⟩) hHeld ?_
    case yy16 => (intro w hSw; (try dsimp only at hSw); have hy0 := hSw.1.c0; have hy1 := hSw.1.c1; have hy2 := hSw.2.1.c0; have hy3 := hSw.2.1.c1; have hy4 := hSw.2.2.cCmp; rw [hX] at hy4; clear hSw; go_simp; try (with_reducible rfl))
    try simp only [Act.put, List.setIfInBounds_toArray, List.set_cons_zero, List.set_cons_succ]
    refine wpAnyH_ready (rs := [17]) (by kernel_rfl) (by simp) ?_
    refine AllReadyH.cons (by simp only [List.getElem?_toArray, List.getElem?_cons_succ, List.getElem?_cons_zero]; rfl) (fun KK hKK => ?_) AllReadyH.nil
    go_simp
    have g0 := (g0.other (p := ⟨w.heap.size + 1 + 1, 0, none⟩) (by dsimp only; omega) (.int .i32 v)).other (p := ⟨w.heap.size + 1 + 1, 1, none⟩) (by dsimp only; omega) (.int .u32 (k : Int))
    have g1 := (g1.other (p := ⟨w.heap.size + 1 + 1, 0, none⟩) (by dsimp only; omega) (.int .i32 v)).other (p := ⟨w.heap.size + 1 + 1, 1, none⟩) (by dsimp only; omega) (.int .u32 (k : Int))
    have q := (q.other (p := ⟨w.heap.size + 1 + 1, 0, none⟩) (by dsimp only; omega) (.int .i32 v)).other (p := ⟨w.heap.size + 1 + 1, 1, none⟩) (by dsimp only; omega) (.int .u32 (k : Int))
    have g3 := g3.put v k
    have hb5 := (hb5.setCell (p := ⟨w.heap.size + 1 + 1, 0, none⟩) (by dsimp only; omega) (.int .i32 v)).setCell (p := ⟨w.heap.size + 1 + 1, 1, none⟩) (by dsimp only; omega) (.int .u32 (k : Int))
    refine hKK.out _ _ ?_ (fun hHeld => ?_)
    · exact ⟨g0, g1, q⟩
    clear hKK KK
    try simp only [Act.put, List.setIfInBounds_toArray, List.set_cons_zero, List.set_cons_succ]
    refine wpAnyH_done (by kernel_rfl) ?_ _
    go_wp2_with fail
    refine bodyPost_ret (BoxG.result (g := w.heap.size + 1 + 1) (x := v) (y := k) ?_ rfl _ rfl) rfl ⟨rfl, below_drew hb5⟩
    exact g3
  · go_simp
    have hb5 := hb5.alloc hb5.size (.cells #[.int .u32 (n : Int)] 31)
    have g0 := BoxG.al g0 (.cells #[.int .u32 (n : Int)] 31)
    have g1 := BoxG.al g1 (.cells #[.int .u32 (n : Int)] 31)
    have g3 := BoxG.al g3 (.cells #[.int .u32 (n : Int)] 31)
    have q := q.alloc (.cells #[.int .u32 (n : Int)] 31)
    have hs := ms_new1 wz n 31
    have e0 := g3.c0
    have e1 := g3.c1
    have e2 := g3.f0
    have e3 := g3.f1
    refine hKK.out _ _ ?_ (fun hHeld => ?_)
    · exact ⟨g0, g1, q⟩
    clear hKK KK
    try simp only [Act.put, List.setIfInBounds_toArray, List.set_cons_zero, List.set_cons_succ]
    refine wpAnyH_ready (rs := [9]) (by kernel_rfl) (by simp) ?_
    refine AllReadyH.cons (by simp only [List.getElem?_toArray, List.getElem?_cons_succ, List.getElem?_cons_zero]; rfl) (fun KK hKK => ?_) AllReadyH.nil
    go_simp
    refine (hQ _).mono ?_
    rintro e w6 ⟨rfl, rfl⟩
    go_wp2_with fail
    refine hKK.out _ _ ?_ (fun hHeld => ?_)
    · exact ⟨g0, g1, q⟩
    clear hKK KK
    try simp only [Act.put, List.setIfInBounds_toArray, List.set_cons_zero, List.set_cons_succ]
    refine wpAnyH_ready (rs := [15]) (by kernel_rfl) (by simp) ?_
    refine AllReadyH.cons (by simp only [List.getElem?_toArray, List.getElem?_cons_succ, List.getElem?_cons_zero]; rfl) (fun KK hKK => ?_) AllReadyH.nil
    go_simp
    refine (hM _ _ _ (Sl.drew hs)).mono ?_
    rintro e w6 ⟨rfl, rfl⟩
    go_wp2_with fail
    refine hKK.out _ _ ?_ (fun hHeld => ?_)
    · exact ⟨g0, g1, q⟩
    clear hKK KK
    try simp only [Act.put, List.setIfInBounds_toArray, List.set_cons_zero, List.set_cons_succ]
    refine wpAnyH_take (i := 16) (v := ?xv16) (by simp only [List.getElem?_toArray, List.getElem?_cons_succ, List.getElem?_cons_zero]; rfl) (by kernel_rfl) (by kernel_rfl) (by kernel_rfl) (by exact fun _ _ _ h => h) (Or.inl ⟨by rfl, ?xy16⟩) hHeld ?_
    case xy16 => (intro w hSw; (try dsimp only at hSw); have hy0 := hSw.1.c0; have hy1 := hSw.1.c1; have hy2 := hSw.2.1.c0; have hy3 := hSw.2.1.c1; have hy4 := hSw.2.2.cCmp; rw [hX] at hy4; clear hSw; go_simp; try (with_reducible rfl))
    try simp only [Act.put, List.setIfInBounds_toArray, List.set_cons_zero, List.set_cons_succ]
    refine wpAnyH_ready (rs := [17]) (by kernel_rfl) (by simp) ?_
    refine AllReadyH.cons (by simp only [List.getElem?_toArray, List.getElem?_cons_succ, List.getElem?_cons_zero]; rfl) (fun KK hKK => ?_) AllReadyH.nil
    go_simp
    have g0 := (g0.other (p := ⟨w.heap.size + 1 + 1, 0, none⟩) (by dsimp only; omega) (.int .i32 v)).other (p := ⟨w.heap.size + 1 + 1, 1, none⟩) (by dsimp only; omega) (.int .u32 (k : Int))
    have g1 := (g1.other (p := ⟨w.heap.size + 1 + 1, 0, none⟩) (by dsimp only; omega) (.int .i32 v)).other (p := ⟨w.heap.size + 1 + 1, 1, none⟩) (by dsimp only; omega) (.int .u32 (k : Int))
    have q := (q.other (p := ⟨w.heap.size + 1 + 1, 0, none⟩) (by dsimp only; omega) (.int .i32 v)).other (p := ⟨w.heap.size + 1 + 1, 1, none⟩) (by dsimp only; omega) (.int .u32 (k : Int))
    have g3 := g3.put v k
    have hb5 := (hb5.setCell (p := ⟨w.heap.size + 1 + 1, 0, none⟩) (by dsimp only; omega) (.int .i32 v)).setCell (p := ⟨w.heap.size + 1 + 1, 1, none⟩) (by dsimp only; omega) (.int .u32 (k : Int))
    refine hKK.out _ _ ?_ (fun hHeld => ?_)
    · exact ⟨g0, g1, q⟩
    clear hKK KK
    try simp only [Act.put, List.setIfInBounds_toArray, List.set_cons_zero, List.set_cons_succ]
    refine wpAnyH_done (by kernel_rfl) ?_ _
    go_wp2_with fail
    refine bodyPost_ret (BoxG.result (g := w.heap.size + 1 + 1) (x := v) (y := k) ?_ rfl _ rfl) rfl ⟨rfl, below_drew hb5⟩
    exact g3
end Go.Proofs.YtnbbglhpjpebhaaDoor
