/- A map of moves, told by what stands at each place; what its look-up, its store and its delete do. A desk. Conditions: those said. -/
import Derived.Test.YtglmciklegifaaaDoorDkA
namespace Go.Proofs.YtglmciklegifaaaDoor
open Go.RowKit
open Go.Maps (Keyed IsMap Tidy)

abbrev MF := Int → Nat → Option Nat
def updF (f : MF) (p : Int) (t : Nat) (x : Option Nat) : MF := fun q u => if q = p ∧ u = t then x else f q u
abbrev ownD (w : World) (b n : Nat) (D : DataW Unit) : Prop := w.ownsMap Tryd.prog 75 (plainElem Tryd.prog 22) b n D
def MvD (D : DataW Unit) (f : MF) : Prop := ∀ p t, inI p → t < 4294967296 → Maps.has D (skey p t) = (f p t).isSome ∧ ∀ v, f p t = some v → v < 4294967296 ∧ D.atKey (skey p t) (.lit (.int .u32 0)) = .lit (.int .u32 (v : Int))
/-- Block b is a map of at most n moves: at each place what f says. -/
def Mv (w : World) (b n : Nat) (f : MF) : Prop := ∃ D, ownD w b n D ∧ MvD D f
theorem mapT : Tryd.prog.underlying 62 = some (.map 75 22) := Tryd.underlying62
theorem zero_u32 (w : World) : (zeroValue 22).run Tryd.prog w = .ok (.int .u32 0) w := by kernel_rfl
theorem ownD_keep {w w' : World} {b n : Nat} {D : DataW Unit} (h : ownD w b n D) (hb : w'.heap[b]? = w.heap[b]?) : ownD w' b n D := by
  obtain ⟨es, clock, h1, h2⟩ := h
  exact ⟨es, clock, hb.trans h1, h2⟩
namespace Mv
variable {w w' : World} {b n : Nat} {f : MF}
theorem lt (h : Mv w b n f) : b < w.heap.size := by obtain ⟨D, h, _⟩ := h; exact h.lt
theorem mod {S : Nat → Prop} (h : Mv w b n f) (hm : Mod S w w') (hs : ¬ S b) : Mv w' b n f := by
  have hlt := h.lt
  obtain ⟨D, h, hD⟩ := h
  exact ⟨D, ownD_keep h (hm.block b hlt hs), hD⟩
theorem ext (h : Mv w b n f) (hb : Below w.heap.size w w') : Mv w' b n f := by
  have hlt := h.lt
  obtain ⟨D, h, hD⟩ := h
  exact ⟨D, ownD_keep h (hb.block b hlt), hD⟩
theorem isMap (h : Mv w b n f) : ∃ es clock, w.heap[b]? = some (.map es clock) := by
  obtain ⟨D, ⟨es, clock, h1, _⟩, _⟩ := h
  exact ⟨es, clock, h1⟩
theorem made (w : World) : Mv (w.alloc (.map #[] 0)) w.heap.size 0 (fun _ _ => none) :=
  ⟨_, World.ownsMap_made _ _ _ _, fun p t _ _ => ⟨rfl, fun v h => by cases h⟩⟩
theorem mono (h : Mv w b n f) {m : Nat} (hm : n ≤ m) : Mv w b m f := by
  obtain ⟨D, h, hD⟩ := h
  exact ⟨D, h.mono hm, hD⟩
set_option maxRecDepth 100000 in
theorem look (h : Mv w b n f) {p : Int} {t : Nat} (hp : inI p) (ht : t < 4294967296) :
    (Instr.lookup 62 (.map (some b)) (slotV p t) true).run Tryd.prog w = .ok (.tuple #[.int .u32 (((f p t).getD 0 : Nat) : Int), .bool (f p t).isSome]) w := by
  obtain ⟨D, h, hD⟩ := h
  obtain ⟨h1, h2⟩ := hD p t hp ht
  obtain ⟨v, ps, hrun, hv⟩ := h.look_ok slot_law mapT (zero_u32 w) (zd := .lit (.int .u32 0)) (zp := []) (plainElem_int Tryd.underlying22 (by decide)) (slot_key hp ht)
  obtain ⟨c, rfl, hc, _⟩ := plainElem_int_inv Tryd.underlying22 hv
  have hc := congrArg Prod.fst hc
  simp only at hc
  rw [hrun, h1]
  cases hf : f p t with
  | none =>
    rw [hf] at h1
    rw [Maps.atKey_of_not_has h1] at hc
    injection hc with hc
    injection hc with _ hc
    rw [← hc]
    rfl
  | some x =>
    rw [(h2 x hf).2] at hc
    injection hc with hc
    injection hc with _ hc
    rw [← hc]
    rfl
set_option maxRecDepth 100000 in
theorem store (h : Mv w b n f) (hn : n < maxLen) {p : Int} {t : Nat} (hp : inI p) (ht : t < 4294967296) {v : Nat} (hv : v < 4294967296) :
    ∃ w', (Instr.mapUpdate 62 (.map (some b)) (slotV p t) (.int .u32 (v : Int))).run Tryd.prog w = .ok () w' ∧ Mv w' b (n + 1) (updF f p t (some v)) ∧ Mod (fun i => i = b) w w' ∧ w'.heap.size = w.heap.size := by
  obtain ⟨D, h, hD⟩ := h
  obtain ⟨w', hrun, hown, hturn⟩ := h.store slot_law mapT hn (slot_key hp ht) (plainElem_int Tryd.underlying22 (WalkArith.wf_u32 (n := (v : Int)) (by omega)))
  refine ⟨w', hrun, ⟨_, hown, fun q u hq hu => ?_⟩, (Mod.of_grown hturn.grown).mono (fun i _ e => by injection e with e; exact e.symm), ?_⟩
  · unfold updF
    by_cases e : q = p ∧ u = t
    · obtain ⟨rfl, rfl⟩ := e
      rw [if_pos ⟨rfl, rfl⟩, Maps.has_put_same h.isMap (skey_ok hq hu)]
      refine ⟨rfl, fun x hx => ?_⟩
      injection hx with hx
      subst hx
      exact ⟨hv, Maps.atKey_put_same h.isMap (skey_ok hq hu) _ _⟩
    · have hne : skey q u ≠ skey p t := fun e' => e (skey_inj hq hp hu ht e')
      rw [if_neg e, Maps.has_put_other hne]
      refine ⟨(hD q u hq hu).1, fun x hx => ?_⟩
      rw [Maps.atKey_put_other hne]
      exact (hD q u hq hu).2 x hx
  · obtain ⟨es, clock, es', clock', _, rfl⟩ := hturn
    simp [ChangeMaps.setBlock]
set_option maxRecDepth 100000 in
theorem drop (h : Mv w b n f) {p : Int} {t : Nat} (hp : inI p) (ht : t < 4294967296) (ty : TypeId) :
    ∃ w', (Builtin.delete_ #[62, 75] ty #[.map (some b), slotV p t]).run Tryd.prog w = .ok (.tuple #[]) w' ∧ Mv w' b n (updF f p t none) ∧ Mod (fun i => i = b) w w' ∧ w'.heap.size = w.heap.size := by
  obtain ⟨D, h, hD⟩ := h
  obtain ⟨w', hrun, hown, hturn⟩ := h.drop slot_law mapT (slot_key hp ht) ty
  refine ⟨w', hrun, ⟨_, hown, fun q u hq hu => ?_⟩, (Mod.of_grown hturn.grown).mono (fun i _ e => by injection e with e; exact e.symm), ?_⟩
  · unfold updF
    by_cases e : q = p ∧ u = t
    · obtain ⟨rfl, rfl⟩ := e
      rw [if_pos ⟨rfl, rfl⟩, Maps.has_del_same]
      exact ⟨rfl, fun x hx => by cases hx⟩
    · have hne : skey q u ≠ skey p t := fun e' => e (skey_inj hq hp hu ht e')
      rw [if_neg e, Maps.has_del_other hne]
      refine ⟨(hD q u hq hu).1, fun x hx => ?_⟩
      rw [Maps.atKey_del_other hne]
      exact (hD q u hq hu).2 x hx
  · obtain ⟨es, clock, es', clock', _, rfl⟩ := hturn
    simp [ChangeMaps.setBlock]
end Mv

/-! ### at a region's operation -/
theorem yk_look {ops : Array Oper} {S : World → Prop} {op : Oper} {a : Act} (hw : Region.wanted op (yielded ops a.tmps) = true) (x y : Operand) (ho : op.op = .lookup 62 x y true) (b n : Nat) (f : MF) (p : Int) (t : Nat)
    (hx : a.eval x = .map (some b)) (hy : a.eval y = slotV p t) (hp : inI p) (ht : t < 4294967296) (hS : ∀ w, S w → Mv w b n f) (c : Int) (d : Bool) (hc : (((f p t).getD 0 : Nat) : Int) = c) (hd : (f p t).isSome = d) : YieldsIf Tryd.prog ops S op (.tuple #[.int .u32 c, .bool d]) a :=
  .inl ⟨hw, fun w h => by
    have hrun := (hS w h).look hp ht
    rw [hc, hd] at hrun
    unfold execOp
    simp only [ho, hx, hy]
    simp [hrun, Result.andThen]⟩
theorem wp_mapUp {o : Oper} {a : Act} {w : World} {K : Act → World → Prop} {Q : Exit → Act → World → Prop} (m x v : Operand) (ho : o.op = .mapUpdate 62 m x v) (b n : Nat) (f : MF) (p : Int) (t u : Nat)
    (hm : a.eval m = .map (some b)) (hx : a.eval x = slotV p t) (hv : a.eval v = .int .u32 (u : Int)) (hMv : Mv w b n f) (hn : n < maxLen) (hp : inI p) (ht : t < 4294967296) (hu : u < 4294967296)
    (h : ∀ w', Mv w' b (n + 1) (updF f p t (some u)) → Mod (fun i => i = b) w w' → w'.heap.size = w.heap.size → K (a.put o.dst undef) w') : o.wp Tryd.prog a w K Q := by
  obtain ⟨w', hrun, h1, h2, h3⟩ := hMv.store hn hp ht hu
  unfold Oper.wp execOp
  simp only [ho, hm, hx, hv]
  simp [hrun, Result.andThen]
  exact h w' h1 h2 h3
theorem wp_mapDel {o : Oper} {a : Act} {w : World} {K : Act → World → Prop} {Q : Exit → Act → World → Prop} (m x : Operand) (ho : o.op = .call { callee := .builtin .delete, args := #[m, x], argTypes := #[62, 75] }) (b n : Nat) (f : MF) (p : Int) (t : Nat)
    (hm : a.eval m = .map (some b)) (hx : a.eval x = slotV p t) (hMv : Mv w b n f) (hp : inI p) (ht : t < 4294967296)
    (h : ∀ w', Mv w' b n (updF f p t none) → Mod (fun i => i = b) w w' → w'.heap.size = w.heap.size → K (a.put o.dst (.tuple #[])) w') : o.wp Tryd.prog a w K Q := by
  obtain ⟨w', hrun, h1, h2, h3⟩ := hMv.drop hp ht o.type
  unfold Oper.wp execOp
  simp only [ho, resolve, invoke, builtin, Sem.run_bind, Sem.run_pure, Result.andThen_ok, List.map_toArray, List.map_cons, List.map_nil, hm, hx, hrun]
  exact h w' h1 h2 h3

theorem dbox_lt {w : World} {g : Nat} {o : Obj} (h : w.heap[g]? = some o) : g < w.heap.size := (Array.getElem?_eq_some_iff.1 h).1
theorem dbox_ext {w w' : World} {g : Nat} {o : Obj} (h : w.heap[g]? = some o) (hm : Below w.heap.size w w') : w'.heap[g]? = some o := (hm.block g (dbox_lt h)).trans h
theorem dbox8_all {w : World} {g : Nat} {t : TypeId} {c0 c1 c2 c3 c4 c5 c6 c7 : Value} (h : w.heap[g]? = some (.cells #[c0, c1, c2, c3, c4, c5, c6, c7] t (0, 0))) : w.cell? ⟨g, 0, none⟩ = some c0 ∧ w.cell? ⟨g, 1, none⟩ = some c1 ∧ w.cell? ⟨g, 2, none⟩ = some c2 ∧ w.cell? ⟨g, 3, none⟩ = some c3 ∧ w.cell? ⟨g, 4, none⟩ = some c4 ∧ w.cell? ⟨g, 5, none⟩ = some c5 ∧ w.cell? ⟨g, 6, none⟩ = some c6 ∧ w.cell? ⟨g, 7, none⟩ = some c7 := by
  refine ⟨?_, ?_, ?_, ?_, ?_, ?_, ?_, ?_⟩ <;> (rw [cell_of_row w g _ _ _ _ h]; rfl)
theorem dbox2_all {w : World} {g : Nat} {t : TypeId} {c0 c1 : Value} (h : w.heap[g]? = some (.cells #[c0, c1] t (0, 0))) : w.cell? ⟨g, 0, none⟩ = some c0 ∧ w.cell? ⟨g, 1, none⟩ = some c1 := by
  refine ⟨?_, ?_⟩ <;> (rw [cell_of_row w g _ _ _ _ h]; rfl)
theorem mod_drew {S : Nat → Prop} {a w : World} (h : Mod S a w) : Mod S a w.drew := ⟨h.os, h.tape, h.output, h.size, h.block⟩
/-! ### a desk -/
structure DkS where
  pl : Nat
  mv : Nat
  df : Nat
  tk : Nat
  n : Nat
  f : MF
structure DkS.Ok (s : DkS) : Prop where
  p : s.pl ≤ 6
  m : s.mv < 4294967296
  d : s.df < 4294967296
  t : s.tk < 4294967296
abbrev dkA (s : DkS) (bm : Nat) : Array Value := #[.int .i64 0, .int .i64 (s.pl : Int), .int .u32 (s.mv : Int), .int .u32 (s.df : Int), .slice none 0 0, .slice none 0 0, .int .u32 (s.tk : Int), .map (some bm)]
structure Dk (w : World) (b bm : Nat) (s : DkS) : Prop where
  box : w.heap[b]? = some (.cells (dkA s bm) 64 (0, 0))
  mv : Mv w bm s.n s.f
  ok : s.Ok
namespace Dk
variable {w w' : World} {b bm : Nat} {s : DkS}
theorem lt (h : Dk w b bm s) : b < w.heap.size := (Array.getElem?_eq_some_iff.1 h.box).1
theorem ltm (h : Dk w b bm s) : bm < w.heap.size := h.mv.lt
theorem ne (h : Dk w b bm s) : b ≠ bm := fun e => by
  obtain ⟨es, clock, h2⟩ := h.mv.isMap
  rw [← e, h.box] at h2
  cases h2
theorem drew (h : Dk w b bm s) : Dk w.drew b bm s := ⟨h.box, h.mv, h.ok⟩
theorem ext (h : Dk w b bm s) (hb : Below w.heap.size w w') : Dk w' b bm s := ⟨(hb.block b h.lt).trans h.box, h.mv.ext hb, h.ok⟩
theorem mod {S : Nat → Prop} (h : Dk w b bm s) (hm : Mod S w w') (h1 : ¬ S b) (h2 : ¬ S bm) : Dk w' b bm s := ⟨(hm.block b h.lt h1).trans h.box, h.mv.mod hm h2, h.ok⟩
theorem at_ (h : Dk w b bm s) {i : Nat} {v : Value} (hv : (dkA s bm)[i]? = some v) : w.cell? ⟨b, i, none⟩ = some v := by
  rw [cell_of_row w b i _ _ _ h.box]
  exact hv
theorem c0 (h : Dk w b bm s) : w.cell? ⟨b, 0, none⟩ = some (.int .i64 0) := h.at_ rfl
theorem c1 (h : Dk w b bm s) : w.cell? ⟨b, 1, none⟩ = some (.int .i64 (s.pl : Int)) := h.at_ rfl
theorem c2 (h : Dk w b bm s) : w.cell? ⟨b, 2, none⟩ = some (.int .u32 (s.mv : Int)) := h.at_ rfl
theorem c3 (h : Dk w b bm s) : w.cell? ⟨b, 3, none⟩ = some (.int .u32 (s.df : Int)) := h.at_ rfl
theorem c4 (h : Dk w b bm s) : w.cell? ⟨b, 4, none⟩ = some (.slice none 0 0) := h.at_ rfl
theorem c5 (h : Dk w b bm s) : w.cell? ⟨b, 5, none⟩ = some (.slice none 0 0) := h.at_ rfl
theorem c6 (h : Dk w b bm s) : w.cell? ⟨b, 6, none⟩ = some (.int .u32 (s.tk : Int)) := h.at_ rfl
theorem c7 (h : Dk w b bm s) : w.cell? ⟨b, 7, none⟩ = some (.map (some bm)) := h.at_ rfl
theorem fz (h : Dk w b bm s) (j : Nat) : w.frozen? ⟨b, j, none⟩ = false := frozen_of_row w b j _ _ h.box
end Dk
end Go.Proofs.YtglmciklegifaaaDoor
