/- Parts of one proof, in their order. -/
import Derived.Test.YtnbbglhpjpebhaaDoorZTrBase09
import Derived.Maps.RangeWalk
import Derived.Maps.Ext
import Derived.WalkArith
import Derived.Deep.DeepCutAuto
import Derived.Lib.SliceRun
import Derived.Carry
/- A trail: its map of moves, told by what stands at each tick; its row. Conditions: those said. -/
namespace Go.Proofs.YtnbbglhpjpebhaaDoor
open Go.RowKit
open Go.Maps (Keyed IsMap Tidy)

abbrev UF := Nat → Option Nat
def updU (f : UF) (t : Nat) (x : Option Nat) : UF := fun u => if u = t then x else f u
abbrev ownU (w : World) (b n : Nat) (D : DataW Unit) : Prop := w.ownsMap Tryd.prog 22 (plainElem Tryd.prog 22) b n D
def ukey (t : Nat) : Lit := .int .u32 (t : Int)
theorem u_law : Keyed Tryd.prog 22 := Maps.int_keyed Tryd.underlying22
theorem ukey_of {t : Nat} (ht : t < 4294967296) : keyOf Tryd.prog 22 (.int .u32 (t : Int)) = some (ukey t) := Maps.keyOf_int_mk Tryd.underlying22 (WalkArith.wf_u32 (by omega))
theorem ukey_ok {t : Nat} (ht : t < 4294967296) : WideAt.IsKeyLit (ukey t) := u_law.key (ukey_of ht)
theorem ukey_inj {t u : Nat} (h : ukey t = ukey u) : t = u := by
  unfold ukey at h
  injection h with _ h
  omega
theorem ukey_inv {v : Value} {l : Lit} (h : keyOf Tryd.prog 22 v = some l) : ∃ t, v = .int .u32 ((t : Nat) : Int) ∧ t < 4294967296 ∧ l = ukey t := by
  obtain ⟨x, rfl, rfl, hw⟩ := Maps.keyOf_int_inv Tryd.underlying22 h
  have h2 := bounds_u32 hw
  obtain ⟨k, rfl⟩ := Int.eq_ofNat_of_zero_le h2.1
  exact ⟨k, rfl, by omega, rfl⟩
def UvD (D : DataW Unit) (f : UF) : Prop := ∀ t, t < 4294967296 → Maps.has D (ukey t) = (f t).isSome ∧ ∀ v, f t = some v → v < 4294967296 ∧ D.atKey (ukey t) (.lit (.int .u32 0)) = .lit (.int .u32 (v : Int))
/-- Block b is a map of at most n moves: at each tick what f says. -/
def Uv (w : World) (b n : Nat) (f : UF) : Prop := ∃ D, ownU w b n D ∧ UvD D f
theorem mapTU : Tryd.prog.underlying 81 = some (.map 22 22) := Tryd.underlying81
theorem zeroU32 (w : World) : (zeroValue 22).run Tryd.prog w = .ok (.int .u32 0) w := by kernel_rfl
theorem ownU_keep {w w' : World} {b n : Nat} {D : DataW Unit} (h : ownU w b n D) (hb : w'.heap[b]? = w.heap[b]?) : ownU w' b n D := by
  obtain ⟨es, clock, h1, h2⟩ := h
  exact ⟨es, clock, hb.trans h1, h2⟩
namespace Uv
variable {w w' : World} {b n : Nat} {f : UF}
theorem lt (h : Uv w b n f) : b < w.heap.size := by obtain ⟨D, h, _⟩ := h; exact h.lt
theorem keep (h : Uv w b n f) (hb : w'.heap[b]? = w.heap[b]?) : Uv w' b n f := by
  obtain ⟨D, h, hD⟩ := h
  exact ⟨D, ownU_keep h hb, hD⟩
theorem mod {S : Nat → Prop} (h : Uv w b n f) (hm : Mod S w w') (hs : ¬ S b) : Uv w' b n f := h.keep (hm.block b h.lt hs)
theorem ext (h : Uv w b n f) (hb : Below w.heap.size w w') : Uv w' b n f := h.keep (hb.block b h.lt)
theorem isMap (h : Uv w b n f) : ∃ es clock, w.heap[b]? = some (.map es clock) := by
  obtain ⟨D, ⟨es, clock, h1, _⟩, _⟩ := h
  exact ⟨es, clock, h1⟩
theorem made (w : World) : Uv (w.alloc (.map #[] 0)) w.heap.size 0 (fun _ => none) :=
  ⟨_, World.ownsMap_made _ _ _ _, fun t _ => ⟨rfl, fun v h => by cases h⟩⟩
theorem mono (h : Uv w b n f) {m : Nat} (hm : n ≤ m) : Uv w b m f := by
  obtain ⟨D, h, hD⟩ := h
  exact ⟨D, h.mono hm, hD⟩
set_option maxRecDepth 100000 in
theorem look (h : Uv w b n f) {t : Nat} (ht : t < 4294967296) :
    (Instr.lookup 81 (.map (some b)) (.int .u32 (t : Int)) true).run Tryd.prog w = .ok (.tuple #[.int .u32 (((f t).getD 0 : Nat) : Int), .bool (f t).isSome]) w := by
  obtain ⟨D, h, hD⟩ := h
  obtain ⟨h1, h2⟩ := hD t ht
  obtain ⟨v, ps, hrun, hv⟩ := h.look_ok u_law mapTU (zeroU32 w) (zd := .lit (.int .u32 0)) (zp := []) (plainElem_int Tryd.underlying22 (by decide)) (ukey_of ht)
  obtain ⟨c, rfl, hc, _⟩ := plainElem_int_inv Tryd.underlying22 hv
  have hc := congrArg Prod.fst hc
  simp only at hc
  rw [hrun, h1]
  cases hf : f t with
  | none =>
    rw [hf] at h1
    rw [Maps.atKey_of_not_has h1] at hc
    injection hc with hc
    injection hc with _ hc
    rw [← hc]
    rfl
  | some x =>
    rw [(h2 x hf).2] at hc
    injection hc with hc
    injection hc with _ hc
    rw [← hc]
    rfl
set_option maxRecDepth 100000 in
theorem store (h : Uv w b n f) (hn : n < maxLen) {t : Nat} (ht : t < 4294967296) {v : Nat} (hv : v < 4294967296) :
    ∃ w', (Instr.mapUpdate 81 (.map (some b)) (.int .u32 (t : Int)) (.int .u32 (v : Int))).run Tryd.prog w = .ok () w' ∧ Uv w' b (n + 1) (updU f t (some v)) ∧ Mod (fun i => i = b) w w' ∧ w'.heap.size = w.heap.size := by
  obtain ⟨D, h, hD⟩ := h
  obtain ⟨w', hrun, hown, hturn⟩ := h.store u_law mapTU hn (ukey_of ht) (plainElem_int Tryd.underlying22 (WalkArith.wf_u32 (n := (v : Int)) (by omega)))
  refine ⟨w', hrun, ⟨_, hown, fun u hu => ?_⟩, (Mod.of_grown hturn.grown).mono (fun i _ e => by injection e with e; exact e.symm), ?_⟩
  · unfold updU
    by_cases e : u = t
    · subst e
      rw [if_pos rfl, Maps.has_put_same h.isMap (ukey_ok hu)]
      refine ⟨rfl, fun x hx => ?_⟩
      injection hx with hx
      subst hx
      exact ⟨hv, Maps.atKey_put_same h.isMap (ukey_ok hu) _ _⟩
    · have hne : ukey u ≠ ukey t := fun e' => e (ukey_inj e')
      rw [if_neg e, Maps.has_put_other hne]
      refine ⟨(hD u hu).1, fun x hx => ?_⟩
      rw [Maps.atKey_put_other hne]
      exact (hD u hu).2 x hx
  · obtain ⟨es, clock, es', clock', _, rfl⟩ := hturn
    simp [ChangeMaps.setBlock]
end Uv

/-! ### at an operation -/
set_option maxRecDepth 100000 in
theorem yk_lookU {ops : Array Oper} {S : World → Prop} {op : Oper} {a : Act} (hw : Region.wanted op (yielded ops a.tmps) = true) (x y : Operand) (ho : op.op = .lookup 81 x y true) (b n : Nat) (f : UF) (t : Nat)
    (hx : a.eval x = .map (some b)) (hy : a.eval y = .int .u32 (t : Int)) (ht : t < 4294967296) (hS : ∀ w, S w → Uv w b n f) (c : Int) (d : Bool) (hc : (((f t).getD 0 : Nat) : Int) = c) (hd : (f t).isSome = d) : YieldsIf Tryd.prog ops S op (.tuple #[.int .u32 c, .bool d]) a :=
  .inl ⟨hw, fun w h => by
    have hrun := (hS w h).look ht
    rw [hc, hd] at hrun
    unfold execOp
    simp only [ho, hx, hy]
    simp [hrun, Result.andThen]⟩
set_option maxRecDepth 100000 in
theorem wpList_lookU {ops : Array Oper} {rest : List Oper} {o : Oper} {a : Act} {w : World} {Q : Exit → Act → World → Prop} (hg : o.guard = none) (x y : Operand) (ho : o.op = .lookup 81 x y true) (b n : Nat) (f : UF) (t : Nat)
    (hx : a.eval x = .map (some b)) (hy : a.eval y = .int .u32 (t : Int)) (ht : t < 4294967296) (hU : Uv w b n f) (c : Int) (d : Bool) (hc : (((f t).getD 0 : Nat) : Int) = c) (hd : (f t).isSome = d)
    (h : wpList Tryd.prog ops Q rest (a.put o.dst (.tuple #[.int .u32 c, .bool d])) w) : wpList Tryd.prog ops Q (o :: rest) a w := by
  have hrun := hU.look ht
  rw [hc, hd] at hrun
  refine wpList_plain hg fun K' hK' => ?_
  unfold Oper.wp execOp
  simp only [ho, hx, hy]
  simp [hrun, Result.andThen]
  exact hK' _ _ h
set_option maxRecDepth 100000 in
theorem wpList_upU {ops : Array Oper} {rest : List Oper} {o : Oper} {a : Act} {w : World} {Q : Exit → Act → World → Prop} (hg : o.guard = none) (m x v : Operand) (ho : o.op = .mapUpdate 81 m x v) (b n : Nat) (f : UF) (t u : Nat)
    (hm : a.eval m = .map (some b)) (hx : a.eval x = .int .u32 (t : Int)) (hv : a.eval v = .int .u32 (u : Int)) (hU : Uv w b n f) (hn : n < maxLen) (ht : t < 4294967296) (hu : u < 4294967296)
    (h : ∀ w', Uv w' b (n + 1) (updU f t (some u)) → Mod (fun i => i = b) w w' → w'.heap.size = w.heap.size → wpList Tryd.prog ops Q rest (a.put o.dst undef) w') : wpList Tryd.prog ops Q (o :: rest) a w := by
  obtain ⟨w', hrun, h1, h2, h3⟩ := hU.store hn ht hu
  refine wpList_plain hg fun K' hK' => ?_
  unfold Oper.wp execOp
  simp only [ho, hm, hx, hv]
  simp [hrun, Result.andThen]
  exact hK' _ _ (h w' h1 h2 h3)
set_option maxRecDepth 100000 in
theorem wpList_clearU {ops : Array Oper} {rest : List Oper} {o : Oper} {a : Act} {w : World} {Q : Exit → Act → World → Prop} (hg : o.guard = none) (m : Operand) (ho : o.op = .call { callee := .builtin .clear, args := #[m], argTypes := #[81] }) (b n : Nat) (f : UF)
    (hm : a.eval m = .map (some b)) (hU : Uv w b n f)
    (h : ∀ w', Uv w' b 0 (fun _ => none) → Mod (fun i => i = b) w w' → w'.heap.size = w.heap.size → wpList Tryd.prog ops Q rest (a.put o.dst (.tuple #[])) w') : wpList Tryd.prog ops Q (o :: rest) a w := by
  have hlt := hU.lt
  obtain ⟨es, clock, hb⟩ := hU.isMap
  have hrun : ∀ ty, (Builtin.clear_ #[81] ty #[.map (some b)]).run Tryd.prog w = .ok (.tuple #[]) (ChangeMaps.setBlock w b (.map #[] clock)) := fun ty => by
    simp [Builtin.clear_, run_underlying mapTU, MapKept.run_getObj_map hb, MapKept.run_setObj_map _ hb, Result.andThen, ChangeMaps.setBlock]
  have hb' : (ChangeMaps.setBlock w b (.map #[] clock)).heap[b]? = some (.map #[] clock) := by
    simp [ChangeMaps.setBlock, hlt]
  refine wpList_plain hg fun K' hK' => ?_
  unfold Oper.wp execOp
  simp only [ho, resolve, invoke, builtin, Sem.run_bind, Sem.run_pure, Result.andThen_ok, List.map_toArray, List.map_cons, List.map_nil, hm, hrun]
  refine hK' _ _ (h _ ⟨_, ⟨#[], clock, hb', ⟨by simp, MapKept.stamped_empty clock, by simp⟩, Nat.le_refl _, rfl⟩, fun t _ => ⟨rfl, fun v h => by cases h⟩⟩ ?_ (by simp [ChangeMaps.setBlock]))
  refine ⟨rfl, rfl, rfl, by simp [ChangeMaps.setBlock], fun i hi hne => ?_⟩
  have hne : ¬ b = i := fun e => hne e.symm
  simp [ChangeMaps.setBlock, hne]
end Go.Proofs.YtnbbglhpjpebhaaDoor
/- A game that isn't too great, apart. Conditions: the numbers fit. -/
namespace Go.Proofs.YtnbbglhpjpebhaaDoor
open Go.RowKit
set_option linter.unusedVariables false

/-- What few makes of it. -/
def fewG (g : Gm) : Gm := { g with L := g.L.take 48, K := g.K.take 96 }
structure StopG (p : Prop) : Prop where
  out : p
theorem stop_atG {p : Prop} (h : StopG p) : p := h.out
theorem own_slG {w : World} {B n sz : Nat} {e : TypeId} {v : Value} {xs : List Value} (h : w.ownsRow B e sz v n xs) : ∃ A c b, v = .slice A n c ∧ n ≤ c ∧ B ≤ b ∧ Sl w b A xs ∧ (∀ k, v.ownBlock = some k → k = b) := by
  rcases h.2 with ⟨rfl, rfl⟩ | ⟨g, cap, cur, rfl, hb, _, hnc, hcm, _⟩
  · have hx : xs = [] := List.eq_nil_of_length_eq_zero (by simpa using h.1)
    subst hx
    exact ⟨none, 0, B, rfl, Nat.le_refl _, Nat.le_refl _, Sl.nil_ _ _ _, by simp [Value.ownBlock]⟩
  · refine ⟨_, cap, g, rfl, hnc, hb, fun _ => ⟨0, rfl, fun j u hu => ?_⟩, by simp [Value.ownBlock]⟩
    have := h.cells (g := g) rfl j u hu
    simpa [Addr.add_lit] using this
theorem cellG_info : (Tryd.prog.info? 33).map (fun i => (i.zero, i.size, i.bytes)) = some (some (.agg #[.int .i32 0, .int .u32 0]), 2, 8) := by kernel_rfl
theorem codeG_info : (Tryd.prog.info? 80).map (fun i => (i.zero, i.size, i.bytes)) = some (some (.agg #[.int .u8 0, .int .u8 0, .int .u8 0, .int .u8 0, .int .i32 0, .int .u32 0]), 6, 12) := by kernel_rfl
theorem kvG_one (l : List Cd) : ∀ u ∈ kv l, u.oneCell' = true := by
  intro u hu
  obtain ⟨c, _, hu⟩ := List.mem_flatMap.1 hu
  simp only [cdA, List.mem_cons, List.not_mem_nil, or_false] at hu
  rcases hu with rfl | rfl | rfl | rfl | rfl | rfl <;> rfl
theorem kvG_take : ∀ (l : List Cd) (k : Nat), (kv l).take (k * 6) = kv (l.take k) := by
  intro l
  induction l with
  | nil => intro k; simp
  | cons c l ih =>
    intro k
    cases k with
    | zero => simp
    | succ k =>
      rw [kv_cons, show (k + 1) * 6 = (cdA c).toList.length + k * 6 by rw [cdA_len]; omega, List.take_length_add_append, ih, List.take_succ_cons, kv_cons]
theorem GBox.modG {w w' : World} {k : Nat} {g : Gm} {s : Gs} {S : Nat → Prop} (h : GBox w k g s) (hm : Mod S w w') (hs : ¬ S k) : GBox w' k g s := (hm.block k h.lt hs).trans h
theorem GBox.s4 {w : World} {k : Nat} {g : Gm} {s : Gs} (h : GBox w k g s) (L : List (Int × Nat)) (n : Nat) (hn : L.length = n) (A : Option Addr) (c b : Nat) : GBox (w.setCell ⟨k, 4, none⟩ (.slice A n c)) k { g with L := L } { s with A := A, c := c, b := b } := by
  unfold GBox
  rw [heap_setCell_same w k 4 _ _ _ h]
  subst hn
  rfl
theorem GBox.s5 {w : World} {k : Nat} {g : Gm} {s : Gs} (h : GBox w k g s) (K : List Cd) (n : Nat) (hn : K.length = n) (A : Option Addr) (c b : Nat) : GBox (w.setCell ⟨k, 5, none⟩ (.slice A n c)) k { g with K := K } { s with A' := A, c' := c, b' := b } := by
  unfold GBox
  rw [heap_setCell_same w k 5 _ _ _ h]
  subst hn
  rfl
theorem six_set6 {w : World} {b : Nat} {t : TypeId} {c0 c1 c2 c3 c4 c5 : Value} (v0 v1 v2 v3 v4 v5 : Value) (h : w.heap[b]? = some (.cells #[c0, c1, c2, c3, c4, c5] t (0, 0))) :
    ((((((w.setCell ⟨b, 0, none⟩ v0).setCell ⟨b, 1, none⟩ v1).setCell ⟨b, 2, none⟩ v2).setCell ⟨b, 3, none⟩ v3).setCell ⟨b, 4, none⟩ v4).setCell ⟨b, 5, none⟩ v5).heap[b]? = some (.cells #[v0, v1, v2, v3, v4, v5] t (0, 0)) ∧
    Mod (fun i => i = b) w ((((((w.setCell ⟨b, 0, none⟩ v0).setCell ⟨b, 1, none⟩ v1).setCell ⟨b, 2, none⟩ v2).setCell ⟨b, 3, none⟩ v3).setCell ⟨b, 4, none⟩ v4).setCell ⟨b, 5, none⟩ v5) := by
  have h0 := heap_setCell_same w b 0 _ _ v0 h
  have h1 := heap_setCell_same _ b 1 _ _ v1 h0
  have h2 := heap_setCell_same _ b 2 _ _ v2 h1
  have h3 := heap_setCell_same _ b 3 _ _ v3 h2
  have h4 := heap_setCell_same _ b 4 _ _ v4 h3
  have h5 := heap_setCell_same _ b 5 _ _ v5 h4
  refine ⟨h5, ?_⟩
  have id : ∀ (x : World) (i : Nat), i < x.heap.size → i = b → i = b := fun _ _ _ h => h
  exact ((((((Mod.setCell w ⟨b, 0, none⟩ v0).trans (Mod.setCell _ ⟨b, 1, none⟩ v1) (id _) (id _)).trans (Mod.setCell _ ⟨b, 2, none⟩ v2) (id _) (id _)).trans (Mod.setCell _ ⟨b, 3, none⟩ v3) (id _) (id _)).trans (Mod.setCell _ ⟨b, 4, none⟩ v4) (id _) (id _)).trans (Mod.setCell _ ⟨b, 5, none⟩ v5) (id _) (id _))
theorem fewG_raw {g : Gm} {s : Gs} (h : GRaw g s) (s' : Gs) (h1 : (fewG g).L.length ≤ s'.c) (h2 : (fewG g).K.length ≤ s'.c') : GOk (fewG g) s' :=
  ⟨h.o0, h.o1, h.p0, h.p1, h.m1, h.d1, by show (g.L.take 48).length ≤ 55; rw [List.length_take]; omega, by show (g.K.take 96).length ≤ 100; rw [List.length_take]; omega, h1, h2, okC_take h.oL 48, fun c hc => h.oK c (List.mem_of_mem_take hc)⟩
set_option maxHeartbeats 8000000 in
set_option maxRecDepth 20000 in
theorem FewG_calls (g : Gm) (s : Gs) (w : World) (hin : GIn w g s) (hraw : GRaw g s) :
    Calls Tryd.prog 9 #[.agg (gmA g s)] w fun e w' => ∃ s', e = .returned (.agg (gmA (fewG g) s')) ∧ GIn w' (fewG g) s' ∧ GOk (fewG g) s' ∧ (w.heap.size ≤ s'.b ∧ w.heap.size ≤ s'.b') ∧ Below w.heap.size w w' := by
  have hb := below_alloc2 w (.cells (gmA g s) 26) (.cells #[.int .i64 0, .int .i64 0, .int .u32 0, .int .u32 0, .slice none 0 0, .slice none 0 0] 26)
  have hin1 := hin.ext hb
  have hcL := hraw.hL
  have hcK := hraw.hK
  have hmL := hraw.lL
  have hmK := hraw.lK
  obtain ⟨K1, hK1⟩ : ∃ K, K = min g.L.length 48 := ⟨_, rfl⟩
  have m1 : (if (48 : Int) < (g.L.length : Int) then (48 : Int) else (g.L.length : Int)) = (K1 : Int) := by split <;> omega
  have m2 : min (g.L.length : Int) 48 = (K1 : Int) := by omega
  have m5 : (if (g.L.length : Int) ≤ 48 then (g.L.length : Int) else (48 : Int)) = (K1 : Int) := by split <;> omega
  obtain ⟨K2, hK2⟩ : ∃ K, K = min g.K.length 96 := ⟨_, rfl⟩
  have m3 : (if (96 : Int) < (g.K.length : Int) then (96 : Int) else (g.K.length : Int)) = (K2 : Int) := by split <;> omega
  have m4 : min (g.K.length : Int) 96 = (K2 : Int) := by omega
  have m6 : (if (g.K.length : Int) ≤ 96 then (g.K.length : Int) else (96 : Int)) = (K2 : Int) := by split <;> omega
  have hc1 : (K1 : Int) ≤ (s.c : Int) := by omega
  have hc2 : (K2 : Int) ≤ (s.c' : Int) := by omega
  have l1 : (g.L.take K1).length = K1 := by rw [List.length_take]; omega
  have l2 : (g.K.take K2).length = K2 := by rw [List.length_take]; omega
  have t1 : g.L.take 48 = g.L.take K1 := by
    rw [hK1]
    rcases Nat.le_total g.L.length 48 with h | h
    · rw [Nat.min_eq_left h, List.take_of_length_le h, List.take_length]
    · rw [Nat.min_eq_right h]
  have t2 : g.K.take 96 = g.K.take K2 := by
    rw [hK2]
    rcases Nat.le_total g.K.length 96 with h | h
    · rw [Nat.min_eq_left h, List.take_of_length_le h, List.take_length]
    · rw [Nat.min_eq_right h]
  have hf : fewG g = { g with L := g.L.take K1, K := g.K.take K2 } := by unfold fewG; rw [t1, t2]
  have hK155 : K1 ≤ 48 := by omega
  have hK2100 : K2 ≤ 96 := by omega
  have HOKK := Lib.hid (fun s' => fewG_raw hraw s')
  rw [hf] at HOKK ⊢
  simp only [maxLen] at hmL hmK
  have ha3 := below_alloc1 ((w.alloc (.cells (gmA g s) 26)).alloc (.cells #[.int .i64 0, .int .i64 0, .int .u32 0, .int .u32 0, .slice none 0 0, .slice none 0 0] 26)) (.cells #[] 33)
  have hs1 : Sl (((w.alloc (.cells (gmA g s) 26)).alloc (.cells #[.int .i64 0, .int .i64 0, .int .u32 0, .int .u32 0, .slice none 0 0, .slice none 0 0] 26)).alloc (.cells #[] 33)) s.b s.A (cv (g.L.take K1)) := by
    have h1 := Sl.take (Sl.ext hin1.sc ha3) (K1 * 2)
    rwa [cv_take] at h1
  have ho1 : World.ownsRow (((w.alloc (.cells (gmA g s) 26)).alloc (.cells #[.int .i64 0, .int .i64 0, .int .u32 0, .int .u32 0, .slice none 0 0, .slice none 0 0] 26)).alloc (.cells #[] 33)) (w.heap.size + 1 + 1) 33 2 (.slice (some ⟨w.heap.size + 1 + 1, 0, none⟩) 0 0) 0 [] := by
    have h := World.ownsRow_made ((w.alloc (.cells (gmA g s) 26)).alloc (.cells #[.int .i64 0, .int .i64 0, .int .u32 0, .int .u32 0, .slice none 0 0, .slice none 0 0] 26)) (e := 33) (size := 2) #[] 0 (Nat.le_refl _) (by simp [maxLen]) rfl
    rw [World.size_alloc, World.size_alloc] at h
    exact h
  have q1 : GBox (((w.alloc (.cells (gmA g s) 26)).alloc (.cells #[.int .i64 0, .int .i64 0, .int .u32 0, .int .u32 0, .slice none 0 0, .slice none 0 0] 26)).alloc (.cells #[] 33)) w.heap.size g s := ((GBox.new_ w g s).ext (below_alloc1 _ _)).ext ha3
  have q2 : GBox (((w.alloc (.cells (gmA g s) 26)).alloc (.cells #[.int .i64 0, .int .i64 0, .int .u32 0, .int .u32 0, .slice none 0 0, .slice none 0 0] 26)).alloc (.cells #[] 33)) (w.heap.size + 1) ⟨0, 0, 0, 0, [], []⟩ ⟨none, 0, 0, none, 0, 0⟩ := by
    have h := GBox.new_ (w.alloc (.cells (gmA g s) 26)) ⟨0, 0, 0, 0, [], []⟩ ⟨none, 0, 0, none, 0, 0⟩
    rw [World.size_alloc] at h
    exact h.ext ha3
  have hbb := hb.trans (ha3.mono hb.size)
  have hin3 := hin1.ext ha3
  obtain ⟨i0, hi0, hz0, hz1, hz2⟩ := info_parts cellG_info
  obtain ⟨j0, hj0, hy0, hy1, hy2⟩ := info_parts codeG_info
  have HI := Lib.hid (And.intro hi0 (And.intro hz0 (And.intro hz1 hz2)))
  have HJ := Lib.hid (And.intro hj0 (And.intro hy0 (And.intro hy1 hy2)))
  clear hK1 hK2 t1 t2 hin1 hb ha3 hf hcL hcK hi0 hz0 hz1 hz2 hj0 hy0 hy1 hy2 hraw
  have k4 := q1.c4
  go_enter Tryd.func9, Tryd.ntmps9
  go_wp2_with ((with_reducible refine at_ca 11 _ ?_); refine stop_atG ?_)
  refine ⟨?_⟩
  refine wpList_append_sl (P := Tryd.prog) _ rfl (.tmp 3) (.tmp 10) 23 rfl (w.heap.size + 1 + 1) 33 i0 _ 2 8 Tryd.underlying23 HI.out.1 HI.out.2.1 HI.out.2.2.1 HI.out.2.2.2 rfl (by omega) (.slice (some ⟨w.heap.size + 1 + 1, 0, none⟩) 0 0) 0 [] rfl ho1 s.b s.A K1 s.c (cv (g.L.take K1)) rfl hs1 (by simp [l1]) (fun hA => by have := Sl.none_len hs1 rfl hA; simp [l1] at this; omega) (cv_one _) (by simp only [maxLen]; omega) (by omega) (by simp) ?_
  intro v2 w2 hrow2 hgr2 hloc2
  rw [List.nil_append, Nat.zero_add] at hrow2
  have hm2 := Mod.of_grown hgr2
  have hsz2 := hgr2.size
  simp only [World.size_alloc] at hsz2
  have hob : ∀ i, (Value.slice (some ⟨w.heap.size + 1 + 1, 0, none⟩) 0 0).ownBlock = some i → i = w.heap.size + 1 + 1 := fun i h => by simpa [Value.ownBlock] using h.symm
  replace q1 := q1.modG hm2 (fun e => by have := hob _ e; omega)
  replace q2 := q2.modG hm2 (fun e => by have := hob _ e; omega)
  have hb2 : Below w.heap.size w w2 := hbb.trans (hm2.below hbb.size (fun i hi e => by have := hob _ e; omega))
  replace hin3 : Sl w2 s.b' s.A' (kv g.K) := Sl.ext hin.sk hb2
  obtain ⟨A5, c5, b5, rfl, hc5, hB5, hs5, hk5⟩ := own_slG hrow2
  have f4 := q1.free 4
  have k4' := q1.c4
  have hs5' : cv (g.L.take K1) = cv (g.L.take K1) := rfl
  clear hs1 ho1 hm2 hgr2 hloc2 hbb k4 HI hs5'
  go_upto_region 2 with fail
  have q3 := q1.s4 (g.L.take K1) K1 l1 A5 c5 b5
  have hsm := Mod.setCell w2 ⟨w.heap.size, 4, none⟩ (.slice A5 K1 c5)
  obtain ⟨w3, hw3⟩ : ∃ w3, w3 = w2.setCell ⟨w.heap.size, 4, none⟩ (.slice A5 K1 c5) := ⟨_, rfl⟩
  have hz3 : w3.heap.size = w2.heap.size := by rw [hw3]; simp [World.setCell]
  rw [← hw3] at q3 hsm ⊢
  replace q2 := q2.modG hsm (by show ¬ w.heap.size + 1 = w.heap.size; omega)
  replace hs5 : Sl w3 b5 A5 (cv (g.L.take K1)) := hs5.mod hsm (by show ¬ b5 = w.heap.size; omega)
  replace hb2 : Below w.heap.size w w3 := hb2.trans (hsm.below (by omega) (fun i hi e => by have e : i = w.heap.size := e; omega))
  replace hin3 : Sl w3 s.b' s.A' (kv g.K) := Sl.ext hin.sk hb2
  clear hw3 q1 f4 k4' hsm hrow2
  have ha3 := below_alloc1 w3 (.cells #[] 80)
  have hs1 : Sl (w3.alloc (.cells #[] 80)) s.b' s.A' (kv (g.K.take K2)) := by
    have h1 := Sl.take (Sl.ext hin3 ha3) (K2 * 6)
    rwa [kvG_take] at h1
  have ho1 : World.ownsRow (w3.alloc (.cells #[] 80)) w3.heap.size 80 6 (.slice (some ⟨w3.heap.size, 0, none⟩) 0 0) 0 [] :=
    World.ownsRow_made w3 (e := 80) (size := 6) #[] 0 (Nat.le_refl _) (by simp [maxLen]) rfl
  replace q3 := q3.ext ha3
  replace q2 := q2.ext ha3
  have HZ := Lib.hid hz3
  have hbz : w.heap.size ≤ w3.heap.size := hb2.size
  replace hb2 := hb2.trans (ha3.mono hbz)
  clear hin3 hz3
  have k5 := q3.c5
  simp only at k5
  go_wp2_with ((with_reducible refine at_ca 21 _ ?_); refine stop_atG ?_)
  refine ⟨?_⟩
  refine wpList_append_sl (P := Tryd.prog) _ rfl (.tmp 13) (.tmp 20) 24 rfl w3.heap.size 80 j0 _ 6 12 Tryd.underlying24 HJ.out.1 HJ.out.2.1 HJ.out.2.2.1 HJ.out.2.2.2 rfl (by omega) (.slice (some ⟨w3.heap.size, 0, none⟩) 0 0) 0 [] rfl ho1 s.b' s.A' K2 s.c' (kv (g.K.take K2)) rfl hs1 (by simp [l2]) (fun hA => by have := Sl.none_len hs1 rfl hA; simp [l2] at this; omega) (kvG_one _) (by simp only [maxLen]; omega) (by omega) (by simp) ?_
  intro v4 w4 hrow4 hgr4 hloc4
  rw [List.nil_append, Nat.zero_add] at hrow4
  have hm4 := Mod.of_grown hgr4
  have hsz4 := hgr4.size
  simp only [World.size_alloc] at hsz4
  have hob4 : ∀ i, (Value.slice (some ⟨w3.heap.size, 0, none⟩) 0 0).ownBlock = some i → i = w3.heap.size := fun i h => by simpa [Value.ownBlock] using h.symm
  have hq3 := q3.lt
  have hq2 := q2.lt
  have hz9 := HZ.out
  replace q3 := q3.modG hm4 (fun e => by have := hob4 _ e; omega)
  replace q2 := q2.modG hm4 (fun e => by have := hob4 _ e; omega)
  have hb34 : Below w3.heap.size w3 w4 := ha3.trans (hm4.below (by simp) (fun i hi e => by have := hob4 _ e; omega))
  replace hs5 : Sl w4 b5 A5 (cv (g.L.take K1)) := Sl.ext hs5 hb34
  have hb4 : Below w.heap.size w w4 := hb2.trans (hm4.below hb2.size (fun i hi e => by have := hob4 _ e; omega))
  obtain ⟨A6, c6, b6, rfl, hc6, hB6, hs6, hk6⟩ := own_slG hrow4
  have hb6 : w.heap.size + 2 < b6 := by have := HZ.out; omega
  have f5 := q3.free 5
  have k5' := q3.c5
  simp only at k5'
  clear hs1 ho1 hm4 hgr4 hloc4 hb2 k5 HJ hq3 hq2 hz9 hb34 ha3
  go_upto_region 3 with fail
  have q5 := q3.s5 (g.K.take K2) K2 l2 A6 c6 b6
  have hsm := Mod.setCell w4 ⟨w.heap.size, 5, none⟩ (.slice A6 K2 c6)
  obtain ⟨w5, hw5⟩ : ∃ w5, w5 = w4.setCell ⟨w.heap.size, 5, none⟩ (.slice A6 K2 c6) := ⟨_, rfl⟩
  rw [← hw5] at q5 hsm ⊢
  replace q2 := q2.modG hsm (by show ¬ w.heap.size + 1 = w.heap.size; omega)
  replace hs5 : Sl w5 b5 A5 (cv (g.L.take K1)) := hs5.mod hsm (by show ¬ b5 = w.heap.size; omega)
  replace hs6 : Sl w5 b6 A6 (kv (g.K.take K2)) := hs6.mod hsm (by show ¬ b6 = w.heap.size; omega)
  replace hb4 : Below w.heap.size w w5 := hb4.trans (hsm.below hb4.size (fun i hi e => by have e : i = w.heap.size := e; omega))
  clear hw5 q3 f5 k5' hsm hrow4
  have z0 := q5.c0
  have z1 := q5.c1
  have z2 := q5.c2
  have z3 := q5.c3
  have z4 := q5.c4
  have z5 := q5.c5
  have y0 := q2.c0
  have y1 := q2.c1
  have y2 := q2.c2
  have y3 := q2.c3
  have y4 := q2.c4
  have y5 := q2.c5
  have hfz := q2.free
  simp only [l1, l2] at z0 z1 z2 z3 z4 z5
  simp only at y0 y1 y2 y3 y4 y5
  go_wp2_with fail
  obtain ⟨h9, m9⟩ := six_set6 (.int .i64 g.ob) (.int .i64 g.pl) (.int .u32 (g.mv : Int)) (.int .u32 (g.df : Int)) (.slice A5 K1 c5) (.slice A6 K2 c6) q2
  refine bodyPost_ret (results_cell_row (P := Tryd.prog) rfl _ _ (w.heap.size + 1) _ _ (0, 0) _ rfl h9 Tryd.underlying26 rfl (by kernel_rfl)) rfl ?_
  have hb9 := hb4.trans (m9.below hb4.size (fun i hi e => by have e : i = w.heap.size + 1 := e; omega))
  refine ⟨⟨A5, c5, b5, A6, c6, b6⟩, ?_, ⟨?_, ?_⟩, ?_, ⟨by show w.heap.size ≤ b5; omega, by show w.heap.size ≤ b6; omega⟩, hb9⟩
  · simp only [gmA, l1, l2]
  · exact hs5.mod m9 (by show ¬ b5 = w.heap.size + 1; omega)
  · exact hs6.mod m9 (by show ¬ b6 = w.heap.size + 1; omega)
  · exact HOKK.out ⟨A5, c5, b5, A6, c6, b6⟩ (by show (g.L.take K1).length ≤ c5; rw [l1]; exact hc5) (by show (g.K.take K2).length ≤ c6; rw [l2]; exact hc6)
end Go.Proofs.YtnbbglhpjpebhaaDoor
/- A trail's row: what it reads as, what a store makes of it. Conditions: those said. -/
namespace Go.Proofs.YtnbbglhpjpebhaaDoor
open Go.RowKit

/-- A trail: its game, and where that lies; whose it is; what is known; how often it was wrong; how many moves there may be; the moves. -/
structure Tr where
  g : Gm
  s : Gs
  o : Int
  k : St
  r : Nat
  n : Nat
  f : UF
def trL (t : Tr) (bm : Nat) : List Value := (gmA t.g t.s).toList ++ (.int .i64 t.o :: (stL t.k ++ [.map (some bm), .int .i64 (t.r : Int)]))
def trA (t : Tr) (bm : Nat) : Array Value := (trL t bm).toArray
theorem trL_len (t : Tr) (bm : Nat) : (trL t bm).length = 108 := by simp [trL, stL_len]
theorem trA_size (t : Tr) (bm : Nat) : (trA t bm).size = 108 := by unfold trA; simp [trL_len]
theorem trL_g {t : Tr} {bm i : Nat} {v : Value} (h : (gmA t.g t.s)[i]? = some v) : (trL t bm)[i]? = some v := by
  unfold trL
  rw [List.getElem?_append_left (by have := (Array.getElem?_eq_some_iff.1 h).1; simpa using this)]
  simpa using h
theorem trL_o (t : Tr) (bm : Nat) : (trL t bm)[6]? = some (.int .i64 t.o) := by
  unfold trL
  rw [List.getElem?_append_right (by simp)]
  rfl
theorem trL_k {t : Tr} {bm i : Nat} {v : Value} (h : (stL t.k)[i]? = some v) : (trL t bm)[7 + i]? = some v := by
  unfold trL
  rw [List.getElem?_append_right (by simp; omega), show 7 + i - (gmA t.g t.s).toList.length = i + 1 by simp; omega, List.getElem?_cons_succ, List.getElem?_append_left (List.getElem?_eq_some_iff.1 h).1]
  exact h
theorem trL_e (t : Tr) (bm i : Nat) : (trL t bm)[106 + i]? = [Value.map (some bm), .int .i64 (t.r : Int)][i]? := by
  unfold trL
  rw [List.getElem?_append_right (by simp; omega), show 106 + i - (gmA t.g t.s).toList.length = (99 + i) + 1 by simp; omega, List.getElem?_cons_succ, List.getElem?_append_right (by rw [stL_len]; omega), stL_len, show 99 + i - 99 = i by omega]
theorem stL_all (s : St) : ∀ v ∈ stL s, v.oneCell' = true := fun v hv => Array.all_eq_true_iff_forall_mem.1 (stA_all s) v (by unfold stA; simpa using hv)
theorem trA_all (t : Tr) (bm : Nat) : (trA t bm).all (·.oneCell') = true := by
  refine Array.all_eq_true_iff_forall_mem.2 fun v hv => ?_
  have hv : v ∈ trL t bm := by unfold trA at hv; simpa using hv
  unfold trL at hv
  rcases List.mem_append.1 hv with h | h
  · simp only [List.mem_cons, List.not_mem_nil, or_false] at h
    rcases h with rfl | rfl | rfl | rfl | rfl | rfl <;> rfl
  · rcases List.mem_cons.1 h with rfl | h
    · rfl
    · rcases List.mem_append.1 h with h | h
      · exact stL_all _ v h
      · simp only [List.mem_cons, List.not_mem_nil, or_false] at h
        rcases h with rfl | rfl <;> rfl
def TRow (w : World) (b bm : Nat) (t : Tr) : Prop := w.heap[b]? = some (.cells (trA t bm) 83 (0, 0))
namespace TRow
variable {w w' : World} {b bm : Nat} {t : Tr}
theorem lt (h : TRow w b bm t) : b < w.heap.size := (Array.getElem?_eq_some_iff.1 h).1
theorem keep (h : TRow w b bm t) (hk : w'.heap[b]? = w.heap[b]?) : TRow w' b bm t := hk.trans h
theorem ext (h : TRow w b bm t) (hb : Below w.heap.size w w') : TRow w' b bm t := h.keep (hb.block b h.lt)
theorem at_ (h : TRow w b bm t) {k : Nat} {v : Value} (hv : (trL t bm)[k]? = some v) : w.cell? ⟨b, k, none⟩ = some v := by
  rw [cell_of_row w b k _ _ _ h]
  unfold trA
  simpa using hv
theorem free (h : TRow w b bm t) (j : Nat) : w.frozen? ⟨b, j, none⟩ = false := frozen_of_row w b j _ _ h
theorem c0 (h : TRow w b bm t) : w.cell? ⟨b, 0, none⟩ = some (.int .i64 t.g.ob) := h.at_ (trL_g rfl)
theorem c1 (h : TRow w b bm t) : w.cell? ⟨b, 1, none⟩ = some (.int .i64 t.g.pl) := h.at_ (trL_g rfl)
theorem c2 (h : TRow w b bm t) : w.cell? ⟨b, 2, none⟩ = some (.int .u32 (t.g.mv : Int)) := h.at_ (trL_g rfl)
theorem c3 (h : TRow w b bm t) : w.cell? ⟨b, 3, none⟩ = some (.int .u32 (t.g.df : Int)) := h.at_ (trL_g rfl)
theorem c4 (h : TRow w b bm t) : w.cell? ⟨b, 4, none⟩ = some (.slice t.s.A t.g.L.length t.s.c) := h.at_ (trL_g rfl)
theorem c5 (h : TRow w b bm t) : w.cell? ⟨b, 5, none⟩ = some (.slice t.s.A' t.g.K.length t.s.c') := h.at_ (trL_g rfl)
theorem c6 (h : TRow w b bm t) : w.cell? ⟨b, 6, none⟩ = some (.int .i64 t.o) := h.at_ (trL_o t bm)
theorem cT (h : TRow w b bm t) : w.cell? ⟨b, 105, none⟩ = some (.int .u32 (t.k.tk : Int)) := h.at_ (trL_k (i := 98) (stL_at (k := 1) rfl))
theorem cM (h : TRow w b bm t) : w.cell? ⟨b, 106, none⟩ = some (.map (some bm)) := h.at_ (trL_e t bm 0)
theorem cR (h : TRow w b bm t) : w.cell? ⟨b, 107, none⟩ = some (.int .i64 (t.r : Int)) := h.at_ (trL_e t bm 1)
theorem rangeK (h : TRow w b bm t) : w.rangeAt b 7 (stL t.k) := fun _ _ hv => h.at_ (trL_k hv)
theorem thereK (h : TRow w b bm t) : w.there b 7 99 := fun j hj => by
  refine ⟨?_, h.free _⟩
  obtain ⟨v, hv⟩ : ∃ v, (stL t.k)[j]? = some v := ⟨_, List.getElem?_eq_getElem (by rw [stL_len]; exact hj)⟩
  rw [h.rangeK j v hv]
  rfl
theorem sK (h : TRow w b bm t) (k : St) : TRow (w.setCells b 7 (stL k)) b bm { t with k := k } := by
  unfold TRow
  rw [setCells_heap b (stL k) 7 w _ _ h (by rw [trL_len, stL_len]; omega)]
  congr 2
theorem sR (h : TRow w b bm t) (n : Nat) : TRow (w.setCell ⟨b, 107, none⟩ (.int .i64 (n : Int))) b bm { t with r := n } := by
  unfold TRow
  rw [heap_setCell_same w b 107 _ _ _ h]
  have e : (trL t bm).set 107 (.int .i64 (n : Int)) = trL { t with r := n } bm := by
    unfold trL
    rw [List.set_append_right _ _ (by simp), show 107 - (gmA t.g t.s).toList.length = 100 + 1 by simp, List.set_cons_succ, List.set_append_right _ _ (by rw [stL_len]; omega), stL_len]
    rfl
  unfold trA
  rw [← e]
  simp
end TRow
structure TBox (w : World) (b bm : Nat) (t : Tr) : Prop where
  row : TRow w b bm t
  mp : Uv w bm t.n t.f
  gi : GIn w t.g t.s
  ap : (¬ t.s.b = b ∧ ¬ t.s.b = bm) ∧ ¬ t.s.b' = b ∧ ¬ t.s.b' = bm
structure TrOk (t : Tr) : Prop where
  g : GOk t.g t.s
  o : -9223372036854775808 ≤ t.o ∧ t.o ≤ 9223372036854775807
  l48 : t.k.L.length ≤ 48
  oL : okC t.k.L
  tk : t.k.tk ≤ 4294967295
  r : t.r ≤ 1000000
  fv : ∀ u v, t.f u = some v → v ≤ 4294967295
namespace TBox
variable {w w' : World} {b bm : Nat} {t : Tr}
theorem lt (h : TBox w b bm t) : b < w.heap.size := h.row.lt
theorem ltm (h : TBox w b bm t) : bm < w.heap.size := h.mp.lt
theorem ne (h : TBox w b bm t) : ¬ b = bm := fun e => by
  obtain ⟨es, clock, h2⟩ := h.mp.isMap
  rw [← e, h.row] at h2
  cases h2
theorem ext (h : TBox w b bm t) (hb : Below w.heap.size w w') : TBox w' b bm t := ⟨h.row.ext hb, h.mp.ext hb, h.gi.ext hb, h.ap⟩
/-- What turns nothing of it leaves it. -/
theorem mod {S : Nat → Prop} (h : TBox w b bm t) (hm : Mod S w w') (h1 : ¬ S b) (h2 : ¬ S bm) (h3 : ¬ S t.s.b) (h4 : ¬ S t.s.b') : TBox w' b bm t := ⟨h.row.keep (hm.block b h.lt h1), h.mp.mod hm h2, ⟨h.gi.sc.mod hm h3, h.gi.sk.mod hm h4⟩, h.ap⟩
theorem sK (h : TBox w b bm t) (k : St) : TBox (w.setCells b 7 (stL k)) b bm { t with k := k } := by
  have hm := mod_setCells w b 7 (stL k)
  exact ⟨h.row.sK k, h.mp.mod hm (fun e => h.ne e.symm), ⟨h.gi.sc.mod hm h.ap.1.1, h.gi.sk.mod hm h.ap.2.1⟩, h.ap⟩
theorem sR (h : TBox w b bm t) (n : Nat) : TBox (w.setCell ⟨b, 107, none⟩ (.int .i64 (n : Int))) b bm { t with r := n } := by
  have hm := Mod.setCell w ⟨b, 107, none⟩ (.int .i64 (n : Int))
  exact ⟨h.row.sR n, h.mp.mod hm (fun e => h.ne e.symm), ⟨h.gi.sc.mod hm h.ap.1.1, h.gi.sk.mod hm h.ap.2.1⟩, h.ap⟩
theorem sF (h : TBox w b bm t) {n : Nat} {f : UF} (hu : Uv w' bm n f) (hm : Mod (fun i => i = bm) w w') : TBox w' b bm { t with n := n, f := f } :=
  ⟨h.row.keep (hm.block b h.lt h.ne), hu, ⟨h.gi.sc.mod hm h.ap.1.2, h.gi.sk.mod hm h.ap.2.2⟩, h.ap⟩
end TBox
theorem tr_k_size (s : St) : (Tryd.prog.info? 40).map (·.size) = some (stA s).size := by rw [stA_size]; kernel_rfl
section
variable {ops : Array Oper} {rest : List Oper} {o : Oper} {a : Act} {w : World} {Q : Exit → Act → World → Prop} {b bm : Nat} {t : Tr}
theorem wpList_ldT (hgd : o.guard = none) (x : Operand) (ho : o.op = .load 40 x) (b : Nat) (hx : a.eval x = .pointer (some ⟨b, 7, none⟩)) (h : TRow w b bm t)
    (k : wpList Tryd.prog ops Q rest (a.put o.dst (.agg (stA t.k))) w) : wpList Tryd.prog ops Q (o :: rest) a w :=
  wpList_load_mid hgd _ x ho b 7 hx _ _ h.rangeK Tryd.underlying40 rfl (st_size _) k
theorem yk_ldT {S : World → Prop} (hw : Region.wanted o (yielded ops a.tmps) = true) (x : Operand) (ho : o.op = .load 40 x) (b : Nat) (hx : a.eval x = .pointer (some ⟨b, 7, none⟩)) (hS : ∀ w, S w → TRow w b bm t) : YieldsIf Tryd.prog ops S o (.agg (stA t.k)) a :=
  yieldsIf_load_mid (P := Tryd.prog) (S := S) hw _ x ho b 7 hx (stL t.k) _ (fun w h => (hS w h).rangeK) Tryd.underlying40 rfl (st_size _)
theorem yk_ldGT {S : World → Prop} (hw : Region.wanted o (yielded ops a.tmps) = true) (x : Operand) (ho : o.op = .load 26 x) (b : Nat) (hx : a.eval x = .pointer (some ⟨b, 0, none⟩)) (hS : ∀ w, S w → TRow w b bm t) : YieldsIf Tryd.prog ops S o (.agg (gmA t.g t.s)) a :=
  .inl ⟨hw, fun w h => by
    have c0 := (hS w h).c0
    have c1 := (hS w h).c1
    have c2 := (hS w h).c2
    have c3 := (hS w h).c3
    have c4 := (hS w h).c4
    have c5 := (hS w h).c5
    unfold execOp
    simp only [ho, hx]
    go_simp⟩
theorem wpList_stT (hgd : o.guard = none) (x y : Operand) (ho : o.op = .store 40 x y) (b : Nat) (k : St) (hx : a.eval x = .pointer (some ⟨b, 7, none⟩)) (hy : a.eval y = .agg (stA k)) (h : TRow w b bm t)
    (hk : wpList Tryd.prog ops Q rest (a.put o.dst undef) (w.setCells b 7 (stL k))) : wpList Tryd.prog ops Q (o :: rest) a w := by
  refine wpList_store_mid hgd _ x y ho b 7 (stA k) hx hy (by rw [stA_size]; exact h.thereK) (by rw [stA_size]; kernel_rfl) (stA_all k) ?_
  unfold stA
  simpa using hk
end
end Go.Proofs.YtnbbglhpjpebhaaDoor
/- What slices.Clone answers of cells, of instructions; how a trail is built. Conditions: those said. -/
namespace Go.Proofs.YtnbbglhpjpebhaaDoor
open Go.RowKit
set_option linter.unusedVariables false

set_option maxHeartbeats 4000000 in
set_option maxRecDepth 20000 in
theorem CloneC_calls (L : List (Int × Nat)) (A : Option Addr) (c b : Nat) (w : World) (hs : Sl w b A (cv L)) (hc : L.length ≤ c) (hm : L.length ≤ 1000) :
    Calls Tryd.prog 31 #[.slice A L.length c] w fun e w' => ∃ A' c' b', e = .returned (.slice A' L.length c') ∧ Sl w' b' A' (cv L) ∧ L.length ≤ c' ∧ w.heap.size ≤ b' ∧ Below w.heap.size w w' := by
  obtain ⟨n, hn⟩ : ∃ n, n = L.length := ⟨_, rfl⟩
  have hlen := Sl.none_len (m := n * 2) hs (by simp [hn])
  have q23 : ∀ (w : World) (a : Option Addr) (n c n' c' : Nat), (binOp .eql 23 (.slice a n c) (.slice none n' c')).run Tryd.prog w = .ok (.bool a.isNone) w := fun w a n c n' c' => Lib.run_eql_slice_nil w _ _ a n c n' c' Tryd.underlying23
  obtain ⟨i0, hi0, hz0, hz1, hz2⟩ := info_parts cellG_info
  cases A with
  | none =>
    have h0 : n = 0 := by have := hlen rfl; omega
    have hL : L = [] := List.eq_nil_of_length_eq_zero (by omega)
    subst hL
    rw [← hn]
    subst h0
    clear hn hlen hs hi0 hz0 hz1 hz2 hc hm
    go_enter Tryd.func31, Tryd.ntmps31
    go_wp2_with fail
    go_ret
    exact ⟨none, 0, w.heap.size, rfl, Sl.nil_ _ _ _, Nat.le_refl _, Nat.le_refl _, Below.refl _ _⟩
  | some p =>
    have ha := below_alloc1 w (.cells #[] 33)
    have hs1 := Sl.ext hs ha
    have ho1 : World.ownsRow (w.alloc (.cells #[] 33)) w.heap.size 33 2 (.slice (some ⟨w.heap.size, 0, none⟩) 0 0) 0 [] :=
      World.ownsRow_made w (e := 33) (size := 2) #[] 0 (Nat.le_refl _) (by simp [maxLen]) rfl
    rw [← hn] at hc hm ⊢
    have HLX := Lib.hid (show (cv L).length = n * 2 by simp [hn])
    have HI := Lib.hid (And.intro hi0 (And.intro hz0 (And.intro hz1 hz2)))
    clear hlen hs hn hi0 hz0 hz1 hz2
    go_enter Tryd.func31, Tryd.ntmps31
    go_wp2_with ((with_reducible refine at_ca 7 _ ?_); refine stop_atG ?_)
    refine ⟨?_⟩
    refine wpList_append_sl (P := Tryd.prog) _ rfl (.tmp 5) (.tmp 6) 23 rfl w.heap.size 33 i0 _ 2 8 Tryd.underlying23 HI.out.1 HI.out.2.1 HI.out.2.2.1 HI.out.2.2.2 rfl (by omega) (.slice (some ⟨w.heap.size, 0, none⟩) 0 0) 0 [] rfl ho1 b (some p) n c (cv L) rfl hs1 (by rw [HLX.out]) (fun hA => by cases hA) (cv_one _) (by simp only [maxLen]; omega) (by omega) (by simp) ?_
    intro v2 w2 hrow2 hgr2 hloc2
    rw [List.nil_append, Nat.zero_add] at hrow2
    have hm2 := Mod.of_grown hgr2
    have hob : ∀ i, (Value.slice (some ⟨w.heap.size, 0, none⟩) 0 0).ownBlock = some i → i = w.heap.size := fun i h => by simpa [Value.ownBlock] using h.symm
    have hb2 : Below w.heap.size w w2 := ha.trans (hm2.below ha.size (fun i hi e => by have := hob _ e; omega))
    obtain ⟨A5, c5, b5, rfl, hc5, hB5, hs5, hk5⟩ := own_slG hrow2
    clear hs1 ho1 hm2 hgr2 hloc2 HI
    go_wp2_with fail
    go_ret
    exact ⟨A5, c5, b5, rfl, hs5, hc5, hB5, hb2⟩
set_option maxHeartbeats 4000000 in
set_option maxRecDepth 20000 in
theorem CloneK_calls (L : List (Cd)) (A : Option Addr) (c b : Nat) (w : World) (hs : Sl w b A (kv L)) (hc : L.length ≤ c) (hm : L.length ≤ 1000) :
    Calls Tryd.prog 32 #[.slice A L.length c] w fun e w' => ∃ A' c' b', e = .returned (.slice A' L.length c') ∧ Sl w' b' A' (kv L) ∧ L.length ≤ c' ∧ w.heap.size ≤ b' ∧ Below w.heap.size w w' := by
  obtain ⟨n, hn⟩ : ∃ n, n = L.length := ⟨_, rfl⟩
  have hlen := Sl.none_len (m := n * 6) hs (by simp [hn])
  have q23 : ∀ (w : World) (a : Option Addr) (n c n' c' : Nat), (binOp .eql 24 (.slice a n c) (.slice none n' c')).run Tryd.prog w = .ok (.bool a.isNone) w := fun w a n c n' c' => Lib.run_eql_slice_nil w _ _ a n c n' c' Tryd.underlying24
  obtain ⟨i0, hi0, hz0, hz1, hz2⟩ := info_parts codeG_info
  cases A with
  | none =>
    have h0 : n = 0 := by have := hlen rfl; omega
    have hL : L = [] := List.eq_nil_of_length_eq_zero (by omega)
    subst hL
    rw [← hn]
    subst h0
    clear hn hlen hs hi0 hz0 hz1 hz2 hc hm
    go_enter Tryd.func32, Tryd.ntmps32
    go_wp2_with fail
    go_ret
    exact ⟨none, 0, w.heap.size, rfl, Sl.nil_ _ _ _, Nat.le_refl _, Nat.le_refl _, Below.refl _ _⟩
  | some p =>
    have ha := below_alloc1 w (.cells #[] 80)
    have hs1 := Sl.ext hs ha
    have ho1 : World.ownsRow (w.alloc (.cells #[] 80)) w.heap.size 80 6 (.slice (some ⟨w.heap.size, 0, none⟩) 0 0) 0 [] :=
      World.ownsRow_made w (e := 80) (size := 6) #[] 0 (Nat.le_refl _) (by simp [maxLen]) rfl
    rw [← hn] at hc hm ⊢
    have HLX := Lib.hid (show (kv L).length = n * 6 by simp [hn])
    have HI := Lib.hid (And.intro hi0 (And.intro hz0 (And.intro hz1 hz2)))
    clear hlen hs hn hi0 hz0 hz1 hz2
    go_enter Tryd.func32, Tryd.ntmps32
    go_wp2_with ((with_reducible refine at_ca 7 _ ?_); refine stop_atG ?_)
    refine ⟨?_⟩
    refine wpList_append_sl (P := Tryd.prog) _ rfl (.tmp 5) (.tmp 6) 24 rfl w.heap.size 80 i0 _ 6 12 Tryd.underlying24 HI.out.1 HI.out.2.1 HI.out.2.2.1 HI.out.2.2.2 rfl (by omega) (.slice (some ⟨w.heap.size, 0, none⟩) 0 0) 0 [] rfl ho1 b (some p) n c (kv L) rfl hs1 (by rw [HLX.out]) (fun hA => by cases hA) (kvG_one _) (by simp only [maxLen]; omega) (by omega) (by simp) ?_
    intro v2 w2 hrow2 hgr2 hloc2
    rw [List.nil_append, Nat.zero_add] at hrow2
    have hm2 := Mod.of_grown hgr2
    have hob : ∀ i, (Value.slice (some ⟨w.heap.size, 0, none⟩) 0 0).ownBlock = some i → i = w.heap.size := fun i h => by simpa [Value.ownBlock] using h.symm
    have hb2 : Below w.heap.size w w2 := ha.trans (hm2.below ha.size (fun i hi e => by have := hob _ e; omega))
    obtain ⟨A5, c5, b5, rfl, hc5, hB5, hs5, hk5⟩ := own_slG hrow2
    clear hs1 ho1 hm2 hgr2 hloc2 HI
    go_wp2_with fail
    go_ret
    exact ⟨A5, c5, b5, rfl, hs5, hc5, hB5, hb2⟩
theorem tr_built (g : Gm) (s : Gs) (o : Int) (bm : Nat) : Tryd.prog.built 83 [(0, .agg (gmA g s)), (1, .int .i64 o), (3, .map (some bm))] = some (trA ⟨g, s, o, zSt, 0, 0, fun _ => none⟩ bm) := by
  kernel_rfl
theorem at_bdT {P : Program} {ops : Array Oper} {rest : List Oper} {a : Act} {w : World} {Q : Exit → Act → World → Prop} {d : Option Tmp} {ty : TypeId} {pos : String} {af : Array Edge} {g : Option (Nat × Bool)} (T : TypeId) (l : Array (Nat × Operand)) (h : wpList P ops Q (Oper.mk d (.build T l) ty pos af g :: rest) a w) : wpList P ops Q (Oper.mk d (.build T l) ty pos af g :: rest) a w := h
theorem wpList_bdT {ops : Array Oper} {rest : List Oper} {op : Oper} {a : Act} {w : World} {Q : Exit → Act → World → Prop} (hgd : op.guard = none) (s0 s1 s3 : Operand) (g : Gm) (s : Gs) (o : Int) (bm : Nat) (ho : op.op = .build 83 #[(0, s0), (1, s1), (3, s3)])
    (h0 : a.eval s0 = .agg (gmA g s)) (h1 : a.eval s1 = .int .i64 o) (h3 : a.eval s3 = .map (some bm)) (h : wpList Tryd.prog ops Q rest (a.put op.dst (.agg (trA ⟨g, s, o, zSt, 0, 0, fun _ => none⟩ bm))) w) : wpList Tryd.prog ops Q (op :: rest) a w := by
  have e : Tryd.prog.built 83 ((#[(0, s0), (1, s1), (3, s3)] : Array (Nat × Operand)).map fun (i, x) => (i, a.eval x)).toList = some (trA ⟨g, s, o, zSt, 0, 0, fun _ => none⟩ bm) := by
    rw [← tr_built g s o bm]
    simp [h0, h1, h3]
  exact wpList_build hgd _ _ ho (by rw [e]; rfl) (by rw [e]; exact h)
end Go.Proofs.YtnbbglhpjpebhaaDoor
/- trail.New. Conditions: the numbers fit. -/
namespace Go.Proofs.YtnbbglhpjpebhaaDoor
open Go.RowKit
set_option linter.unusedVariables false

/-- Where nothing lies may be called any place. -/
theorem sl_label {w : World} {b : Nat} {A : Option Addr} {xs : List Value} (h : Sl w b A xs) (x : Nat) : ∃ b', Sl w b' A xs ∧ (b' = b ∧ b < w.heap.size ∨ b' = x) := by
  by_cases e : xs = []
  · exact ⟨x, fun h => absurd e h, Or.inr rfl⟩
  · exact ⟨b, h, Or.inl ⟨rfl, Sl.lt h e⟩⟩
set_option maxHeartbeats 8000000 in
set_option maxRecDepth 20000 in
theorem New_calls (g : Gm) (s : Gs) (o : Int) (w : World) (hin : GIn w g s) (hok : GOk g s) :
    Calls Tryd.prog 12 #[.agg (gmA g s), .int .i64 o] w fun e w' => ∃ b bm s', e = .returned (.pointer (some ⟨b, 0, none⟩)) ∧ TBox w' b bm ⟨g, s', o, zSt, 0, 0, fun _ => none⟩ ∧ GOk g s' ∧ w.heap.size ≤ b ∧ w.heap.size ≤ bm ∧ (w.heap.size ≤ s'.b ∧ s'.b < w'.heap.size) ∧ (w.heap.size ≤ s'.b' ∧ s'.b' < w'.heap.size) ∧ Below w.heap.size w w' := by
  have hb := below_alloc1 w (.cells (gmA g s) 26)
  have q := GBox.new_ w g s
  replace hin := hin.ext hb
  have sc := hin.sc
  have sk := hin.sk
  have hCC := fun W (h : Sl W s.b s.A (cv g.L)) => CloneC_calls g.L s.A s.c s.b W h hok.hL (by have := hok.lL; omega)
  have hCK := fun W (h : Sl W s.b' s.A' (kv g.K)) => CloneK_calls g.K s.A' s.c' s.b' W h hok.hK (by have := hok.lK; omega)
  obtain ⟨wb, hwb⟩ : ∃ wb, wb = w.alloc (.cells (gmA g s) 26) := ⟨_, rfl⟩
  rw [← hwb] at hb q sc sk
  have HOK := Lib.hid hok
  have HWB := Lib.hid hwb
  clear hin hok hwb
  go_enter Tryd.func12, Tryd.ntmps12
  go_upto_region 1 with fail
  rw [← HWB.out]
  refine wp_region_held_drew (S := fun w9 => Below w.heap.size w w9) (by kernel_rfl) ?_ (fun hHeld => ?_)
  · exact (by first | exact hb | exact below_drew hb)
  obtain ⟨wd2, hwd2⟩ : ∃ wd2, wd2 = World.drew wb := ⟨_, rfl⟩
  have h9 : Below wb.heap.size wb wd2 := by rw [hwd2]; exact below_drew (Below.refl _ _)
  rw [← hwd2] at hHeld ⊢
  replace q := q.ext h9
  replace sc := Sl.ext sc h9
  replace sk := Sl.ext sk h9
  replace hb := hb.trans (h9.mono hb.size)
  clear h9
  clear hwd2
  refine wpAnyH_take (i := 0) (by simp only [List.getElem?_toArray]; rfl) (by kernel_rfl) (by kernel_rfl) (by kernel_rfl) (by exact fun _ _ _ h => h) (by exact yk (.pointer (some ⟨w.heap.size, 4, none⟩)) (by kernel_rfl) (fun _ => by kernel_rfl)) hHeld ?_
  try simp only [Act.put, List.setIfInBounds_toArray, List.set_cons_zero, List.set_cons_succ]
  refine wpAnyH_take (i := 3) (by simp only [List.getElem?_toArray]; rfl) (by kernel_rfl) (by kernel_rfl) (by kernel_rfl) (by exact fun _ _ _ h => h) (by exact yk (.pointer (some ⟨w.heap.size, 5, none⟩)) (by kernel_rfl) (fun _ => by kernel_rfl)) hHeld ?_
  try simp only [Act.put, List.setIfInBounds_toArray, List.set_cons_zero, List.set_cons_succ]
  refine wpAnyH_ready (rs := [1, 4]) (by kernel_rfl) (by simp) ?_
  refine AllReadyH.cons (by simp only [List.getElem?_toArray]; rfl) (fun KK hKK => ?_) (AllReadyH.cons (by simp only [List.getElem?_toArray]; rfl) (fun KK hKK => ?_) AllReadyH.nil)
  · skip
    rw [if_pos (by kernel_rfl)]
    have k4 := q.c4
    try simp only at k4
    go_simp
    clear k4
    refine hKK.out _ _ ?_ (fun hHeld => ?_)
    · exact (by first | exact hb | exact below_drew hb)
    clear hKK KK
    try simp only [Act.put, List.setIfInBounds_toArray, List.set_cons_zero, List.set_cons_succ]
    refine wpAnyH_ready (rs := [2, 4]) (by kernel_rfl) (by simp) ?_
    refine AllReadyH.cons (by simp only [List.getElem?_toArray]; rfl) (fun KK hKK => ?_) (AllReadyH.cons (by simp only [List.getElem?_toArray]; rfl) (fun KK hKK => ?_) AllReadyH.nil)
    · skip
      rw [if_pos (by kernel_rfl)]
      go_simp
      refine (hCC wd2 sc).mono ?_
      rintro e wc3 ⟨A1, c1, b1, rfl, sl1, n1c, n1b, h9⟩
      have n1x : w.heap.size + 1 ≤ b1 := by have := q.lt; omega
      replace q := q.ext h9
      replace sc := Sl.ext sc h9
      replace sk := Sl.ext sk h9
      replace hb := hb.trans (h9.mono hb.size)
      clear h9
      go_wp2_with fail
      refine hKK.out _ _ ?_ (fun hHeld => ?_)
      · exact (by first | exact hb | exact below_drew hb)
      clear hKK KK
      try simp only [Act.put, List.setIfInBounds_toArray, List.set_cons_zero, List.set_cons_succ]
      refine wpAnyH_ready (rs := [4]) (by kernel_rfl) (by simp) ?_
      refine AllReadyH.cons (by simp only [List.getElem?_toArray]; rfl) (fun KK hKK => ?_) AllReadyH.nil
      rw [if_pos (by kernel_rfl)]
      have k4 := q.c5
      try simp only at k4
      go_simp
      clear k4
      refine hKK.out _ _ ?_ (fun hHeld => ?_)
      · exact (by first | exact hb | exact below_drew hb)
      clear hKK KK
      try simp only [Act.put, List.setIfInBounds_toArray, List.set_cons_zero, List.set_cons_succ]
      refine wpAnyH_take (i := 6) (by simp only [List.getElem?_toArray]; rfl) (by kernel_rfl) (by kernel_rfl) (by kernel_rfl) (by exact fun _ _ _ h => h) (by exact yk (.pointer (some ⟨w.heap.size, 4, none⟩)) (by kernel_rfl) (fun _ => by kernel_rfl)) hHeld ?_
      try simp only [Act.put, List.setIfInBounds_toArray, List.set_cons_zero, List.set_cons_succ]
      refine wpAnyH_ready (rs := [5]) (by kernel_rfl) (by simp) ?_
      refine AllReadyH.cons (by simp only [List.getElem?_toArray]; rfl) (fun KK hKK => ?_) AllReadyH.nil
      rw [if_pos (by kernel_rfl)]
      go_simp
      refine (hCK wc3 sk).mono ?_
      rintro e wc4 ⟨A2, c2, b2, rfl, sl2, n2c, n2b, h9⟩
      have n2x : w.heap.size + 1 ≤ b2 := by have := q.lt; omega
      replace q := q.ext h9
      replace sc := Sl.ext sc h9
      replace sk := Sl.ext sk h9
      replace sl1 := Sl.ext sl1 h9
      replace hb := hb.trans (h9.mono hb.size)
      clear h9
      go_wp2_with fail
      refine hKK.out _ _ ?_ (fun hHeld => ?_)
      · exact (by first | exact hb | exact below_drew hb)
      clear hKK KK
      try simp only [Act.put, List.setIfInBounds_toArray, List.set_cons_zero, List.set_cons_succ]
      refine wpAnyH_ready (rs := [7]) (by kernel_rfl) (by simp) ?_
      refine AllReadyH.cons (by simp only [List.getElem?_toArray]; rfl) (fun KK hKK => ?_) AllReadyH.nil
      rw [if_pos (by kernel_rfl)]
      have fz := q.free 4
      have k4 := q.c4
      try simp only at k4
      go_simp
      clear fz k4
      have hsm := Mod.setCell wc4 ⟨w.heap.size, 4, none⟩ (.slice A1 g.L.length c1)
      replace q := q.s4 g.L (g.L.length) rfl A1 c1 b1
      obtain ⟨ws5, hws⟩ : ∃ ws5, ws5 = wc4.setCell ⟨w.heap.size, 4, none⟩ (.slice A1 g.L.length c1) := ⟨_, rfl⟩
      rw [← hws] at q hsm ⊢
      replace sl1 := Sl.mod sl1 hsm (by show ¬ b1 = w.heap.size; omega)
      replace sl2 := Sl.mod sl2 hsm (by show ¬ b2 = w.heap.size; omega)
      replace hb := hb.trans (hsm.below hb.size (fun i hi e => by have e : i = w.heap.size := e; omega))
      clear hws hsm
      refine hKK.out _ _ ?_ (fun hHeld => ?_)
      · exact (by first | exact hb | exact below_drew hb)
      clear hKK KK
      try simp only [Act.put, List.setIfInBounds_toArray, List.set_cons_zero, List.set_cons_succ]
      refine wpAnyH_take (i := 8) (by simp only [List.getElem?_toArray]; rfl) (by kernel_rfl) (by kernel_rfl) (by kernel_rfl) (by exact fun _ _ _ h => h) (by exact yk (.pointer (some ⟨w.heap.size, 5, none⟩)) (by kernel_rfl) (fun _ => by kernel_rfl)) hHeld ?_
      try simp only [Act.put, List.setIfInBounds_toArray, List.set_cons_zero, List.set_cons_succ]
      refine wpAnyH_ready (rs := [9]) (by kernel_rfl) (by simp) ?_
      refine AllReadyH.cons (by simp only [List.getElem?_toArray]; rfl) (fun KK hKK => ?_) AllReadyH.nil
      rw [if_pos (by kernel_rfl)]
      have fz := q.free 5
      have k4 := q.c5
      try simp only at k4
      go_simp
      clear fz k4
      have hsm := Mod.setCell ws5 ⟨w.heap.size, 5, none⟩ (.slice A2 g.K.length c2)
      replace q := q.s5 g.K (g.K.length) rfl A2 c2 b2
      obtain ⟨ws6, hws⟩ : ∃ ws6, ws6 = ws5.setCell ⟨w.heap.size, 5, none⟩ (.slice A2 g.K.length c2) := ⟨_, rfl⟩
      rw [← hws] at q hsm ⊢
      replace sl1 := Sl.mod sl1 hsm (by show ¬ b1 = w.heap.size; omega)
      replace sl2 := Sl.mod sl2 hsm (by show ¬ b2 = w.heap.size; omega)
      replace hb := hb.trans (hsm.below hb.size (fun i hi e => by have e : i = w.heap.size := e; omega))
      clear hws hsm
      refine hKK.out _ _ ?_ (fun hHeld => ?_)
      · exact (by first | exact hb | exact below_drew hb)
      clear hKK KK
      try simp only [Act.put, List.setIfInBounds_toArray, List.set_cons_zero, List.set_cons_succ]
      refine wpAnyH_done (by kernel_rfl) ?_ _
      obtain ⟨b3, sl3, hb3⟩ := sl_label sl1 w.heap.size
      obtain ⟨b4, sl4, hb4⟩ := sl_label sl2 w.heap.size
      have q : GBox ws6 w.heap.size g ⟨A1, c1, b3, A2, c2, b4⟩ := q
      have z0 := q.c0
      have z1 := q.c1
      have z2 := q.c2
      have z3 := q.c3
      have z4 := q.c4
      have z5 := q.c5
      simp only at z4 z5
      have hq := q.lt
      clear q hCC hCK
      obtain ⟨s', hs'⟩ : ∃ s' : Gs, s' = ⟨A1, c1, b3, A2, c2, b4⟩ := ⟨_, rfl⟩
      have eg : (#[.int .i64 g.ob, .int .i64 g.pl, .int .u32 (g.mv : Int), .int .u32 (g.df : Int), .slice A1 g.L.length c1, .slice A2 g.K.length c2] : Array Value) = gmA g s' := by rw [hs']
      have HS := Lib.hid hs'
      clear hs'
      go_upto_region 2 with fail
      have hmm := @run_makeMap Tryd.prog
      go_wp2_with ((with_reducible refine at_bdT 83 #[(0, .tmp 13), (1, .tmp 14), (3, .tmp 15)] ?_); refine wpList_bdT rfl (.tmp 13) (.tmp 14) (.tmp 15) g s' o ws6.heap.size rfl (by rw [← eg]; rfl) rfl rfl ?_)
      go_ret
      have hbm := below_alloc1 ws6 (.map #[] 0)
      have hbt := below_alloc1 (ws6.alloc (.map #[] 0)) (.cells (trA ⟨g, s', o, zSt, 0, 0, fun _ => none⟩ ws6.heap.size) 83)
      have hz : (ws6.alloc (.map #[] 0)).heap.size = ws6.heap.size + 1 := by simp
      have hb2 := hbm.trans (hbt.mono hbm.size)
      have hsz := hb.size
      have l1 := Sl.ext sl3 hb2
      have l2 := Sl.ext sl4 hb2
      have hs' := HS.out
      subst hs'
      have ho := HOK.out
      refine ⟨ws6.heap.size + 1, rfl, ws6.heap.size, ⟨A1, c1, b3, A2, c2, b4⟩, ⟨?_, (Uv.made ws6).ext hbt, ⟨l1, l2⟩, ?_⟩, ⟨ho.o0, ho.o1, ho.p0, ho.p1, ho.m1, ho.d1, ho.lL, ho.lK, n1c, n2c, ho.oL, ho.oK⟩, by omega, by omega, ⟨?_, ?_⟩, ⟨?_, ?_⟩, hb.trans (hb2.mono hb.size)⟩
      · rw [← hz]
        exact heap_alloc_new _ _
      · refine ⟨⟨?_, ?_⟩, ?_, ?_⟩ <;> (simp only; rcases hb3 with ⟨rfl, _⟩ | rfl <;> rcases hb4 with ⟨rfl, _⟩ | rfl <;> omega)
      all_goals (simp only [World.size_alloc]; rcases hb3 with ⟨rfl, _⟩ | rfl <;> rcases hb4 with ⟨rfl, _⟩ | rfl <;> omega)
    · skip
      rw [if_pos (by kernel_rfl)]
      have k4 := q.c5
      try simp only at k4
      go_simp
      clear k4
      refine hKK.out _ _ ?_ (fun hHeld => ?_)
      · exact (by first | exact hb | exact below_drew hb)
      clear hKK KK
      try simp only [Act.put, List.setIfInBounds_toArray, List.set_cons_zero, List.set_cons_succ]
      refine wpAnyH_ready (rs := [2]) (by kernel_rfl) (by simp) ?_
      refine AllReadyH.cons (by simp only [List.getElem?_toArray]; rfl) (fun KK hKK => ?_) AllReadyH.nil
      rw [if_pos (by kernel_rfl)]
      go_simp
      refine (hCC wd2 sc).mono ?_
      rintro e wc7 ⟨A1, c1, b1, rfl, sl1, n1c, n1b, h9⟩
      have n1x : w.heap.size + 1 ≤ b1 := by have := q.lt; omega
      replace q := q.ext h9
      replace sc := Sl.ext sc h9
      replace sk := Sl.ext sk h9
      replace hb := hb.trans (h9.mono hb.size)
      clear h9
      go_wp2_with fail
      refine hKK.out _ _ ?_ (fun hHeld => ?_)
      · exact (by first | exact hb | exact below_drew hb)
      clear hKK KK
      try simp only [Act.put, List.setIfInBounds_toArray, List.set_cons_zero, List.set_cons_succ]
      refine wpAnyH_take (i := 6) (by simp only [List.getElem?_toArray]; rfl) (by kernel_rfl) (by kernel_rfl) (by kernel_rfl) (by exact fun _ _ _ h => h) (by exact yk (.pointer (some ⟨w.heap.size, 4, none⟩)) (by kernel_rfl) (fun _ => by kernel_rfl)) hHeld ?_
      try simp only [Act.put, List.setIfInBounds_toArray, List.set_cons_zero, List.set_cons_succ]
      refine wpAnyH_ready (rs := [5]) (by kernel_rfl) (by simp) ?_
      refine AllReadyH.cons (by simp only [List.getElem?_toArray]; rfl) (fun KK hKK => ?_) AllReadyH.nil
      rw [if_pos (by kernel_rfl)]
      go_simp
      refine (hCK wc7 sk).mono ?_
      rintro e wc8 ⟨A2, c2, b2, rfl, sl2, n2c, n2b, h9⟩
      have n2x : w.heap.size + 1 ≤ b2 := by have := q.lt; omega
      replace q := q.ext h9
      replace sc := Sl.ext sc h9
      replace sk := Sl.ext sk h9
      replace sl1 := Sl.ext sl1 h9
      replace hb := hb.trans (h9.mono hb.size)
      clear h9
      go_wp2_with fail
      refine hKK.out _ _ ?_ (fun hHeld => ?_)
      · exact (by first | exact hb | exact below_drew hb)
      clear hKK KK
      try simp only [Act.put, List.setIfInBounds_toArray, List.set_cons_zero, List.set_cons_succ]
      refine wpAnyH_ready (rs := [7]) (by kernel_rfl) (by simp) ?_
      refine AllReadyH.cons (by simp only [List.getElem?_toArray]; rfl) (fun KK hKK => ?_) AllReadyH.nil
      rw [if_pos (by kernel_rfl)]
      have fz := q.free 4
      have k4 := q.c4
      try simp only at k4
      go_simp
      clear fz k4
      have hsm := Mod.setCell wc8 ⟨w.heap.size, 4, none⟩ (.slice A1 g.L.length c1)
      replace q := q.s4 g.L (g.L.length) rfl A1 c1 b1
      obtain ⟨ws9, hws⟩ : ∃ ws9, ws9 = wc8.setCell ⟨w.heap.size, 4, none⟩ (.slice A1 g.L.length c1) := ⟨_, rfl⟩
      rw [← hws] at q hsm ⊢
      replace sl1 := Sl.mod sl1 hsm (by show ¬ b1 = w.heap.size; omega)
      replace sl2 := Sl.mod sl2 hsm (by show ¬ b2 = w.heap.size; omega)
      replace hb := hb.trans (hsm.below hb.size (fun i hi e => by have e : i = w.heap.size := e; omega))
      clear hws hsm
      refine hKK.out _ _ ?_ (fun hHeld => ?_)
      · exact (by first | exact hb | exact below_drew hb)
      clear hKK KK
      try simp only [Act.put, List.setIfInBounds_toArray, List.set_cons_zero, List.set_cons_succ]
      refine wpAnyH_take (i := 8) (by simp only [List.getElem?_toArray]; rfl) (by kernel_rfl) (by kernel_rfl) (by kernel_rfl) (by exact fun _ _ _ h => h) (by exact yk (.pointer (some ⟨w.heap.size, 5, none⟩)) (by kernel_rfl) (fun _ => by kernel_rfl)) hHeld ?_
      try simp only [Act.put, List.setIfInBounds_toArray, List.set_cons_zero, List.set_cons_succ]
      refine wpAnyH_ready (rs := [9]) (by kernel_rfl) (by simp) ?_
      refine AllReadyH.cons (by simp only [List.getElem?_toArray]; rfl) (fun KK hKK => ?_) AllReadyH.nil
      rw [if_pos (by kernel_rfl)]
      have fz := q.free 5
      have k4 := q.c5
      try simp only at k4
      go_simp
      clear fz k4
      have hsm := Mod.setCell ws9 ⟨w.heap.size, 5, none⟩ (.slice A2 g.K.length c2)
      replace q := q.s5 g.K (g.K.length) rfl A2 c2 b2
      obtain ⟨ws10, hws⟩ : ∃ ws10, ws10 = ws9.setCell ⟨w.heap.size, 5, none⟩ (.slice A2 g.K.length c2) := ⟨_, rfl⟩
      rw [← hws] at q hsm ⊢
      replace sl1 := Sl.mod sl1 hsm (by show ¬ b1 = w.heap.size; omega)
      replace sl2 := Sl.mod sl2 hsm (by show ¬ b2 = w.heap.size; omega)
      replace hb := hb.trans (hsm.below hb.size (fun i hi e => by have e : i = w.heap.size := e; omega))
      clear hws hsm
      refine hKK.out _ _ ?_ (fun hHeld => ?_)
      · exact (by first | exact hb | exact below_drew hb)
      clear hKK KK
      try simp only [Act.put, List.setIfInBounds_toArray, List.set_cons_zero, List.set_cons_succ]
      refine wpAnyH_done (by kernel_rfl) ?_ _
      obtain ⟨b3, sl3, hb3⟩ := sl_label sl1 w.heap.size
      obtain ⟨b4, sl4, hb4⟩ := sl_label sl2 w.heap.size
      have q : GBox ws10 w.heap.size g ⟨A1, c1, b3, A2, c2, b4⟩ := q
      have z0 := q.c0
      have z1 := q.c1
      have z2 := q.c2
      have z3 := q.c3
      have z4 := q.c4
      have z5 := q.c5
      simp only at z4 z5
      have hq := q.lt
      clear q hCC hCK
      obtain ⟨s', hs'⟩ : ∃ s' : Gs, s' = ⟨A1, c1, b3, A2, c2, b4⟩ := ⟨_, rfl⟩
      have eg : (#[.int .i64 g.ob, .int .i64 g.pl, .int .u32 (g.mv : Int), .int .u32 (g.df : Int), .slice A1 g.L.length c1, .slice A2 g.K.length c2] : Array Value) = gmA g s' := by rw [hs']
      have HS := Lib.hid hs'
      clear hs'
      go_upto_region 2 with fail
      have hmm := @run_makeMap Tryd.prog
      go_wp2_with ((with_reducible refine at_bdT 83 #[(0, .tmp 13), (1, .tmp 14), (3, .tmp 15)] ?_); refine wpList_bdT rfl (.tmp 13) (.tmp 14) (.tmp 15) g s' o ws10.heap.size rfl (by rw [← eg]; rfl) rfl rfl ?_)
      go_ret
      have hbm := below_alloc1 ws10 (.map #[] 0)
      have hbt := below_alloc1 (ws10.alloc (.map #[] 0)) (.cells (trA ⟨g, s', o, zSt, 0, 0, fun _ => none⟩ ws10.heap.size) 83)
      have hz : (ws10.alloc (.map #[] 0)).heap.size = ws10.heap.size + 1 := by simp
      have hb2 := hbm.trans (hbt.mono hbm.size)
      have hsz := hb.size
      have l1 := Sl.ext sl3 hb2
      have l2 := Sl.ext sl4 hb2
      have hs' := HS.out
      subst hs'
      have ho := HOK.out
      refine ⟨ws10.heap.size + 1, rfl, ws10.heap.size, ⟨A1, c1, b3, A2, c2, b4⟩, ⟨?_, (Uv.made ws10).ext hbt, ⟨l1, l2⟩, ?_⟩, ⟨ho.o0, ho.o1, ho.p0, ho.p1, ho.m1, ho.d1, ho.lL, ho.lK, n1c, n2c, ho.oL, ho.oK⟩, by omega, by omega, ⟨?_, ?_⟩, ⟨?_, ?_⟩, hb.trans (hb2.mono hb.size)⟩
      · rw [← hz]
        exact heap_alloc_new _ _
      · refine ⟨⟨?_, ?_⟩, ?_, ?_⟩ <;> (simp only; rcases hb3 with ⟨rfl, _⟩ | rfl <;> rcases hb4 with ⟨rfl, _⟩ | rfl <;> omega)
      all_goals (simp only [World.size_alloc]; rcases hb3 with ⟨rfl, _⟩ | rfl <;> rcases hb4 with ⟨rfl, _⟩ | rfl <;> omega)
  · skip
    rw [if_pos (by kernel_rfl)]
    have k4 := q.c5
    try simp only at k4
    go_simp
    clear k4
    refine hKK.out _ _ ?_ (fun hHeld => ?_)
    · exact (by first | exact hb | exact below_drew hb)
    clear hKK KK
    try simp only [Act.put, List.setIfInBounds_toArray, List.set_cons_zero, List.set_cons_succ]
    refine wpAnyH_ready (rs := [1]) (by kernel_rfl) (by simp) ?_
    refine AllReadyH.cons (by simp only [List.getElem?_toArray]; rfl) (fun KK hKK => ?_) AllReadyH.nil
    rw [if_pos (by kernel_rfl)]
    have k4 := q.c4
    try simp only at k4
    go_simp
    clear k4
    refine hKK.out _ _ ?_ (fun hHeld => ?_)
    · exact (by first | exact hb | exact below_drew hb)
    clear hKK KK
    try simp only [Act.put, List.setIfInBounds_toArray, List.set_cons_zero, List.set_cons_succ]
    refine wpAnyH_ready (rs := [2]) (by kernel_rfl) (by simp) ?_
    refine AllReadyH.cons (by simp only [List.getElem?_toArray]; rfl) (fun KK hKK => ?_) AllReadyH.nil
    rw [if_pos (by kernel_rfl)]
    go_simp
    refine (hCC wd2 sc).mono ?_
    rintro e wc11 ⟨A1, c1, b1, rfl, sl1, n1c, n1b, h9⟩
    have n1x : w.heap.size + 1 ≤ b1 := by have := q.lt; omega
    replace q := q.ext h9
    replace sc := Sl.ext sc h9
    replace sk := Sl.ext sk h9
    replace hb := hb.trans (h9.mono hb.size)
    clear h9
    go_wp2_with fail
    refine hKK.out _ _ ?_ (fun hHeld => ?_)
    · exact (by first | exact hb | exact below_drew hb)
    clear hKK KK
    try simp only [Act.put, List.setIfInBounds_toArray, List.set_cons_zero, List.set_cons_succ]
    refine wpAnyH_take (i := 6) (by simp only [List.getElem?_toArray]; rfl) (by kernel_rfl) (by kernel_rfl) (by kernel_rfl) (by exact fun _ _ _ h => h) (by exact yk (.pointer (some ⟨w.heap.size, 4, none⟩)) (by kernel_rfl) (fun _ => by kernel_rfl)) hHeld ?_
    try simp only [Act.put, List.setIfInBounds_toArray, List.set_cons_zero, List.set_cons_succ]
    refine wpAnyH_ready (rs := [5]) (by kernel_rfl) (by simp) ?_
    refine AllReadyH.cons (by simp only [List.getElem?_toArray]; rfl) (fun KK hKK => ?_) AllReadyH.nil
    rw [if_pos (by kernel_rfl)]
    go_simp
    refine (hCK wc11 sk).mono ?_
    rintro e wc12 ⟨A2, c2, b2, rfl, sl2, n2c, n2b, h9⟩
    have n2x : w.heap.size + 1 ≤ b2 := by have := q.lt; omega
    replace q := q.ext h9
    replace sc := Sl.ext sc h9
    replace sk := Sl.ext sk h9
    replace sl1 := Sl.ext sl1 h9
    replace hb := hb.trans (h9.mono hb.size)
    clear h9
    go_wp2_with fail
    refine hKK.out _ _ ?_ (fun hHeld => ?_)
    · exact (by first | exact hb | exact below_drew hb)
    clear hKK KK
    try simp only [Act.put, List.setIfInBounds_toArray, List.set_cons_zero, List.set_cons_succ]
    refine wpAnyH_ready (rs := [7]) (by kernel_rfl) (by simp) ?_
    refine AllReadyH.cons (by simp only [List.getElem?_toArray]; rfl) (fun KK hKK => ?_) AllReadyH.nil
    rw [if_pos (by kernel_rfl)]
    have fz := q.free 4
    have k4 := q.c4
    try simp only at k4
    go_simp
    clear fz k4
    have hsm := Mod.setCell wc12 ⟨w.heap.size, 4, none⟩ (.slice A1 g.L.length c1)
    replace q := q.s4 g.L (g.L.length) rfl A1 c1 b1
    obtain ⟨ws13, hws⟩ : ∃ ws13, ws13 = wc12.setCell ⟨w.heap.size, 4, none⟩ (.slice A1 g.L.length c1) := ⟨_, rfl⟩
    rw [← hws] at q hsm ⊢
    replace sl1 := Sl.mod sl1 hsm (by show ¬ b1 = w.heap.size; omega)
    replace sl2 := Sl.mod sl2 hsm (by show ¬ b2 = w.heap.size; omega)
    replace hb := hb.trans (hsm.below hb.size (fun i hi e => by have e : i = w.heap.size := e; omega))
    clear hws hsm
    refine hKK.out _ _ ?_ (fun hHeld => ?_)
    · exact (by first | exact hb | exact below_drew hb)
    clear hKK KK
    try simp only [Act.put, List.setIfInBounds_toArray, List.set_cons_zero, List.set_cons_succ]
    refine wpAnyH_take (i := 8) (by simp only [List.getElem?_toArray]; rfl) (by kernel_rfl) (by kernel_rfl) (by kernel_rfl) (by exact fun _ _ _ h => h) (by exact yk (.pointer (some ⟨w.heap.size, 5, none⟩)) (by kernel_rfl) (fun _ => by kernel_rfl)) hHeld ?_
    try simp only [Act.put, List.setIfInBounds_toArray, List.set_cons_zero, List.set_cons_succ]
    refine wpAnyH_ready (rs := [9]) (by kernel_rfl) (by simp) ?_
    refine AllReadyH.cons (by simp only [List.getElem?_toArray]; rfl) (fun KK hKK => ?_) AllReadyH.nil
    rw [if_pos (by kernel_rfl)]
    have fz := q.free 5
    have k4 := q.c5
    try simp only at k4
    go_simp
    clear fz k4
    have hsm := Mod.setCell ws13 ⟨w.heap.size, 5, none⟩ (.slice A2 g.K.length c2)
    replace q := q.s5 g.K (g.K.length) rfl A2 c2 b2
    obtain ⟨ws14, hws⟩ : ∃ ws14, ws14 = ws13.setCell ⟨w.heap.size, 5, none⟩ (.slice A2 g.K.length c2) := ⟨_, rfl⟩
    rw [← hws] at q hsm ⊢
    replace sl1 := Sl.mod sl1 hsm (by show ¬ b1 = w.heap.size; omega)
    replace sl2 := Sl.mod sl2 hsm (by show ¬ b2 = w.heap.size; omega)
    replace hb := hb.trans (hsm.below hb.size (fun i hi e => by have e : i = w.heap.size := e; omega))
    clear hws hsm
    refine hKK.out _ _ ?_ (fun hHeld => ?_)
    · exact (by first | exact hb | exact below_drew hb)
    clear hKK KK
    try simp only [Act.put, List.setIfInBounds_toArray, List.set_cons_zero, List.set_cons_succ]
    refine wpAnyH_done (by kernel_rfl) ?_ _
    obtain ⟨b3, sl3, hb3⟩ := sl_label sl1 w.heap.size
    obtain ⟨b4, sl4, hb4⟩ := sl_label sl2 w.heap.size
    have q : GBox ws14 w.heap.size g ⟨A1, c1, b3, A2, c2, b4⟩ := q
    have z0 := q.c0
    have z1 := q.c1
    have z2 := q.c2
    have z3 := q.c3
    have z4 := q.c4
    have z5 := q.c5
    simp only at z4 z5
    have hq := q.lt
    clear q hCC hCK
    obtain ⟨s', hs'⟩ : ∃ s' : Gs, s' = ⟨A1, c1, b3, A2, c2, b4⟩ := ⟨_, rfl⟩
    have eg : (#[.int .i64 g.ob, .int .i64 g.pl, .int .u32 (g.mv : Int), .int .u32 (g.df : Int), .slice A1 g.L.length c1, .slice A2 g.K.length c2] : Array Value) = gmA g s' := by rw [hs']
    have HS := Lib.hid hs'
    clear hs'
    go_upto_region 2 with fail
    have hmm := @run_makeMap Tryd.prog
    go_wp2_with ((with_reducible refine at_bdT 83 #[(0, .tmp 13), (1, .tmp 14), (3, .tmp 15)] ?_); refine wpList_bdT rfl (.tmp 13) (.tmp 14) (.tmp 15) g s' o ws14.heap.size rfl (by rw [← eg]; rfl) rfl rfl ?_)
    go_ret
    have hbm := below_alloc1 ws14 (.map #[] 0)
    have hbt := below_alloc1 (ws14.alloc (.map #[] 0)) (.cells (trA ⟨g, s', o, zSt, 0, 0, fun _ => none⟩ ws14.heap.size) 83)
    have hz : (ws14.alloc (.map #[] 0)).heap.size = ws14.heap.size + 1 := by simp
    have hb2 := hbm.trans (hbt.mono hbm.size)
    have hsz := hb.size
    have l1 := Sl.ext sl3 hb2
    have l2 := Sl.ext sl4 hb2
    have hs' := HS.out
    subst hs'
    have ho := HOK.out
    refine ⟨ws14.heap.size + 1, rfl, ws14.heap.size, ⟨A1, c1, b3, A2, c2, b4⟩, ⟨?_, (Uv.made ws14).ext hbt, ⟨l1, l2⟩, ?_⟩, ⟨ho.o0, ho.o1, ho.p0, ho.p1, ho.m1, ho.d1, ho.lL, ho.lK, n1c, n2c, ho.oL, ho.oK⟩, by omega, by omega, ⟨?_, ?_⟩, ⟨?_, ?_⟩, hb.trans (hb2.mono hb.size)⟩
    · rw [← hz]
      exact heap_alloc_new _ _
    · refine ⟨⟨?_, ?_⟩, ?_, ?_⟩ <;> (simp only; rcases hb3 with ⟨rfl, _⟩ | rfl <;> rcases hb4 with ⟨rfl, _⟩ | rfl <;> omega)
    all_goals (simp only [World.size_alloc]; rcases hb3 with ⟨rfl, _⟩ | rfl <;> rcases hb4 with ⟨rfl, _⟩ | rfl <;> omega)
end Go.Proofs.YtnbbglhpjpebhaaDoor
/- A trail's small calls: of none; Known, Rolls, end. Conditions: those said. -/
namespace Go.Proofs.YtnbbglhpjpebhaaDoor
open Go.RowKit
set_option linter.unusedVariables false

theorem Add_nil (t m : Nat) (w : World) : Calls Tryd.prog 16 #[.pointer none, .int .u32 (t : Int), .int .u32 (m : Int)] w fun e w' => e = .returned (.int .i64 3) ∧ w' = w := by
  go_enter Tryd.func16, Tryd.ntmps16
  go_wp2_with fail
  go_ret
  exact ⟨rfl, rfl⟩
theorem Last_nil (w : World) : Calls Tryd.prog 25 #[.pointer none] w fun e w' => e = .returned (.int .u32 0) ∧ w' = w := by
  go_enter Tryd.func25, Tryd.ntmps25
  go_wp2_with fail
  go_ret
  exact ⟨rfl, rfl⟩
theorem Rolls_nil (w : World) : Calls Tryd.prog 21 #[.pointer none] w fun e w' => e = .returned (.int .i64 0) ∧ w' = w := by
  go_enter Tryd.func21, Tryd.ntmps21
  go_wp2_with fail
  go_ret
  exact ⟨rfl, rfl⟩
theorem Room_nil (w : World) : Calls Tryd.prog 23 #[.pointer none] w fun e w' => e = .returned (.int .i64 0) ∧ w' = w := by
  go_enter Tryd.func23, Tryd.ntmps23
  go_wp2_with fail
  go_ret
  exact ⟨rfl, rfl⟩
theorem Pending_nil (w : World) : Calls Tryd.prog 24 #[.pointer none] w fun e w' => e = .returned (.slice none 0 0) ∧ w' = w := by
  go_enter Tryd.func24, Tryd.ntmps24
  go_wp2_with fail
  go_ret
  exact ⟨rfl, rfl⟩
theorem Reset_nil (st : St) (w : World) : Calls Tryd.prog 13 #[.pointer none, .agg (stA st)] w fun e w' => e = .returned (.tuple #[]) ∧ Below w.heap.size w w' := by
  have hb := below_alloc1 w (.cells (stA st) 40)
  go_enter Tryd.func13, Tryd.ntmps13
  go_wp2_with fail
  (try simp only [Exit.inBlock, Exit.then])
  refine bodyPost_ret (results_none rfl _ _ _) rfl ?_
  exact ⟨rfl, hb⟩
theorem Confirm_nil (st : St) (w : World) : Calls Tryd.prog 20 #[.pointer none, .agg (stA st)] w fun e w' => e = .returned (.int .i64 3) ∧ Below w.heap.size w w' := by
  have hb := below_alloc1 w (.cells (stA st) 40)
  go_enter Tryd.func20, Tryd.ntmps20
  go_wp2_with fail
  go_ret
  exact ⟨rfl, hb⟩
set_option maxRecDepth 20000 in
theorem Known_nil (w : World) : Calls Tryd.prog 26 #[.pointer none] w fun e w' => e = .returned (.agg (stA zSt)) ∧ Below w.heap.size w w' := by
  go_enter Tryd.func26, Tryd.ntmps26
  go_upto_region 1 with ((with_reducible refine at_al 40 2 ?_); refine wpList_alS rfl rfl (some 2) rfl w.heap.size rfl ?_)
  have hb := below_alloc1 w (.cells (stA zSt) 40)
  have hx := BoxS.new_ w zSt
  obtain ⟨w1, hw1⟩ : ∃ w1, w1 = w.alloc (.cells (stA zSt) 40) := ⟨_, rfl⟩
  obtain ⟨Y, hY⟩ : ∃ Y, Y = w.heap.size := ⟨_, rfl⟩
  rw [← hw1] at hx hb ⊢
  rw [← hY] at hx ⊢
  have HY := Lib.hid hY
  clear hw1 hY
  go_wp2_with (first | ((with_reducible refine at_bd 40 5 _ ?_); refine wpList_bdS0 rfl rfl ?_) | ((with_reducible refine at_st 40 2 5 ?_); refine wpList_stS rfl (.tmp 2) (.tmp 5) rfl Y zSt rfl rfl zSt hx ?_))
  exact bodyPost_ret (results_cell_row (P := Tryd.prog) rfl _ _ Y _ _ (0, 0) _ rfl (hx.row_ zSt) Tryd.underlying40 rfl (by rw [stA_size]; kernel_rfl)) rfl ⟨rfl, below_setRow hb _ _ (by rw [HY.out]; exact Nat.le_refl _)⟩
set_option maxRecDepth 20000 in
theorem Shown_nil (tk : Nat) (w : World) : Calls Tryd.prog 19 #[.pointer none, .int .u32 (tk : Int)] w fun e w' => e = .returned (.agg (stA zSt)) ∧ Below w.heap.size w w' := by
  go_enter Tryd.func19, Tryd.ntmps19
  go_upto_region 1 with ((with_reducible refine at_al 40 4 ?_); refine wpList_alS rfl rfl (some 4) rfl w.heap.size rfl ?_)
  have hb := below_alloc1 w (.cells (stA zSt) 40)
  have hx := BoxS.new_ w zSt
  obtain ⟨w1, hw1⟩ : ∃ w1, w1 = w.alloc (.cells (stA zSt) 40) := ⟨_, rfl⟩
  obtain ⟨Y, hY⟩ : ∃ Y, Y = w.heap.size := ⟨_, rfl⟩
  rw [← hw1] at hx hb ⊢
  rw [← hY] at hx ⊢
  have HY := Lib.hid hY
  clear hw1 hY
  go_wp2_with (first | ((with_reducible refine at_bd 40 12 _ ?_); refine wpList_bdS0 rfl rfl ?_) | ((with_reducible refine at_st 40 4 12 ?_); refine wpList_stS rfl (.tmp 4) (.tmp 12) rfl Y zSt rfl rfl zSt hx ?_))
  exact bodyPost_ret (results_cell_row (P := Tryd.prog) rfl _ _ Y _ _ (0, 0) _ rfl (hx.row_ zSt) Tryd.underlying40 rfl (by rw [stA_size]; kernel_rfl)) rfl ⟨rfl, below_setRow hb _ _ (by rw [HY.out]; exact Nat.le_refl _)⟩
theorem Rolls_calls (b bm : Nat) (t : Tr) (w : World) (h : TBox w b bm t) : Calls Tryd.prog 21 #[.pointer (some ⟨b, 0, none⟩)] w fun e w' => e = .returned (.int .i64 (t.r : Int)) ∧ w' = w := by
  have q := h.row.cR
  go_enter Tryd.func21, Tryd.ntmps21
  go_wp2_with fail
  go_ret
  exact ⟨rfl, rfl⟩
set_option maxRecDepth 20000 in
theorem Known_calls (b bm : Nat) (t : Tr) (w : World) (h : TBox w b bm t) : Calls Tryd.prog 26 #[.pointer (some ⟨b, 0, none⟩)] w fun e w' => e = .returned (.agg (stA t.k)) ∧ Below w.heap.size w w' := by
  go_enter Tryd.func26, Tryd.ntmps26
  go_upto_region 1 with ((with_reducible refine at_al 40 2 ?_); refine wpList_alS rfl rfl (some 2) rfl w.heap.size rfl ?_)
  have hb := below_alloc1 w (.cells (stA zSt) 40)
  have hx := BoxS.new_ w zSt
  replace h := h.ext hb
  obtain ⟨w1, hw1⟩ : ∃ w1, w1 = w.alloc (.cells (stA zSt) 40) := ⟨_, rfl⟩
  obtain ⟨Y, hY⟩ : ∃ Y, Y = w.heap.size := ⟨_, rfl⟩
  rw [← hw1] at hx hb h ⊢
  rw [← hY] at hx ⊢
  have HY := Lib.hid hY
  clear hw1 hY
  go_wp2_with (first | ((with_reducible refine at_ld 40 8 ?_); refine wpList_ldT rfl (.tmp 8) rfl b rfl h.row ?_) | ((with_reducible refine at_st 40 2 9 ?_); refine wpList_stS rfl (.tmp 2) (.tmp 9) rfl Y t.k rfl rfl zSt hx ?_))
  exact bodyPost_ret (results_cell_row (P := Tryd.prog) rfl _ _ Y _ _ (0, 0) _ rfl (hx.row_ t.k) Tryd.underlying40 rfl (by rw [stA_size]; kernel_rfl)) rfl ⟨rfl, below_setRow hb _ _ (by rw [HY.out]; exact Nat.le_refl _)⟩
/-- The last tick for which there may be a move. -/
def endT (tk : Nat) : Nat := min (tk + 16) 4294967295
theorem end_calls (b bm : Nat) (t : Tr) (w : World) (h : TBox w b bm t) (htk : t.k.tk ≤ 4294967295) {E : Nat} (hE : E = endT t.k.tk) : Calls Tryd.prog 34 #[.pointer (some ⟨b, 0, none⟩)] w fun e w' => e = .returned (.int .u32 (E : Int)) ∧ w' = w := by
  have q := h.row.cT
  obtain ⟨T, hT⟩ : ∃ T, T = t.k.tk := ⟨_, rfl⟩
  rw [← hT] at q htk hE
  unfold endT at hE
  have e1 : IntKind.u64.wrap (T : Int) = (T : Int) := by rw [IntKind.wrap_u64]; omega
  have e2 : IntKind.u64.wrap ((T : Int) + 16) = (T : Int) + 16 := by rw [IntKind.wrap_u64]; omega
  have m1 : min ((T : Int) + 16) 4294967295 = (E : Int) := by omega
  have m2 : (if (4294967295 : Int) < (T : Int) + 16 then (4294967295 : Int) else (T : Int) + 16) = (E : Int) := by split <;> omega
  have m3 : (if (T : Int) + 16 ≤ 4294967295 then (T : Int) + 16 else (4294967295 : Int)) = (E : Int) := by split <;> omega
  have e3 : IntKind.u32.wrap (E : Int) = (E : Int) := by rw [IntKind.wrap_u32]; omega
  clear hT hE
  go_enter Tryd.func34, Tryd.ntmps34
  go_wp2_with fail
  go_ret
  exact ⟨rfl, rfl⟩
end Go.Proofs.YtnbbglhpjpebhaaDoor
/- A trail's Reset, Add, Last. Conditions: the numbers fit. -/
namespace Go.Proofs.YtnbbglhpjpebhaaDoor
open Go.RowKit
set_option linter.unusedVariables false

section
variable {P : Program} {ops : Array Oper} {rest : List Oper} {a : Act} {w : World} {Q : Exit → Act → World → Prop} {d : Option Tmp} {ty : TypeId} {pos : String} {af : Array Edge} {g : Option (Nat × Bool)}
theorem at_caN (c : Call) (h : wpList P ops Q (Oper.mk none (.call c) ty pos af g :: rest) a w) : wpList P ops Q (Oper.mk none (.call c) ty pos af g :: rest) a w := h
theorem at_lk (T : TypeId) (x y : Tmp) (h : wpList P ops Q (Oper.mk d (.lookup T (.tmp x) (.tmp y) true) ty pos af g :: rest) a w) : wpList P ops Q (Oper.mk d (.lookup T (.tmp x) (.tmp y) true) ty pos af g :: rest) a w := h
theorem at_mu (T : TypeId) (x y z : Tmp) (h : wpList P ops Q (Oper.mk d (.mapUpdate T (.tmp x) (.tmp y) (.tmp z)) ty pos af g :: rest) a w) : wpList P ops Q (Oper.mk d (.mapUpdate T (.tmp x) (.tmp y) (.tmp z)) ty pos af g :: rest) a w := h
end
theorem mod_ext {S : Nat → Prop} {w w' : World} (h : Below w.heap.size w w') : Mod S w w' := (Mod.of_below h).mono (fun i hi e => absurd hi (by omega))
def resT (t : Tr) (k : St) : Tr := { t with k := k, n := 0, f := fun _ => none }
set_option maxRecDepth 20000 in
theorem Reset_calls (b bm : Nat) (t : Tr) (k : St) (w : World) (h : TBox w b bm t) : Calls Tryd.prog 13 #[.pointer (some ⟨b, 0, none⟩), .agg (stA k)] w fun e w' => e = .returned (.tuple #[]) ∧ TBox w' b bm (resT t k) ∧ Mod (fun i => i = b ∨ i = bm) w w' := by
  have hb := below_alloc1 w (.cells (stA k) 40)
  have hx := BoxS.new_ w k
  replace h := h.ext hb
  have hm := Mod.alloc (fun i => i = b ∨ i = bm) w (.cells (stA k) 40)
  go_enter Tryd.func13, Tryd.ntmps13
  go_upto_region 1 with fail
  obtain ⟨w1, hw1⟩ : ∃ w1, w1 = w.alloc (.cells (stA k) 40) := ⟨_, rfl⟩
  obtain ⟨Y, hY⟩ : ∃ Y, Y = w.heap.size := ⟨_, rfl⟩
  rw [← hw1] at hx hb h hm ⊢
  rw [← hY] at hx ⊢
  clear hw1 hY
  go_upto_region 3 with (first | ((with_reducible refine at_ld 40 3 ?_); refine wpList_ldS rfl (.tmp 3) rfl Y rfl hx ?_) | ((with_reducible refine at_st 40 9 7 ?_); refine wpList_stT rfl (.tmp 9) (.tmp 7) rfl b k rfl rfl h.row ?_))
  have h2 := h.sK k
  have hm2 := mod_setCells w1 b 7 (stL k)
  obtain ⟨w2, hw2⟩ : ∃ w2, w2 = w1.setCells b 7 (stL k) := ⟨_, rfl⟩
  rw [← hw2] at h2 hm2 ⊢
  replace hm := hm.trans hm2 (fun _ _ e => e) (fun _ _ e => Or.inl e)
  have q := h2.row.cM
  clear hw2 hm2 h hx
  go_wp2_with ((with_reducible refine at_caN _ ?_); refine wpList_clearU rfl (.tmp 13) rfl bm _ _ rfl h2.mp ?_; intro w3 hu hm3 hs3)
  (try simp only [Exit.inBlock, Exit.then])
  refine bodyPost_end (results_none rfl _ _ _) rfl ?_
  exact ⟨rfl, h2.sF hu hm3, hm.trans hm3 (fun _ _ e => e) (fun _ _ e => Or.inr e)⟩
/-- What Add answers, and what it makes. -/
def addE (t : Tr) (tk m : Nat) : Nat := if ¬ m < t.g.mv then 1 else if tk ≤ t.k.tk then 11 else if endT t.k.tk < tk then 6 else if (t.f tk).isSome then 12 else 0
def addT (t : Tr) (tk m : Nat) : Tr := if addE t tk m = 0 then { t with n := t.n + 1, f := updU t.f tk (some m) } else t
set_option maxHeartbeats 4000000 in
set_option maxRecDepth 20000 in
theorem Add_calls (b bm : Nat) (t : Tr) (tk m : Nat) (w : World) (h : TBox w b bm t) (ho : TrOk t) (hm : m ≤ 4294967295) (htk : tk ≤ 4294967295) (hn : t.n < 1000) :
    Calls Tryd.prog 16 #[.pointer (some ⟨b, 0, none⟩), .int .u32 (tk : Int), .int .u32 (m : Int)] w fun e w' => e = .returned (.int .i64 (addE t tk m : Nat)) ∧ TBox w' b bm (addT t tk m) ∧ Mod (fun i => i = bm) w w' := by
  have hL := fun W => Legal_calls t.g t.s m W hm ho.g.m1
  obtain ⟨E, hE⟩ : ∃ E, E = addE t tk m := ⟨_, rfl⟩
  have hAT : addT t tk m = if E = 0 then { t with n := t.n + 1, f := updU t.f tk (some m) } else t := by rw [hE]; rfl
  rw [hAT]
  unfold addE at hE
  rw [← show E = addE t tk m from hE]
  have c0 := h.row.c0
  have c1 := h.row.c1
  have c2 := h.row.c2
  have c3 := h.row.c3
  have c4 := h.row.c4
  have c5 := h.row.c5
  have HO := Lib.hid ho
  obtain ⟨D, hD⟩ : ∃ D, D = decide (m < t.g.mv) := ⟨_, rfl⟩
  simp only [← hD] at hL
  clear hAT ho
  go_enter Tryd.func16, Tryd.ntmps16
  go_wp2_with fail
  refine (hL _).mono ?_
  rintro e w1 ⟨rfl, hb⟩
  replace h := h.ext hb
  have hM : Mod (fun i => i = bm) w w1 := mod_ext hb
  have q105 := h.row.cT
  have hE0 : E ≤ 12 := by rw [hE]; repeat (first | omega | split)
  cases D with
  | false =>
    have hE1 : E = 1 := by rw [hE, if_pos (of_decide_eq_false hD.symm)]
    subst hE1
    clear hE hD hL c0 c1 c2 c3 c4 c5 q105
    go_wp2_with fail
    go_ret
    exact ⟨rfl, ‹TBox _ b bm t›, hM⟩
  | true =>
    rw [if_neg (by simpa using hD.symm)] at hE
    clear hD hL
    by_cases hl : tk ≤ t.k.tk
    · have hE1 : E = 11 := by rw [hE, if_pos hl]
      subst hE1
      have e1 : (tk : Int) ≤ (t.k.tk : Int) := by omega
      clear hE c0 c1 c2 c3 c4 c5
      go_wp2_with fail
      go_ret
      exact ⟨rfl, ‹TBox _ b bm t›, hM⟩
    · have e1 : ¬ (tk : Int) ≤ (t.k.tk : Int) := by omega
      rw [if_neg hl] at hE
      clear hl
      obtain ⟨EN, hEN⟩ : ∃ EN, EN = endT t.k.tk := ⟨_, rfl⟩
      rw [← hEN] at hE
      have hend := end_calls b bm t w1 h HO.out.tk hEN
      have q106 := h.row.cM
      clear hEN c0 c1 c2 c3 c4 c5
      by_cases hl : EN < tk
      · have hE1 : E = 6 := by rw [hE, if_pos hl]
        subst hE1
        have e2 : (EN : Int) < (tk : Int) := by omega
        clear hE
        go_wp2_with fail
        refine hend.mono ?_
        rintro e w2 ⟨rfl, rfl⟩
        go_wp2_with fail
        go_ret
        exact ⟨rfl, ‹TBox _ b bm t›, hM⟩
      · have e2 : ¬ (EN : Int) < (tk : Int) := by omega
        rw [if_neg hl] at hE
        clear hl
        obtain ⟨S, hS⟩ : ∃ S, S = (t.f tk).isSome := ⟨_, rfl⟩
        obtain ⟨c, hc⟩ : ∃ c : Int, c = (((t.f tk).getD 0 : Nat) : Int) := ⟨_, rfl⟩
        rw [← hS] at hE
        have HS := Lib.hid (And.intro hc.symm hS.symm)
        clear hc hS
        cases S with
        | true =>
          have hE1 : E = 12 := by rw [hE]; rfl
          subst hE1
          clear hE
          go_wp2_with fail
          refine hend.mono ?_
          rintro e w2 ⟨rfl, rfl⟩
          go_wp2_with ((with_reducible refine at_lk _ 33 34 ?_); refine wpList_lookU rfl (.tmp 33) (.tmp 34) rfl bm _ t.f tk rfl rfl (by omega) h.mp c true HS.out.1 HS.out.2 ?_)
          go_ret
          exact ⟨rfl, ‹TBox _ b bm t›, hM⟩
        | false =>
          have hE1 : E = 0 := by rw [hE]; rfl
          subst hE1
          clear hE
          go_wp2_with fail
          refine hend.mono ?_
          rintro e w2 ⟨rfl, rfl⟩
          go_wp2_with (first | ((with_reducible refine at_lk _ 33 34 ?_); refine wpList_lookU rfl (.tmp 33) (.tmp 34) rfl bm _ t.f tk rfl rfl (by omega) h.mp c false HS.out.1 HS.out.2 ?_) | ((with_reducible refine at_mu _ 42 43 44 ?_); refine wpList_upU rfl (.tmp 42) (.tmp 43) (.tmp 44) rfl bm _ t.f tk m rfl rfl rfl h.mp (by simp only [maxLen]; omega) (by omega) (by omega) ?_; intro w3 hu hm3 hs3))
          go_ret
          exact ⟨rfl, h.sF hu hm3, hM.trans hm3 (fun _ _ e => e) (fun _ _ e => e)⟩
end Go.Proofs.YtnbbglhpjpebhaaDoor
/- A trail's Last. Conditions: the numbers fit. -/
namespace Go.Proofs.YtnbbglhpjpebhaaDoor
open Go.RowKit
open Go.Maps (Keyed IsMap Tidy)
set_option linter.unusedVariables false

/-- The last tick of the moves, or that which is known. -/
def LastIs (t : Tr) (L : Nat) : Prop := t.k.tk ≤ L ∧ L < 4294967296 ∧ (L = t.k.tk ∨ (t.f L).isSome = true) ∧ ∀ u, u < 4294967296 → (t.f u).isSome = true → u ≤ L
set_option maxHeartbeats 4000000 in
set_option maxRecDepth 20000 in
theorem Last_calls (b bm : Nat) (t : Tr) (w : World) (h : TBox w b bm t) (htk : t.k.tk ≤ 4294967295) :
    Calls Tryd.prog 25 #[.pointer (some ⟨b, 0, none⟩)] w fun e w' => ∃ L : Nat, e = .returned (.int .u32 (L : Int)) ∧ LastIs t L ∧ TBox w' b bm t ∧ Below w.heap.size w w' := by
  have q105 := h.row.cT
  have q106 := h.row.cM
  obtain ⟨D, hown, hD⟩ := h.mp
  have HD := Lib.hid hD
  have HB := Lib.hid h
  clear hD
  go_enter Tryd.func25, Tryd.ntmps25
  go_wp2_with (at_range; refine wpList_range_own _ rfl _ 81 rfl 22 22 u_law mapTU _ bm t.n D rfl hown ?_; intro w1 hrg hg1 hs1)
  go_frame
  obtain ⟨r, hr⟩ : ∃ r, r = w.heap.size := ⟨_, rfl⟩
  have hM1 : Mod (fun i => i = r) w w1 := (Mod.of_grown hg1).mono (fun i _ e => by cases e)
  have hbm : bm < r := by rw [hr]; exact h.ltm
  rw [← hr] at hrg hs1 ⊢
  have HR := Lib.hid hr
  clear hg1 hown q105 q106 hr h
  go_loopw [3] (fun v wr => ∃ left cnt, ∃ L : Nat, wr.ranges Tryd.prog 22 (plainElem Tryd.prog 22) bm r t.n D left cnt ∧ v = .int .u32 (L : Int) ∧ t.k.tk ≤ L ∧ L < 4294967296 ∧ Hid (L = t.k.tk ∨ Maps.has D (ukey L) = true) ∧ Hid (∀ u, u < 4294967296 → Maps.has D (ukey u) = true → left (ukey u) = true ∨ u ≤ L) ∧ Mod (fun i => i = r) w wr) (fun _ wr => wr.rangeLeft bm r)
  case atStart => exact ⟨_, _, t.k.tk, hrg, rfl, Nat.le_refl _, by omega, Lib.hid (Or.inl rfl), Lib.hid (fun u _ h => Or.inl h), hM1⟩
  case round =>
    obtain ⟨left, cnt, L, hrg2, rfl, hLt, hLb, hLo, hLa, hM⟩ := hrel
    clear hrg hs1 hM1
    have HLQ := Lib.hid hrg2.left_eq
    go_wp2_with (at_next; refine wpList_next_ranges_ii _ rfl _ rfl 22 22 .u32 .u32 u_law Tryd.underlying22 Tryd.underlying22 bm r t.n D left cnt rfl hrg2 ?_ ?_)
    · intro hc0 hl0
      have hbel : Below w.heap.size w wr := hM.below (Nat.le_refl _) (fun i hi e => by have e : i = r := e; have := HR.out; omega)
      have hTB := HB.out.ext hbel
      have hLast : LastIs t L := ⟨hLt, hLb, hLo.out.imp id (fun h => by rw [← (HD.out L hLb).1]; exact h), fun u hu hs => by
        rcases hLa.out u hu (by rw [(HD.out u hu).1]; exact hs) with h | h
        · rw [hl0] at h; cases h
        · exact h⟩
      have HX := Lib.hid (And.intro hLast (And.intro hTB hbel))
      clear hLast hTB hbel hLo hLa hM hl0 hc0
      go_wp2_with fail
      go_ret
      exact ⟨L, rfl, HX.out⟩
    · intro x c w2 cnt2 hwx hwc hlx hat hrg3 hlt2 hg2 hs2 hen
      have hx2 := bounds_u32 hwx
      obtain ⟨u, rfl⟩ := Int.eq_ofNat_of_zero_le hx2.1
      have hhas : Maps.has D (ukey u) = true := Maps.has_true_of_atKey hat
      obtain ⟨M, hMx⟩ : ∃ M, M = max L u := ⟨_, rfl⟩
      have m1 : max (L : Int) (u : Int) = (M : Int) := by omega
      have m2 : (if (L : Int) < (u : Int) then (u : Int) else (L : Int)) = (M : Int) := by split <;> omega
      have m3 : (if (u : Int) ≤ (L : Int) then (L : Int) else (u : Int)) = (M : Int) := by split <;> omega
      have m4 : (if (L : Int) ≤ (u : Int) then (u : Int) else (L : Int)) = (M : Int) := by split <;> omega
      have hm2 : Mod (fun i => i = r) wr w2 := (Mod.of_grown hg2).mono (fun i _ e => by injection e with e; exact e.symm)
      have hM2 : Mod (fun i => i = r) w w2 := hM.trans hm2 (fun _ _ e => e) (fun _ _ e => e)
      have hA : Hid (∀ v, v < 4294967296 → Maps.has D (ukey v) = true → (left (ukey v) && !(ukey v).sameKey (.int .u32 (u : Int))) = true ∨ v ≤ M) := Lib.hid fun v hv hh => by
        by_cases e : v = u
        · exact Or.inr (by omega)
        · rcases hLa.out v hv hh with h | h
          · refine Or.inl ?_
            have hne : (ukey v).sameKey (ukey u) = false := by
              cases hs : (ukey v).sameKey (ukey u)
              · rfl
              · exact absurd (ukey_inj (WideAt.sameKey_eq hs)) e
            rw [h]
            show (true && !(ukey v).sameKey (ukey u)) = true
            rw [hne]
            rfl
          · exact Or.inr (by omega)
      have hO : Hid (M = t.k.tk ∨ Maps.has D (ukey M) = true) := Lib.hid (by
        rcases Nat.le_total L u with h | h
        · rw [hMx, Nat.max_eq_right h]; exact Or.inr hhas
        · rw [hMx, Nat.max_eq_left h]; exact hLo.out)
      have hMt : t.k.tk ≤ M := by omega
      have hMb : M < 4294967296 := by omega
      have HL2 := Lib.hid hlt2
      clear hMx hwx hwc hlx hat hg2 hs2 hhas hlt2 hm2 hM hLa hLo hx2 hrg2
      go_wp2_with fail
      go_roundw
      case rel => exact ⟨_, cnt2, M, hrg3, rfl, hMt, hMb, hO, hA, hM2⟩
      case measure => rw [hrg3.left_eq, HLQ.out]; exact HL2.out
end Go.Proofs.YtnbbglhpjpebhaaDoor
/- What one thinks comes; a trail's Shown. Conditions: the numbers fit; the table lies. -/
namespace Go.Proofs.YtnbbglhpjpebhaaDoor
open Go.RowKit
set_option linter.unusedVariables false

/-- What one thinks comes. -/
def predS (g : Gm) (o : Int) (m : Nat) (st : St) : St :=
  if rightB g = true then ⟨viewL o (wholeV compN (stepP g st (predM g o m)) st.L st.d).L, 0, (st.tk + 1) % 4294967296⟩ else ⟨viewL o st.L, 0, st.tk⟩
structure StOk (st : St) : Prop where
  l : st.L.length ≤ 48
  o : okC st.L
  t : st.tk ≤ 4294967295
theorem predS_ok {g : Gm} {s : Gs} (hok : GOk g s) {o : Int} {m : Nat} {st : St} (h : StOk st) : StOk (predS g o m st) := by
  unfold predS
  split
  · have hF := whole_len (P := stepP g st (predM g o m)) (L := st.L) (d := st.d) (allN_lt g.ob) (cntL_fit g (predM g o m)) hok.oK h.o
    exact ⟨by simp only [viewL_length]; rw [hF.1]; exact h.l, okC_view hF.2 o, by simp only; omega⟩
  · exact ⟨by simp only [viewL_length]; exact h.l, okC_view h.o o, h.t⟩
/-- What is shown j ticks on. -/
def shN (t : Tr) : Nat → St
  | 0 => t.k
  | j + 1 => predS t.g t.o ((t.f (t.k.tk + j + 1)).getD t.g.df) (shN t j)
theorem TrOk.k {t : Tr} (h : TrOk t) : StOk t.k := ⟨h.l48, h.oL, h.tk⟩
theorem shN_ok {t : Tr} (h : TrOk t) : ∀ j, StOk (shN t j)
  | 0 => h.k
  | j + 1 => predS_ok h.g (shN_ok h j)
def shown (t : Tr) (tick : Nat) : St := shN t (min tick (endT t.k.tk) - t.k.tk)
theorem shown_ok {t : Tr} (h : TrOk t) (tick : Nat) : StOk (shown t tick) := shN_ok h _
/-- Predict answers so. -/
def PredIs (g : Gm) (s : Gs) (o : Int) : Prop := ∀ (st : St) (m : Nat) (W : World), StOk st → m ≤ 4294967295 → GIn W g s → CTab W →
  Calls Tryd.prog 28 #[.agg (gmA g s), .agg (stA st), .int .i64 o, .int .u32 (m : Int)] W fun e w' => e = .returned (.agg (stA (predS g o m st))) ∧ Below W.heap.size W w'
theorem pred_right {g : Gm} {s : Gs} {o : Int} (hok : GOk g s) (ho : -9223372036854775808 ≤ o ∧ o ≤ 9223372036854775807) (hr : rightB g = true) : PredIs g s o := fun st m W hs hm hin hT => by
  have h := Predict_good g s st o m W hin hok hT hr hm hs.l hs.o hs.t ho rfl
  unfold predS
  rw [if_pos hr]
  exact h
theorem wp_ldSS {o : Oper} {a : Act} {w : World} {Q : Exit → Act → World → Prop} {K : Act → World → Prop} (x : Operand) (ho : o.op = .load 40 x) (g : Nat) {s : St} (hx : a.eval x = .pointer (some ⟨g, 0, none⟩)) (h : BoxS w g s) (k : K (a.put o.dst (.agg (stA s))) w) : o.wp Tryd.prog a w K Q :=
  wp_load_mid _ x ho g 0 hx _ _ h.rangeA Tryd.underlying40 rfl (st_size _) k
set_option maxHeartbeats 8000000 in
set_option maxRecDepth 20000 in
theorem Shown_calls (b bm : Nat) (t : Tr) (tick : Nat) (w : World) (h : TBox w b bm t) (ho : TrOk t) (hT : CTab w) (hP : PredIs t.g t.s t.o) (htk : tick ≤ 4294967295) :
    Calls Tryd.prog 19 #[.pointer (some ⟨b, 0, none⟩), .int .u32 (tick : Int)] w fun e w' => e = .returned (.agg (stA (shown t tick))) ∧ TBox w' b bm t ∧ Below w.heap.size w w' := by
  obtain ⟨E, hE⟩ : ∃ E, E = endT t.k.tk := ⟨_, rfl⟩
  obtain ⟨La, hLa⟩ : ∃ La, La = min tick E := ⟨_, rfl⟩
  obtain ⟨n, hn⟩ : ∃ n, n = La - t.k.tk := ⟨_, rfl⟩
  have hsh : shown t tick = shN t n := by unfold shown; rw [hn, hLa, hE]
  rw [hsh]
  have HTB := Lib.hid h
  have HT := Lib.hid hT
  have HP := Lib.hid hP
  have HO := Lib.hid ho
  have hend := fun W (hw : TBox W b bm t) => end_calls b bm t W hw ho.tk hE
  have hEb : E ≤ 4294967295 := by rw [hE]; unfold endT; omega
  have htl := ho.tk
  have m1 : min (tick : Int) (E : Int) = (La : Int) := by omega
  have m2 : (if (E : Int) < (tick : Int) then (E : Int) else (tick : Int)) = (La : Int) := by split <;> omega
  have m3 : (if (tick : Int) ≤ (E : Int) then (tick : Int) else (E : Int)) = (La : Int) := by split <;> omega
  have hLb : La ≤ 4294967295 := by omega
  have HN := Lib.hid hn
  clear hE hLa hsh hT hP ho hn
  have hb := below_alloc2 w (.cells (stA zSt) 40) (.cells (stA zSt) 40)
  have x4 := (BoxS.new_ w zSt).ext (below_alloc1 (w.alloc (.cells (stA zSt) 40)) (.cells (stA zSt) 40))
  have x5 := BoxS.new_ (w.alloc (.cells (stA zSt) 40)) zSt
  rw [World.size_alloc] at x5
  have hl := h.lt
  replace h := h.ext hb
  go_enter Tryd.func19, Tryd.ntmps19
  go_upto_region 3 with ((with_reducible refine at_al 40 4 ?_); refine wpList_alS rfl rfl (some 4) rfl w.heap.size rfl ?_)
  go_upto_region 4 with (first | ((with_reducible refine at_al 40 5 ?_); refine wpList_alS rfl rfl (some 5) rfl (w.heap.size + 1) (by rw [World.size_alloc]) ?_) | ((with_reducible refine at_ld 40 15 ?_); refine wpList_ldT rfl (.tmp 15) rfl b rfl ((HTB.out.ext (below_alloc1 _ _)).row) ?_) | ((with_reducible refine at_st 40 5 16 ?_); refine wpList_stS rfl (.tmp 5) (.tmp 16) rfl (w.heap.size + 1) t.k rfl rfl zSt x5 ?_))
  have hsr := mod_setRow ((w.alloc (.cells (stA zSt) 40)).alloc (.cells (stA zSt) 40)) (w.heap.size + 1) (stA t.k)
  replace x5 := x5.row_ t.k
  replace x4 := x4.mod hsr (by show ¬ w.heap.size = w.heap.size + 1; omega)
  replace hb := below_setRow hb (w.heap.size + 1) (stA t.k) (Nat.le_succ _)
  obtain ⟨w1, hw1⟩ : ∃ w1, w1 = ((w.alloc (.cells (stA zSt) 40)).alloc (.cells (stA zSt) 40)).setRow (w.heap.size + 1) (stA t.k) := ⟨_, rfl⟩
  rw [← hw1] at x4 x5 hb ⊢
  obtain ⟨X, hX⟩ : ∃ X, X = w.heap.size := ⟨_, rfl⟩
  have HX := Lib.hid hX
  rw [← hX] at x4 x5 ⊢
  clear hw1 hX hsr h
  have h1 := HTB.out.ext hb
  have q105 := h1.row.cT
  go_wp2_with fail
  refine (hend _ h1).mono ?_
  rintro e w2 ⟨rfl, rfl⟩
  clear hend
  go_wp2_with fail
  clear q105 m1 m2 m3
  go_loopw [7] (fun v wr => ∃ A j : Nat, v = .int .u32 (A : Int) ∧ A = t.k.tk + j ∧ (j ≤ n) ∧ BoxS wr (X + 1) (shN t j) ∧ BoxS wr X zSt ∧ Below w.heap.size w wr) (fun v _ => La - (intOf v).toNat)
  case atStart => exact ⟨t.k.tk, 0, rfl, rfl, Nat.zero_le _, x5, x4, hb⟩
  case round =>
    obtain ⟨A, j, rfl, hA, hj, y5, y4, hbe⟩ := hrel
    clear x4 x5 hb h1
    have hTB := HTB.out.ext hbe
    by_cases hlt : A < La
    · have e1 : (A : Int) < (La : Int) := by omega
      obtain ⟨T, hTt⟩ : ∃ T, T = A + 1 := ⟨_, rfl⟩
      have e2 : ((A : Int) + 1) % 4294967296 = (T : Int) := by omega
      have e3 : IntKind.u32.wrap ((A : Int) + 1) = (T : Int) := by rw [IntKind.wrap_u32]; exact e2
      have hTb : T < 4294967296 := by omega
      have hjn : j + 1 ≤ n := by have := HN.out; omega
      have hme : La - T < La - A := by omega
      have hTA : T = t.k.tk + (j + 1) := by omega
      have hsn : shN t (j + 1) = predS t.g t.o ((t.f T).getD t.g.df) (shN t j) := by rw [hTA]; rfl
      obtain ⟨c, hc⟩ : ∃ c : Int, c = (((t.f T).getD 0 : Nat) : Int) := ⟨_, rfl⟩
      have q106 := hTB.row.cM
      have q3 := hTB.row.c3
      have HLT := Lib.hid (And.intro hTt (And.intro hA hj))
      have HTA := Lib.hid hTA
      clear hTt hA hj hTA
      cases hf : t.f T with
      | none =>
        have hcd := Lib.hid (show (((t.f T).getD 0 : Nat) : Int) = c ∧ (t.f T).isSome = false from ⟨hc.symm, by rw [hf]; rfl⟩)
        rw [hf] at hsn
        simp only [Option.getD_none] at hsn
        have hmf : t.g.df ≤ 4294967295 := HO.out.g.d1
        have HSN := Lib.hid hsn
        clear hc hf hsn hlt
        go_wp2_with ((with_reducible refine at_lk _ 35 36 ?_); refine wpList_lookU rfl (.tmp 35) (.tmp 36) rfl bm _ t.f T rfl rfl hTb hTB.mp c false hcd.out.1 hcd.out.2 ?_)
        clear q106 q3
        refine wp_region_held_drew (S := fun w9 => TRow w9 b bm t) (by kernel_rfl) ?_ (fun hHeld => ?_)
        · exact hTB.row
        have hbd : Below w.heap.size w wr.drew := below_drew hbe
        have hTBd := HTB.out.ext hbd
        have y5d : BoxS wr.drew (X + 1) (shN t j) := y5
        have y4d : BoxS wr.drew X zSt := y4
        refine wpAnyH_take (i := 0) (by simp only [List.getElem?_toArray]; rfl) (by kernel_rfl) (by kernel_rfl) (by kernel_rfl) (by exact fun _ _ _ h => h) (by exact yk (.pointer (some ⟨b, 0, none⟩)) (by kernel_rfl) (fun _ => by kernel_rfl)) hHeld ?_
        refine wpAnyH_take (i := 1) (by simp only [List.getElem?_toArray]; rfl) (by kernel_rfl) (by kernel_rfl) (by kernel_rfl) (by exact fun _ _ _ h => h) (by exact yk (.pointer (some ⟨b, 0, none⟩)) (by kernel_rfl) (fun _ => by kernel_rfl)) hHeld ?_
        refine wpAnyH_take (i := 2) (by simp only [List.getElem?_toArray]; rfl) (by kernel_rfl) (by kernel_rfl) (by kernel_rfl) (by exact fun _ _ _ h => h) (by exact yk (.pointer (some ⟨b, 0, none⟩)) (by kernel_rfl) (fun _ => by kernel_rfl)) hHeld ?_
        refine wpAnyH_take (i := 3) (by simp only [List.getElem?_toArray]; rfl) (by kernel_rfl) (by kernel_rfl) (by kernel_rfl) (by exact fun _ _ _ h => h) (by exact yk_ldGT (by kernel_rfl) (.tmp 49) rfl b (by kernel_rfl) (fun _ h => h)) hHeld ?_
        refine wpAnyH_take (i := 5) (by simp only [List.getElem?_toArray]; rfl) (by kernel_rfl) (by kernel_rfl) (by kernel_rfl) (by exact fun _ _ _ h => h) (by exact yk (.pointer (some ⟨b, 0, none⟩)) (by kernel_rfl) (fun _ => by kernel_rfl)) hHeld ?_
        refine wpAnyH_take (i := 6) (by simp only [List.getElem?_toArray]; rfl) (by kernel_rfl) (by kernel_rfl) (by kernel_rfl) (by exact fun _ _ _ h => h) (by exact yk (.pointer (some ⟨b, 0, none⟩)) (by kernel_rfl) (fun _ => by kernel_rfl)) hHeld ?_
        refine wpAnyH_take (i := 7) (by simp only [List.getElem?_toArray]; rfl) (by kernel_rfl) (by kernel_rfl) (by kernel_rfl) (by exact fun _ _ _ h => h) (by exact yk (.pointer (some ⟨b, 6, none⟩)) (by kernel_rfl) (fun _ => by kernel_rfl)) hHeld ?_
        refine wpAnyH_take (i := 8) (by simp only [List.getElem?_toArray]; rfl) (by kernel_rfl) (by kernel_rfl) (by kernel_rfl) (by exact fun _ _ _ h => h) (by exact yk_ldI (by kernel_rfl) (.tmp 54) rfl ⟨b, 6, none⟩ (.int .i64 t.o) (by kernel_rfl) (fun _ h => h.c6)) hHeld ?_
        refine wpAnyH_take (i := 9) (by simp only [List.getElem?_toArray]; rfl) (by kernel_rfl) (by kernel_rfl) (by kernel_rfl) (by exact fun _ _ _ h => h) (by exact yk (.int .u32 ((t.g.df : Nat) : Int)) (by kernel_rfl) (fun _ => by kernel_rfl)) hHeld ?_
        try simp only [Act.put, List.setIfInBounds_toArray, List.set_cons_zero, List.set_cons_succ]
        refine wpAnyH_ready (rs := [4]) (by kernel_rfl) (by simp) ?_
        refine AllReadyH.cons (by simp only [List.getElem?_toArray]; rfl) (fun KK hKK => ?_) AllReadyH.nil
        rw [if_pos (by kernel_rfl)]
        refine wp_ldSS (.tmp 5) rfl (X + 1) rfl y5d ?_
        refine hKK.out _ _ ?_ (fun hHeld => ?_)
        · exact hTBd.row
        clear hKK KK
        try simp only [Act.put, List.setIfInBounds_toArray, List.set_cons_zero, List.set_cons_succ]
        refine wpAnyH_ready (rs := [10]) (by kernel_rfl) (by simp) ?_
        refine AllReadyH.cons (by simp only [List.getElem?_toArray]; rfl) (fun KK hKK => ?_) AllReadyH.nil
        rw [if_pos (by kernel_rfl)]
        refine wp_callF 28 #[.agg (gmA t.g t.s), .agg (stA (shN t j)), .int .i64 t.o, .int .u32 ((t.g.df : Nat) : Int)] (by kernel_rfl) ?_
        refine (HP.out (shN t j) t.g.df _ (shN_ok HO.out j) hmf hTBd.gi (HT.out.ext hbd)).mono ?_
        rintro e wv ⟨rfl, h9⟩
        have y5v := y5d.ext h9
        have y4v := y4d.ext h9
        have hbv := hbd.trans (h9.mono hbd.size)
        have hTBv := HTB.out.ext hbv
        refine ⟨_, rfl, ?_⟩
        refine hKK.out _ _ ?_ (fun hHeld => ?_)
        · exact hTBv.row
        clear hKK KK
        try simp only [Act.put, List.setIfInBounds_toArray, List.set_cons_zero, List.set_cons_succ]
        refine wpAnyH_ready (rs := [11]) (by kernel_rfl) (by simp) ?_
        refine AllReadyH.cons (by simp only [List.getElem?_toArray]; rfl) (fun KK hKK => ?_) AllReadyH.nil
        rw [if_pos (by kernel_rfl)]
        rw [← HSN.out]
        refine wp_stS (.tmp 5) (.tmp 57) rfl (X + 1) (shN t (j + 1)) (by kernel_rfl) (by kernel_rfl) y5v ?_
        have hbs := below_setRow hbv (X + 1) (stA (shN t (j + 1))) (by have := HX.out; omega)
        have hTBs := HTB.out.ext hbs
        refine hKK.out _ _ ?_ (fun hHeld => ?_)
        · exact hTBs.row
        clear hKK KK
        refine wpAnyH_done (by kernel_rfl) ?_ _
        try simp only [Act.put]
        go_wp2_with fail
        go_roundw
        case rel => exact ⟨T, j + 1, rfl, HTA.out, hjn, y5v.row_ _, y4v.mod (mod_setRow _ _ _) (by show ¬ X = X + 1; omega), hbs⟩
        case measure => simp [intOf]; have := HLT.out; omega
      | some x =>
        have hxx := (by have := hTB.mp; obtain ⟨D, _, hD⟩ := this; exact ((hD T hTb).2 x hf).1 : x < 4294967296)
        have hcd := Lib.hid (show (((t.f T).getD 0 : Nat) : Int) = (x : Int) ∧ (t.f T).isSome = true from ⟨by rw [hf]; rfl, by rw [hf]; rfl⟩)
        rw [hf] at hsn
        simp only [Option.getD_some] at hsn
        have hmf : x ≤ 4294967295 := by omega
        have HSN := Lib.hid hsn
        clear hc hf hsn hxx hlt
        go_wp2_with ((with_reducible refine at_lk _ 35 36 ?_); refine wpList_lookU rfl (.tmp 35) (.tmp 36) rfl bm _ t.f T rfl rfl hTb hTB.mp (x : Int) true hcd.out.1 hcd.out.2 ?_)
        clear q106 q3
        refine wp_region_held_drew (S := fun w9 => TRow w9 b bm t) (by kernel_rfl) ?_ (fun hHeld => ?_)
        · exact hTB.row
        have hbd : Below w.heap.size w wr.drew := below_drew hbe
        have hTBd := HTB.out.ext hbd
        have y5d : BoxS wr.drew (X + 1) (shN t j) := y5
        have y4d : BoxS wr.drew X zSt := y4
        refine wpAnyH_take (i := 0) (by simp only [List.getElem?_toArray]; rfl) (by kernel_rfl) (by kernel_rfl) (by kernel_rfl) (by exact fun _ _ _ h => h) (by exact yk (.pointer (some ⟨b, 0, none⟩)) (by kernel_rfl) (fun _ => by kernel_rfl)) hHeld ?_
        refine wpAnyH_take (i := 1) (by simp only [List.getElem?_toArray]; rfl) (by kernel_rfl) (by kernel_rfl) (by kernel_rfl) (by exact fun _ _ _ h => h) (by exact yk (.pointer (some ⟨b, 0, none⟩)) (by kernel_rfl) (fun _ => by kernel_rfl)) hHeld ?_
        refine wpAnyH_take (i := 2) (by simp only [List.getElem?_toArray]; rfl) (by kernel_rfl) (by kernel_rfl) (by kernel_rfl) (by exact fun _ _ _ h => h) (by exact yk (.pointer (some ⟨b, 0, none⟩)) (by kernel_rfl) (fun _ => by kernel_rfl)) hHeld ?_
        refine wpAnyH_take (i := 3) (by simp only [List.getElem?_toArray]; rfl) (by kernel_rfl) (by kernel_rfl) (by kernel_rfl) (by exact fun _ _ _ h => h) (by exact yk_ldGT (by kernel_rfl) (.tmp 49) rfl b (by kernel_rfl) (fun _ h => h)) hHeld ?_
        refine wpAnyH_take (i := 5) (by simp only [List.getElem?_toArray]; rfl) (by kernel_rfl) (by kernel_rfl) (by kernel_rfl) (by exact fun _ _ _ h => h) (by exact yk (.pointer (some ⟨b, 0, none⟩)) (by kernel_rfl) (fun _ => by kernel_rfl)) hHeld ?_
        refine wpAnyH_take (i := 6) (by simp only [List.getElem?_toArray]; rfl) (by kernel_rfl) (by kernel_rfl) (by kernel_rfl) (by exact fun _ _ _ h => h) (by exact yk (.pointer (some ⟨b, 0, none⟩)) (by kernel_rfl) (fun _ => by kernel_rfl)) hHeld ?_
        refine wpAnyH_take (i := 7) (by simp only [List.getElem?_toArray]; rfl) (by kernel_rfl) (by kernel_rfl) (by kernel_rfl) (by exact fun _ _ _ h => h) (by exact yk (.pointer (some ⟨b, 6, none⟩)) (by kernel_rfl) (fun _ => by kernel_rfl)) hHeld ?_
        refine wpAnyH_take (i := 8) (by simp only [List.getElem?_toArray]; rfl) (by kernel_rfl) (by kernel_rfl) (by kernel_rfl) (by exact fun _ _ _ h => h) (by exact yk_ldI (by kernel_rfl) (.tmp 54) rfl ⟨b, 6, none⟩ (.int .i64 t.o) (by kernel_rfl) (fun _ h => h.c6)) hHeld ?_
        refine wpAnyH_take (i := 9) (by simp only [List.getElem?_toArray]; rfl) (by kernel_rfl) (by kernel_rfl) (by kernel_rfl) (by exact fun _ _ _ h => h) (by exact yk (.int .u32 ((x : Nat) : Int)) (by kernel_rfl) (fun _ => by kernel_rfl)) hHeld ?_
        try simp only [Act.put, List.setIfInBounds_toArray, List.set_cons_zero, List.set_cons_succ]
        refine wpAnyH_ready (rs := [4]) (by kernel_rfl) (by simp) ?_
        refine AllReadyH.cons (by simp only [List.getElem?_toArray]; rfl) (fun KK hKK => ?_) AllReadyH.nil
        rw [if_pos (by kernel_rfl)]
        refine wp_ldSS (.tmp 5) rfl (X + 1) rfl y5d ?_
        refine hKK.out _ _ ?_ (fun hHeld => ?_)
        · exact hTBd.row
        clear hKK KK
        try simp only [Act.put, List.setIfInBounds_toArray, List.set_cons_zero, List.set_cons_succ]
        refine wpAnyH_ready (rs := [10]) (by kernel_rfl) (by simp) ?_
        refine AllReadyH.cons (by simp only [List.getElem?_toArray]; rfl) (fun KK hKK => ?_) AllReadyH.nil
        rw [if_pos (by kernel_rfl)]
        refine wp_callF 28 #[.agg (gmA t.g t.s), .agg (stA (shN t j)), .int .i64 t.o, .int .u32 ((x : Nat) : Int)] (by kernel_rfl) ?_
        refine (HP.out (shN t j) x _ (shN_ok HO.out j) hmf hTBd.gi (HT.out.ext hbd)).mono ?_
        rintro e wv ⟨rfl, h9⟩
        have y5v := y5d.ext h9
        have y4v := y4d.ext h9
        have hbv := hbd.trans (h9.mono hbd.size)
        have hTBv := HTB.out.ext hbv
        refine ⟨_, rfl, ?_⟩
        refine hKK.out _ _ ?_ (fun hHeld => ?_)
        · exact hTBv.row
        clear hKK KK
        try simp only [Act.put, List.setIfInBounds_toArray, List.set_cons_zero, List.set_cons_succ]
        refine wpAnyH_ready (rs := [11]) (by kernel_rfl) (by simp) ?_
        refine AllReadyH.cons (by simp only [List.getElem?_toArray]; rfl) (fun KK hKK => ?_) AllReadyH.nil
        rw [if_pos (by kernel_rfl)]
        rw [← HSN.out]
        refine wp_stS (.tmp 5) (.tmp 57) rfl (X + 1) (shN t (j + 1)) (by kernel_rfl) (by kernel_rfl) y5v ?_
        have hbs := below_setRow hbv (X + 1) (stA (shN t (j + 1))) (by have := HX.out; omega)
        have hTBs := HTB.out.ext hbs
        refine hKK.out _ _ ?_ (fun hHeld => ?_)
        · exact hTBs.row
        clear hKK KK
        refine wpAnyH_done (by kernel_rfl) ?_ _
        try simp only [Act.put]
        go_wp2_with fail
        go_roundw
        case rel => exact ⟨T, j + 1, rfl, HTA.out, hjn, y5v.row_ _, y4v.mod (mod_setRow _ _ _) (by show ¬ X = X + 1; omega), hbs⟩
        case measure => simp [intOf]; have := HLT.out; omega
    · have e1 : ¬ (A : Int) < (La : Int) := by omega
      have hjn : j = n := by have := HN.out; omega
      subst hjn
      clear hj
      go_wp2_with (first | ((with_reducible refine at_ld 40 5 ?_); refine wpList_ldS rfl (.tmp 5) rfl (X + 1) rfl y5 ?_) | ((with_reducible refine at_st 40 4 58 ?_); refine wpList_stS rfl (.tmp 4) (.tmp 58) rfl X (shN t j) rfl rfl zSt y4 ?_))
      have hXw := HX.out
      exact bodyPost_ret (results_cell_row (P := Tryd.prog) rfl _ _ X _ _ (0, 0) _ rfl (y4.row_ (shN t j)) Tryd.underlying40 rfl (by rw [stA_size]; kernel_rfl)) rfl ⟨rfl, HTB.out.ext (below_setRow hbe _ _ (by omega)), below_setRow hbe _ _ (by omega)⟩
end Go.Proofs.YtnbbglhpjpebhaaDoor
/- What maps.DeleteFunc does with the moves up to a tick. Conditions: the numbers fit. -/
namespace Go.Proofs.YtnbbglhpjpebhaaDoor
open Go.RowKit
open Go.Maps (Keyed IsMap Tidy)
set_option linter.unusedVariables false

theorem keep1_calls (Y : Nat) (st : St) (u c : Nat) (w : World) (h : BoxS w Y st) : Calls Tryd.prog 40 #[.int .u32 (u : Int), .int .u32 (c : Int), .pointer (some ⟨Y, 0, none⟩)] w fun e w' => e = .returned (.bool (decide (u ≤ st.tk))) ∧ w' = w := by
  have q := h.cK
  obtain ⟨D, hD⟩ : ∃ D, D = decide (u ≤ st.tk) := ⟨_, rfl⟩
  have e1 : decide (u ≤ st.tk) = D := hD.symm
  rw [← hD]
  clear hD
  go_enter Tryd.func40, Tryd.ntmps40
  go_wp2_with fail
  go_ret
  exact ⟨rfl, rfl⟩
/-- What is left of the moves behind a tick. -/
def delU (f : UF) (tk : Nat) : UF := fun u => if u ≤ tk then none else f u
def outU (f : UF) (tk : Nat) (left : Lit → Bool) : UF := fun u => if u ≤ tk ∧ left (ukey u) = false then none else f u
theorem ukey_other {u v : Nat} (h : ¬ u = v) : (ukey u).sameKey (ukey v) = false := by
  cases hs : (ukey u).sameKey (ukey v)
  · rfl
  · exact absurd (ukey_inj (WideAt.sameKey_eq hs)) h
theorem outU_struck {D : DataW Unit} {f : UF} {tk u0 : Nat} {left : Lit → Bool} (h : UvD D (outU f tk left)) (hu : u0 < 4294967296) (ht : u0 ≤ tk) : UvD (D.del (ukey u0)) (outU f tk fun z => left z && !z.sameKey (ukey u0)) := fun u hb => by
  by_cases e : u = u0
  · subst e
    have e1 : outU f tk (fun z => left z && !z.sameKey (ukey u)) u = none := by
      unfold outU
      rw [if_pos ⟨ht, by simp [WideAt.sameKey_self (ukey_ok hu)]⟩]
    rw [Maps.has_del_same, e1]
    exact ⟨rfl, fun x hx => by cases hx⟩
  · have e1 : outU f tk (fun z => left z && !z.sameKey (ukey u0)) u = outU f tk left u := by
      unfold outU
      simp only [ukey_other e, Bool.not_false, Bool.and_true]
    have hne : ukey u ≠ ukey u0 := fun e' => e (ukey_inj e')
    rw [Maps.has_del_other hne, e1]
    refine ⟨(h u hb).1, fun x hx => ?_⟩
    rw [Maps.atKey_del_other hne]
    exact (h u hb).2 x hx
theorem outU_stays {D : DataW Unit} {f : UF} {tk u0 : Nat} {left : Lit → Bool} (h : UvD D (outU f tk left)) (ht : ¬ u0 ≤ tk) : UvD D (outU f tk fun z => left z && !z.sameKey (ukey u0)) := fun u hb => by
  have e1 : outU f tk (fun z => left z && !z.sameKey (ukey u0)) u = outU f tk left u := by
    unfold outU
    by_cases e : u = u0
    · subst e
      rw [if_neg (fun h => ht h.1), if_neg (fun h => ht h.1)]
    · simp only [ukey_other e, Bool.not_false, Bool.and_true]
  rw [e1]
  exact h u hb
theorem outU_start {D : DataW Unit} {f : UF} (h : UvD D f) (tk : Nat) : UvD D (outU f tk (Maps.has D)) := fun u hb => by
  have e1 : outU f tk (Maps.has D) u = f u := by
    unfold outU
    by_cases e : u ≤ tk ∧ Maps.has D (ukey u) = false
    · rw [if_pos e]
      have := (h u hb).1
      rw [e.2] at this
      cases hf : f u with
      | none => rfl
      | some x => rw [hf] at this; cases this
    · rw [if_neg e]
  rw [e1]
  exact h u hb
theorem outU_end {D : DataW Unit} {f : UF} {tk : Nat} {left : Lit → Bool} (h : UvD D (outU f tk left)) (hl : ∀ kl, left kl = false) : UvD D (delU f tk) := fun u hb => by
  have e1 : outU f tk left u = delU f tk u := by
    unfold outU delU
    simp only [hl, and_true]
  rw [← e1]
  exact h u hb
set_option maxHeartbeats 4000000 in
set_option maxRecDepth 20000 in
theorem Del_calls (bm n Y : Nat) (f : UF) (st : St) (w : World) (hU : Uv w bm n f) (hY : BoxS w Y st) :
    Calls Tryd.prog 39 #[.map (some bm), .func (.func 40) #[] #[.pointer (some ⟨Y, 0, none⟩)]] w fun e w' => e = .returned (.tuple #[]) ∧ Uv w' bm n (delU f st.tk) ∧ Mod (fun i => i = bm) w w' := by
  obtain ⟨D, hown, hD⟩ := hU
  have hbl : bm < w.heap.size := hown.lt
  have hne : ¬ Y = bm := fun e => by
    obtain ⟨es, clock, h2, _⟩ := hown
    rw [← e, hY] at h2
    cases h2
  have HD := Lib.hid hD
  have HK := fun u c W (h : BoxS W Y st) => keep1_calls Y st u c W h
  clear hD
  go_enter Tryd.func39, Tryd.ntmps39
  go_wp2_with (at_range; refine wpList_range_own _ rfl _ 81 rfl 22 22 u_law mapTU _ bm n D rfl hown ?_; intro w1 hrg hg1 hs1)
  go_frame
  obtain ⟨r, hr⟩ : ∃ r, r = w.heap.size := ⟨_, rfl⟩
  have hM1 : Mod (fun i => i = bm) w w1 := (Mod.of_grown hg1).mono (fun i _ e => by cases e)
  have hYl : Y < r := by rw [hr]; exact hY.lt
  replace hY := hY.mod hM1 hne
  rw [← hr] at hrg hs1 hbl ⊢
  have HR := Lib.hid hr
  clear hg1 hown hr
  go_loopw [8] (fun _ wr => ∃ left cnt D2, wr.ranges Tryd.prog 22 (plainElem Tryd.prog 22) bm r n D2 left cnt ∧ Hid (UvD D2 (outU f st.tk left)) ∧ BoxS wr Y st ∧ Mod (fun i => i = bm) w wr) (fun _ wr => wr.rangeLeft bm r)
  case atStart => exact ⟨_, _, D, hrg, Lib.hid (outU_start HD.out st.tk), hY, hM1⟩
  case round =>
    obtain ⟨left, cnt, D2, hrg2, hU2, hY, hM⟩ := hrel
    clear hrg hs1 hM1
    have HLQ := Lib.hid hrg2.left_eq
    go_wp2_with (at_next; refine wpList_next_ranges_ii _ rfl _ rfl 22 22 .u32 .u32 u_law Tryd.underlying22 Tryd.underlying22 bm r n D2 left cnt rfl hrg2 ?_ ?_)
    · intro hc0 hl0
      have HX := Lib.hid (And.intro (⟨D2, hrg2.owns, outU_end hU2.out hl0⟩ : Uv wr bm n (delU f st.tk)) hM)
      clear hU2 hM hl0 hc0 HK
      go_wp2_with fail
      (try simp only [Exit.inBlock, Exit.then])
      refine bodyPost_end (results_none rfl _ _ _) rfl ?_
      exact ⟨rfl, HX.out⟩
    · intro x c w2 cnt2 hwx hwc hlx hat hrg3 hlt2 hg2 hs2 hen
      have hx2 := bounds_u32 hwx
      obtain ⟨u, rfl⟩ := Int.eq_ofNat_of_zero_le hx2.1
      have hc2 := bounds_u32 hwc
      obtain ⟨c, rfl⟩ := Int.eq_ofNat_of_zero_le hc2.1
      have hub : u < 4294967296 := by omega
      have hm2 : Mod (fun i => i = r) wr w2 := (Mod.of_grown hg2).mono (fun i _ e => by injection e with e; exact e.symm)
      have hM2 : Mod (fun i => i = bm) w w2 := ⟨hm2.os.trans hM.os, hm2.tape.trans hM.tape, hm2.output.trans hM.output, Nat.le_trans hM.size hm2.size, fun i hi hn => (hm2.block i (Nat.lt_of_lt_of_le hi hM.size) (fun e => by have := HR.out; omega)).trans (hM.block i hi hn)⟩
      have hY2 := hY.mod hm2 (by omega)
      have hK := HK u c w2 hY2
      have HL2 := Lib.hid hlt2
      have HUB := Lib.hid hub
      clear hwx hwc hlx hat hg2 hs2 hlt2 hm2 hM hx2 hc2 hrg2 HK hub
      by_cases ht : u ≤ st.tk
      · rw [decide_eq_true ht] at hK
        have hU3 := Lib.hid (outU_struck hU2.out HUB.out ht)
        clear hU2
        go_wp2_with fail
        refine hK.mono ?_
        rintro e w3 ⟨rfl, rfl⟩
        go_wp2_with (at_delete; go_loud (refine wpList_delete_ranges _ rfl _ _ 81 22 rfl 22 u_law mapTU (plainElem Tryd.prog 22) bm r n _ _ _ rfl hrg3 _ _ rfl (ukey_of HUB.out) ?_); intro w4 cnt4 hrg4 hle hturn; go_frame)
        have hm4 : Mod (fun i => i = bm) w3 w4 := (Mod.of_grown hturn.grown).mono (fun i _ e => by injection e with e; exact e.symm)
        rw [show (fun z : Lit => (left z && !z.sameKey (.int .u32 (u : Int))) && !z.sameKey (ukey u)) = fun z => left z && !z.sameKey (ukey u) from Maps.strike_twice left (ukey u)] at hrg4
        go_roundw
        case rel => exact ⟨_, cnt4, _, hrg4, hU3, hY2.mod hm4 hne, hM2.trans hm4 (fun _ _ e => e) (fun _ _ e => e)⟩
        case measure => rw [hrg4.left_eq, HLQ.out]; have := HL2.out; omega
      · rw [decide_eq_false ht] at hK
        have hU3 := Lib.hid (outU_stays hU2.out ht)
        clear hU2
        go_wp2_with fail
        refine hK.mono ?_
        rintro e w3 ⟨rfl, rfl⟩
        go_wp2_with fail
        go_roundw
        case rel => exact ⟨_, cnt2, D2, hrg3, hU3, hY2, hM2⟩
        case measure => rw [hrg3.left_eq, HLQ.out]; exact HL2.out
end Go.Proofs.YtnbbglhpjpebhaaDoor
