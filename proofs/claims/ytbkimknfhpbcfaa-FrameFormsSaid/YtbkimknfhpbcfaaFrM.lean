/- A message of an input: its Bytes, and Read of them. Conditions: the numbers fit. -/
import Derived.Test.YtbkimknfhpbcfaaFrD
namespace Go.Proofs.Ytbkimknfhpbcfaa
open Go.RowKit

/-- Block g is a message in a variable. -/
def BoxM (w : World) (g : Nat) (cs : Array Value) : Prop := w.heap[g]? = some (.cells cs 56 (0, 0))
namespace BoxM
variable {w w' : World} {g : Nat} {cs : Array Value}
theorem new_ (w : World) (cs : Array Value) : BoxM (w.alloc (.cells cs 56)) w.heap.size cs := heap_alloc_new w _
theorem lt (h : BoxM w g cs) : g < w.heap.size := (Array.getElem?_eq_some_iff.1 h).1
theorem fz (h : BoxM w g cs) (j : Nat) : w.frozen? ⟨g, j, none⟩ = false := frozen_of_row w g j _ _ h
theorem mod {S : Nat → Prop} (h : BoxM w g cs) (hm : Mod S w w') (hs : ¬ S g) : BoxM w' g cs := (hm.block g h.lt hs).trans h
theorem ext (h : BoxM w g cs) (hm : Below w.heap.size w w') : BoxM w' g cs := (hm.block g h.lt).trans h
theorem all {c0 c1 c2 c3 c4 c5 c6 : Value} (h : BoxM w g #[c0, c1, c2, c3, c4, c5, c6]) : w.cell? ⟨g, 0, none⟩ = some c0 ∧ w.cell? ⟨g, 1, none⟩ = some c1 ∧ w.cell? ⟨g, 2, none⟩ = some c2 ∧ w.cell? ⟨g, 3, none⟩ = some c3 ∧ w.cell? ⟨g, 4, none⟩ = some c4 ∧ w.cell? ⟨g, 5, none⟩ = some c5 ∧ w.cell? ⟨g, 6, none⟩ = some c6 := by
  refine ⟨?_, ?_, ?_, ?_, ?_, ?_, ?_⟩ <;> (rw [cell_of_row w g _ _ _ _ h]; rfl)
end BoxM
abbrev put7 (w : World) (g : Nat) (a0 a1 a2 a3 a4 a5 a6 : Value) : World := ((((((w.setCell ⟨g, 0, none⟩ a0).setCell ⟨g, 1, none⟩ a1).setCell ⟨g, 2, none⟩ a2).setCell ⟨g, 3, none⟩ a3).setCell ⟨g, 4, none⟩ a4).setCell ⟨g, 5, none⟩ a5).setCell ⟨g, 6, none⟩ a6
theorem put7_heap {w : World} {g : Nat} {t : TypeId} {b0 b1 b2 b3 b4 b5 b6 : Value} (a0 a1 a2 a3 a4 a5 a6 : Value) (h : w.heap[g]? = some (.cells #[b0, b1, b2, b3, b4, b5, b6] t (0, 0))) : (put7 w g a0 a1 a2 a3 a4 a5 a6).heap[g]? = some (.cells #[a0, a1, a2, a3, a4, a5, a6] t (0, 0)) := by
  have st : ∀ (y : World) (j : Nat) (v : Value) (cs ds : Array Value), y.heap[g]? = some (.cells cs t (0, 0)) → cs.setIfInBounds j v = ds → (y.setCell ⟨g, j, none⟩ v).heap[g]? = some (.cells ds t (0, 0)) := fun y j v cs ds h e => e ▸ heap_setCell_same y g j cs t v h
  have h0 := st _ 0 a0 _ #[a0, b1, b2, b3, b4, b5, b6] h rfl
  have h1 := st _ 1 a1 _ #[a0, a1, b2, b3, b4, b5, b6] h0 rfl
  have h2 := st _ 2 a2 _ #[a0, a1, a2, b3, b4, b5, b6] h1 rfl
  have h3 := st _ 3 a3 _ #[a0, a1, a2, a3, b4, b5, b6] h2 rfl
  have h4 := st _ 4 a4 _ #[a0, a1, a2, a3, a4, b5, b6] h3 rfl
  have h5 := st _ 5 a5 _ #[a0, a1, a2, a3, a4, a5, b6] h4 rfl
  have h6 := st _ 6 a6 _ #[a0, a1, a2, a3, a4, a5, a6] h5 rfl
  exact h6
theorem put7_mod (w : World) (g : Nat) (a0 a1 a2 a3 a4 a5 a6 : Value) : Mod (fun i => i = g) w (put7 w g a0 a1 a2 a3 a4 a5 a6) := by
  have st : ∀ (x y : World) (j : Nat) (v : Value), Mod (fun i => i = g) x y → Mod (fun i => i = g) x (y.setCell ⟨g, j, none⟩ v) := fun x y j v h => h.trans (Mod.setCell y ⟨g, j, none⟩ v) (fun _ _ e => e) (fun _ _ e => e)
  have h0 := st w _ 0 a0 (Mod.refl _ w)
  have h1 := st w _ 1 a1 h0
  have h2 := st w _ 2 a2 h1
  have h3 := st w _ 3 a3 h2
  have h4 := st w _ 4 a4 h3
  have h5 := st w _ 5 a5 h4
  have h6 := st w _ 6 a6 h5
  exact h6

/-- What a message's writer keeps: the message's variable (block w0.heap.size), the pen. -/
structure FM (w0 : World) (P : Nat) (cs : Array Value) (w : World) (r : Option Nat) (l : List UInt8) : Prop where
  box : BoxM w w0.heap.size cs
  pen : PenAt w P r l
  far : ∀ j, r = some j → w0.heap.size < j
  pgt : w0.heap.size < P
  below : Below w0.heap.size w0 w
namespace FM
variable {w0 w w' : World} {P : Nat} {cs : Array Value} {r r' : Option Nat} {l l' : List UInt8}
theorem step (q : FM w0 P cs w r l) (hp : PenAt w' P r' l') (hst : PenStep P r r' w w') : FM w0 P cs w' r' l' := by
  have hg := q.pgt
  refine ⟨q.box.mod hst.2 ?_, hp, ?_, hg, q.below.trans (hst.2.below q.below.size ?_)⟩
  · rintro (e | e)
    · omega
    · have := q.far _ e; omega
  · intro j hj
    rcases hst.1 with h | ⟨k, h, hk⟩
    · exact q.far j (h ▸ hj)
    · have e := h.symm.trans hj
      injection e with e
      have := q.box.lt
      omega
  · intro i hi e
    rcases e with e | e
    · omega
    · have := q.far _ e; omega
theorem drew (q : FM w0 P cs w r l) : FM w0 P cs w.drew r l := ⟨q.box, q.pen, q.far, q.pgt, below_drew q.below⟩
theorem ext (q : FM w0 P cs w r l) (h : Below w.heap.size w w') : FM w0 P cs w' r l :=
  ⟨q.box.ext h, q.pen.ext h, q.far, q.pgt, q.below.trans (h.mono q.below.size)⟩
end FM
theorem DSame_zero (w : World) : Calls Try.prog 59 #[.agg #[.int .u32 0, .int .u32 0, .slice none 0 0, .slice none 0 0], .agg #[.int .u32 0, .int .u32 0, .slice none 0 0, .slice none 0 0]] w fun e w' => e = .returned (.bool true) ∧ Below w.heap.size w w' := DSame_nil 0 0 w
/-- An input's bytes. -/
def inB (t m : Nat) : List UInt8 := low 2 1 ++ low t 4 ++ low m 4
theorem inB_length (t m : Nat) : (inB t m).length = 9 := by simp [inB]

set_option maxHeartbeats 4000000 in
set_option maxRecDepth 20000 in
theorem MBytes_in (t m : Nat) (w : World) (ht : t < 4294967296) (hm : m < 4294967296) : Calls Try.prog 25 #[.agg (mI 2 t m 0 0)] w fun e w' => ∃ v, e = .returned v ∧ Row w' w.heap.size v (inB t m) ∧ Below w.heap.size w w' := by
  have q := BoxM.new_ w (mI 2 t m 0 0)
  have hb := below_alloc1 w (.cells (mI 2 t m 0 0) 56)
  have hD := fun W => DSame_zero W
  have h2 := below_alloc1 (w.alloc (.cells (mI 2 t m 0 0) 56)) (.cells #[.slice none 0 0] 91)
  have hp : PenAt ((w.alloc (.cells (mI 2 t m 0 0) 56)).alloc (.cells #[.slice none 0 0] 91)) (w.alloc (.cells (mI 2 t m 0 0) 56)).heap.size none [] := ⟨.slice none 0 0, heap_alloc_new _ _, Row.nil_ _ _, rfl⟩
  have Q : FM w (w.alloc (.cells (mI 2 t m 0 0) 56)).heap.size (mI 2 t m 0 0) ((w.alloc (.cells (mI 2 t m 0 0) 56)).alloc (.cells #[.slice none 0 0] 91)) none [] := ⟨q.ext h2, hp, fun j hj => by (cases hj), q.lt, hb.trans (h2.mono hb.size)⟩
  rw [World.size_alloc] at Q
  have hC := PenByte_calls _ none [] 2 _ Q.pen (by omega) (by simp)
  rw [show ((2 : Nat) : Int) = 2 from rfl] at hC
  clear q hb h2 hp
  go_enter Try.func25, Try.ntmps25
  go_wp2_with fail
  refine hC.mono ?_
  rintro e w1 ⟨rfl, r1, hp, hst⟩
  replace Q := Q.step hp hst
  clear hp hst hC
  obtain ⟨k0, k1, k2, k3, k4, k5, k6⟩ := Q.box.all
  go_wp2_with fail
  refine (hD _).mono ?_
  rintro e w2 ⟨rfl, h1⟩
  replace Q := (Q.ext h1).drew
  clear k0 k1 k2 k3 k4 k5 k6 h1 hD
  go_wp2_with fail
  refine wp_region_held_drew (S := fun w0 => BoxM w0 w.heap.size (mI 2 t m 0 0)) (by kernel_rfl) ?_ (fun hHeld => ?_)
  · exact Q.box
  refine wpAnyH_take (i := 0) (v := ?av0) (by simp only [List.getElem?_toArray, List.getElem?_cons_zero]; rfl) (by kernel_rfl) (by kernel_rfl) (by kernel_rfl) (by exact fun _ _ _ h => h) (Or.inl ⟨by kernel_rfl, ?ay0⟩) hHeld ?_
  case ay0 => (intro w hSw; (try dsimp only at hSw); obtain ⟨k0, k1, k2, k3, k4, k5, k6⟩ := hSw.all; clear hSw; go_simp; try (with_reducible rfl))
  try simp only [Act.put, List.setIfInBounds_toArray, List.set_cons_zero, List.set_cons_succ]
  refine wpAnyH_take (i := 1) (v := ?av1) (by simp only [List.getElem?_toArray, List.getElem?_cons_succ, List.getElem?_cons_zero]; rfl) (by kernel_rfl) (by kernel_rfl) (by kernel_rfl) (by exact fun _ _ _ h => h) (Or.inl ⟨by kernel_rfl, ?ay1⟩) hHeld ?_
  case ay1 => (intro w hSw; (try dsimp only at hSw); obtain ⟨k0, k1, k2, k3, k4, k5, k6⟩ := hSw.all; clear hSw; go_simp; try (with_reducible rfl))
  try simp only [Act.put, List.setIfInBounds_toArray, List.set_cons_zero, List.set_cons_succ]
  refine wpAnyH_take (i := 3) (v := ?av3) (by simp only [List.getElem?_toArray, List.getElem?_cons_succ, List.getElem?_cons_zero]; rfl) (by kernel_rfl) (by kernel_rfl) (by kernel_rfl) (by exact fun _ _ _ h => h) (Or.inl ⟨by kernel_rfl, ?ay3⟩) hHeld ?_
  case ay3 => (intro w hSw; (try dsimp only at hSw); obtain ⟨k0, k1, k2, k3, k4, k5, k6⟩ := hSw.all; clear hSw; go_simp; try (with_reducible rfl))
  try simp only [Act.put, List.setIfInBounds_toArray, List.set_cons_zero, List.set_cons_succ]
  refine wpAnyH_take (i := 4) (v := ?av4) (by simp only [List.getElem?_toArray, List.getElem?_cons_succ, List.getElem?_cons_zero]; rfl) (by kernel_rfl) (by kernel_rfl) (by kernel_rfl) (by exact fun _ _ _ h => h) (Or.inl ⟨by kernel_rfl, ?ay4⟩) hHeld ?_
  case ay4 => (intro w hSw; (try dsimp only at hSw); obtain ⟨k0, k1, k2, k3, k4, k5, k6⟩ := hSw.all; clear hSw; go_simp; try (with_reducible rfl))
  try simp only [Act.put, List.setIfInBounds_toArray, List.set_cons_zero, List.set_cons_succ]
  refine wpAnyH_ready (rs := [2]) (by kernel_rfl) (by simp) ?_
  refine AllReadyH.cons (by simp only [List.getElem?_toArray, List.getElem?_cons_succ, List.getElem?_cons_zero]; rfl) (fun KK hKK => ?_) AllReadyH.nil
  go_simp
  (with_reducible refine (PenWord_calls _ r1 _ t _ Q.pen ht (by simp)).mono ?_)
  rintro e w3 ⟨rfl, r2, hp, hst⟩
  replace Q := Q.step hp hst
  clear hp hst
  go_wp2_with fail
  refine hKK.out _ _ ?_ (fun hHeld => ?_)
  · exact Q.box
  clear hKK KK
  try simp only [Act.put, List.setIfInBounds_toArray, List.set_cons_zero, List.set_cons_succ]
  refine wpAnyH_ready (rs := [5]) (by kernel_rfl) (by simp) ?_
  refine AllReadyH.cons (by simp only [List.getElem?_toArray, List.getElem?_cons_succ, List.getElem?_cons_zero]; rfl) (fun KK hKK => ?_) AllReadyH.nil
  go_simp
  (with_reducible refine (PenWord_calls _ r2 _ m _ Q.pen hm (by simp)).mono ?_)
  rintro e w4 ⟨rfl, r3, hp, hst⟩
  replace Q := Q.step hp hst
  clear hp hst
  go_wp2_with fail
  refine hKK.out _ _ ?_ (fun hHeld => ?_)
  · exact Q.box
  clear hKK KK
  try simp only [Act.put, List.setIfInBounds_toArray, List.set_cons_zero, List.set_cons_succ]
  refine wpAnyH_ready (rs := [6]) (by kernel_rfl) (by simp) ?_
  refine AllReadyH.cons (by simp only [List.getElem?_toArray, List.getElem?_cons_succ, List.getElem?_cons_zero]; rfl) (fun KK hKK => ?_) AllReadyH.nil
  go_simp
  (with_reducible refine (PenBytes_calls _ r3 _ _ Q.pen (by simp)).mono ?_)
  rintro e w5 ⟨v, rfl, hrow, h1⟩
  have hbel := Q.below.trans (h1.mono Q.below.size)
  have hsz := Q.below.size
  have hbx := Q.box.ext h1
  clear h1 Q
  go_wp2_with fail
  refine hKK.out _ _ ?_ (fun hHeld => ?_)
  · exact hbx
  clear hKK KK
  try simp only [Act.put, List.setIfInBounds_toArray, List.set_cons_zero, List.set_cons_succ]
  refine wpAnyH_take (i := 7) (v := ?av7) (by simp only [List.getElem?_toArray, List.getElem?_cons_succ, List.getElem?_cons_zero]; rfl) (by kernel_rfl) (by kernel_rfl) (by kernel_rfl) (by exact fun _ _ _ h => h) (Or.inl ⟨by kernel_rfl, ?ay7⟩) hHeld ?_
  case ay7 => (intro w hSw; (try dsimp only at hSw); obtain ⟨k0, k1, k2, k3, k4, k5, k6⟩ := hSw.all; clear hSw; go_simp; try (with_reducible rfl))
  try simp only [Act.put, List.setIfInBounds_toArray, List.set_cons_zero, List.set_cons_succ]
  refine wpAnyH_done (by kernel_rfl) ?_ _
  go_wp2_with fail
  go_ret
  exact ⟨_, rfl, hrow.low hsz, hbel⟩

theorem rdN_low (k n : Nat) (r : List UInt8) (bad : Bool) (hn : n < 256 ^ k) : rdN k (low n k ++ r) bad = (n, r, bad) := by
  unfold rdN
  rw [if_pos (by simp), List.take_left' (by simp), List.drop_left' (by simp), valN_low, Nat.mod_eq_of_lt hn]
theorem rdN_low' (k n : Nat) (bad : Bool) (hn : n < 256 ^ k) : rdN k (low n k) bad = (n, [], bad) := by
  have := rdN_low k n [] bad hn
  rwa [List.append_nil] at this

set_option maxHeartbeats 4000000 in
set_option maxRecDepth 20000 in
theorem Read_in (A : Option Addr) (t m c b : Nat) (w : World) (ht : t < 4294967296) (hm : m < 4294967296) (hs : Bs w b A (inB t m)) : Calls Try.prog 29 #[.slice A 9 c] w fun e w' => e = .returned (.tuple #[.agg (mI 2 t m 0 0), .int .i64 0]) ∧ Below w.heap.size w w' := by
  have q := BoxM.new_ w (mI 0 0 0 0 0)
  have hb := below_alloc1 w (.cells (mI 0 0 0 0 0) 56)
  replace hs := Sl.ext hs hb
  have hR := fun W h => Read_calls A (inB t m) 9 c b W h (inB_length t m) (by omega)
  go_enter Try.func29, Try.ntmps29
  go_wp2_with fail
  refine (hR _ hs).mono ?_
  rintro e w1 ⟨g, be, rfl, hE, hg, hbe, h1⟩
  have hgs := q.lt
  replace q := q.ext h1
  replace hb := hb.trans (h1.mono hb.size)
  have hgw : w.heap.size < g := by omega
  have hbw : w.heap.size < be := by omega
  obtain ⟨_, Ae, ce, _, _, _, k4⟩ := id hE
  have hbl := Bs.lt k4 (by intro h; have := congrArg List.length h; rw [inB_length] at this; simp at this)
  clear h1 hs hg hbe hgs hR k4
  go_wp2_with fail
  refine (EyeByte_f g be _ _ _ hE).mono ?_
  rintro e w2 ⟨n0, l0, x0, rfl, y0, -, hE, h1⟩
  rw [show inB t m = low 2 1 ++ (low t 4 ++ low m 4) by simp [inB], rdN_low 1 2 _ _ (by decide)] at y0
  cases y0
  have hs12 := h1.size
  replace q := q.mod h1 (by omega)
  replace hb := hb.trans (h1.below hb.size (fun i hi e => by omega))
  clear h1
  have hbx : BoxM (w2.alloc (.cells #[.int .u8 2, .int .u32 0, .int .u32 0, .int .u32 0, .int .u32 0, .slice none 0 0, .slice none 0 0] 56)) w2.heap.size #[.int .u8 2, .int .u32 0, .int .u32 0, .int .u32 0, .int .u32 0, .slice none 0 0, .slice none 0 0] := BoxM.new_ _ _
  have ha := below_alloc1 w2 (.cells #[.int .u8 2, .int .u32 0, .int .u32 0, .int .u32 0, .int .u32 0, .slice none 0 0, .slice none 0 0] 56)
  have hgf := hE.lt
  have hgf2 := q.lt
  have hsz2 := hs12
  replace hE := hE.ext ha
  replace q := q.ext ha
  replace hb := hb.trans (ha.mono hb.size)
  clear ha
  go_wp2_with fail
  obtain ⟨w3, hw3⟩ : ∃ w3, w3 = w2.alloc (.cells #[.int .u8 2, .int .u32 0, .int .u32 0, .int .u32 0, .int .u32 0, .slice none 0 0, .slice none 0 0] 56) := ⟨_, rfl⟩
  obtain ⟨gf, hgg⟩ : ∃ gf, gf = w2.heap.size := ⟨_, rfl⟩
  rw [← hw3, ← hgg] at hbx
  rw [← hw3] at hE q hb ⊢
  rw [← hgg] at hgf hgf2 ⊢
  have hbg : be < gf := by rw [hgg]; exact Nat.lt_of_lt_of_le hbl hsz2
  have hne := hE.1
  clear hw3 hgg hbl hsz2
  refine (EyeWord_f g be _ _ _ hE).mono ?_
  rintro e w4 ⟨n1, l1, x1, rfl, y1, -, hE, h1⟩
  rw [rdN_low 4 t _ _ (Nat.lt_of_lt_of_le ht (by decide))] at y1
  cases y1
  replace q := q.mod h1 (by omega)
  replace hb := hb.trans (h1.below hb.size (fun i hi e => by omega))
  replace hbx := hbx.mod h1 (by omega)
  clear h1
  go_wp2_with fail
  refine (EyeWord_f g be _ _ _ hE).mono ?_
  rintro e w5 ⟨n2, l2, x2, rfl, y2, -, hE, h1⟩
  rw [rdN_low' 4 m _ (Nat.lt_of_lt_of_le hm (by decide))] at y2
  cases y2
  replace q := q.mod h1 (by omega)
  replace hb := hb.trans (h1.below hb.size (fun i hi e => by omega))
  replace hbx := hbx.mod h1 (by omega)
  clear h1
  obtain ⟨e0, e1, e2, e3, e4, e5, e6⟩ := hbx.all
  have hfz := hbx.fz
  have DC := fun W (h : EyeAt W g be [] false) => Done_calls g be [] false W h
  rw [show doneErr [] false = 0 from rfl] at DC
  go_wp2_with fail
  clear e0 e1 e2 e3 e4 e5 e6 hfz
  replace hbx : BoxM (w5.setCell ⟨gf, 1, none⟩ (.int .u32 (t : Int))) gf #[.int .u8 2, .int .u32 (t : Int), .int .u32 0, .int .u32 0, .int .u32 0, .slice none 0 0, .slice none 0 0] := heap_setCell_same w5 gf 1 _ _ (.int .u32 (t : Int)) hbx
  replace hE := hE.mod (Mod.setCell w5 ⟨gf, 1, none⟩ (.int .u32 (t : Int))) (fun e => by have e : g = gf := e; omega) (fun e => by have e : be = gf := e; omega)
  replace q := q.mod (Mod.setCell w5 ⟨gf, 1, none⟩ (.int .u32 (t : Int))) (fun e => by have e : w.heap.size = gf := e; omega)
  replace hb := hb.trans ((Mod.setCell w5 ⟨gf, 1, none⟩ (.int .u32 (t : Int))).below hb.size (fun i hi e => by have e : i = gf := e; omega))
  replace hbx : BoxM ((w5.setCell ⟨gf, 1, none⟩ (.int .u32 (t : Int))).setCell ⟨gf, 2, none⟩ (.int .u32 (m : Int))) gf #[.int .u8 2, .int .u32 (t : Int), .int .u32 (m : Int), .int .u32 0, .int .u32 0, .slice none 0 0, .slice none 0 0] := heap_setCell_same (w5.setCell ⟨gf, 1, none⟩ (.int .u32 (t : Int))) gf 2 _ _ (.int .u32 (m : Int)) hbx
  replace hE := hE.mod (Mod.setCell (w5.setCell ⟨gf, 1, none⟩ (.int .u32 (t : Int))) ⟨gf, 2, none⟩ (.int .u32 (m : Int))) (fun e => by have e : g = gf := e; omega) (fun e => by have e : be = gf := e; omega)
  replace q := q.mod (Mod.setCell (w5.setCell ⟨gf, 1, none⟩ (.int .u32 (t : Int))) ⟨gf, 2, none⟩ (.int .u32 (m : Int))) (fun e => by have e : w.heap.size = gf := e; omega)
  replace hb := hb.trans ((Mod.setCell (w5.setCell ⟨gf, 1, none⟩ (.int .u32 (t : Int))) ⟨gf, 2, none⟩ (.int .u32 (m : Int))).below hb.size (fun i hi e => by have e : i = gf := e; omega))
  obtain ⟨w6, hw6⟩ : ∃ w6, w6 = ((w5.setCell ⟨gf, 1, none⟩ (.int .u32 (t : Int))).setCell ⟨gf, 2, none⟩ (.int .u32 (m : Int))) := ⟨_, rfl⟩
  rw [← hw6] at hbx hE q hb ⊢
  clear hw6
  refine (DC _ hE).mono ?_
  rintro e w7 ⟨rfl, rfl⟩
  obtain ⟨a0, a1, a2, a3, a4, a5, a6⟩ := q.all
  have hq := q.fz
  obtain ⟨e0, e1, e2, e3, e4, e5, e6⟩ := hbx.all
  go_wp2_with fail
  have hp7 := put7_heap (w := w6) (.int .u8 2) (.int .u32 (t : Int)) (.int .u32 (m : Int)) (.int .u32 0) (.int .u32 0) (.slice none 0 0) (.slice none 0 0) q
  have hm7 := put7_mod w6 w.heap.size (.int .u8 2) (.int .u32 (t : Int)) (.int .u32 (m : Int)) (.int .u32 0) (.int .u32 0) (.slice none 0 0) (.slice none 0 0)
  refine bodyPost_ret (results_ct (P := Try.prog) rfl _ _ w.heap.size _ _ (0, 0) _ rfl hp7 Try.underlying56 rfl (by kernel_rfl)) rfl ?_
  exact ⟨rfl, hb.trans (hm7.below hb.size (fun i hi e => by omega))⟩
end Go.Proofs.Ytbkimknfhpbcfaa
