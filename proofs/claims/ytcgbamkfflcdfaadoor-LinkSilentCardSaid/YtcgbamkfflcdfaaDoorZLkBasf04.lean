/- Parts of one proof, in their order. -/
import Derived.Test.YtcgbamkfflcdfaaDoorZLkBasf03
import Derived.Deep.RegionHeld3
import Derived.BigGuardPart
import Derived.Shelf.Spec.TrailingZeros
/- A frame, plainly, and how it lies in a variable. No condition: plain lemmas. -/
namespace Go.Proofs.YtcgbamkfflcdfaaDoor
open Go.RowKit

/-- A frame, plainly. -/
structure Fr where
  epoch : Nat
  seq : Nat
  next : Nat
  bits : Nat
  first : Bool
  last : Bool
  alone : Bool
  data : List UInt8
structure Fr.Ok (f : Fr) : Prop where
  e : f.epoch < 65536
  s : f.seq < 65536
  n : f.next < 65536
  b : f.bits < 4294967296
def Fr.right (f : Fr) : Bool := if f.alone then decide (f.seq = 0) && decide (f.data.length = 0) && !f.first && !f.last else decide (f.data.length ≤ 64)
def Fr.marks (f : Fr) : Nat := (if f.first then 1 else 0) + (if f.last then 2 else 0) + (if f.alone then 4 else 0)
theorem Fr.marks_lt (f : Fr) : f.marks < 8 := by
  unfold Fr.marks
  split <;> split <;> split <;> omega
def Fr.raw (f : Fr) : List UInt8 := low 86 1 ++ low f.epoch 2 ++ low f.seq 2 ++ low f.next 2 ++ low f.bits 4 ++ low f.marks 1 ++ (num f.data.length ++ f.data)
def Fr.bytes (f : Fr) : List UInt8 := if f.right then sealedL f.raw else []
abbrev Fr.cells (f : Fr) (A : Option Addr) (c : Nat) : Array Value := #[.int .u16 (f.epoch : Int), .int .u16 (f.seq : Int), .int .u16 (f.next : Int), .int .u32 (f.bits : Int), .bool f.first, .bool f.last, .bool f.alone, .slice A f.data.length c]

/-- Block g is a frame in a variable. -/
def BoxF (w : World) (g : Nat) (f : Fr) (A : Option Addr) (c : Nat) : Prop := w.heap[g]? = some (.cells (f.cells A c) 47 (0, 0))
namespace BoxF
variable {w w' : World} {g : Nat} {f : Fr} {A : Option Addr} {c : Nat}
theorem new_ (w : World) (f : Fr) (A : Option Addr) (c : Nat) : BoxF (w.alloc (.cells (f.cells A c) 47)) w.heap.size f A c := heap_alloc_new w _
theorem lt (h : BoxF w g f A c) : g < w.heap.size := (Array.getElem?_eq_some_iff.1 h).1
theorem c0 (h : BoxF w g f A c) : w.cell? ⟨g, 0, none⟩ = some (.int .u16 (f.epoch : Int)) := by rw [cell_of_row w g 0 _ _ _ h]; rfl
theorem c1 (h : BoxF w g f A c) : w.cell? ⟨g, 1, none⟩ = some (.int .u16 (f.seq : Int)) := by rw [cell_of_row w g 1 _ _ _ h]; rfl
theorem c2 (h : BoxF w g f A c) : w.cell? ⟨g, 2, none⟩ = some (.int .u16 (f.next : Int)) := by rw [cell_of_row w g 2 _ _ _ h]; rfl
theorem c3 (h : BoxF w g f A c) : w.cell? ⟨g, 3, none⟩ = some (.int .u32 (f.bits : Int)) := by rw [cell_of_row w g 3 _ _ _ h]; rfl
theorem c4 (h : BoxF w g f A c) : w.cell? ⟨g, 4, none⟩ = some (.bool f.first) := by rw [cell_of_row w g 4 _ _ _ h]; rfl
theorem c5 (h : BoxF w g f A c) : w.cell? ⟨g, 5, none⟩ = some (.bool f.last) := by rw [cell_of_row w g 5 _ _ _ h]; rfl
theorem c6 (h : BoxF w g f A c) : w.cell? ⟨g, 6, none⟩ = some (.bool f.alone) := by rw [cell_of_row w g 6 _ _ _ h]; rfl
theorem c7 (h : BoxF w g f A c) : w.cell? ⟨g, 7, none⟩ = some (.slice A f.data.length c) := by rw [cell_of_row w g 7 _ _ _ h]; rfl
theorem all (h : BoxF w g f A c) : w.cell? ⟨g, 0, none⟩ = some (.int .u16 (f.epoch : Int)) ∧ w.cell? ⟨g, 1, none⟩ = some (.int .u16 (f.seq : Int)) ∧ w.cell? ⟨g, 2, none⟩ = some (.int .u16 (f.next : Int)) ∧ w.cell? ⟨g, 3, none⟩ = some (.int .u32 (f.bits : Int)) ∧ w.cell? ⟨g, 4, none⟩ = some (.bool f.first) ∧ w.cell? ⟨g, 5, none⟩ = some (.bool f.last) ∧ w.cell? ⟨g, 6, none⟩ = some (.bool f.alone) ∧ w.cell? ⟨g, 7, none⟩ = some (.slice A f.data.length c) :=
  ⟨h.c0, h.c1, h.c2, h.c3, h.c4, h.c5, h.c6, h.c7⟩
theorem fz (h : BoxF w g f A c) (j : Nat) : w.frozen? ⟨g, j, none⟩ = false := frozen_of_row w g j _ _ h
theorem mod {S : Nat → Prop} (h : BoxF w g f A c) (hm : Mod S w w') (hs : ¬ S g) : BoxF w' g f A c := (hm.block g h.lt hs).trans h
theorem ext (h : BoxF w g f A c) (hm : Below w.heap.size w w') : BoxF w' g f A c := (hm.block g h.lt).trans h
end BoxF
theorem frame_under : ∃ d, Tryd.prog.underlying 47 = some d ∧ (match d with | .struct _ | .array _ _ => true | _ => false) = true ∧ (Tryd.prog.info? 47).map (·.size) = some 8 := ⟨_, Tryd.underlying47, rfl, by kernel_rfl⟩

set_option maxHeartbeats 2000000 in
set_option maxRecDepth 20000 in
theorem Right_calls (f : Fr) (A : Option Addr) (c : Nat) (w : World) :
    Calls Tryd.prog 41 #[.agg (f.cells A c)] w fun e w' => e = .returned (.bool f.right) ∧ Below w.heap.size w w' := by
  obtain ⟨ep, s, nx, bi, fi, la, al, d⟩ := f
  obtain ⟨m, hm⟩ : ∃ m, m = d.length := ⟨_, rfl⟩
  obtain ⟨z1, h1⟩ : ∃ z, z = ((s : Int) == 0) := ⟨_, rfl⟩
  obtain ⟨z2, h2⟩ : ∃ z, z = ((m : Int) == 0) := ⟨_, rfl⟩
  obtain ⟨z3, h3⟩ : ∃ z, z = decide ((m : Int) ≤ 64) := ⟨_, rfl⟩
  have hR : Fr.right ⟨ep, s, nx, bi, fi, la, al, d⟩ = if al then z1 && z2 && !fi && !la else z3 := by
    have e1 : decide (s = 0) = z1 := by rw [h1, Bool.eq_iff_iff]; simp
    have e2 : decide (d.length = 0) = z2 := by rw [h2, hm, Bool.eq_iff_iff]; simp
    have e3 : decide (d.length ≤ 64) = z3 := by rw [h3, hm, Bool.eq_iff_iff]; simp; omega
    simp only [Fr.right]
    rw [e1, e2, e3]
  rw [hR]
  simp only [Fr.cells]
  rw [← hm]
  have e1 := h1.symm
  have e2 := h2.symm
  have e3 := h3.symm
  have hb := below_alloc1 w (.cells #[.int .u16 (ep : Int), .int .u16 (s : Int), .int .u16 (nx : Int), .int .u32 (bi : Int), .bool fi, .bool la, .bool al, .slice A m c] 47)
  clear h1 h2 h3 hR hm
  cases al
  · clear e1 e2
    go_enter Tryd.func41, Tryd.ntmps41
    go_wp2_with fail
    go_ret
    exact ⟨rfl, hb⟩
  · clear e3
    cases z1 <;> cases z2 <;> cases fi <;> cases la <;>
      (go_enter Tryd.func41, Tryd.ntmps41
       go_wp2_with fail
       go_ret
       exact ⟨rfl, hb⟩)

set_option maxHeartbeats 2000000 in
set_option maxRecDepth 20000 in
theorem Marks_calls (f : Fr) (A : Option Addr) (c : Nat) (w : World) :
    Calls Tryd.prog 45 #[.agg (f.cells A c)] w fun e w' => e = .returned (.int .u8 (f.marks : Int)) ∧ Below w.heap.size w w' := by
  obtain ⟨ep, s, nx, bi, fi, la, al, d⟩ := f
  simp only [Fr.cells, Fr.marks]
  obtain ⟨m, hm⟩ : ∃ m, m = d.length := ⟨_, rfl⟩
  rw [← hm]
  have hb := below_alloc1 w (.cells #[.int .u16 (ep : Int), .int .u16 (s : Int), .int .u16 (nx : Int), .int .u32 (bi : Int), .bool fi, .bool la, .bool al, .slice A m c] 47)
  clear hm
  cases fi <;> cases la <;> cases al <;>
    (go_enter Tryd.func45, Tryd.ntmps45
     go_wp2_with fail
     go_ret
     exact ⟨rfl, hb⟩)
end Go.Proofs.YtcgbamkfflcdfaaDoor
/- A frame's Bytes: sealed, or nothing of one that may not be. Conditions: the numbers fit. -/
namespace Go.Proofs.YtcgbamkfflcdfaaDoor
open Go.RowKit

/-- What a frame's writer keeps: the frame's variable (block w0.heap.size), its data, the pen. -/
structure FB (w0 : World) (P : Nat) (f : Fr) (A : Option Addr) (c b : Nat) (w : World) (r : Option Nat) (l : List UInt8) : Prop where
  box : BoxF w w0.heap.size f A c
  data : Bs w b A f.data
  dlt : f.data ≠ [] → b < w0.heap.size
  pen : PenAt w P r l
  far : ∀ j, r = some j → w0.heap.size < j
  pgt : w0.heap.size < P
  below : Below w0.heap.size w0 w
namespace FB
variable {w0 w w' : World} {P c b : Nat} {f : Fr} {A : Option Addr} {r r' : Option Nat} {l l' : List UInt8}
theorem step (q : FB w0 P f A c b w r l) (hp : PenAt w' P r' l') (hst : PenStep P r r' w w') : FB w0 P f A c b w' r' l' := by
  have hg := q.pgt
  refine ⟨q.box.mod hst.2 ?_, Bs.modne q.data hst.2 ?_, q.dlt, hp, ?_, hg, q.below.trans (hst.2.below q.below.size ?_)⟩
  · rintro (e | e)
    · omega
    · have := q.far _ e; omega
  · intro hne e
    have h1 := q.dlt hne
    rcases e with e | e
    · omega
    · have := q.far _ e; omega
  · intro j hj
    rcases hst.1 with h | ⟨k, h, hk⟩
    · exact q.far j (h ▸ hj)
    · have e := h.symm.trans hj
      injection e with e
      have := q.box.lt
      omega
  · intro i hi e
    rcases e with e | e
    · omega
    · have := q.far _ e; omega
theorem drew (q : FB w0 P f A c b w r l) : FB w0 P f A c b w.drew r l := ⟨q.box, q.data, q.dlt, q.pen, q.far, q.pgt, below_drew q.below⟩
theorem ext (q : FB w0 P f A c b w r l) (h : Below w.heap.size w w') : FB w0 P f A c b w' r l :=
  ⟨q.box.ext h, Sl.ext q.data h, q.dlt, q.pen.ext h, q.far, q.pgt, q.below.trans (h.mono q.below.size)⟩
end FB

set_option maxHeartbeats 2000000 in
set_option maxRecDepth 20000 in
theorem FBytes_no (f : Fr) (A : Option Addr) (c : Nat) (w : World) (hr : f.right = false) :
    Calls Tryd.prog 23 #[.agg (f.cells A c)] w fun e w' => e = .returned (.slice none 0 0) ∧ Below w.heap.size w w' := by
  have q := BoxF.new_ w f A c
  have hb := below_alloc1 w (.cells (f.cells A c) 47)
  have hR := fun W => Right_calls f A c W
  rw [hr] at hR
  obtain ⟨k0, k1, k2, k3, k4, k5, k6, k7⟩ := q.all
  go_enter Tryd.func23, Tryd.ntmps23
  go_wp2_with fail
  refine (hR _).mono ?_
  rintro e w1 ⟨rfl, h1⟩
  go_wp2_with fail
  go_ret
  exact ⟨rfl, hb.trans (h1.mono hb.size)⟩

set_option maxHeartbeats 8000000 in
set_option maxRecDepth 20000 in
theorem FBytes_yes (f : Fr) (A : Option Addr) (c b : Nat) (w : World) (ho : f.Ok) (hs : Bs w b A f.data) (hd : f.data.length ≤ 1000000) (hr : f.right = true) :
    Calls Tryd.prog 23 #[.agg (f.cells A c)] w fun e w' => ∃ v, e = .returned v ∧ Row w' w.heap.size v (sealedL f.raw) ∧ Below w.heap.size w w' := by
  have q := BoxF.new_ w f A c
  have hb := below_alloc1 w (.cells (f.cells A c) 47)
  have hlt : f.data ≠ [] → b < w.heap.size := fun h => Bs.lt hs h
  replace hs := Sl.ext hs hb
  have hR := fun W => Right_calls f A c W
  have hM := fun W => Marks_calls f A c W
  have hmk := f.marks_lt
  rw [hr] at hR
  obtain ⟨k0, k1, k2, k3, k4, k5, k6, k7⟩ := q.all
  go_enter Tryd.func23, Tryd.ntmps23
  go_wp2_with fail
  refine (hR _).mono ?_
  rintro e w1 ⟨rfl, h1⟩
  replace q := q.ext h1
  replace hs := Sl.ext hs h1
  replace hb := hb.trans (h1.mono hb.size)
  clear k0 k1 k2 k3 k4 k5 k6 k7 h1 hR hr
  have h2 := below_alloc1 w1 (.cells #[.slice none 0 0] 106)
  have hp : PenAt (w1.alloc (.cells #[.slice none 0 0] 106)) w1.heap.size none [] := ⟨.slice none 0 0, heap_alloc_new w1 _, Row.nil_ _ _, rfl⟩
  have Q : FB w w1.heap.size f A c b (w1.alloc (.cells #[.slice none 0 0] 106)) none [] := ⟨q.ext h2, Sl.ext hs h2, hlt, hp, fun j hj => by (cases hj), q.lt, hb.trans (h2.mono hb.size)⟩
  clear q hs hlt hp hb h2
  go_wp2_with fail
  obtain ⟨P, hP⟩ : ∃ P, P = w1.heap.size := ⟨_, rfl⟩
  obtain ⟨w2, hw2⟩ : ∃ w2, w2 = w1.alloc (.cells #[.slice none 0 0] 106) := ⟨_, rfl⟩
  rw [← hw2, ← hP] at Q
  rw [← hw2, ← hP]
  clear hw2 hP
  replace Q := Q.drew
  refine wp_region_held_drew (S := fun w0 => BoxF w0 w.heap.size f A c) (by kernel_rfl) ?_ (fun hHeld => ?_)
  · exact Q.box
  refine wpAnyH_take (i := 1) (v := ?av1) (by simp only [List.getElem?_toArray, List.getElem?_cons_succ, List.getElem?_cons_zero]; rfl) (by kernel_rfl) (by kernel_rfl) (by kernel_rfl) (by exact fun _ _ _ h => h) (Or.inl ⟨by kernel_rfl, ?ay1⟩) hHeld ?_
  case ay1 => (intro w hSw; (try dsimp only at hSw); obtain ⟨k0, k1, k2, k3, k4, k5, k6, k7⟩ := hSw.all; clear hSw; go_simp; try (with_reducible rfl))
  try simp only [Act.put, List.setIfInBounds_toArray, List.set_cons_zero, List.set_cons_succ]
  refine wpAnyH_take (i := 2) (v := ?av2) (by simp only [List.getElem?_toArray, List.getElem?_cons_succ, List.getElem?_cons_zero]; rfl) (by kernel_rfl) (by kernel_rfl) (by kernel_rfl) (by exact fun _ _ _ h => h) (Or.inl ⟨by kernel_rfl, ?ay2⟩) hHeld ?_
  case ay2 => (intro w hSw; (try dsimp only at hSw); obtain ⟨k0, k1, k2, k3, k4, k5, k6, k7⟩ := hSw.all; clear hSw; go_simp; try (with_reducible rfl))
  try simp only [Act.put, List.setIfInBounds_toArray, List.set_cons_zero, List.set_cons_succ]
  refine wpAnyH_take (i := 4) (v := ?av4) (by simp only [List.getElem?_toArray, List.getElem?_cons_succ, List.getElem?_cons_zero]; rfl) (by kernel_rfl) (by kernel_rfl) (by kernel_rfl) (by exact fun _ _ _ h => h) (Or.inl ⟨by kernel_rfl, ?ay4⟩) hHeld ?_
  case ay4 => (intro w hSw; (try dsimp only at hSw); obtain ⟨k0, k1, k2, k3, k4, k5, k6, k7⟩ := hSw.all; clear hSw; go_simp; try (with_reducible rfl))
  try simp only [Act.put, List.setIfInBounds_toArray, List.set_cons_zero, List.set_cons_succ]
  refine wpAnyH_take (i := 5) (v := ?av5) (by simp only [List.getElem?_toArray, List.getElem?_cons_succ, List.getElem?_cons_zero]; rfl) (by kernel_rfl) (by kernel_rfl) (by kernel_rfl) (by exact fun _ _ _ h => h) (Or.inl ⟨by kernel_rfl, ?ay5⟩) hHeld ?_
  case ay5 => (intro w hSw; (try dsimp only at hSw); obtain ⟨k0, k1, k2, k3, k4, k5, k6, k7⟩ := hSw.all; clear hSw; go_simp; try (with_reducible rfl))
  try simp only [Act.put, List.setIfInBounds_toArray, List.set_cons_zero, List.set_cons_succ]
  refine wpAnyH_ready (rs := [0]) (by kernel_rfl) (by simp) ?_
  refine AllReadyH.cons (by simp only [List.getElem?_toArray, List.getElem?_cons_zero]; rfl) (fun KK hKK => ?_) AllReadyH.nil
  go_simp
  have hC := PenByte_calls _ none _ 86 _ Q.pen (by omega) (by simp)
  rw [show ((86 : Nat) : Int) = 86 from rfl] at hC
  (with_reducible refine hC.mono ?_)
  rintro e w4 ⟨rfl, r3, hp, hst⟩
  replace Q := Q.step hp hst
  clear hp hst hC
  go_wp2_with fail
  refine hKK.out _ _ ?_ (fun hHeld => ?_)
  · exact Q.box
  clear hKK KK
  try simp only [Act.put, List.setIfInBounds_toArray, List.set_cons_zero, List.set_cons_succ]
  refine wpAnyH_ready (rs := [3]) (by kernel_rfl) (by simp) ?_
  refine AllReadyH.cons (by simp only [List.getElem?_toArray, List.getElem?_cons_succ, List.getElem?_cons_zero]; rfl) (fun KK hKK => ?_) AllReadyH.nil
  go_simp
  have hC := PenHalf_calls _ r3 _ f.epoch _ Q.pen ho.e (by simp)
  (with_reducible refine hC.mono ?_)
  rintro e w5 ⟨rfl, r4, hp, hst⟩
  replace Q := Q.step hp hst
  clear hp hst hC
  go_wp2_with fail
  refine hKK.out _ _ ?_ (fun hHeld => ?_)
  · exact Q.box
  clear hKK KK
  try simp only [Act.put, List.setIfInBounds_toArray, List.set_cons_zero, List.set_cons_succ]
  refine wpAnyH_ready (rs := [6]) (by kernel_rfl) (by simp) ?_
  refine AllReadyH.cons (by simp only [List.getElem?_toArray, List.getElem?_cons_succ, List.getElem?_cons_zero]; rfl) (fun KK hKK => ?_) AllReadyH.nil
  go_simp
  have hC := PenHalf_calls _ r4 _ f.seq _ Q.pen ho.s (by simp)
  (with_reducible refine hC.mono ?_)
  rintro e w6 ⟨rfl, r5, hp, hst⟩
  replace Q := Q.step hp hst
  clear hp hst hC
  go_wp2_with fail
  refine hKK.out _ _ ?_ (fun hHeld => ?_)
  · exact Q.box
  clear hKK KK
  try simp only [Act.put, List.setIfInBounds_toArray, List.set_cons_zero, List.set_cons_succ]
  refine wpAnyH_done (by kernel_rfl) ?_ _
  go_wp2_with fail
  replace Q := Q.drew
  refine wp_region_held_drew (S := fun w0 => BoxF w0 w.heap.size f A c) (by kernel_rfl) ?_ (fun hHeld => ?_)
  · exact Q.box
  refine wpAnyH_take (i := 0) (v := ?bv0) (by simp only [List.getElem?_toArray, List.getElem?_cons_zero]; rfl) (by kernel_rfl) (by kernel_rfl) (by kernel_rfl) (by exact fun _ _ _ h => h) (Or.inl ⟨by kernel_rfl, ?by0⟩) hHeld ?_
  case by0 => (intro w hSw; (try dsimp only at hSw); obtain ⟨k0, k1, k2, k3, k4, k5, k6, k7⟩ := hSw.all; clear hSw; go_simp; try (with_reducible rfl))
  try simp only [Act.put, List.setIfInBounds_toArray, List.set_cons_zero, List.set_cons_succ]
  refine wpAnyH_take (i := 1) (v := ?bv1) (by simp only [List.getElem?_toArray, List.getElem?_cons_succ, List.getElem?_cons_zero]; rfl) (by kernel_rfl) (by kernel_rfl) (by kernel_rfl) (by exact fun _ _ _ h => h) (Or.inl ⟨by kernel_rfl, ?by1⟩) hHeld ?_
  case by1 => (intro w hSw; (try dsimp only at hSw); obtain ⟨k0, k1, k2, k3, k4, k5, k6, k7⟩ := hSw.all; clear hSw; go_simp; try (with_reducible rfl))
  try simp only [Act.put, List.setIfInBounds_toArray, List.set_cons_zero, List.set_cons_succ]
  refine wpAnyH_take (i := 2) (v := ?bv2) (by simp only [List.getElem?_toArray, List.getElem?_cons_succ, List.getElem?_cons_zero]; rfl) (by kernel_rfl) (by kernel_rfl) (by kernel_rfl) (by exact fun _ _ _ h => h) (Or.inl ⟨by kernel_rfl, ?by2⟩) hHeld ?_
  case by2 => (intro w hSw; (try dsimp only at hSw); obtain ⟨k0, k1, k2, k3, k4, k5, k6, k7⟩ := hSw.all; clear hSw; go_simp; try (with_reducible rfl))
  try simp only [Act.put, List.setIfInBounds_toArray, List.set_cons_zero, List.set_cons_succ]
  refine wpAnyH_take (i := 4) (v := ?bv4) (by simp only [List.getElem?_toArray, List.getElem?_cons_succ, List.getElem?_cons_zero]; rfl) (by kernel_rfl) (by kernel_rfl) (by kernel_rfl) (by exact fun _ _ _ h => h) (Or.inl ⟨by kernel_rfl, ?by4⟩) hHeld ?_
  case by4 => (intro w hSw; (try dsimp only at hSw); obtain ⟨k0, k1, k2, k3, k4, k5, k6, k7⟩ := hSw.all; clear hSw; go_simp; try (with_reducible rfl))
  try simp only [Act.put, List.setIfInBounds_toArray, List.set_cons_zero, List.set_cons_succ]
  refine wpAnyH_take (i := 5) (v := ?bv5) (by simp only [List.getElem?_toArray, List.getElem?_cons_succ, List.getElem?_cons_zero]; rfl) (by kernel_rfl) (by kernel_rfl) (by kernel_rfl) (by exact fun _ _ _ h => h) (Or.inl ⟨by kernel_rfl, ?by5⟩) hHeld ?_
  case by5 => (intro w hSw; (try dsimp only at hSw); obtain ⟨k0, k1, k2, k3, k4, k5, k6, k7⟩ := hSw.all; clear hSw; go_simp; try (with_reducible rfl))
  try simp only [Act.put, List.setIfInBounds_toArray, List.set_cons_zero, List.set_cons_succ]
  refine wpAnyH_take (i := 6) (v := ?bv6) (by simp only [List.getElem?_toArray, List.getElem?_cons_succ, List.getElem?_cons_zero]; rfl) (by kernel_rfl) (by kernel_rfl) (by kernel_rfl) (by exact fun _ _ _ h => h) (Or.inl ⟨by kernel_rfl, ?by6⟩) hHeld ?_
  case by6 => (intro w hSw; (try dsimp only at hSw); obtain ⟨k0, k1, k2, k3, k4, k5, k6, k7⟩ := hSw.all; clear hSw; go_simp; try (with_reducible rfl))
  try simp only [Act.put, List.setIfInBounds_toArray, List.set_cons_zero, List.set_cons_succ]
  refine wpAnyH_ready (rs := [3]) (by kernel_rfl) (by simp) ?_
  refine AllReadyH.cons (by simp only [List.getElem?_toArray, List.getElem?_cons_succ, List.getElem?_cons_zero]; rfl) (fun KK hKK => ?_) AllReadyH.nil
  go_simp
  have hC := PenHalf_calls _ r5 _ f.next _ Q.pen ho.n (by simp)
  (with_reducible refine hC.mono ?_)
  rintro e w7 ⟨rfl, r6, hp, hst⟩
  replace Q := Q.step hp hst
  clear hp hst hC
  go_wp2_with fail
  refine hKK.out _ _ ?_ (fun hHeld => ?_)
  · exact Q.box
  clear hKK KK
  try simp only [Act.put, List.setIfInBounds_toArray, List.set_cons_zero, List.set_cons_succ]
  refine wpAnyH_ready (rs := [7]) (by kernel_rfl) (by simp) ?_
  refine AllReadyH.cons (by simp only [List.getElem?_toArray, List.getElem?_cons_succ, List.getElem?_cons_zero]; rfl) (fun KK hKK => ?_) AllReadyH.nil
  go_simp
  have hC := PenWord_calls _ r6 _ f.bits _ Q.pen ho.b (by simp)
  (with_reducible refine hC.mono ?_)
  rintro e w8 ⟨rfl, r7, hp, hst⟩
  replace Q := Q.step hp hst
  clear hp hst hC
  go_wp2_with fail
  refine hKK.out _ _ ?_ (fun hHeld => ?_)
  · exact Q.box
  clear hKK KK
  try simp only [Act.put, List.setIfInBounds_toArray, List.set_cons_zero, List.set_cons_succ]
  refine wpAnyH_done (by kernel_rfl) ?_ _
  go_wp2_with fail
  replace Q := Q.drew
  refine wp_region_held_drew (S := fun w0 => BoxF w0 w.heap.size f A c) (by kernel_rfl) ?_ (fun hHeld => ?_)
  · exact Q.box
  refine wpAnyH_take (i := 0) (v := ?cv0) (by simp only [List.getElem?_toArray, List.getElem?_cons_zero]; rfl) (by kernel_rfl) (by kernel_rfl) (by kernel_rfl) (by exact fun _ _ _ h => h) (Or.inl ⟨by kernel_rfl, ?cy0⟩) hHeld ?_
  case cy0 => (intro w hSw; (try dsimp only at hSw); obtain ⟨k0, k1, k2, k3, k4, k5, k6, k7⟩ := hSw.all; clear hSw; go_simp; try (with_reducible rfl))
  try simp only [Act.put, List.setIfInBounds_toArray, List.set_cons_zero, List.set_cons_succ]
  refine wpAnyH_take (i := 3) (v := ?cv3) (by simp only [List.getElem?_toArray, List.getElem?_cons_succ, List.getElem?_cons_zero]; rfl) (by kernel_rfl) (by kernel_rfl) (by kernel_rfl) (by exact fun _ _ _ h => h) (Or.inl ⟨by kernel_rfl, ?cy3⟩) hHeld ?_
  case cy3 => (intro w hSw; (try dsimp only at hSw); obtain ⟨k0, k1, k2, k3, k4, k5, k6, k7⟩ := hSw.all; clear hSw; go_simp; try (with_reducible rfl))
  try simp only [Act.put, List.setIfInBounds_toArray, List.set_cons_zero, List.set_cons_succ]
  refine wpAnyH_take (i := 4) (v := ?cv4) (by simp only [List.getElem?_toArray, List.getElem?_cons_succ, List.getElem?_cons_zero]; rfl) (by kernel_rfl) (by kernel_rfl) (by kernel_rfl) (by exact fun _ _ _ h => h) (Or.inl ⟨by kernel_rfl, ?cy4⟩) hHeld ?_
  case cy4 => (intro w hSw; (try dsimp only at hSw); obtain ⟨k0, k1, k2, k3, k4, k5, k6, k7⟩ := hSw.all; clear hSw; go_simp; try (with_reducible rfl))
  try simp only [Act.put, List.setIfInBounds_toArray, List.set_cons_zero, List.set_cons_succ]
  refine wpAnyH_ready (rs := [1]) (by kernel_rfl) (by simp) ?_
  refine AllReadyH.cons (by simp only [List.getElem?_toArray, List.getElem?_cons_succ, List.getElem?_cons_zero]; rfl) (fun KK hKK => ?_) AllReadyH.nil
  go_simp
  (with_reducible refine (hM _).mono ?_)
  rintro e w9 ⟨rfl, h1⟩
  replace Q := Q.ext h1
  clear h1
  go_wp2_with fail
  refine hKK.out _ _ ?_ (fun hHeld => ?_)
  · exact Q.box
  clear hKK KK
  try simp only [Act.put, List.setIfInBounds_toArray, List.set_cons_zero, List.set_cons_succ]
  refine wpAnyH_ready (rs := [2]) (by kernel_rfl) (by simp) ?_
  refine AllReadyH.cons (by simp only [List.getElem?_toArray, List.getElem?_cons_succ, List.getElem?_cons_zero]; rfl) (fun KK hKK => ?_) AllReadyH.nil
  go_simp
  have hC := PenByte_calls _ r7 _ f.marks _ Q.pen (by omega) (by simp)
  (with_reducible refine hC.mono ?_)
  rintro e w10 ⟨rfl, r9, hp, hst⟩
  replace Q := Q.step hp hst
  clear hp hst hC
  go_wp2_with fail
  refine hKK.out _ _ ?_ (fun hHeld => ?_)
  · exact Q.box
  clear hKK KK
  try simp only [Act.put, List.setIfInBounds_toArray, List.set_cons_zero, List.set_cons_succ]
  refine wpAnyH_ready (rs := [5]) (by kernel_rfl) (by simp) ?_
  refine AllReadyH.cons (by simp only [List.getElem?_toArray, List.getElem?_cons_succ, List.getElem?_cons_zero]; rfl) (fun KK hKK => ?_) AllReadyH.nil
  go_simp
  obtain ⟨b2, hb2, hf2⟩ : ∃ b2, Bs w10 b2 A f.data ∧ (b2 ≠ P ∧ r9 ≠ some b2) := by
    have h4 := Q.pgt
    by_cases h : f.data = []
    · exact ⟨w.heap.size, by rw [h]; exact Sl.nil_ _ _ _, by omega, fun e => by have := Q.far _ e; omega⟩
    · have h3 := Q.dlt h
      exact ⟨b, Q.data, by omega, fun e => by have := Q.far _ e; omega⟩
  (with_reducible refine (PenBlob_calls _ r9 _ A f.data f.data.length c b2 _ Q.pen hb2 rfl hf2 (by simp; omega)).mono ?_)
  rintro e w11 ⟨rfl, r10, hp, hst⟩
  replace Q := Q.step hp hst
  clear hp hst hb2 hf2
  go_wp2_with fail
  refine hKK.out _ _ ?_ (fun hHeld => ?_)
  · exact Q.box
  clear hKK KK
  try simp only [Act.put, List.setIfInBounds_toArray, List.set_cons_zero, List.set_cons_succ]
  refine wpAnyH_done (by kernel_rfl) ?_ _
  have hraw : f.raw.length ≤ 1000023 := by
    have h1 := numF_length 10 f.data.length
    unfold Fr.raw num
    simp
    omega
  obtain ⟨R, hRR⟩ : ∃ R, R = f.raw := ⟨_, rfl⟩
  have hpen := Q.pen.cast (show _ = R by rw [hRR]; simp [Fr.raw])
  rw [← hRR] at hraw
  have HRR := Lib.hid hRR
  have hbel := Q.below
  clear Q hRR
  go_wp2_with fail
  refine (Make_calls _).mono ?_
  rintro e wm ⟨rfl, h1⟩
  replace hpen := hpen.ext h1
  replace hbel := hbel.trans (h1.mono hbel.size)
  clear h1
  go_wp2_with fail
  refine (PenBytes_calls P r10 R _ hpen (by omega)).mono ?_
  rintro e wp ⟨v, rfl, hrow, h1⟩
  replace hbel := hbel.trans (h1.mono hbel.size)
  obtain ⟨Ar, cr, br, rfl, -, -, -, -, hsr, -⟩ := hrow.sl
  clear h1 hpen hrow
  go_wp2_with fail
  refine (Seal_calls Ar R R.length cr br _ hsr rfl (by omega)).mono ?_
  rintro e wq ⟨v, rfl, hrow, h1⟩
  have hsz := hbel.size
  replace hbel := hbel.trans (h1.mono hbel.size)
  clear h1 hsr
  go_wp2_with fail
  go_ret
  exact ⟨_, rfl, by rw [← HRR.out]; exact hrow.low hsz, hbel⟩
end Go.Proofs.YtcgbamkfflcdfaaDoor
/- frame of a link. Conditions: those said. -/
namespace Go.Proofs.YtcgbamkfflcdfaaDoor
open Go.RowKit
set_option linter.unusedVariables false

section
variable {ops : Array Oper} {S : World → Prop} {op : Oper} {a : Act}
theorem yk_ldU (hw : Region.wanted op (yielded ops a.tmps) = true) (x : Operand) (ho : op.op = .load 22 x) (p : Addr) (v : Value) (hx : a.eval x = .pointer (some p)) (hS : ∀ w, S w → w.cell? p = some v) : YieldsIf Tryd.prog ops S op v a :=
  .inl ⟨hw, fun w h => by
    have hc := hS w h
    unfold execOp
    simp only [ho, hx]
    go_simp⟩
theorem yk_ldBo (hw : Region.wanted op (yielded ops a.tmps) = true) (x : Operand) (ho : op.op = .load 4 x) (p : Addr) (v : Value) (hx : a.eval x = .pointer (some p)) (hS : ∀ w, S w → w.cell? p = some v) : YieldsIf Tryd.prog ops S op v a :=
  .inl ⟨hw, fun w h => by
    have hc := hS w h
    unfold execOp
    simp only [ho, hx]
    go_simp⟩
theorem yk_ldBy (hw : Region.wanted op (yielded ops a.tmps) = true) (x : Operand) (ho : op.op = .load 31 x) (p : Addr) (v : Value) (hx : a.eval x = .pointer (some p)) (hS : ∀ w, S w → w.cell? p = some v) : YieldsIf Tryd.prog ops S op v a :=
  .inl ⟨hw, fun w h => by
    have hc := hS w h
    unfold execOp
    simp only [ho, hx]
    go_simp⟩
theorem yk_ldA (hw : Region.wanted op (yielded ops a.tmps) = true) (x : Operand) (ho : op.op = .load 45 x) (b : Nat) (u v : Value) (hx : a.eval x = .pointer (some ⟨b, 4, none⟩)) (hS : ∀ w, S w → w.cell? ⟨b, 4, none⟩ = some u ∧ w.cell? ⟨b, 5, none⟩ = some v) : YieldsIf Tryd.prog ops S op (.agg #[u, v]) a :=
  .inl ⟨hw, fun w h => by
    obtain ⟨c0, c1⟩ := hS w h
    unfold execOp
    simp only [ho, hx]
    go_simp⟩
end
/-- What tells of a flight. -/
def frOf (L : Lk) (x : Fl) : Fr := ⟨L.ep, x.seq, L.cn, L.cb, x.p.p.first, x.p.p.last, false, x.p.p.data⟩
def fz0 : Fr := ⟨0, 0, 0, 0, false, false, false, []⟩
set_option maxHeartbeats 16000000 in
set_option maxRecDepth 40000 in
theorem frame_calls (g bm : Nat) (L : Lk) (vw vf vh : Value) (x : Fl) (w : World) (q : LkB w g bm L vw vf vh) :
    Calls Tryd.prog 36 #[.pointer (some ⟨g, 0, none⟩), .agg x.cells.toArray] w fun e w' => e = .returned (.agg ((frOf L x).cells x.p.A x.p.c)) ∧ Below w.heap.size w w' := by
  obtain ⟨g3, hg3⟩ : ∃ g3, g3 = w.heap.size := ⟨_, rfl⟩
  have hb := below_alloc2 w (.cells x.cells.toArray 98) (.cells #[.int .u16 0, .int .u16 0, .int .u16 0, .int .u32 0, .bool false, .bool false, .bool false, .slice none 0 0] 47)
  have z : ((w.alloc (.cells x.cells.toArray 98)).alloc (.cells #[.int .u16 0, .int .u16 0, .int .u16 0, .int .u32 0, .bool false, .bool false, .bool false, .slice none 0 0] 47)).heap[g3]? = some (.cells x.cells.toArray 98 (0, 0)) := by
    rw [(Below.heap_alloc (w.alloc (.cells x.cells.toArray 98)) (.cells #[.int .u16 0, .int .u16 0, .int .u16 0, .int .u32 0, .bool false, .bool false, .bool false, .slice none 0 0] 47) g3 (by simp [hg3])), hg3]
    exact heap_alloc_new w _
  have y : ((w.alloc (.cells x.cells.toArray 98)).alloc (.cells #[.int .u16 0, .int .u16 0, .int .u16 0, .int .u32 0, .bool false, .bool false, .bool false, .slice none 0 0] 47)).heap[g3 + 1]? = some (.cells #[.int .u16 0, .int .u16 0, .int .u16 0, .int .u32 0, .bool false, .bool false, .bool false, .slice none 0 0] 47 (0, 0)) := by
    have := heap_alloc_new (w.alloc (.cells x.cells.toArray 98)) (.cells #[.int .u16 0, .int .u16 0, .int .u16 0, .int .u32 0, .bool false, .bool false, .bool false, .slice none 0 0] 47)
    rwa [show (w.alloc (.cells x.cells.toArray 98)).heap.size = g3 + 1 by simp [hg3]] at this
  obtain ⟨wz, hwz⟩ : ∃ wz, wz = (w.alloc (.cells x.cells.toArray 98)).alloc (.cells #[.int .u16 0, .int .u16 0, .int .u16 0, .int .u32 0, .bool false, .bool false, .bool false, .slice none 0 0] 47) := ⟨_, rfl⟩
  have q0 := q.lt
  replace q := q.ext hb
  go_enter Tryd.func36, Tryd.ntmps36
  go_wp2_with fail
  rw [← hwz] at hb q z y ⊢
  rw [← hg3]
  have hgw : w.heap.size = g3 := hg3.symm
  have hg3z : g3 + 1 < wz.heap.size := (Array.getElem?_eq_some_iff.1 y).1
  have hqg : g < w.heap.size := q0
  clear hwz hg3
  refine wp_region_E (fun j => j == 20) (fun w9 => LkB w9 g bm L vw vf vh ∧ w9.heap[g3]? = some (.cells x.cells.toArray 98 (0, 0))) (by kernel_rfl) ?_ (fun hHeld => ?_)
  · exact (by exact ⟨q, z⟩)
  obtain ⟨wd5', hwd⟩ : ∃ wd5', wd5' = World.drew wz := ⟨_, rfl⟩
  have h9 : Below wz.heap.size wz wd5' := by rw [hwd]; exact below_drew (Below.refl _ _)
  rw [← hwd] at hHeld ⊢
  clear hwd
  replace q := q.ext h9
  replace z := (h9.block g3 (by omega)).trans z
  replace y := (h9.block (g3 + 1) hg3z).trans y
  replace hb := hb.trans (h9.mono hb.size)
  clear h9
  refine wpAnyE_take (i := 0) (by simp only [List.getElem?_toArray]; rfl) (by kernel_rfl) (by kernel_rfl) (by kernel_rfl) (by kernel_rfl) (by kernel_rfl) (by exact fun _ _ _ h => h) (by exact yk (.pointer (some ⟨g, 0, none⟩)) (by kernel_rfl) (fun _ => by kernel_rfl)) hHeld ?_
  refine wpAnyE_take (i := 1) (by simp only [List.getElem?_toArray]; rfl) (by kernel_rfl) (by kernel_rfl) (by kernel_rfl) (by kernel_rfl) (by kernel_rfl) (by exact fun _ _ _ h => h) (by exact yk (.pointer (some ⟨g, 0, none⟩)) (by kernel_rfl) (fun _ => by kernel_rfl)) hHeld ?_
  refine wpAnyE_take (i := 2) (by simp only [List.getElem?_toArray]; rfl) (by kernel_rfl) (by kernel_rfl) (by kernel_rfl) (by kernel_rfl) (by kernel_rfl) (by exact fun _ _ _ h => h) (by exact yk (.pointer (some ⟨g, 0, none⟩)) (by kernel_rfl) (fun _ => by kernel_rfl)) hHeld ?_
  refine wpAnyE_take (i := 3) (by simp only [List.getElem?_toArray]; rfl) (by kernel_rfl) (by kernel_rfl) (by kernel_rfl) (by kernel_rfl) (by kernel_rfl) (by exact fun _ _ _ h => h) (by exact yk_ldU (by kernel_rfl) (.tmp 7) rfl ⟨g, 0, none⟩ (.int .u16 (L.ep : Int)) (by kernel_rfl) (fun w hh => hh.1.c0)) hHeld ?_
  refine wpAnyE_take (i := 4) (by simp only [List.getElem?_toArray]; rfl) (by kernel_rfl) (by kernel_rfl) (by kernel_rfl) (by kernel_rfl) (by kernel_rfl) (by exact fun _ _ _ h => h) (by exact yk (.pointer (some ⟨g3, 3, none⟩)) (by kernel_rfl) (fun _ => by kernel_rfl)) hHeld ?_
  refine wpAnyE_take (i := 5) (by simp only [List.getElem?_toArray]; rfl) (by kernel_rfl) (by kernel_rfl) (by kernel_rfl) (by kernel_rfl) (by kernel_rfl) (by exact fun _ _ _ h => h) (by exact yk_ldQ (by kernel_rfl) (.tmp 9) rfl ⟨g3, 3, none⟩ (.int .u16 (x.seq : Int)) (by kernel_rfl) (fun w hh => by rw [cell_of_row w g3 3 _ _ _ hh.2]; rfl)) hHeld ?_
  refine wpAnyE_take (i := 6) (by simp only [List.getElem?_toArray]; rfl) (by kernel_rfl) (by kernel_rfl) (by kernel_rfl) (by kernel_rfl) (by kernel_rfl) (by exact fun _ _ _ h => h) (by exact yk (.pointer (some ⟨g, 0, none⟩)) (by kernel_rfl) (fun _ => by kernel_rfl)) hHeld ?_
  refine wpAnyE_take (i := 7) (by simp only [List.getElem?_toArray]; rfl) (by kernel_rfl) (by kernel_rfl) (by kernel_rfl) (by kernel_rfl) (by kernel_rfl) (by exact fun _ _ _ h => h) (by exact yk (.pointer (some ⟨g, 0, none⟩)) (by kernel_rfl) (fun _ => by kernel_rfl)) hHeld ?_
  refine wpAnyE_take (i := 8) (by simp only [List.getElem?_toArray]; rfl) (by kernel_rfl) (by kernel_rfl) (by kernel_rfl) (by kernel_rfl) (by kernel_rfl) (by exact fun _ _ _ h => h) (by exact yk (.pointer (some ⟨g, 4, none⟩)) (by kernel_rfl) (fun _ => by kernel_rfl)) hHeld ?_
  refine wpAnyE_take (i := 9) (by simp only [List.getElem?_toArray]; rfl) (by kernel_rfl) (by kernel_rfl) (by kernel_rfl) (by kernel_rfl) (by kernel_rfl) (by exact fun _ _ _ h => h) (by exact yk_ldA (by kernel_rfl) (.tmp 13) rfl g (.int .u16 (L.cn : Int)) (.int .u32 (L.cb : Int)) (by kernel_rfl) (fun w hh => ⟨hh.1.c4, hh.1.c5⟩)) hHeld ?_
  refine wpAnyE_take (i := 10) (by simp only [List.getElem?_toArray]; rfl) (by kernel_rfl) (by kernel_rfl) (by kernel_rfl) (by kernel_rfl) (by kernel_rfl) (by exact fun _ _ _ h => h) (by exact yk (.pointer (some ⟨g3, 0, none⟩)) (by kernel_rfl) (fun _ => by kernel_rfl)) hHeld ?_
  refine wpAnyE_take (i := 11) (by simp only [List.getElem?_toArray]; rfl) (by kernel_rfl) (by kernel_rfl) (by kernel_rfl) (by kernel_rfl) (by kernel_rfl) (by exact fun _ _ _ h => h) (by exact yk (.pointer (some ⟨g3, 0, none⟩)) (by kernel_rfl) (fun _ => by kernel_rfl)) hHeld ?_
  refine wpAnyE_take (i := 12) (by simp only [List.getElem?_toArray]; rfl) (by kernel_rfl) (by kernel_rfl) (by kernel_rfl) (by kernel_rfl) (by kernel_rfl) (by exact fun _ _ _ h => h) (by exact yk_ldBo (by kernel_rfl) (.tmp 16) rfl ⟨g3, 0, none⟩ (.bool x.p.p.first) (by kernel_rfl) (fun w hh => by rw [cell_of_row w g3 0 _ _ _ hh.2]; rfl)) hHeld ?_
  refine wpAnyE_take (i := 13) (by simp only [List.getElem?_toArray]; rfl) (by kernel_rfl) (by kernel_rfl) (by kernel_rfl) (by kernel_rfl) (by kernel_rfl) (by exact fun _ _ _ h => h) (by exact yk (.pointer (some ⟨g3, 0, none⟩)) (by kernel_rfl) (fun _ => by kernel_rfl)) hHeld ?_
  refine wpAnyE_take (i := 14) (by simp only [List.getElem?_toArray]; rfl) (by kernel_rfl) (by kernel_rfl) (by kernel_rfl) (by kernel_rfl) (by kernel_rfl) (by exact fun _ _ _ h => h) (by exact yk (.pointer (some ⟨g3, 1, none⟩)) (by kernel_rfl) (fun _ => by kernel_rfl)) hHeld ?_
  refine wpAnyE_take (i := 15) (by simp only [List.getElem?_toArray]; rfl) (by kernel_rfl) (by kernel_rfl) (by kernel_rfl) (by kernel_rfl) (by kernel_rfl) (by exact fun _ _ _ h => h) (by exact yk_ldBo (by kernel_rfl) (.tmp 19) rfl ⟨g3, 1, none⟩ (.bool x.p.p.last) (by kernel_rfl) (fun w hh => by rw [cell_of_row w g3 1 _ _ _ hh.2]; rfl)) hHeld ?_
  refine wpAnyE_take (i := 16) (by simp only [List.getElem?_toArray]; rfl) (by kernel_rfl) (by kernel_rfl) (by kernel_rfl) (by kernel_rfl) (by kernel_rfl) (by exact fun _ _ _ h => h) (by exact yk (.pointer (some ⟨g3, 0, none⟩)) (by kernel_rfl) (fun _ => by kernel_rfl)) hHeld ?_
  refine wpAnyE_take (i := 17) (by simp only [List.getElem?_toArray]; rfl) (by kernel_rfl) (by kernel_rfl) (by kernel_rfl) (by kernel_rfl) (by kernel_rfl) (by exact fun _ _ _ h => h) (by exact yk (.pointer (some ⟨g3, 2, none⟩)) (by kernel_rfl) (fun _ => by kernel_rfl)) hHeld ?_
  refine wpAnyE_take (i := 18) (by simp only [List.getElem?_toArray]; rfl) (by kernel_rfl) (by kernel_rfl) (by kernel_rfl) (by kernel_rfl) (by kernel_rfl) (by exact fun _ _ _ h => h) (by exact yk_ldBy (by kernel_rfl) (.tmp 22) rfl ⟨g3, 2, none⟩ (.slice x.p.A x.p.p.data.length x.p.c) (by kernel_rfl) (fun w hh => by rw [cell_of_row w g3 2 _ _ _ hh.2]; rfl)) hHeld ?_
  refine wpAnyE_take (i := 19) (by simp only [List.getElem?_toArray]; rfl) (by kernel_rfl) (by kernel_rfl) (by kernel_rfl) (by kernel_rfl) (by kernel_rfl) (by exact fun _ _ _ h => h) (by exact yk (.agg #[.int .u16 (L.ep : Int), .int .u16 (x.seq : Int), .int .u16 (L.cn : Int), .int .u32 (L.cb : Int), .bool x.p.p.first, .bool x.p.p.last, .bool false, .slice x.p.A x.p.p.data.length x.p.c]) (by kernel_rfl) (fun _ => by kernel_rfl)) hHeld ?_
  try simp only [Act.put, List.setIfInBounds_toArray, List.set_cons_zero, List.set_cons_succ]
  refine wpAnyE_ready (rs := [20]) (by kernel_rfl) (by simp) ?_
  refine EachE.last (by rfl) (by simp only [List.getElem?_toArray]; rfl) (fun KK hKK => ?_)
  rw [if_pos (by kernel_rfl)]
  refine wp_store_row 47 (.tmp 4) (.tmp 24) rfl (g3 + 1) ((frOf L x).cells x.p.A x.p.c) (by kernel_rfl) (by kernel_rfl) _ _ y (by kernel_rfl) rfl (by kernel_rfl) ?_
  have hy2 := setRow_heap wd5' (g3 + 1) _ ((frOf L x).cells x.p.A x.p.c) _ _ y
  have hb2 := below_setRow hb (g3 + 1) ((frOf L x).cells x.p.A x.p.c) (by omega)
  refine hKK.out _ _ ?_
  clear hKK KK
  refine wpAnyE_done (by kernel_rfl) ?_ _
  go_wp2_with fail
  refine bodyPost_ret (results_cell_row (P := Tryd.prog) rfl _ _ (g3 + 1) _ _ (0, 0) _ rfl hy2 Tryd.underlying47 rfl (by kernel_rfl)) rfl ⟨rfl, hb2⟩
end Go.Proofs.YtcgbamkfflcdfaaDoor
/- A flight of the row, read and stamped. No condition: plain lemmas. -/
namespace Go.Proofs.YtcgbamkfflcdfaaDoor
open Go.RowKit
set_option linter.unusedVariables false

/-- A flight that is sent now. -/
def Fl.stamp (x : Fl) (now : Int) : Fl := { x with sent := true, at_ := now }
theorem fvs_stamp : ∀ (xs : List Fl) (k : Nat) (hk : k < xs.length) (now : Int), fvs (xs.set k (xs[k].stamp now)) = ((fvs xs).set (k * 6 + 4) (.bool true)).set (k * 6 + 5) (.int .i64 now)
  | x :: l, 0, _, now => by
    rw [List.set_cons_zero, fvs_cons, fvs_cons]
    rfl
  | x :: l, k + 1, hk, now => by
    have ih := fvs_stamp l k (by simpa using hk) now
    have e1 : (k + 1) * 6 + 4 - x.cells.length = k * 6 + 4 := by simp; omega
    have e2 : (k + 1) * 6 + 5 - x.cells.length = k * 6 + 5 := by simp; omega
    rw [List.set_cons_succ, fvs_cons, fvs_cons, List.set_append_right _ _ (by simp; omega), List.set_append_right _ _ (by simp; omega), e1, e2, List.getElem_cons_succ, ih]
theorem RowF.at_ {w : World} {B : Nat} {v : Value} {xs : List Fl} (h : RowF w B v xs) {k : Nat} (hk : k < xs.length) : ∃ g cap, v = .slice (some ⟨g, 0, none⟩) xs.length cap ∧ xs.length ≤ cap ∧ B ≤ g ∧ g < w.heap.size ∧ v.ownBlock = some g ∧ (∀ j u, j < 6 → xs[k].cells[j]? = some u → w.cell? ⟨g, k * 6 + j, none⟩ = some u) ∧ (∀ j, w.frozen? ⟨g, j, none⟩ = false) := by
  have h0 := h
  rcases h.2 with ⟨_, hn⟩ | ⟨g, cap, cur, rfl, hg, hh, hnc, hcm, hcs, hct⟩
  · omega
  · refine ⟨g, cap, rfl, hnc, hg, (Array.getElem?_eq_some_iff.1 hh).1, rfl, fun j u hj hu => ?_, fun j => frozen_of_row w g j _ _ hh⟩
    have := h0.cells (g := g) rfl (k * 6 + j) u (by rw [fvs_at xs k hk j hj]; exact hu)
    simpa [Addr.add_lit] using this
theorem RowF.stamp {w : World} {B g n cap : Nat} {xs : List Fl} (h : w.ownsRow B 98 6 (.slice (some ⟨g, 0, none⟩) n cap) xs.length (fvs xs)) {k : Nat} (hk : k < xs.length) (now : Int) :
    RowF ((w.setCell ⟨g, k * 6 + 4, none⟩ (.bool true)).setCell ⟨g, k * 6 + 5, none⟩ (.int .i64 now)) B (.slice (some ⟨g, 0, none⟩) n cap) (xs.set k (xs[k].stamp now)) := by
  rcases h.2 with ⟨hv, _⟩ | ⟨g', cap', cur, hv, hg, hh, hnc, hcm, hcs, hct⟩
  · cases hv
  · injection hv with hv e1 e2
    injection hv with hv
    injection hv with hv
    subst hv e1 e2
    have hw := heap_setCell_same _ g (k * 6 + 5) _ _ (.int .i64 now) (heap_setCell_same w g (k * 6 + 4) cur _ (.bool true) hh)
    refine ⟨by rw [fvs_length], .inr ⟨g, cap, _, by rw [List.length_set], hg, hw, by simp; exact hnc, hcm, by simpa using hcs, ?_⟩⟩
    rw [Array.toList_setIfInBounds, Array.toList_setIfInBounds, List.length_set, List.take_set, List.take_set, hct, fvs_stamp xs k hk now]
section
variable {ops : Array Oper} {op : Oper} {a : Act} {w : World} {K : Act → World → Prop} {Q : Exit → Act → World → Prop}
theorem fl_size (x : Fl) : (Tryd.prog.info? 98).map (·.size) = some x.cells.toArray.size := by
  show _ = some 6
  kernel_rfl
end
end Go.Proofs.YtcgbamkfflcdfaaDoor
/- (Acks).bit and Has: the plain words. Conditions: the numbers fit. -/
namespace Go.Proofs.YtcgbamkfflcdfaaDoor
open Go.RowKit

abbrev acksV (x y : Nat) : Value := .agg #[.int .u16 (x : Int), .int .u32 (y : Int)]
/-- The one of the bits that tells of a number. -/
def bitN (x s : Nat) : Nat := if 1 ≤ toI x s ∧ toI x s ≤ 32 then 2 ^ (toI x s - 1).toNat else 0
theorem bitN_lt (x s : Nat) : bitN x s < 4294967296 := by
  unfold bitN
  split
  · have : (2 : Nat) ^ (toI x s - 1).toNat < 2 ^ 32 := Nat.pow_lt_pow_right (by omega) (by omega)
    omega
  · omega
set_option maxHeartbeats 1000000 in
set_option maxRecDepth 20000 in
theorem bit_calls (x y s : Nat) (w : World) (hx : x < 65536) (hs : s < 65536) :
    Calls Tryd.prog 71 #[acksV x y, .int .u16 s] w fun e w' => e = .returned (.int .u32 (bitN x s : Nat)) ∧ Below w.heap.size w w' := by
  have hT := To_calls x s
  have hb := toI_bounds x s
  have hB := Lib.hid (show bitN x s = _ from rfl)
  unfold bitN at hB
  obtain ⟨r, hr⟩ : ∃ r, r = toI x s := ⟨_, rfl⟩
  obtain ⟨t, ht⟩ : ∃ t, t = bitN x s := ⟨_, rfl⟩
  have hbt : t = if 1 ≤ r ∧ r ≤ 32 then 2 ^ (r - 1).toNat else 0 := by rw [ht, hr]; rfl
  rw [← hr] at hT hb
  rw [← ht]
  have HB := Lib.hid hbt
  clear hB ht hbt hr
  obtain ⟨hb1, hb2⟩ := hb
  by_cases h1 : 1 ≤ r
  · obtain ⟨k, rfl⟩ : ∃ k : Nat, r = (k : Int) + 1 := ⟨(r - 1).toNat, by omega⟩
    have hk9 : (k : Int) ≤ 40000 := by omega
    clear h1 hb1 hb2
    by_cases hk : k < 32
    · obtain ⟨P, hP⟩ : ∃ P : Nat, P = 2 ^ k := ⟨_, rfl⟩
      have hPl : P < 4294967296 := by
        have : (2 : Nat) ^ k < 2 ^ 32 := Nat.pow_lt_pow_right (by omega) hk
        omega
      have hPi : (2 : Int) ^ k = (P : Int) := by rw [hP]; simp
      have HP := Lib.hid hP
      have hw : IntKind.u32.wrap (P : Int) = (P : Int) := IntWalk.u32_in _ (by omega)
      have hk2 : (k : Int) ≤ 32 := by omega
      clear hP
      go_enter Tryd.func71, Tryd.ntmps71
      go_wp2_with fail
      refine (hT _ hx hs).mono ?_
      rintro e w' ⟨rfl, rfl⟩
      go_wp2_with fail
      go_ret
      refine ⟨?_, below_alloc1 _ _⟩
      rw [HB.out, if_pos (by omega), show ((k : Int) + 1 - 1).toNat = k by omega, ← HP.out]
      rfl
    · have hmin : min k 32 = 32 := by omega
      go_enter Tryd.func71, Tryd.ntmps71
      go_wp2_with fail
      refine (hT _ hx hs).mono ?_
      rintro e w' ⟨rfl, rfl⟩
      go_wp2_with fail
      go_ret
      refine ⟨?_, below_alloc1 _ _⟩
      rw [HB.out, if_neg (by omega)]
      rfl
  · have h2 : r < 1 := by omega
    go_enter Tryd.func71, Tryd.ntmps71
    go_wp2_with fail
    refine (hT _ hx hs).mono ?_
    rintro e w' ⟨rfl, rfl⟩
    go_wp2_with fail
    go_ret
    refine ⟨?_, below_alloc1 _ _⟩
    rw [HB.out, if_neg (by omega)]
    rfl

theorem has_neg {x y s : Nat} (h : toI x s < 0) : hasN x y s = true := by unfold hasN; simp [h]
theorem and_pow (y i : Nat) : y &&& 2 ^ i = if y.testBit i = true then 2 ^ i else 0 := by
  apply Nat.eq_of_testBit_eq
  intro j
  rw [Nat.testBit_and, Nat.testBit_two_pow]
  by_cases h : y.testBit i = true
  · rw [if_pos h, Nat.testBit_two_pow]
    by_cases hij : i = j
    · subst hij; simp [h]
    · simp [hij]
  · rw [if_neg h, Nat.zero_testBit]
    by_cases hij : i = j
    · subst hij; simp [h]
    · simp [hij]
theorem has_bit {x y s : Nat} (h : ¬ toI x s < 0) : hasN x y s = (((y &&& bitN x s : Nat) : Int) != 0) := by
  unfold hasN bitN
  by_cases h1 : 1 ≤ toI x s ∧ toI x s ≤ 32
  · rw [if_pos h1, and_pow]
    have hp : (2 : Nat) ^ (toI x s - 1).toNat ≠ 0 := Nat.pos_iff_ne_zero.1 (Nat.two_pow_pos _)
    have h2 : 0 < toI x s := by omega
    cases hb : y.testBit (toI x s - 1).toNat
    · simp [h]
    · have hz : (((2 ^ (toI x s - 1).toNat : Nat) : Int) != 0) = true := by
        simp only [bne_iff_ne, ne_eq]
        omega
      rw [if_pos rfl, hz]
      simp [h1.2, h2]
  · rw [if_neg h1, Nat.and_zero]
    have h2 : ¬ (0 < toI x s ∧ toI x s ≤ 32) := fun h3 => h1 ⟨by omega, h3.2⟩
    have h3 : (decide (0 < toI x s) && decide (toI x s ≤ 32)) = false := by
      rw [Bool.eq_false_iff]
      intro h4
      simp only [Bool.and_eq_true, decide_eq_true_eq] at h4
      exact h2 h4
    rw [h3]
    simp only [decide_eq_false h, Bool.false_and, Bool.or_false]
    rfl
theorem acks_cells (w : World) (x y : Nat) (t : TypeId) : (w.alloc (.cells #[.int .u16 (x : Int), .int .u32 (y : Int)] t)).cell? ⟨w.heap.size, 0, none⟩ = some (.int .u16 (x : Int)) ∧ (w.alloc (.cells #[.int .u16 (x : Int), .int .u32 (y : Int)] t)).cell? ⟨w.heap.size, 1, none⟩ = some (.int .u32 (y : Int)) := by
  constructor <;> (rw [cell_of_row _ _ _ _ _ _ (heap_alloc_new w _)]; rfl)
set_option maxHeartbeats 1000000 in
set_option maxRecDepth 20000 in
theorem Has_calls (x y s : Nat) (w : World) (hx : x < 65536) (hy : y < 4294967296) (hs : s < 65536) :
    Calls Tryd.prog 39 #[acksV x y, .int .u16 s] w fun e w' => e = .returned (.bool (hasN x y s)) ∧ Below w.heap.size w w' := by
  have hT := To_calls x s
  have hB := bit_calls x y s
  have hbt := toI_bounds x s
  by_cases hneg : toI x s < 0
  · rw [has_neg hneg]
    obtain ⟨r, hr⟩ : ∃ r, r = toI x s := ⟨_, rfl⟩
    rw [← hr] at hT hbt hneg
    obtain ⟨hb1, hb2⟩ := hbt
    have hd : decide (r < 0) = true := by simpa using hneg
    clear hr
    obtain ⟨c0, c1⟩ := acks_cells w x y 45
    go_enter Tryd.func39, Tryd.ntmps39
    go_wp2_with fail
    go_quiet ((go_at_call 70; exact Calls.quiet_of_same (hT _ hx hs)))
    go_wp2_with fail
    go_ret
    exact ⟨rfl, below_drewN (below_alloc1 w _) _⟩
  · rw [has_bit hneg]
    have hl := bitN_lt x s
    have hand : bits .and .u32 (y : Int) ((bitN x s : Nat) : Int) = ((y &&& bitN x s : Nat) : Int) := u32_and_nat y _ (by omega) (by omega)
    obtain ⟨t, ht⟩ : ∃ t, t = bitN x s := ⟨_, rfl⟩
    rw [← ht] at hB hand
    rw [← ht]
    obtain ⟨z, hz⟩ : ∃ z, z = y &&& t := ⟨_, rfl⟩
    rw [← hz] at hand
    rw [← hz]
    obtain ⟨r, hr⟩ : ∃ r, r = toI x s := ⟨_, rfl⟩
    rw [← hr] at hT hbt hneg
    obtain ⟨hb1, hb2⟩ := hbt
    have hd : decide (r < 0) = false := by simpa using hneg
    clear hr ht hz hl hneg
    have hc := acks_cells w x y 45
    have hb := below_alloc1 w (.cells #[.int .u16 (x : Int), .int .u32 (y : Int)] 45)
    have hsz : w.heap.size < (w.alloc (.cells #[.int .u16 (x : Int), .int .u32 (y : Int)] 45)).heap.size := by simp
    have hbb := below_drew hb
    go_enter Tryd.func39, Tryd.ntmps39
    go_wp2_with fail
    go_region_held3 (fun w' => w'.cell? ⟨w.heap.size, 0, none⟩ = some (.int .u16 (x : Int)) ∧ w'.cell? ⟨w.heap.size, 1, none⟩ = some (.int .u32 (y : Int))) (first | exact hc | exact hc2)
      (first
        | (go_at_call 70; ((refine (hT _ hx hs).mono ?_); rintro e w2 ⟨rfl, rfl⟩))
        | (go_at_call 71; ((refine (hB _ hx hs).mono ?_); rintro e w3 ⟨rfl, hb3⟩; have hc2 := And.intro ((hb3.cell (p := ⟨w.heap.size, 0, none⟩) hsz).trans hc.1) ((hb3.cell (p := ⟨w.heap.size, 1, none⟩) hsz).trans hc.2); have hbb := hbb.trans (hb3.mono hbb.size); clear hb3)))
    go_wp2_with fail
    go_ret
    exact ⟨rfl, hbb⟩
end Go.Proofs.YtcgbamkfflcdfaaDoor
/- slices.IndexFunc, slices.DeleteFunc of flights that were answered. Conditions: those said. -/
namespace Go.Proofs.YtcgbamkfflcdfaaDoor
open Go.RowKit
set_option linter.unusedVariables false

theorem fvs_take (xs : List Fl) (k : Nat) : (fvs xs).take (k * 6) = fvs (xs.take k) := by
  induction xs generalizing k with
  | nil => simp [fvs]
  | cons x l ih =>
    cases k with
    | zero => simp [fvs]
    | succ k => rw [List.take_succ_cons, fvs_cons, fvs_cons, ← ih k, show (k + 1) * 6 = x.cells.length + k * 6 by simp; omega, List.take_length_add_append]
theorem set_app6 {α : Type} (c l : List α) (hc : c.length = 6) (i : Nat) (v : α) : (c ++ l).set (i + 6) v = c ++ l.set i v := by
  rw [List.set_append_right _ _ (by omega), hc, Nat.add_sub_cancel]
theorem fvs_set : ∀ (xs : List Fl) (k : Nat) (y : Fl), k < xs.length → ((((((fvs xs).set (k * 6) (.bool y.p.p.first)).set (k * 6 + 1) (.bool y.p.p.last)).set (k * 6 + 2) (.slice y.p.A y.p.p.data.length y.p.c)).set (k * 6 + 3) (.int .u16 (y.seq : Int))).set (k * 6 + 4) (.bool y.sent)).set (k * 6 + 5) (.int .i64 y.at_) = fvs (xs.set k y)
  | x :: l, 0, y, _ => rfl
  | x :: l, k + 1, y, hk => by
    have h := fvs_set l k y (by simpa using hk)
    have hc : x.cells.length = 6 := rfl
    rw [fvs_cons, show (k + 1) * 6 + 5 = (k * 6 + 5) + 6 by omega, show (k + 1) * 6 + 4 = (k * 6 + 4) + 6 by omega, show (k + 1) * 6 + 3 = (k * 6 + 3) + 6 by omega, show (k + 1) * 6 + 2 = (k * 6 + 2) + 6 by omega, show (k + 1) * 6 + 1 = (k * 6 + 1) + 6 by omega, show (k + 1) * 6 = (k * 6) + 6 by omega]
    rw [set_app6 _ _ hc, set_app6 _ _ hc, set_app6 _ _ hc, set_app6 _ _ hc, set_app6 _ _ hc, set_app6 _ _ hc, h]
    rfl
theorem RowF.set_ {w : World} {B g n cap : Nat} {xs : List Fl} (h : w.ownsRow B 98 6 (.slice (some ⟨g, 0, none⟩) n cap) xs.length (fvs xs)) {k : Nat} (hk : k < xs.length) (y : Fl) :
    RowF (((((((w).setCell ⟨g, k * 6, none⟩ (.bool y.p.p.first)).setCell ⟨g, k * 6 + 1, none⟩ (.bool y.p.p.last)).setCell ⟨g, k * 6 + 2, none⟩ (.slice y.p.A y.p.p.data.length y.p.c)).setCell ⟨g, k * 6 + 3, none⟩ (.int .u16 (y.seq : Int))).setCell ⟨g, k * 6 + 4, none⟩ (.bool y.sent)).setCell ⟨g, k * 6 + 5, none⟩ (.int .i64 y.at_)) B (.slice (some ⟨g, 0, none⟩) n cap) (xs.set k y) := by
  obtain ⟨cur, hn, hg, hh, hnc, hcm, hcs, hct⟩ : ∃ cur : Array Value, n = xs.length ∧ B ≤ g ∧ w.heap[g]? = some (.cells cur 98 (0, 0)) ∧ xs.length ≤ cap ∧ cap ≤ maxLen ∧ cur.size = cap * 6 ∧ cur.toList.take (xs.length * 6) = fvs xs := by
    rcases h.2 with ⟨hv, _⟩ | ⟨g', cap', cur, hv, hg, hh, hnc, hcm, hcs, hct⟩
    · cases hv
    · injection hv with hv e1 e2
      injection hv with hv
      injection hv with hv
      subst hv e1 e2
      exact ⟨cur, rfl, hg, hh, hnc, hcm, hcs, hct⟩
  subst hn
  have hw := heap_setCell_same _ g (k * 6 + 5) _ _ (.int .i64 y.at_) (heap_setCell_same _ g (k * 6 + 4) _ _ (.bool y.sent) (heap_setCell_same _ g (k * 6 + 3) _ _ (.int .u16 (y.seq : Int)) (heap_setCell_same _ g (k * 6 + 2) _ _ (.slice y.p.A y.p.p.data.length y.p.c) (heap_setCell_same _ g (k * 6 + 1) _ _ (.bool y.p.p.last) (heap_setCell_same w g (k * 6) cur _ (.bool y.p.p.first) hh)))))
  have hl : (xs.set k y).length = xs.length := List.length_set
  unfold RowF World.ownsRow
  refine ⟨by rw [fvs_length], .inr ⟨g, cap, _, by rw [hl], hg, hw, by rw [hl]; exact hnc, hcm, by simpa using hcs, ?_⟩⟩
  rw [Array.toList_setIfInBounds, Array.toList_setIfInBounds, Array.toList_setIfInBounds, Array.toList_setIfInBounds, Array.toList_setIfInBounds, Array.toList_setIfInBounds, hl, List.take_set, List.take_set, List.take_set, List.take_set, List.take_set, List.take_set, hct, fvs_set xs k y hk]
theorem RowF.cut {w w' : World} {B g n cap : Nat} {xs : List Fl} (h : w.ownsRow B 98 6 (.slice (some ⟨g, 0, none⟩) n cap) xs.length (fvs xs)) (i : Nat) (hi : i ≤ xs.length) (cur' : Array Value)
    (hw : w'.heap[g]? = some (.cells cur' 98 (0, 0))) (hcur : ∀ cur, w.heap[g]? = some (.cells cur 98 (0, 0)) → cur'.size = cur.size ∧ cur'.toList.take (i * 6) = cur.toList.take (i * 6)) :
    RowF w' B (.slice (some ⟨g, 0, none⟩) i cap) (xs.take i) := by
  rcases h.2 with ⟨hv, _⟩ | ⟨g', cap', cur, hv, hg, hh, hnc, hcm, hcs, hct⟩
  · cases hv
  · injection hv with hv e1 e2
    injection hv with hv
    injection hv with hv
    subst hv e1 e2
    obtain ⟨h1, h2⟩ := hcur cur hh
    have hl : (xs.take i).length = i := by simp; omega
    refine ⟨by rw [fvs_length], .inr ⟨g, cap, cur', by rw [hl], hg, hw, by rw [hl]; omega, hcm, by rw [h1]; exact hcs, ?_⟩⟩
    rw [hl, h2, ← fvs_take, ← hct, List.take_take, Nat.min_eq_left (by omega)]
/-- A frame in a variable. -/
def FrX (w : World) (g : Nat) (f : Fr) (A : Option Addr) (c : Nat) : Prop := w.heap[g]? = some (.cells (f.cells A c) 47 (0, 0))
namespace FrX
variable {w w' : World} {g : Nat} {f : Fr} {A : Option Addr} {c : Nat}
theorem lt (h : FrX w g f A c) : g < w.heap.size := (Array.getElem?_eq_some_iff.1 h).1
theorem ext (h : FrX w g f A c) (hm : Below w.heap.size w w') : FrX w' g f A c := (hm.block g h.lt).trans h
theorem mod {S : Nat → Prop} (h : FrX w g f A c) (hm : Mod S w w') (hs : ¬ S g) : FrX w' g f A c := (hm.block g h.lt hs).trans h
theorem c0 (h : FrX w g f A c) : w.cell? ⟨g, 0, none⟩ = some (.int .u16 (f.epoch : Int)) := by rw [cell_of_row w g 0 _ _ _ h]; rfl
theorem c1 (h : FrX w g f A c) : w.cell? ⟨g, 1, none⟩ = some (.int .u16 (f.seq : Int)) := by rw [cell_of_row w g 1 _ _ _ h]; rfl
theorem c2 (h : FrX w g f A c) : w.cell? ⟨g, 2, none⟩ = some (.int .u16 (f.next : Int)) := by rw [cell_of_row w g 2 _ _ _ h]; rfl
theorem c3 (h : FrX w g f A c) : w.cell? ⟨g, 3, none⟩ = some (.int .u32 (f.bits : Int)) := by rw [cell_of_row w g 3 _ _ _ h]; rfl
theorem c4 (h : FrX w g f A c) : w.cell? ⟨g, 4, none⟩ = some (.bool f.first) := by rw [cell_of_row w g 4 _ _ _ h]; rfl
theorem c5 (h : FrX w g f A c) : w.cell? ⟨g, 5, none⟩ = some (.bool f.last) := by rw [cell_of_row w g 5 _ _ _ h]; rfl
theorem c6 (h : FrX w g f A c) : w.cell? ⟨g, 6, none⟩ = some (.bool f.alone) := by rw [cell_of_row w g 6 _ _ _ h]; rfl
theorem c7 (h : FrX w g f A c) : w.cell? ⟨g, 7, none⟩ = some (.slice A f.data.length c) := by rw [cell_of_row w g 7 _ _ _ h]; rfl
end FrX
/-- Was it answered? -/
def gone (f : Fr) (x : Fl) : Bool := hasN f.next f.bits x.seq
set_option maxHeartbeats 4000000 in
set_option maxRecDepth 20000 in
theorem Gone_calls (gf : Nat) (f : Fr) (A : Option Addr) (c : Nat) (y : Fl) (w : World) (hf : FrX w gf f A c) (ho : f.Ok) (hs : y.seq < 65536) :
    Calls Tryd.prog 38 #[.agg #[.bool y.p.p.first, .bool y.p.p.last, .slice y.p.A y.p.p.data.length y.p.c, .int .u16 (y.seq : Int), .bool y.sent, .int .i64 y.at_], .pointer (some ⟨gf, 0, none⟩)] w fun e w' => e = .returned (.bool (gone f y)) ∧ Below w.heap.size w w' := by
  have hb := below_alloc1 w (.cells y.cells.toArray 98)
  have hg := heap_alloc_new w (.cells y.cells.toArray 98)
  have d3 : (w.alloc (.cells y.cells.toArray 98)).cell? ⟨w.heap.size, 3, none⟩ = some (.int .u16 (y.seq : Int)) := by rw [cell_of_row _ _ _ _ _ _ hg]; rfl
  have f2 := (hf.ext hb).c2
  have f3 := (hf.ext hb).c3
  have hH := fun W => Has_calls f.next f.bits y.seq W ho.n ho.b hs
  obtain ⟨z, hz⟩ : ∃ z, z = gone f y := ⟨_, rfl⟩
  rw [show hasN f.next f.bits y.seq = z from hz.symm] at hH
  rw [← hz]
  have HB := Lib.hid hb
  clear hz hf hb hg
  go_enter Tryd.func38, Tryd.ntmps38
  go_wp2_with fail
  refine (hH _).mono ?_
  rintro e w1 ⟨rfl, hb1⟩
  go_wp2_with fail
  go_ret
  exact ⟨rfl, HB.out.trans (hb1.mono HB.out.size)⟩
/-- The first that was answered; none: -1. -/
structure IdxR (f : Fr) (xs : List Fl) (r : Int) : Prop where
  out : (r = -1 ∧ ∀ x ∈ xs, gone f x = false) ∨ ∃ k : Nat, r = k ∧ k < xs.length ∧ (∀ x ∈ xs.take k, gone f x = false) ∧ ∀ h : k < xs.length, gone f xs[k] = true
set_option maxHeartbeats 8000000 in
set_option maxRecDepth 20000 in
theorem Index_calls (gf : Nat) (f : Fr) (Af : Option Addr) (cf : Nat) (A : Option Addr) (xs : List Fl) (n c b : Nat) (w : World) (hf : FrX w gf f Af cf) (ho : f.Ok) (hx : ∀ x ∈ xs, x.seq < 65536) (hs : Sl w b A (fvs xs)) (hn : xs.length = n) (hm : n ≤ 1000000) :
    Calls Tryd.prog 69 #[.slice A n c, .func (.func 38) #[] #[.pointer (some ⟨gf, 0, none⟩)]] w fun e w' => ∃ r, e = .returned (.int .i64 r) ∧ IdxR f xs r ∧ Below w.heap.size w w' := by
  have HN := Lib.hid hn
  have HSX := Lib.hid hx
  clear hn hx
  go_enter Tryd.func69, Tryd.ntmps69
  go_wp2_with fail
  go_loopw [8] (fun i wr => ∃ k : Nat, k ≤ n ∧ i = .int .i64 k ∧ Hid (∀ x ∈ xs.take k, gone f x = false) ∧ Below w.heap.size w wr) (fun i _ => n - (intOf i).toNat)
  case atStart => exact ⟨0, Nat.zero_le _, rfl, Lib.hid (by simp), Below.refl _ _⟩
  case round =>
    obtain ⟨k, hk, rfl, hno, hb⟩ := hrel
    by_cases hlt : k < n
    · have hkl : k < xs.length := by rw [HN.out]; exact hlt
      obtain ⟨oa, rfl, hca⟩ := (Sl.ext hs hb) (by intro h0; have := fvs_length xs; rw [h0] at this; simp at this; omega)
      have c0 := hca (k * 6 + 0) _ (fvs_at xs k hkl 0 (by omega))
      rw [Nat.add_zero] at c0
      have c1 := hca (k * 6 + 1) _ (fvs_at xs k hkl 1 (by omega))
      rw [← Nat.add_assoc] at c1
      have c2 := hca (k * 6 + 2) _ (fvs_at xs k hkl 2 (by omega))
      rw [← Nat.add_assoc] at c2
      have c3 := hca (k * 6 + 3) _ (fvs_at xs k hkl 3 (by omega))
      rw [← Nat.add_assoc] at c3
      have c4 := hca (k * 6 + 4) _ (fvs_at xs k hkl 4 (by omega))
      rw [← Nat.add_assoc] at c4
      have c5 := hca (k * 6 + 5) _ (fvs_at xs k hkl 5 (by omega))
      rw [← Nat.add_assoc] at c5
      have hsq := HSX.out xs[k] (List.getElem_mem _)
      obtain ⟨y, hy⟩ : ∃ y, y = xs[k] := ⟨_, rfl⟩
      rw [← hy] at c0 c1 c2 c3 c4 c5 hsq
      have hG := fun W h => Gone_calls gf f Af cf y W h ho hsq
      have HX := Lib.hid hy
      have HFW := Lib.hid (hf.ext hb)
      clear hca hy
      by_cases h0 : gone f y = true
      · have H0 := Lib.hid h0
        go_wp2_with fail
        refine (hG _ HFW.out).mono ?_
        rintro e w2 ⟨rfl, hb2⟩
        rw [H0.out]
        clear hG
        go_wp2_with fail
        go_ret
        exact ⟨_, rfl, ⟨.inr ⟨k, rfl, hkl, hno.out, fun _ => by rw [← HX.out]; exact H0.out⟩⟩, hb.trans (hb2.mono hb.size)⟩
      · have h1 : gone f y = false := by simpa using h0
        have H0 := Lib.hid h1
        clear h0 h1
        go_wp2_with fail
        refine (hG _ HFW.out).mono ?_
        rintro e w2 ⟨rfl, hb2⟩
        rw [H0.out]
        clear hG
        go_wp2_with fail
        go_roundw
        case rel => exact ⟨k + 1, by omega, by go_num, Lib.hid (fun z hz => by
            rw [List.take_succ_eq_append_getElem hkl] at hz
            rcases List.mem_append.1 hz with hz | hz
            · exact hno.out z hz
            · rw [List.mem_singleton] at hz
              rw [hz, ← HX.out]
              exact H0.out), hb.trans (hb2.mono hb.size)⟩
        case measure => simp [intOf]; omega
    · obtain rfl : k = n := by omega
      go_wp2_with fail
      go_ret
      exact ⟨_, rfl, ⟨.inl ⟨rfl, fun x hx => hno.out x (by rw [List.take_of_length_le (by rw [HN.out]; exact Nat.le_refl _)]; exact hx)⟩⟩, hb⟩
def flz : Fl := ⟨⟨⟨false, false, []⟩, none, 0, 0⟩, 0, false, 0⟩
abbrev zc : Array Value := #[.bool false, .bool false, .slice none 0 0, .int .u16 0, .bool false, .int .i64 0]
theorem fvs_flz (n : Nat) : (Builtin.zeroCells (Value.agg zc).cells n).toList = fvs (List.replicate n flz) := by
  have h1 : (fvs (List.replicate n flz)).length = n * 6 := by rw [fvs_length]; simp
  apply List.ext_getElem (by rw [h1]; simp [Builtin.zeroCells, Value.cells])
  intro j h2 h3
  have hj : j < n * 6 := by rw [← h1]; exact h3
  have := fvs_at (List.replicate n flz) (j / 6) (by simp; omega) (j % 6) (by omega)
  rw [show j / 6 * 6 + j % 6 = j by omega, List.getElem?_eq_getElem h3] at this
  simp only [List.getElem_replicate] at this
  have e : j % 6 = 0 ∨ j % 6 = 1 ∨ j % 6 = 2 ∨ j % 6 = 3 ∨ j % 6 = 4 ∨ j % 6 = 5 := by omega
  have hq : ((Builtin.zeroCells (Value.agg zc).cells n).toList)[j]? = some ((zc)[j % 6]!) := by
    simp [Builtin.zeroCells, Value.cells, hj]
  rw [List.getElem?_eq_getElem h2] at hq
  injection hq with hq
  rw [hq]
  rcases e with e | e | e | e | e | e <;> (rw [e] at this; replace this := Option.some.inj this; rw [this, e]; rfl)
theorem flight_zero (w : World) : (zeroValue 98).run Tryd.prog w = .ok (.agg zc) w := by kernel_rfl
theorem run_clearF (w : World) (ty : TypeId) (b o c n : Nat) (hc : ∀ j, j < n * 6 → (w.cell? ⟨b, o + j, none⟩).isSome = true) (hf : ∀ j, j < n * 6 → w.frozen? ⟨b, o + j, none⟩ = false) :
    (Builtin.clear_ #[83] ty #[.slice (some ⟨b, o, none⟩) n c]).run Tryd.prog w = .ok (.tuple #[]) (w.setCells b o (fvs (List.replicate n flz))) := by
  cases n with
  | zero => simp [Builtin.clear_, run_underlying Tryd.underlying83 , fvs, World.setCells]
  | succ n =>
    have hst := run_storeCells_cells (P := Tryd.prog) b o (fvs (List.replicate (n + 1) flz)) 0 w (by rw [fvs_length]; simpa using hc) (by rw [fvs_length]; simpa using hf) (fvs_one _)
    simp only [Nat.add_zero] at hst
    have hz0 : (zeroValue 98).run Tryd.prog w = .ok (.agg zc) w := flight_zero w
    simp [Builtin.clear_, run_underlying Tryd.underlying83 , hz0, fvs_flz, hst]
/-- Those that weren't answered. -/
def keptF (f : Fr) (xs : List Fl) : List Fl := xs.filter fun x => !gone f x
theorem kept_none {f : Fr} {xs : List Fl} (h : ∀ x ∈ xs, gone f x = false) : keptF f xs = xs := List.filter_eq_self.2 fun x hx => by rw [h x hx]; rfl
theorem kept_next {f : Fr} {xs : List Fl} {k : Nat} (hk : k < xs.length) (b : Bool) (hb : gone f xs[k] = b) : keptF f (xs.take (k + 1)) = keptF f (xs.take k) ++ (if b then [] else [xs[k]]) := by
  rw [List.take_succ_eq_append_getElem hk, keptF, List.filter_append]
  congr 1
  cases b
  · rw [List.filter_cons, hb]; rfl
  · rw [List.filter_cons, hb]; rfl
/-- A DeleteFunc's round: the first I of ys are those kept of the first J of xs; from J on ys is xs. -/
structure DelAt (f : Fr) (xs ys : List Fl) (I J : Nat) : Prop where
  len : ys.length = xs.length
  lt : I < J
  le : J ≤ xs.length
  kept : ys.take I = keptF f (xs.take J)
  rest : ys.drop J = xs.drop J
theorem DelAt.start {f : Fr} {xs : List Fl} {k : Nat} (hk : k < xs.length) (hno : ∀ x ∈ xs.take k, gone f x = false) (h0 : gone f xs[k] = true) : DelAt f xs xs k (k + 1) :=
  ⟨rfl, by omega, by omega, by rw [kept_next hk true h0, kept_none hno]; simp, rfl⟩
theorem DelAt.get {f : Fr} {xs ys : List Fl} {I J : Nat} (h : DelAt f xs ys I J) (hj : J < xs.length) : ys[J]'(by rw [h.len]; exact hj) = xs[J] := by
  have h1 := congrArg (fun l => l[0]?) h.rest
  simp only [List.getElem?_drop, Nat.add_zero] at h1
  rw [List.getElem?_eq_getElem hj, List.getElem?_eq_getElem (by rw [h.len]; exact hj)] at h1
  exact Option.some.inj h1
theorem DelAt.skip {f : Fr} {xs ys : List Fl} {I J : Nat} (h : DelAt f xs ys I J) (hj : J < xs.length) (h0 : gone f xs[J] = true) : DelAt f xs ys I (J + 1) :=
  ⟨h.len, by have := h.lt; omega, hj, by rw [kept_next hj true h0, h.kept]; simp, by
    have := congrArg (List.drop 1) h.rest
    rwa [List.drop_drop, List.drop_drop] at this⟩
theorem DelAt.move {f : Fr} {xs ys : List Fl} {I J : Nat} (h : DelAt f xs ys I J) (hj : J < xs.length) (h0 : gone f xs[J] = false) : DelAt f xs (ys.set I xs[J]) (I + 1) (J + 1) :=
  ⟨by rw [List.length_set]; exact h.len, by have := h.lt; omega, hj, by
    have hI : I < ys.length := by have := h.lt; rw [h.len]; omega
    rw [kept_next hj false h0, ← h.kept, List.take_succ_eq_append_getElem (by rw [List.length_set]; exact hI), List.getElem_set_self, List.take_set_of_le (Nat.le_refl _)]
    rfl, by
    have := congrArg (List.drop 1) h.rest
    rw [List.drop_drop, List.drop_drop] at this
    rw [List.drop_set_of_lt (by have := h.lt; omega)]
    exact this⟩
set_option maxHeartbeats 8000000 in
set_option maxRecDepth 20000 in
theorem DeleteF_calls (gf : Nat) (f : Fr) (Af : Option Addr) (cf : Nat) (B : Nat) (v : Value) (xs : List Fl) (w : World) (hf : FrX w gf f Af cf) (ho : f.Ok) (hx : ∀ x ∈ xs, x.seq < 65536) (hr : RowF w B v xs) (hm : xs.length ≤ 1000000) :
    Calls Tryd.prog 37 #[v, .func (.func 38) #[] #[.pointer (some ⟨gf, 0, none⟩)]] w fun e w' => ∃ v', e = .returned v' ∧ RowF w' B v' (keptF f xs) ∧ v'.ownBlock = v.ownBlock ∧ Mod (fun i => v.ownBlock = some i) w w' := by
  obtain ⟨A0, c0, b0, hv0, hc0, hcm, -, hB0, hsl, -⟩ := ownsP_sl hr
  have hgf : v.ownBlock ≠ some gf := row_apart hr hf (by decide)
  obtain ⟨n, hn⟩ : ∃ n, n = xs.length := ⟨_, rfl⟩
  rw [← hn] at hv0 hc0 hm
  subst hv0
  have hI := Index_calls gf f Af cf A0 xs n c0 b0 w hf ho hx hsl hn.symm hm
  have HN := Lib.hid hn
  have HSX := Lib.hid hx
  clear hn hsl hx
  go_enter Tryd.func37, Tryd.ntmps37
  go_wp2_with fail
  refine hI.mono ?_
  rintro e w1 ⟨r, rfl, ⟨hidx⟩, hb1⟩
  have hr1 := ownsP_ext hr hb1
  have hf1 := hf.ext hb1
  have hm1 : Mod (fun i => (Value.slice A0 n c0).ownBlock = some i) w w1 := (Mod.of_below hb1).mono (fun i hi h => absurd hi (by omega))
  rcases hidx with ⟨rfl, hno⟩ | ⟨k, rfl, hk, hno, h0⟩
  · have hkk := Lib.hid (kept_none hno)
    clear hno hr hb1 hf hf1 hgf hI
    go_wp2_with fail
    go_ret
    exact ⟨_, rfl, by rw [hkk.out]; exact hr1, rfl, hm1⟩
  · have hk1 : ((k : Int) == -1) = false := by first | (simp; done) | (simp; omega)
    have hkn : k < n := by rw [HN.out]; exact hk
    have hst := DelAt.start hk hno (h0 hk)
    obtain ⟨g, cap, hv, hcap, hBg, hgl, hob, -, hfz⟩ := RowF.at_ hr1 hk
    rw [← HN.out] at hv hcap
    injection hv with hv e1 e2
    subst hv
    clear e1
    subst e2
    have hg1 : (Value.slice (some ⟨g, 0, none⟩) n c0).ownBlock = some g := rfl
    have hne : ¬ gf = g := fun e => hgf (by rw [e]; rfl)
    have HST := Lib.hid hst
    have HF := Lib.hid hf
    clear h0 hno hst hr hb1 hfz hob hI hf
    go_wp2_with fail
    go_loopw [5, 6] (fun i j wr => ∃ (I J : Nat) (ys : List Fl), i = .int .i64 I ∧ j = .int .i64 J ∧ I < J ∧ J ≤ n ∧ DelAt f xs ys I J ∧ RowF wr B (.slice (some ⟨g, 0, none⟩) n c0) ys ∧ Mod (fun i => (Value.slice (some ⟨g, 0, none⟩) n c0).ownBlock = some i) w wr) (fun _ j _ => n - (intOf j).toNat)
    case atStart => exact ⟨k, k + 1, xs, rfl, rfl, by omega, by omega, HST.out, hr1, hm1⟩
    case round =>
      obtain ⟨I, J, ys, rfl, rfl, hIJ, hJn, hd, hry, hmy⟩ := hrel
      have hnn := HN.out
      have hly := hd.len
      clear hf1
      by_cases hlt : J < n
      · have hJx : J < xs.length := by omega
        have hJy : J < ys.length := by omega
        have hIy : I < ys.length := by omega
        obtain ⟨g', cap', hv', -, -, hgl2, -, hcell, hfz⟩ := RowF.at_ hry hJy
        injection hv' with hv' e1 e2
        injection hv' with hv'
        injection hv' with hv'
        subst hv'
        clear e1 e2 cap'
        have hgx := hd.get hJx
        rw [hgx] at hcell
        have hsq := HSX.out xs[J] (List.getElem_mem _)
        have hsk := fun h => hd.skip hJx h
        have hmv := fun h => hd.move hJx h
        obtain ⟨y, hy⟩ : ∃ y, y = xs[J] := ⟨_, rfl⟩
        rw [← hy] at hcell hsk hmv hsq
        have c0' := hcell 0 _ (by omega) rfl
        have c1' := hcell 1 _ (by omega) rfl
        have c2' := hcell 2 _ (by omega) rfl
        have c3' := hcell 3 _ (by omega) rfl
        have c4' := hcell 4 _ (by omega) rfl
        have c5' := hcell 5 _ (by omega) rfl
        rw [Nat.add_zero] at c0'
        clear hcell
        have ha := below_alloc1 wr (.cells y.cells.toArray 98)
        have hfa := (HF.out.mod hmy (fun h => hne (by injection h with h; exact h.symm))).ext ha
        have hra := ownsP_ext hry ha
        have hga := heap_alloc_new wr (.cells y.cells.toArray 98)
        have hmA : Mod (fun i => (Value.slice (some ⟨g, 0, none⟩) n c0).ownBlock = some i) w (wr.alloc (.cells y.cells.toArray 98)) := hmy.trans (Mod.alloc (fun _ => False) wr _) (fun i hi h => h) (fun i hi h => h.elim)
        have hG := fun W h => Gone_calls gf f Af cf y W h ho hsq
        have HFA := Lib.hid hfa
        by_cases h0 : gone f y = true
        · have H0 := Lib.hid h0
          have HSK := Lib.hid (hsk h0)
          clear hgx hsk hmv hy hd hr1 hm1 h0 hga hfz hly hnn hfa
          have HRA := Lib.hid hra
          have HMA := Lib.hid hmA
          clear hra hmA hry hmy ha
          go_wp2_with fail
          refine (hG _ HFA.out).mono ?_
          rintro e w2 ⟨rfl, hb2⟩
          rw [H0.out]
          have HR2 := Lib.hid (ownsP_ext HRA.out hb2)
          have HM2 : Hid (Mod (fun i => (Value.slice (some ⟨g, 0, none⟩) n c0).ownBlock = some i) w w2) := Lib.hid (HMA.out.trans (Mod.of_below hb2) (fun i hi h => h) (fun i hi h => by have := HMA.out.size; have := h; simp at *; omega))
          clear hb2 hG
          go_wp2_with fail
          go_roundw
          case rel => exact ⟨I, J + 1, ys, rfl, by go_num, by omega, by omega, HSK.out, HR2.out, HM2.out⟩
          case measure => simp [intOf]; omega
        · have h1 : gone f y = false := by simpa using h0
          have H0 := Lib.hid h1
          have HMV := Lib.hid (hmv h1)
          clear hgx hsk hmv hy hd hr1 hm1 h0 h1 hfz hly hnn hfa
          have HRA := Lib.hid hra
          have HMA := Lib.hid hmA
          have HGA := Lib.hid hga
          clear hra hmA hry hmy ha hga
          go_wp2_with fail
          refine (hG _ HFA.out).mono ?_
          rintro e w2 ⟨rfl, hb2⟩
          rw [H0.out]
          have hr2 := ownsP_ext HRA.out hb2
          have hg2 := (hb2.block wr.heap.size (by simp)).trans HGA.out
          have d0 : w2.cell? ⟨wr.heap.size, 0, none⟩ = some (.bool y.p.p.first) := by rw [cell_of_row _ _ _ _ _ _ hg2]; rfl
          have d1 : w2.cell? ⟨wr.heap.size, 1, none⟩ = some (.bool y.p.p.last) := by rw [cell_of_row _ _ _ _ _ _ hg2]; rfl
          have d2 : w2.cell? ⟨wr.heap.size, 2, none⟩ = some (.slice y.p.A y.p.p.data.length y.p.c) := by rw [cell_of_row _ _ _ _ _ _ hg2]; rfl
          have d3 : w2.cell? ⟨wr.heap.size, 3, none⟩ = some (.int .u16 (y.seq : Int)) := by rw [cell_of_row _ _ _ _ _ _ hg2]; rfl
          have d4 : w2.cell? ⟨wr.heap.size, 4, none⟩ = some (.bool y.sent) := by rw [cell_of_row _ _ _ _ _ _ hg2]; rfl
          have d5 : w2.cell? ⟨wr.heap.size, 5, none⟩ = some (.int .i64 y.at_) := by rw [cell_of_row _ _ _ _ _ _ hg2]; rfl
          obtain ⟨g', cap', hv', -, -, hgl3, -, hcell, hfz⟩ := RowF.at_ hr2 hIy
          injection hv' with hv' e1 e2
          injection hv' with hv'
          injection hv' with hv'
          subst hv'
          clear e1 e2 cap'
          have e0 := hcell 0 _ (by omega) rfl
          have e1 := hcell 1 _ (by omega) rfl
          have e2 := hcell 2 _ (by omega) rfl
          have e3 := hcell 3 _ (by omega) rfl
          have e4 := hcell 4 _ (by omega) rfl
          have e5 := hcell 5 _ (by omega) rfl
          rw [Nat.add_zero] at e0
          have z0 := hfz (I * 6)
          have z1 := hfz (I * 6 + 1)
          have z2 := hfz (I * 6 + 2)
          have z3 := hfz (I * 6 + 3)
          have z4 := hfz (I * 6 + 4)
          have z5 := hfz (I * 6 + 5)
          clear hcell
          have HR3 := Lib.hid (RowF.set_ hr2 hIy y)
          have HM2 : Hid (Mod (fun i => (Value.slice (some ⟨g, 0, none⟩) n c0).ownBlock = some i) w w2) := Lib.hid (HMA.out.trans (Mod.of_below hb2) (fun i hi h => h) (fun i hi h => by have := HMA.out.size; have := h; simp at *; omega))
          have HM3 : Hid (Mod (fun i => (Value.slice (some ⟨g, 0, none⟩) n c0).ownBlock = some i) w (((((((w2).setCell ⟨g, I * 6, none⟩ (.bool y.p.p.first)).setCell ⟨g, I * 6 + 1, none⟩ (.bool y.p.p.last)).setCell ⟨g, I * 6 + 2, none⟩ (.slice y.p.A y.p.p.data.length y.p.c)).setCell ⟨g, I * 6 + 3, none⟩ (.int .u16 (y.seq : Int))).setCell ⟨g, I * 6 + 4, none⟩ (.bool y.sent)).setCell ⟨g, I * 6 + 5, none⟩ (.int .i64 y.at_))) := Lib.hid (HM2.out.trans (Mod.trans (S := fun i => i = g) (Mod.trans (S := fun i => i = g) (Mod.trans (S := fun i => i = g) (Mod.trans (S := fun i => i = g) (Mod.trans (S := fun i => i = g) (Mod.setCell w2 ⟨g, I * 6, none⟩ (.bool y.p.p.first)) (Mod.setCell _ ⟨g, I * 6 + 1, none⟩ (.bool y.p.p.last)) (fun _ _ h => h) (fun _ _ h => h)) (Mod.setCell _ ⟨g, I * 6 + 2, none⟩ (.slice y.p.A y.p.p.data.length y.p.c)) (fun _ _ h => h) (fun _ _ h => h)) (Mod.setCell _ ⟨g, I * 6 + 3, none⟩ (.int .u16 (y.seq : Int))) (fun _ _ h => h) (fun _ _ h => h)) (Mod.setCell _ ⟨g, I * 6 + 4, none⟩ (.bool y.sent)) (fun _ _ h => h) (fun _ _ h => h)) (Mod.setCell _ ⟨g, I * 6 + 5, none⟩ (.int .i64 y.at_)) (fun _ _ h => h) (fun _ _ h => h)) (fun i hi h => h) (fun i hi h => by rw [show i = g from h]; rfl))
          clear hb2 hr2 hg2 hfz HM2 hG
          go_wp2_with fail
          go_roundw
          case rel => exact ⟨I + 1, J + 1, ys.set I y, by go_num, by go_num, by omega, by omega, HMV.out, HR3.out, HM3.out⟩
          case measure => simp [intOf]; omega
      · obtain rfl : J = n := by omega
        have hIle : I ≤ ys.length := by omega
        obtain ⟨cur, hh, hcsz⟩ : ∃ cur, wr.heap[g]? = some (.cells cur 98 (0, 0)) ∧ cur.size = c0 * 6 := by
          rcases hry.2 with ⟨h1, _⟩ | ⟨g', cap', cur, h1, _, h2, _, _, h3, _⟩
          · cases h1
          · injection h1 with h1 e1 e2
            injection h1 with h1
            injection h1 with h1
            subst h1 e2
            exact ⟨cur, h2, h3⟩
        obtain ⟨m, hm9⟩ : ∃ m, m = J - I := ⟨_, rfl⟩
        have f1 : (I : Int) ≤ (J : Int) := by omega
        have f2 : (J : Int) ≤ (c0 : Int) := by omega
        have f2' : (I : Int) ≤ (c0 : Int) := by omega
        have f3 : ¬ c0 = I := by omega
        have f4 : J - I = m := hm9.symm
        have hcc : ∀ j, j < m * 6 → (World.cell? wr ⟨g, I * 6 + j, none⟩).isSome = true := fun j hj => by
          rw [cell_of_row wr g _ _ _ _ hh, Array.getElem?_eq_getElem (by omega)]
          rfl
        have hff : ∀ j, j < m * 6 → World.frozen? wr ⟨g, I * 6 + j, none⟩ = false := fun j _ => frozen_of_row wr g _ _ _ hh
        have hcl := fun ty => run_clearF wr ty g (I * 6) (c0 - I) m hcc hff
        have hx2 := setCells_heap g (fvs (List.replicate m flz)) (I * 6) wr cur.toList 98 (by simpa using hh) (by rw [fvs_length]; simp; omega)
        have hm2 := mod_setCells wr g (I * 6) (fvs (List.replicate m flz))
        have hcut := RowF.cut hry I hIle _ hx2 (fun cur' hc => by
          rw [hh] at hc
          injection hc with hc
          injection hc with hc
          subst hc
          constructor
          · simp [fvs_length]; omega
          · simp only [List.append_assoc]
            rw [List.take_append_of_le_length (by simp; omega), List.take_take, Nat.min_self])
        have HCUT : Hid (RowF (wr.setCells g (I * 6) (fvs (List.replicate m flz))) B (.slice (some ⟨g, 0, none⟩) I c0) (keptF f xs)) := Lib.hid (by
          have h1 := hd.kept
          rw [List.take_of_length_le (l := xs) (by omega)] at h1
          rw [← h1]
          exact hcut)
        have HM2 : Hid (Mod (fun i => (Value.slice (some ⟨g, 0, none⟩) J c0).ownBlock = some i) w (wr.setCells g (I * 6) (fvs (List.replicate m flz)))) := Lib.hid (hmy.trans hm2 (fun i hi h => h) (fun i hi h => by rw [show i = g from h]; rfl))
        clear hcc hff hx2 hm2 hcut hry hmy hd hh hr1 hm1 hm9 hnn hly
        go_wp2_with fail
        go_ret
        exact ⟨_, rfl, HCUT.out, rfl, HM2.out⟩
end Go.Proofs.YtcgbamkfflcdfaaDoor
/- Rows of lists of bytes: append of one that lies in a new block of its own. Conditions: the lengths fit. -/
namespace Go.Proofs.YtcgbamkfflcdfaaDoor
open Go.RowKit

theorem slice_info : (Tryd.prog.info? 31).map (fun i => (i.zero, i.size, i.bytes)) = some (some (.slice none 0 0), 1, 24) := by kernel_rfl

/-- Slices in a slice of the call's own. -/
abbrev RowS (w : World) (B : Nat) (v : Value) (us : List Value) : Prop := w.ownsRow B 31 1 v us.length us
theorem own_apartS {w : World} {B1 B2 s1 s2 n1 n2 k : Nat} {e1 e2 : TypeId} {v1 v2 : Value} {x1 x2 : List Value} (h1 : w.ownsRow B1 e1 s1 v1 n1 x1) (h2 : w.ownsRow B2 e2 s2 v2 n2 x2) (hne : e1 ≠ e2) (hk : v1.ownBlock = some k) : v2.ownBlock ≠ some k := by
  intro hk2
  rcases h1.2 with ⟨rfl, _⟩ | ⟨g1, c1, cur1, rfl, _, hh1, _⟩
  · cases hk
  · rcases h2.2 with ⟨rfl, _⟩ | ⟨g2, c2, cur2, rfl, _, hh2, _⟩
    · cases hk2
    · simp only [Value.ownBlock, Option.some.injEq] at hk hk2
      subst hk
      subst hk2
      rw [hh1] at hh2
      injection hh2 with hh2
      injection hh2 with _ hh2 _
      exact hne hh2
theorem RowS.nil_ (w : World) (B : Nat) : RowS w B (.slice none 0 0) [] := World.ownsRow_nil _ _ _ _
theorem RowS.mod {w w' : World} {B : Nat} {v : Value} {us : List Value} (h : RowS w B v us) {S : Nat → Prop} (hm : Mod S w w') (hs : ∀ k, v.ownBlock = some k → ¬ S k) : RowS w' B v us := by
  refine ⟨h.1, ?_⟩
  rcases h.2 with h2 | ⟨g, cap, cur, rfl, hg, hh, r⟩
  · exact .inl h2
  · exact .inr ⟨g, cap, cur, rfl, hg, by rw [hm.block g (Array.getElem?_eq_some_iff.1 hh).1 (hs g rfl)]; exact hh, r⟩
theorem RowS.ext {w w' : World} {B : Nat} {v : Value} {us : List Value} (h : RowS w B v us) (hm : Below w.heap.size w w') : RowS w' B v us :=
  h.mod (Mod.of_below hm) fun k hk => by have := (World.ownsRow.lt h k hk).2; omega
theorem RowS.sl {w : World} {B : Nat} {v : Value} {us : List Value} (h : RowS w B v us) : ∃ A c b, v = .slice A us.length c ∧ us.length ≤ c ∧ c ≤ maxLen ∧ B ≤ b ∧ Sl w b A us ∧ (∀ k, v.ownBlock = some k → k = b) := by
  rcases h.2 with ⟨rfl, hn⟩ | ⟨g, cap, cur, rfl, hb, _, hnc, hcm, _⟩
  · have hl : us = [] := List.eq_nil_of_length_eq_zero hn
    subst hl
    exact ⟨none, 0, B, rfl, Nat.le_refl _, by simp [maxLen], Nat.le_refl _, Sl.nil_ _ _ _, by simp [Value.ownBlock]⟩
  · refine ⟨_, cap, g, rfl, hnc, hcm, hb, fun _ => ⟨0, rfl, fun j u hu => ?_⟩, by simp [Value.ownBlock]⟩
    have := h.cells (g := g) rfl j u hu
    simpa [Addr.add_lit] using this
/-- Lists of bytes of the call's own, each in a row of its own. -/
def RowsIn (w : World) (B : Nat) (us : List Value) (ls : List (List UInt8)) : Prop :=
  us.length = ls.length ∧ ∀ (i : Nat) (l : List UInt8), ls[i]? = some l → ∃ u, us[i]? = some u ∧ Row w B u l
theorem RowsIn.nil_ (w : World) (B : Nat) : RowsIn w B [] [] := ⟨rfl, fun i l h => by simp at h⟩
theorem RowsIn.ext {w w' : World} {B : Nat} {us : List Value} {ls : List (List UInt8)} (h : RowsIn w B us ls) (hm : Below w.heap.size w w') : RowsIn w' B us ls :=
  ⟨h.1, fun i l hl => by obtain ⟨u, h1, h2⟩ := h.2 i l hl; exact ⟨u, h1, h2.ext hm⟩⟩
theorem RowsIn.snoc {w : World} {B : Nat} {us : List Value} {ls : List (List UInt8)} {u : Value} {l : List UInt8} (h : RowsIn w B us ls) (hu : Row w B u l) : RowsIn w B (us ++ [u]) (ls ++ [l]) :=
  ⟨by simp [h.1], fun i x hx => by
    by_cases hi : i < ls.length
    · rw [List.getElem?_append_left hi] at hx
      obtain ⟨y, h1, h2⟩ := h.2 i x hx
      exact ⟨y, by rw [List.getElem?_append_left (by rw [h.1]; exact hi)]; exact h1, h2⟩
    · have h9 := (List.getElem?_eq_some_iff.1 hx).1
      simp at h9
      have hi2 : i = ls.length := by omega
      subst hi2
      rw [List.getElem?_append_right (Nat.le_refl _)] at hx
      simp at hx
      subst hx
      exact ⟨u, by rw [List.getElem?_append_right (by rw [h.1]; exact Nat.le_refl _)]; simp [h.1], hu⟩⟩
/-- Behind an append to a row of slices: what lies in rows of bytes is as it was. -/
theorem RowsIn.mod {w w' : World} {B B2 : Nat} {v : Value} {us vs : List Value} {ls : List (List UInt8)} (h : RowsIn w B us ls) (hv : RowS w B2 v vs) (hm : Mod (fun i => v.ownBlock = some i) w w') : RowsIn w' B us ls :=
  ⟨h.1, fun i l hl => by
    obtain ⟨u, h1, h2⟩ := h.2 i l hl
    exact ⟨u, h1, h2.mod hm fun k hk => own_apartS h2 hv (by decide) hk⟩⟩
theorem RowsIn.bss {w : World} {B : Nat} {us : List Value} {ls : List (List UInt8)} (h : RowsIn w B us ls) : Bss w us ls :=
  ⟨h.1, fun i l hl => by
    obtain ⟨u, h1, h2⟩ := h.2 i l hl
    obtain ⟨A, c, b, rfl, _, _, _, _, hs, _⟩ := h2.sl
    exact ⟨A, c, b, h1, hs⟩⟩

section
variable (w : World)
/-- append(out, x) of one slice, which lies in a new block of its own. -/
theorem wpList_appS {u : Value} {ops : Array Oper} {rest : List Oper} {o : Oper} {a : Act} {Q : Exit → Act → World → Prop} (hgd : o.guard = none) (s x : Operand)
    (ho : o.op = .call { callee := .builtin .append, args := #[s, x], argTypes := #[28, 28] })
    (B : Nat) (v : Value) (us : List Value) (hs : a.eval s = v) (hown : RowS w B v us)
    (hu : u.oneCell' = true) (hx : a.eval x = .slice (some ⟨w.heap.size, 0, none⟩) 1 1)
    (hlen : us.length + 1 ≤ 1000000) (hbase : B ≤ w.heap.size)
    (h : ∀ v' w', RowS w' B v' (us ++ [u]) → Mod (fun i => v.ownBlock = some i) w w' → (v'.ownBlock = v.ownBlock ∨ ∃ k, v'.ownBlock = some k ∧ w.heap.size ≤ k) → wpList Tryd.prog ops Q rest (a.put o.dst v') w') : wpList Tryd.prog ops Q (o :: rest) a (w.alloc (.cells #[u] 31)) := by
  obtain ⟨i0, hi0, hz0, hz1, hz2⟩ := info_parts slice_info
  refine wpList_append_sl (P := Tryd.prog) (w.alloc (.cells #[u] 31)) hgd s x _ ho B 31 i0 _ 1 24 Tryd.underlying28 hi0 hz0 hz1 hz2 rfl (by omega) v us.length us hs (World.ownsRow.alloc hown _) w.heap.size _ 1 1 [u] hx
    (Sl.one_new w _ _) rfl (fun h => by cases h) (by simpa using hu) (by simp only [maxLen]; omega) (by omega) (by simp; omega) ?_
  intro v' w' h1 h2 h3
  refine h v' w' ?_ ((Mod.alloc (fun _ => False) w _).trans (Mod.of_grown h2) (fun i _ h => h.elim) (fun i _ h => h)) (h3.imp id fun h => ⟨_, h, by simp⟩)
  unfold RowS
  rw [List.length_append]
  exact h1
end
end Go.Proofs.YtcgbamkfflcdfaaDoor
/- What a link's calls turn, told by types. No condition: plain lemmas. -/
namespace Go.Proofs.YtcgbamkfflcdfaaDoor
open Go.RowKit
set_option linter.unusedVariables false

/-- A slice that reads so, whose block holds that type. -/
def SlT (e : TypeId) (w : World) (b : Nat) (A : Option Addr) (xs : List Value) : Prop := Sl w b A xs ∧ (xs ≠ [] → ∃ cur fr, w.heap[b]? = some (.cells cur e fr))
theorem SlT.mod {e : TypeId} {w w' : World} {b : Nat} {A : Option Addr} {xs : List Value} (h : SlT e w b A xs) {S : Nat → Prop} (hm : Mod S w w') (hs : ∀ cur fr, w.heap[b]? = some (.cells cur e fr) → ¬ S b) : SlT e w' b A xs := by
  by_cases h0 : xs = []
  · subst h0; exact ⟨Sl.nil_ _ _ _, fun h => absurd rfl h⟩
  · obtain ⟨cur, fr, hc⟩ := h.2 h0
    have hb : w'.heap[b]? = w.heap[b]? := hm.block b (h.1.lt h0) (hs _ _ hc)
    exact ⟨h.1.keep (fun _ => hb), fun _ => ⟨cur, fr, hb.trans hc⟩⟩
theorem SlT.ext {e : TypeId} {w w' : World} {b : Nat} {A : Option Addr} {xs : List Value} (h : SlT e w b A xs) (hm : Below w.heap.size w w') : SlT e w' b A xs :=
  h.mod (Mod.of_below hm) (fun cur fr hc => by have := (Array.getElem?_eq_some_iff.1 hc).1; omega)
theorem SlT.nil_ (e : TypeId) (w : World) (b : Nat) (A : Option Addr) : SlT e w b A [] := ⟨Sl.nil_ _ _ _, fun h => absurd rfl h⟩
theorem SlT.of_own {w : World} {B n sz : Nat} {e : TypeId} {v : Value} {xs : List Value} (h : w.ownsRow B e sz v n xs) : ∃ A c b, v = .slice A n c ∧ n ≤ c ∧ c ≤ maxLen ∧ B ≤ b ∧ SlT e w b A xs ∧ (∀ k, v.ownBlock = some k → k = b) := by
  obtain ⟨A, c, b, rfl, h1, h2, -, h4, h5, h6⟩ := ownsP_sl h
  refine ⟨A, c, b, rfl, h1, h2, h4, ⟨h5, fun hne => ?_⟩, h6⟩
  rcases h.2 with ⟨hv, hn⟩ | ⟨g, cap, cur, hv, _, hh, _⟩
  · have hl := h.1
    rw [hn] at hl
    exact absurd (List.eq_nil_of_length_eq_zero (by omega)) hne
  · obtain rfl : g = b := h6 g (by rw [hv]; rfl)
    exact ⟨_, _, hh⟩
/-- Of what was there only blocks from B on that hold one of these types may have turned. -/
structure TMods (Ts : List TypeId) (B : Nat) (w w' : World) : Prop where
  bel : Below B w w'
  keep : ∀ (b : Nat) (cur : Array Value) (e : TypeId) (fr : Nat × Nat), w.heap[b]? = some (Obj.cells cur e fr) → e ∉ Ts → w'.heap[b]? = w.heap[b]?
namespace TMods
variable {Ts : List TypeId} {B : Nat} {w w' w2 : World}
theorem of_new (h : Below w.heap.size w w') (hB : B ≤ w.heap.size) : TMods Ts B w w' := ⟨h.mono hB, fun b cur e fr hc _ => h.block b (Array.getElem?_eq_some_iff.1 hc).1⟩
theorem refl (hB : B ≤ w.heap.size) : TMods Ts B w w := of_new (Below.refl _ _) hB
theorem trans (h : TMods Ts B w w') (k : TMods Ts B w' w2) : TMods Ts B w w2 :=
  ⟨h.bel.trans k.bel, fun b cur e fr hc h1 => by
    have h3 := h.keep b cur e fr hc h1
    exact (k.keep b cur e fr (h3.trans hc) h1).trans h3⟩
theorem slT (h : TMods Ts B w w') {e : TypeId} {b : Nat} {A : Option Addr} {xs : List Value} (hs : SlT e w b A xs) (h1 : e ∉ Ts) : SlT e w' b A xs := by
  by_cases h0 : xs = []
  · subst h0; exact SlT.nil_ _ _ _ _
  · obtain ⟨cur, fr, hc⟩ := hs.2 h0
    have hb := h.keep b cur e fr hc h1
    exact ⟨hs.1.keep (fun _ => hb), fun _ => ⟨cur, fr, hb.trans hc⟩⟩
theorem own (h : TMods Ts B w w') {C n sz : Nat} {e : TypeId} {v : Value} {xs : List Value} (hs : w.ownsRow C e sz v n xs) (h1 : e ∉ Ts) : w'.ownsRow C e sz v n xs := by
  refine ⟨hs.1, ?_⟩
  rcases hs.2 with h3 | ⟨g, cap, cur, rfl, hg, hh, r⟩
  · exact .inl h3
  · exact .inr ⟨g, cap, cur, rfl, hg, (h.keep g cur e _ hh h1).trans hh, r⟩
theorem inT (h : TMods Ts B w w') {x : PV} (hs : PV.InT w x) (h1 : 5 ∉ Ts) : PV.InT w' x := by
  refine ⟨⟨?_, hs.in_.2⟩, fun h0 => ?_⟩
  · by_cases h0 : x.p.data = []
    · rw [h0]; exact Sl.nil_ _ _ _
    · obtain ⟨cur, fr, hc⟩ := hs.typ h0
      exact hs.in_.1.keep (fun _ => h.keep _ cur _ fr hc h1)
  · obtain ⟨cur, fr, hc⟩ := hs.typ h0
    exact ⟨cur, fr, (h.keep _ cur _ fr hc h1).trans hc⟩
theorem rowsIn (h : TMods Ts B w w') {C : Nat} {us : List Value} {ls : List (List UInt8)} (hs : RowsIn w C us ls) (h1 : 5 ∉ Ts) : RowsIn w' C us ls :=
  ⟨hs.1, fun i l hl => by obtain ⟨u, h3, h4⟩ := hs.2 i l hl; exact ⟨u, h3, h.own h4 h1⟩⟩
end TMods
/-- What a link's own calls turn: links, rows of pieces, rows of flights. -/
abbrev LTs : List TypeId := [87, 96, 98]
theorem PV.InT.ext {w w' : World} {x : PV} (h : PV.InT w x) (hm : Below w.heap.size w w') : PV.InT w' x := (TMods.of_new (Ts := []) hm (Nat.le_refl _)).inT h (by decide)
/-- Of a step that turns a link, its row of pieces, its row of flights. -/
theorem TMods.of_mod {B g bm : Nat} {w w' : World} {L : Lk} {vw vf vh : Value} {ws : List PV} {xs : List Fl} (q : LS w B g bm L vw vf vh ws xs) (hm : Mod (fun i => i = g ∨ vw.ownBlock = some i ∨ vf.ownBlock = some i) w w') (hg : B ≤ g) : TMods LTs B w w' :=
  ⟨hm.below q.hB (fun i hi hh => by
    rcases hh with rfl | hh | hh
    · omega
    · have := (World.ownsRow.lt q.rp i hh).1; omega
    · have := (World.ownsRow.lt q.rf i hh).1; omega), fun b cur e fr hc he => hm.block b (Array.getElem?_eq_some_iff.1 hc).1 (fun hh => by
    rcases hh with rfl | hh | hh
    · have h1 := q.q
      unfold LkB at h1
      rw [h1] at hc
      injection hc with hc
      injection hc with _ h3 _
      exact he (by rw [← h3]; simp)
    · exact row_apart q.rp hc (fun h3 => he (by rw [h3]; simp)) hh
    · exact row_apart q.rf hc (fun h3 => he (by rw [h3]; simp)) hh)⟩
end Go.Proofs.YtcgbamkfflcdfaaDoor
/- math/bits.TrailingZeros32 over its table. Condition: the table is as the library lays it. -/
namespace Go.Proofs.YtcgbamkfflcdfaaDoor
open Go.RowKit

set_option maxHeartbeats 1000000 in
set_option maxRecDepth 20000 in
theorem Tz_core (x k idx : Nat) (w : World) (hx0 : ((x : Int) == 0) = false)
    (key : bits BinOp.and IntKind.u32 (x : Int) (-(x : Int) % 4294967296) * 125613361 % 4294967296 / 134217728 = (idx : Int))
    (hi : idx < 32) (hk : k < 32) (hcell : w.cell? ⟨0, idx, none⟩ = some (.int .u8 k)) :
    Calls Tryd.prog 87 #[.int .u32 x] w fun e w' => e = .returned (.int .i64 k) ∧ w' = w := by
  go_enter Tryd.func87, Tryd.ntmps87
  go_wp2_with (simp only [key])
  go_ret
  exact ⟨rfl, rfl⟩
set_option maxHeartbeats 1000000 in
set_option maxRecDepth 20000 in
theorem Tz_zero (w : World) : Calls Tryd.prog 87 #[.int .u32 0] w fun e w' => e = .returned (.int .i64 32) ∧ w' = w := by
  go_enter Tryd.func87, Tryd.ntmps87
  go_wp2
  go_ret
  exact ⟨rfl, rfl⟩
/-- The table lies as the library lays it. -/
abbrev Tab (w : World) : Prop := TabAt 0 Lib.deBruijn32tab w
theorem Tz_calls (x : Nat) (hx : x < 4294967296) (w : World) (hT : Tab w) :
    Calls Tryd.prog 87 #[.int .u32 x] w fun e w' => e = .returned (.int .i64 (Lib.ctz 32 x)) ∧ w' = w := by
  by_cases hx0 : x = 0
  · subst hx0
    exact Tz_zero w
  · obtain ⟨hlow, hk⟩ := Lib.lowest_bit 32 x hx0 hx
    obtain ⟨hi, htab⟩ := Lib.deBruijn32_at _ hk
    have hcell := hT _ hi
    rw [htab] at hcell
    exact Tz_core x _ _ w (by simp; omega) (tz32_key x _ hx hx0 hlow) hi hk hcell
end Go.Proofs.YtcgbamkfflcdfaaDoor
/- An eye's reads as functions of what is left. Conditions: as those of the reads. -/
namespace Go.Proofs.YtcgbamkfflcdfaaDoor
open Go.RowKit

/-- Off the front, k bytes: their value, what is left, and whether it is wrong. -/
def rdN (k : Nat) (l : List UInt8) (bad : Bool) : Nat × List UInt8 × Bool := if k ≤ l.length then (valN (l.take k), l.drop k, bad) else (0, [], true)
theorem rdN_lt (k : Nat) (l : List UInt8) (bad : Bool) : (rdN k l bad).1 < 256 ^ k := by
  unfold rdN
  split
  · rename_i h
    have := valN_lt (l.take k)
    rwa [List.length_take, Nat.min_eq_left h] at this
  · exact Nat.pow_pos (by decide)
def rdB (most : Nat) (l : List UInt8) (bad : Bool) : List UInt8 × List UInt8 × Bool := match rdBlob l most with | some (x, r) => (x, r, bad) | none => ([], [], true)
theorem rdN_of {g b k : Nat} {l : List UInt8} {bad : Bool} {K : IntKind} {w w' : World} {e : Ending} (h : ReadN g b k l bad K w e w') :
    e = .returned (.int K ((rdN k l bad).1 : Int)) ∧ EyeAt w' g b (rdN k l bad).2.1 (rdN k l bad).2.2 ∧ Mod (fun i => i = g) w w' := by
  by_cases hk : k ≤ l.length
  · unfold rdN
    rw [if_pos hk]
    exact h.1 hk
  · unfold rdN
    rw [if_neg hk]
    exact h.2 (by omega)
theorem rdN_nil {k n : Nat} {l l' : List UInt8} {bad bad' : Bool} (h : rdN k l bad = (n, l', bad')) (hl : l = []) : l' = [] := by
  subst hl
  unfold rdN at h
  split at h
  · injection h with _ h; injection h with h _; rw [← h]; simp
  · injection h with _ h; injection h with h _; exact h.symm
theorem rdB_nil {most : Nat} {l x l' : List UInt8} {bad bad' : Bool} (h : rdB most l bad = (x, l', bad')) (hl : l = []) : x = [] := by
  subst hl
  have e : rdBlob [] most = none := rfl
  unfold rdB at h
  rw [e] at h
  injection h with h _
  exact h.symm
theorem EyeByte_f (g b : Nat) (l : List UInt8) (bad : Bool) (w : World) (he : EyeAt w g b l bad) :
    Calls Tryd.prog 60 #[.pointer (some ⟨g, 0, none⟩)] w fun e w' => ∃ n l' bad', e = .returned (.int .u8 (n : Nat)) ∧ rdN 1 l bad = (n, l', bad') ∧ n < 256 ∧ EyeAt w' g b l' bad' ∧ Mod (fun i => i = g) w w' :=
  (EyeByte_calls g b l bad w he).mono fun e w' h => by
    obtain ⟨h1, h2, h3⟩ := rdN_of h
    exact ⟨_, _, _, h1, rfl, rdN_lt 1 l bad, h2, h3⟩
theorem EyeHalf_f (g b : Nat) (l : List UInt8) (bad : Bool) (w : World) (he : EyeAt w g b l bad) :
    Calls Tryd.prog 61 #[.pointer (some ⟨g, 0, none⟩)] w fun e w' => ∃ n l' bad', e = .returned (.int .u16 (n : Nat)) ∧ rdN 2 l bad = (n, l', bad') ∧ n < 65536 ∧ EyeAt w' g b l' bad' ∧ Mod (fun i => i = g) w w' :=
  (EyeHalf_calls g b l bad w he).mono fun e w' h => by
    obtain ⟨h1, h2, h3⟩ := rdN_of h
    exact ⟨_, _, _, h1, rfl, rdN_lt 2 l bad, h2, h3⟩
theorem EyeWord_f (g b : Nat) (l : List UInt8) (bad : Bool) (w : World) (he : EyeAt w g b l bad) :
    Calls Tryd.prog 62 #[.pointer (some ⟨g, 0, none⟩)] w fun e w' => ∃ n l' bad', e = .returned (.int .u32 (n : Nat)) ∧ rdN 4 l bad = (n, l', bad') ∧ n < 4294967296 ∧ EyeAt w' g b l' bad' ∧ Mod (fun i => i = g) w w' :=
  (EyeWord_calls g b l bad w he).mono fun e w' h => by
    obtain ⟨h1, h2, h3⟩ := rdN_of h
    exact ⟨_, _, _, h1, rfl, rdN_lt 4 l bad, h2, h3⟩
theorem EyeBlob_f (g b : Nat) (l : List UInt8) (bad : Bool) (most : Nat) (w : World) (he : EyeAt w g b l bad) (hm : most ≤ 9223372036854775807) :
    Calls Tryd.prog 63 #[.pointer (some ⟨g, 0, none⟩), .int .i64 most] w fun e w' => ∃ A x l' bad', e = .returned (.slice A x.length x.length) ∧ rdB most l bad = (x, l', bad') ∧ x.length ≤ most ∧ Bs w' b A x ∧ EyeAt w' g b l' bad' ∧ Mod (fun i => i = g) w w' :=
  (EyeBlob_calls g b l bad most w he hm).mono fun e w' h => by
    obtain ⟨h1, h2, h3⟩ := h
    unfold rdB
    cases hb : rdBlob l most with
    | none =>
      obtain ⟨A, e1, e2⟩ := h3 hb
      exact ⟨A, [], [], true, e1, rfl, by simp, Sl.nil_ _ _ _, e2, h1⟩
    | some y =>
      obtain ⟨x, r⟩ := y
      obtain ⟨A, e1, e2, e3⟩ := h2 x r hb
      refine ⟨A, x, r, bad, e1, rfl, ?_, e2, e3, h1⟩
      unfold rdBlob at hb
      split at hb
      · rename_i v k hv
        split at hb
        · rename_i hc
          injection hb with hb
          injection hb with hb _
          rw [← hb, List.length_take]
          omega
        · cases hb
      · cases hb
end Go.Proofs.YtcgbamkfflcdfaaDoor
/- Parse: what the eye reads of what was opened; a frame only if all is right. Conditions: the numbers fit. -/
namespace Go.Proofs.YtcgbamkfflcdfaaDoor
open Go.RowKit

/-- The frame that is none. -/
def zFr : Fr := ⟨0, 0, 0, 0, false, false, false, []⟩
/-- What is read: the frame, the first byte, the byte of marks, what is left, was it wrong. -/
structure Got where
  f : Fr
  n0 : Nat
  n5 : Nat
  l : List UInt8
  bad : Bool
def gotF (p : List UInt8) : Got :=
  let x0 := rdN 1 p false
  let x1 := rdN 2 x0.2.1 x0.2.2
  let x2 := rdN 2 x1.2.1 x1.2.2
  let x3 := rdN 2 x2.2.1 x2.2.2
  let x4 := rdN 4 x3.2.1 x3.2.2
  let x5 := rdN 1 x4.2.1 x4.2.2
  let x6 := rdB 64 x5.2.1 x5.2.2
  ⟨⟨x1.1, x2.1, x3.1, x4.1, decide (x5.1 % 2 = 1), decide (x5.1 / 2 % 2 = 1), decide (x5.1 / 4 % 2 = 1), x6.1⟩, x0.1, x5.1, x6.2.1, x6.2.2⟩
def Got.right (q : Got) : Bool := decide (q.bad = false ∧ q.l = []) && decide (q.n0 = 86) && decide (q.n5 = q.f.marks) && q.f.right
def parseF (l : List UInt8) : Fr × Nat :=
  if l.length < 4 then (zFr, 2) else if opensB l (l.length - 4) = false then (zFr, 5) else if (gotF (l.take (l.length - 4))).right then ((gotF (l.take (l.length - 4))).f, 0) else (zFr, 2)

theorem results_ct {P : Program} {fn : Func} {p t : Tmp} {ty : TypeId} (h : fn.results = #[.cell p ty, .tmp t]) (tmps : Array Value) (w : World) (g : Nat) (tt : TypeId) (cs : Array Value) (fr : Nat × Nat) (d : TypeDesc)
    (hp : tmps.getD p undef = .pointer (some ⟨g, 0, none⟩)) (hg : w.heap[g]? = some (.cells cs tt fr))
    (hu : P.underlying ty = some d) (hd : (match d with | .struct _ | .array _ _ => true | _ => false) = true) (hi : (P.info? ty).map (·.size) = some cs.size) :
    (results fn tmps).run P w = .ok (.tuple #[.agg cs, tmps.getD t undef]) w := by
  have hp' : tmps[p]?.getD undef = .pointer (some ⟨g, 0, none⟩) := by simpa using hp
  simp [results, h, hp', asAddr, run_loadVar_row w g tt ty cs fr d hg hu hd hi]
/-- Eight cells, written. -/
abbrev put8 (w : World) (g : Nat) (a0 a1 a2 a3 a4 a5 a6 a7 : Value) : World := (((((((w.setCell ⟨g, 0, none⟩ a0).setCell ⟨g, 1, none⟩ a1).setCell ⟨g, 2, none⟩ a2).setCell ⟨g, 3, none⟩ a3).setCell ⟨g, 4, none⟩ a4).setCell ⟨g, 5, none⟩ a5).setCell ⟨g, 6, none⟩ a6).setCell ⟨g, 7, none⟩ a7
theorem put8_heap {w : World} {g : Nat} {t : TypeId} {b0 b1 b2 b3 b4 b5 b6 b7 : Value} (a0 a1 a2 a3 a4 a5 a6 a7 : Value) (h : w.heap[g]? = some (.cells #[b0, b1, b2, b3, b4, b5, b6, b7] t (0, 0))) : (put8 w g a0 a1 a2 a3 a4 a5 a6 a7).heap[g]? = some (.cells #[a0, a1, a2, a3, a4, a5, a6, a7] t (0, 0)) := by
  have st : ∀ (y : World) (j : Nat) (v : Value) (cs ds : Array Value), y.heap[g]? = some (.cells cs t (0, 0)) → cs.setIfInBounds j v = ds → (y.setCell ⟨g, j, none⟩ v).heap[g]? = some (.cells ds t (0, 0)) := fun y j v cs ds h e => e ▸ heap_setCell_same y g j cs t v h
  have h0 := st _ 0 a0 _ #[a0, b1, b2, b3, b4, b5, b6, b7] h rfl
  have h1 := st _ 1 a1 _ #[a0, a1, b2, b3, b4, b5, b6, b7] h0 rfl
  have h2 := st _ 2 a2 _ #[a0, a1, a2, b3, b4, b5, b6, b7] h1 rfl
  have h3 := st _ 3 a3 _ #[a0, a1, a2, a3, b4, b5, b6, b7] h2 rfl
  have h4 := st _ 4 a4 _ #[a0, a1, a2, a3, a4, b5, b6, b7] h3 rfl
  have h5 := st _ 5 a5 _ #[a0, a1, a2, a3, a4, a5, b6, b7] h4 rfl
  have h6 := st _ 6 a6 _ #[a0, a1, a2, a3, a4, a5, a6, b7] h5 rfl
  have h7 := st _ 7 a7 _ #[a0, a1, a2, a3, a4, a5, a6, a7] h6 rfl
  exact h7
theorem put8_mod (w : World) (g : Nat) (a0 a1 a2 a3 a4 a5 a6 a7 : Value) : Mod (fun i => i = g) w (put8 w g a0 a1 a2 a3 a4 a5 a6 a7) := by
  have st : ∀ (x y : World) (j : Nat) (v : Value), Mod (fun i => i = g) x y → Mod (fun i => i = g) x (y.setCell ⟨g, j, none⟩ v) := fun x y j v h => h.trans (Mod.setCell y ⟨g, j, none⟩ v) (fun _ _ e => e) (fun _ _ e => e)
  have h0 := st w _ 0 a0 (Mod.refl _ w)
  have h1 := st w _ 1 a1 h0
  have h2 := st w _ 2 a2 h1
  have h3 := st w _ 3 a3 h2
  have h4 := st w _ 4 a4 h3
  have h5 := st w _ 5 a5 h4
  have h6 := st w _ 6 a6 h5
  have h7 := st w _ 7 a7 h6
  exact h7
set_option maxRecDepth 100000 in
theorem and_bits (n : Nat) (h : n < 256) : (bits .and .u8 (n : Int) 1 != 0) = decide (n % 2 = 1) ∧ (bits .and .u8 (n : Int) 2 != 0) = decide (n / 2 % 2 = 1) ∧ (bits .and .u8 (n : Int) 4 != 0) = decide (n / 4 % 2 = 1) := by
  have hx : ∀ x : Fin 256, (x.val &&& 1 ≠ 0 ↔ x.val % 2 = 1) ∧ (x.val &&& 2 ≠ 0 ↔ x.val / 2 % 2 = 1) ∧ (x.val &&& 4 ≠ 0 ↔ x.val / 4 % 2 = 1) := by decide
  obtain ⟨h1, h2, h3⟩ := hx ⟨n, h⟩
  have e1 := u8_and_nat n 1 h (by omega)
  have e2 := u8_and_nat n 2 h (by omega)
  have e4 := u8_and_nat n 4 h (by omega)
  rw [show ((1 : Nat) : Int) = 1 from rfl] at e1
  rw [show ((2 : Nat) : Int) = 2 from rfl] at e2
  rw [show ((4 : Nat) : Int) = 4 from rfl] at e4
  rw [e1, e2, e4]
  simp only at h1 h2 h3
  refine ⟨?_, ?_, ?_⟩ <;> rw [Bool.eq_iff_iff] <;> simp only [bne_iff_ne, ne_eq, decide_eq_true_eq]
  · rw [← h1]; omega
  · rw [← h2]; omega
  · rw [← h3]; omega

set_option maxHeartbeats 4000000 in
set_option maxRecDepth 20000 in
theorem Parse_no (A : Option Addr) (l : List UInt8) (n c b E : Nat) (w : World) (hE : E ≠ 0)
    (hO : ∀ W, Bs W b A l → Calls Tryd.prog 58 #[.agg (tabTo 256), .slice A n c] W fun e w' => e = .returned (.tuple #[.slice none 0 0, .int .i64 (E : Int)]) ∧ Below W.heap.size W w') (hs : Bs w b A l) :
    Calls Tryd.prog 31 #[.slice A n c] w fun e w' => e = .returned (.tuple #[.agg (zFr.cells none 0), .int .i64 (E : Int)]) ∧ Below w.heap.size w w' := by
  have q := BoxF.new_ w zFr none 0
  have hb := below_alloc1 w (.cells (zFr.cells none 0) 47)
  replace hs := Sl.ext hs hb
  go_enter Tryd.func31, Tryd.ntmps31
  go_wp2_with fail
  refine (Make_calls _).mono ?_
  rintro e w1 ⟨rfl, h1⟩
  replace q := q.ext h1
  replace hs := Sl.ext hs h1
  replace hb := hb.trans (h1.mono hb.size)
  clear h1
  go_wp2_with fail
  refine (hO _ hs).mono ?_
  rintro e w2 ⟨rfl, h1⟩
  replace q := q.ext h1
  replace hb := hb.trans (h1.mono hb.size)
  have hz : ((E : Int) != 0) = true := by simp; omega
  obtain ⟨k0, k1, k2, k3, k4, k5, k6, k7⟩ := q.all
  have hf := q.fz
  clear h1
  go_wp2_with fail
  have hp := put8_heap (w := w2) (.int .u16 0) (.int .u16 0) (.int .u16 0) (.int .u32 0) (.bool false) (.bool false) (.bool false) (.slice none 0 0) q
  have hm := put8_mod w2 w.heap.size (.int .u16 0) (.int .u16 0) (.int .u16 0) (.int .u32 0) (.bool false) (.bool false) (.bool false) (.slice none 0 0)
  refine bodyPost_ret (results_ct (P := Tryd.prog) rfl _ _ w.heap.size _ _ (0, 0) _ rfl hp Tryd.underlying47 rfl (by kernel_rfl)) rfl ?_
  exact ⟨rfl, hb.trans (hm.below hb.size (fun i hi e => by omega))⟩

set_option maxHeartbeats 8000000 in
set_option maxRecDepth 20000 in
theorem Parse_yes (A : Option Addr) (l : List UInt8) (k c b : Nat) (w : World) (hs : Bs w b A l) (hn : l.length = k + 4) (hc : k + 4 ≤ c) (h2 : k ≤ 140737488355000) (heq : opensB l k = true) (G : Got) (hG : gotF (l.take k) = G) (RF : Fr) (RE : Nat) (hRF : RF = if G.right then G.f else zFr) (hRE : RE = if G.right then 0 else 2) :
    Calls Tryd.prog 31 #[.slice A (k + 4) c] w fun e w' => ∃ A' c' b', e = .returned (.tuple #[.agg (RF.cells A' c'), .int .i64 (RE : Int)]) ∧ Bs w' b' A' RF.data ∧ w.heap.size ≤ b' ∧ Below w.heap.size w w' := by
  have q := BoxF.new_ w zFr none 0
  have hb := below_alloc1 w (.cells (zFr.cells none 0) 47)
  replace hs := Sl.ext hs hb
  have hO := fun W h => Open_good A l k c b W h hn hc h2 heq
  have HG := Lib.hid hG
  have HRF := Lib.hid hRF
  have HRE := Lib.hid hRE
  clear hRF hRE
  obtain ⟨p, hp⟩ : ∃ p, p = l.take k := ⟨_, rfl⟩
  have hpl : p.length ≤ 140737488355000 := by rw [hp, List.length_take]; omega
  rw [← hp] at hO HG
  clear hn hc h2 heq hp hG
  go_enter Tryd.func31, Tryd.ntmps31
  go_wp2_with fail
  refine (Make_calls _).mono ?_
  rintro e w1 ⟨rfl, h1⟩
  replace q := q.ext h1
  replace hs := Sl.ext hs h1
  replace hb := hb.trans (h1.mono hb.size)
  clear h1
  go_wp2_with fail
  refine (hO _ hs).mono ?_
  rintro e w2 ⟨v, rfl, hrow, h1⟩
  obtain ⟨A2, c2, b2, rfl, -, -, -, -, hs2, -⟩ := hrow.sl
  replace q := q.ext h1
  replace hb := hb.trans (h1.mono hb.size)
  clear h1 hs hO hrow
  go_wp2_with fail
  refine (Read_calls A2 p p.length c2 b2 _ hs2 rfl (by omega)).mono ?_
  rintro e w3 ⟨g, be0, rfl, hE, hg, hbe, h1⟩
  have hgs := hb.size
  have hbE0 : w.heap.size ≤ be0 := by omega
  have q0lt : w.heap.size < be0 := by have := q.lt; omega
  have hgE : w.heap.size < g := by have := q.lt; omega
  obtain ⟨be, hE, hbl, hbE, hpe⟩ : ∃ be, EyeAt w3 g be p false ∧ be < w3.heap.size ∧ w.heap.size ≤ be ∧ (be = w.heap.size → p = []) := by
    by_cases h0 : p = []
    · obtain ⟨_, Ae, ce, k1, k2, k3, _⟩ := hE
      subst h0
      exact ⟨w.heap.size, ⟨by omega, Ae, ce, k1, k2, k3, Sl.nil_ _ _ _⟩, by have := q.lt; have := h1.size; omega, Nat.le_refl _, fun _ => rfl⟩
    · obtain ⟨_, Ae, ce, _, _, _, k4⟩ := id hE
      exact ⟨be0, hE, Bs.lt k4 h0, hbE0, fun e => by have := q0lt; omega⟩
  have hne := hE.1
  replace q := q.ext h1
  replace hb := hb.trans (h1.mono hb.size)
  clear h1 hs2 hg hbe hgs
  go_wp2_with fail
  refine (EyeByte_f g be p false _ hE).mono ?_
  rintro e w4 ⟨n0, l0, x0, rfl, y0, z0, hE, h1⟩
  replace q := q.mod h1 (by omega)
  replace hb := hb.trans (h1.below hb.size (fun i hi e => by omega))
  replace hbl := Nat.lt_of_lt_of_le hbl h1.size
  clear h1
  go_wp2_with fail
  refine (EyeHalf_f g be l0 x0 _ hE).mono ?_
  rintro e w5 ⟨n1, l1, x1, rfl, y1, z1, hE, h1⟩
  replace q := q.mod h1 (by omega)
  replace hb := hb.trans (h1.below hb.size (fun i hi e => by omega))
  replace hbl := Nat.lt_of_lt_of_le hbl h1.size
  clear h1
  go_wp2_with fail
  refine (EyeHalf_f g be l1 x1 _ hE).mono ?_
  rintro e w6 ⟨n2, l2, x2, rfl, y2, z2, hE, h1⟩
  replace q := q.mod h1 (by omega)
  replace hb := hb.trans (h1.below hb.size (fun i hi e => by omega))
  replace hbl := Nat.lt_of_lt_of_le hbl h1.size
  clear h1
  go_wp2_with fail
  have hbx : (w6.alloc (.cells #[.int .u16 n1, .int .u16 n2, .int .u16 0, .int .u32 0, .bool false, .bool false, .bool false, .slice none 0 0] 47)).heap[w6.heap.size]? = some (.cells #[.int .u16 n1, .int .u16 n2, .int .u16 0, .int .u32 0, .bool false, .bool false, .bool false, .slice none 0 0] 47 (0, 0)) := heap_alloc_new w6 _
  have ha := below_alloc1 w6 (.cells #[.int .u16 n1, .int .u16 n2, .int .u16 0, .int .u32 0, .bool false, .bool false, .bool false, .slice none 0 0] 47)
  have hgf := hE.lt
  have hgf2 := q.lt
  replace hE := hE.ext ha
  replace q := q.ext ha
  replace hb := hb.trans (ha.mono hb.size)
  clear ha
  obtain ⟨w7, hw7⟩ : ∃ w7, w7 = w6.alloc (.cells #[.int .u16 n1, .int .u16 n2, .int .u16 0, .int .u32 0, .bool false, .bool false, .bool false, .slice none 0 0] 47) := ⟨_, rfl⟩
  obtain ⟨gf, hgg⟩ : ∃ gf, gf = w6.heap.size := ⟨_, rfl⟩
  rw [← hw7, ← hgg] at hbx
  rw [← hw7] at hE q hb ⊢
  rw [← hgg] at hgf hgf2 hbl ⊢
  clear hw7 hgg
  refine (EyeHalf_f g be l2 x2 _ hE).mono ?_
  rintro e w8 ⟨n3, l3, x3, rfl, y3, z3, hE, h1⟩
  replace q := q.mod h1 (by omega)
  replace hb := hb.trans (h1.below hb.size (fun i hi e => by omega))
  replace hbx := (h1.block gf (Array.getElem?_eq_some_iff.1 hbx).1 (by omega)).trans hbx
  clear h1
  go_wp2_with fail
  refine (EyeWord_f g be l3 x3 _ hE).mono ?_
  rintro e w9 ⟨n4, l4, x4, rfl, y4, z4, hE, h1⟩
  replace q := q.mod h1 (by omega)
  replace hb := hb.trans (h1.below hb.size (fun i hi e => by omega))
  replace hbx := (h1.block gf (Array.getElem?_eq_some_iff.1 hbx).1 (by omega)).trans hbx
  clear h1
  have hfz := fun j => frozen_of_row _ gf j _ _ hbx
  have e2 := (cell_of_row _ gf 2 _ _ _ hbx).trans (show _ = some (.int .u16 0) from rfl)
  have e3 := (cell_of_row _ gf 3 _ _ _ hbx).trans (show _ = some (.int .u32 0) from rfl)
  go_wp2_with fail
  clear e2 e3 hfz
  have hbx := heap_setCell_same w9 gf 2 _ _ (.int .u16 n3) hbx
  rw [show (#[.int .u16 n1, .int .u16 n2, .int .u16 0, .int .u32 0, .bool false, .bool false, .bool false, .slice none 0 0] : Array Value).setIfInBounds 2 (.int .u16 n3) = #[.int .u16 n1, .int .u16 n2, .int .u16 n3, .int .u32 0, .bool false, .bool false, .bool false, .slice none 0 0] from rfl] at hbx
  replace hE := hE.mod (Mod.setCell w9 ⟨gf, 2, none⟩ (.int .u16 n3)) (fun e => by have e : g = gf := e; omega) (fun e => by have e : be = gf := e; omega)
  replace q := q.mod (Mod.setCell w9 ⟨gf, 2, none⟩ (.int .u16 n3)) (fun e => by have e : w.heap.size = gf := e; omega)
  replace hb := hb.trans ((Mod.setCell w9 ⟨gf, 2, none⟩ (.int .u16 n3)).below hb.size (fun i hi e => by have e : i = gf := e; omega))
  have hbx := heap_setCell_same (w9.setCell ⟨gf, 2, none⟩ (.int .u16 n3)) gf 3 _ _ (.int .u32 n4) hbx
  rw [show (#[.int .u16 n1, .int .u16 n2, .int .u16 n3, .int .u32 0, .bool false, .bool false, .bool false, .slice none 0 0] : Array Value).setIfInBounds 3 (.int .u32 n4) = #[.int .u16 n1, .int .u16 n2, .int .u16 n3, .int .u32 n4, .bool false, .bool false, .bool false, .slice none 0 0] from rfl] at hbx
  replace hE := hE.mod (Mod.setCell (w9.setCell ⟨gf, 2, none⟩ (.int .u16 n3)) ⟨gf, 3, none⟩ (.int .u32 n4)) (fun e => by have e : g = gf := e; omega) (fun e => by have e : be = gf := e; omega)
  replace q := q.mod (Mod.setCell (w9.setCell ⟨gf, 2, none⟩ (.int .u16 n3)) ⟨gf, 3, none⟩ (.int .u32 n4)) (fun e => by have e : w.heap.size = gf := e; omega)
  replace hb := hb.trans ((Mod.setCell (w9.setCell ⟨gf, 2, none⟩ (.int .u16 n3)) ⟨gf, 3, none⟩ (.int .u32 n4)).below hb.size (fun i hi e => by have e : i = gf := e; omega))
  obtain ⟨w10, hw10⟩ : ∃ w10, w10 = ((w9.setCell ⟨gf, 2, none⟩ (.int .u16 n3)).setCell ⟨gf, 3, none⟩ (.int .u32 n4)) := ⟨_, rfl⟩
  rw [← hw10] at hbx hE q hb ⊢
  clear hw10
  refine (EyeByte_f g be l4 x4 _ hE).mono ?_
  rintro e w11 ⟨n5, l5, x5, rfl, y5, z5, hE, h1⟩
  replace q := q.mod h1 (by omega)
  replace hb := hb.trans (h1.below hb.size (fun i hi e => by omega))
  replace hbx := (h1.block gf (Array.getElem?_eq_some_iff.1 hbx).1 (by omega)).trans hbx
  clear h1
  obtain ⟨A1, A2', A3⟩ := and_bits n5 z5
  obtain ⟨d1, hd1⟩ : ∃ d, d = decide (n5 % 2 = 1) := ⟨_, rfl⟩
  obtain ⟨d2, hd2⟩ : ∃ d, d = decide (n5 / 2 % 2 = 1) := ⟨_, rfl⟩
  obtain ⟨d3, hd3⟩ : ∃ d, d = decide (n5 / 4 % 2 = 1) := ⟨_, rfl⟩
  rw [← hd1] at A1
  rw [← hd2] at A2'
  rw [← hd3] at A3
  have HD := Lib.hid (And.intro hd1 (And.intro hd2 hd3))
  clear hd1 hd2 hd3
  have hfz := fun j => frozen_of_row _ gf j _ _ hbx
  have e4 := (cell_of_row _ gf 4 _ _ _ hbx).trans (show _ = some (.bool false) from rfl)
  have e5 := (cell_of_row _ gf 5 _ _ _ hbx).trans (show _ = some (.bool false) from rfl)
  have e6 := (cell_of_row _ gf 6 _ _ _ hbx).trans (show _ = some (.bool false) from rfl)
  have hBl := fun W h => EyeBlob_f g be l5 x5 64 W h (by omega)
  rw [show ((64 : Nat) : Int) = 64 from rfl] at hBl
  go_wp2_with fail
  clear e4 e5 e6 hfz A1 A2' A3
  have hbx := heap_setCell_same w11 gf 4 _ _ (.bool d1) hbx
  rw [show (#[.int .u16 n1, .int .u16 n2, .int .u16 n3, .int .u32 n4, .bool false, .bool false, .bool false, .slice none 0 0] : Array Value).setIfInBounds 4 (.bool d1) = #[.int .u16 n1, .int .u16 n2, .int .u16 n3, .int .u32 n4, .bool d1, .bool false, .bool false, .slice none 0 0] from rfl] at hbx
  replace hE := hE.mod (Mod.setCell w11 ⟨gf, 4, none⟩ (.bool d1)) (fun e => by have e : g = gf := e; omega) (fun e => by have e : be = gf := e; omega)
  replace q := q.mod (Mod.setCell w11 ⟨gf, 4, none⟩ (.bool d1)) (fun e => by have e : w.heap.size = gf := e; omega)
  replace hb := hb.trans ((Mod.setCell w11 ⟨gf, 4, none⟩ (.bool d1)).below hb.size (fun i hi e => by have e : i = gf := e; omega))
  have hbx := heap_setCell_same (w11.setCell ⟨gf, 4, none⟩ (.bool d1)) gf 5 _ _ (.bool d2) hbx
  rw [show (#[.int .u16 n1, .int .u16 n2, .int .u16 n3, .int .u32 n4, .bool d1, .bool false, .bool false, .slice none 0 0] : Array Value).setIfInBounds 5 (.bool d2) = #[.int .u16 n1, .int .u16 n2, .int .u16 n3, .int .u32 n4, .bool d1, .bool d2, .bool false, .slice none 0 0] from rfl] at hbx
  replace hE := hE.mod (Mod.setCell (w11.setCell ⟨gf, 4, none⟩ (.bool d1)) ⟨gf, 5, none⟩ (.bool d2)) (fun e => by have e : g = gf := e; omega) (fun e => by have e : be = gf := e; omega)
  replace q := q.mod (Mod.setCell (w11.setCell ⟨gf, 4, none⟩ (.bool d1)) ⟨gf, 5, none⟩ (.bool d2)) (fun e => by have e : w.heap.size = gf := e; omega)
  replace hb := hb.trans ((Mod.setCell (w11.setCell ⟨gf, 4, none⟩ (.bool d1)) ⟨gf, 5, none⟩ (.bool d2)).below hb.size (fun i hi e => by have e : i = gf := e; omega))
  have hbx := heap_setCell_same ((w11.setCell ⟨gf, 4, none⟩ (.bool d1)).setCell ⟨gf, 5, none⟩ (.bool d2)) gf 6 _ _ (.bool d3) hbx
  rw [show (#[.int .u16 n1, .int .u16 n2, .int .u16 n3, .int .u32 n4, .bool d1, .bool d2, .bool false, .slice none 0 0] : Array Value).setIfInBounds 6 (.bool d3) = #[.int .u16 n1, .int .u16 n2, .int .u16 n3, .int .u32 n4, .bool d1, .bool d2, .bool d3, .slice none 0 0] from rfl] at hbx
  replace hE := hE.mod (Mod.setCell ((w11.setCell ⟨gf, 4, none⟩ (.bool d1)).setCell ⟨gf, 5, none⟩ (.bool d2)) ⟨gf, 6, none⟩ (.bool d3)) (fun e => by have e : g = gf := e; omega) (fun e => by have e : be = gf := e; omega)
  replace q := q.mod (Mod.setCell ((w11.setCell ⟨gf, 4, none⟩ (.bool d1)).setCell ⟨gf, 5, none⟩ (.bool d2)) ⟨gf, 6, none⟩ (.bool d3)) (fun e => by have e : w.heap.size = gf := e; omega)
  replace hb := hb.trans ((Mod.setCell ((w11.setCell ⟨gf, 4, none⟩ (.bool d1)).setCell ⟨gf, 5, none⟩ (.bool d2)) ⟨gf, 6, none⟩ (.bool d3)).below hb.size (fun i hi e => by have e : i = gf := e; omega))
  obtain ⟨w12, hw12⟩ : ∃ w12, w12 = (((w11.setCell ⟨gf, 4, none⟩ (.bool d1)).setCell ⟨gf, 5, none⟩ (.bool d2)).setCell ⟨gf, 6, none⟩ (.bool d3)) := ⟨_, rfl⟩
  rw [← hw12] at hbx hE q hb ⊢
  clear hw12
  refine (hBl _ hE).mono ?_
  rintro e w13 ⟨Ad, d, l6, x6, rfl, y6, z6, hsd, hE, h1⟩
  replace q := q.mod h1 (by omega)
  replace hb := hb.trans (h1.below hb.size (fun i hi e => by omega))
  replace hbx := (h1.block gf (Array.getElem?_eq_some_iff.1 hbx).1 (by omega)).trans hbx
  clear h1
  clear hBl
  have hfz := fun j => frozen_of_row _ gf j _ _ hbx
  have e7 := (cell_of_row _ gf 7 _ _ _ hbx).trans (show _ = some (.slice none 0 0) from rfl)
  have DC := fun W (h : EyeAt W g be l6 x6) => Done_calls g be l6 x6 W h
  go_wp2_with fail
  clear e7 hfz
  have hbx := heap_setCell_same w13 gf 7 _ _ (.slice Ad d.length d.length) hbx
  rw [show (#[.int .u16 n1, .int .u16 n2, .int .u16 n3, .int .u32 n4, .bool d1, .bool d2, .bool d3, .slice none 0 0] : Array Value).setIfInBounds 7 (.slice Ad d.length d.length) = #[.int .u16 n1, .int .u16 n2, .int .u16 n3, .int .u32 n4, .bool d1, .bool d2, .bool d3, .slice Ad d.length d.length] from rfl] at hbx
  replace hE := hE.mod (Mod.setCell w13 ⟨gf, 7, none⟩ (.slice Ad d.length d.length)) (fun e => by have e : g = gf := e; omega) (fun e => by have e : be = gf := e; omega)
  replace q := q.mod (Mod.setCell w13 ⟨gf, 7, none⟩ (.slice Ad d.length d.length)) (fun e => by have e : w.heap.size = gf := e; omega)
  replace hsd := Bs.modne hsd (Mod.setCell w13 ⟨gf, 7, none⟩ (.slice Ad d.length d.length)) (fun _ e => by have e : be = gf := e; omega)
  replace hb := hb.trans ((Mod.setCell w13 ⟨gf, 7, none⟩ (.slice Ad d.length d.length)).below hb.size (fun i hi e => by have e : i = gf := e; omega))
  obtain ⟨w14, hw14⟩ : ∃ w14, w14 = w13.setCell ⟨gf, 7, none⟩ (.slice Ad d.length d.length) := ⟨_, rfl⟩
  rw [← hw14] at hbx hE q hb hsd ⊢
  clear hw14
  obtain ⟨F, hF⟩ : ∃ F : Fr, F = ⟨n1, n2, n3, n4, d1, d2, d3, d⟩ := ⟨_, rfl⟩
  replace hbx : BoxF w14 gf F Ad d.length := by rw [hF]; exact hbx
  have hde : be = w.heap.size → d = [] := fun e => rdB_nil y6 (rdN_nil y5 (rdN_nil y4 (rdN_nil y3 (rdN_nil y2 (rdN_nil y1 (rdN_nil y0 (hpe e)))))))
  clear hpe
  have HGG : Hid (G = ⟨F, n0, n5, l6, x6⟩) := Lib.hid (by
    rw [← HG.out, hF, HD.out.1, HD.out.2.1, HD.out.2.2]
    unfold gotF
    simp only [y0, y1, y2, y3, y4, y5, y6])
  clear HG HD y0 y1 y2 y3 y4 y5 y6
  obtain ⟨dn, hdn⟩ : ∃ dn, dn = doneErr l6 x6 := ⟨_, rfl⟩
  rw [← hdn] at DC
  obtain ⟨za, hza⟩ : ∃ z, z = (dn != 0) := ⟨_, rfl⟩
  obtain ⟨zb, hzb⟩ : ∃ z, z = ((n0 : Int) != 86) := ⟨_, rfl⟩
  obtain ⟨zc, hzc⟩ : ∃ z, z = ((n5 : Int) != (F.marks : Int)) := ⟨_, rfl⟩
  obtain ⟨zd, hzd⟩ : ∃ z, z = F.right := ⟨_, rfl⟩
  have hGr : G.right = (!za && !zb && !zc && zd) := by
    have e1 : decide (x6 = false ∧ l6 = []) = !za := by
      rw [hza, hdn, doneErr, Bool.eq_iff_iff]
      by_cases h : x6 = true ∨ l6 ≠ []
      · rw [if_pos h]
        cases x6 <;> simp at h ⊢
        exact h
      · rw [if_neg h]
        cases x6 <;> simp at h ⊢
        exact h
    have e2 : decide (n0 = 86) = !zb := by rw [hzb, Bool.eq_iff_iff]; simp; omega
    have e3 : decide (n5 = F.marks) = !zc := by rw [hzc, Bool.eq_iff_iff]; simp; omega
    rw [HGG.out, Got.right]
    simp only [e1, e2, e3, hzd]
  have HGF : Hid (G.f = F) := Lib.hid (by rw [HGG.out])
  have hM := fun W => Marks_calls F Ad d.length W
  have hR := fun W => Right_calls F Ad d.length W
  rw [← hzd] at hR
  have hza' := hza.symm
  have hzb' := hzb.symm
  have hzc' := hzc.symm
  have HGR := Lib.hid hGr
  have HFF := Lib.hid hF
  have HFD : Hid (d = F.data) := Lib.hid (by rw [hF])
  clear hza hzb hzc hzd hGr hdn hF HGG
  (with_reducible refine (DC _ hE).mono ?_)
  rintro e w15 ⟨rfl, rfl⟩
  clear DC hE
  obtain ⟨a0, a1, a2, a3, a4, a5, a6, a7⟩ := q.all
  have hq := q.fz
  obtain ⟨b0, b1, b2, b3, b4, b5, b6, b7⟩ := hbx.all
  cases za with
  | true =>
    go_wp2_with fail
    have hp := put8_heap (w := w14) (.int .u16 0) (.int .u16 0) (.int .u16 0) (.int .u32 0) (.bool false) (.bool false) (.bool false) (.slice none 0 0) q
    have hm := put8_mod w14 w.heap.size (.int .u16 0) (.int .u16 0) (.int .u16 0) (.int .u32 0) (.bool false) (.bool false) (.bool false) (.slice none 0 0)
    refine bodyPost_ret (results_ct (P := Tryd.prog) rfl _ _ w.heap.size _ _ (0, 0) _ rfl hp Tryd.underlying47 rfl (by kernel_rfl)) rfl ?_
    have hg : G.right = false := by rw [HGR.out]; rfl
    have e1 : RF = zFr := by rw [HRF.out, hg]; rfl
    have e2 : RE = 2 := by rw [HRE.out, hg]; rfl
    rw [e1, e2]
    exact ⟨none, 0, w.heap.size, rfl, Sl.nil_ _ _ _, Nat.le_refl _, hb.trans (hm.below hb.size (fun i hi e => by omega))⟩
  | false =>
    cases zb with
    | true =>
      go_wp2_with fail
      have hp := put8_heap (w := w14) (.int .u16 0) (.int .u16 0) (.int .u16 0) (.int .u32 0) (.bool false) (.bool false) (.bool false) (.slice none 0 0) q
      have hm := put8_mod w14 w.heap.size (.int .u16 0) (.int .u16 0) (.int .u16 0) (.int .u32 0) (.bool false) (.bool false) (.bool false) (.slice none 0 0)
      refine bodyPost_ret (results_ct (P := Tryd.prog) rfl _ _ w.heap.size _ _ (0, 0) _ rfl hp Tryd.underlying47 rfl (by kernel_rfl)) rfl ?_
      have hg : G.right = false := by rw [HGR.out]; rfl
      have e1 : RF = zFr := by rw [HRF.out, hg]; rfl
      have e2 : RE = 2 := by rw [HRE.out, hg]; rfl
      rw [e1, e2]
      exact ⟨none, 0, w.heap.size, rfl, Sl.nil_ _ _ _, Nat.le_refl _, hb.trans (hm.below hb.size (fun i hi e => by omega))⟩
    | false =>
      go_wp2_with fail
      refine (hM _).mono ?_
      rintro e w16 ⟨rfl, h1⟩
      clear a0 a1 a2 a3 a4 a5 a6 a7 b0 b1 b2 b3 b4 b5 b6 b7 hq
      replace q := q.ext h1
      replace hbx := hbx.ext h1
      replace hsd := Sl.ext hsd h1
      replace hb := hb.trans (h1.mono hb.size)
      clear h1
      obtain ⟨a0, a1, a2, a3, a4, a5, a6, a7⟩ := q.all
      have hq := q.fz
      obtain ⟨b0, b1, b2, b3, b4, b5, b6, b7⟩ := hbx.all
      cases zc with
      | true =>
        go_wp2_with fail
        have hp := put8_heap (w := w16) (.int .u16 0) (.int .u16 0) (.int .u16 0) (.int .u32 0) (.bool false) (.bool false) (.bool false) (.slice none 0 0) q
        have hm := put8_mod w16 w.heap.size (.int .u16 0) (.int .u16 0) (.int .u16 0) (.int .u32 0) (.bool false) (.bool false) (.bool false) (.slice none 0 0)
        refine bodyPost_ret (results_ct (P := Tryd.prog) rfl _ _ w.heap.size _ _ (0, 0) _ rfl hp Tryd.underlying47 rfl (by kernel_rfl)) rfl ?_
        have hg : G.right = false := by rw [HGR.out]; rfl
        have e1 : RF = zFr := by rw [HRF.out, hg]; rfl
        have e2 : RE = 2 := by rw [HRE.out, hg]; rfl
        rw [e1, e2]
        exact ⟨none, 0, w.heap.size, rfl, Sl.nil_ _ _ _, Nat.le_refl _, hb.trans (hm.below hb.size (fun i hi e => by omega))⟩
      | false =>
        go_wp2_with fail
        refine (hR _).mono ?_
        rintro e w17 ⟨rfl, h1⟩
        clear a0 a1 a2 a3 a4 a5 a6 a7 b0 b1 b2 b3 b4 b5 b6 b7 hq
        replace q := q.ext h1
        replace hbx := hbx.ext h1
        replace hsd := Sl.ext hsd h1
        replace hb := hb.trans (h1.mono hb.size)
        clear h1
        obtain ⟨a0, a1, a2, a3, a4, a5, a6, a7⟩ := q.all
        have hq := q.fz
        obtain ⟨b0, b1, b2, b3, b4, b5, b6, b7⟩ := hbx.all
        cases zd with
        | false =>
          go_wp2_with fail
          have hp := put8_heap (w := w17) (.int .u16 0) (.int .u16 0) (.int .u16 0) (.int .u32 0) (.bool false) (.bool false) (.bool false) (.slice none 0 0) q
          have hm := put8_mod w17 w.heap.size (.int .u16 0) (.int .u16 0) (.int .u16 0) (.int .u32 0) (.bool false) (.bool false) (.bool false) (.slice none 0 0)
          refine bodyPost_ret (results_ct (P := Tryd.prog) rfl _ _ w.heap.size _ _ (0, 0) _ rfl hp Tryd.underlying47 rfl (by kernel_rfl)) rfl ?_
          have hg : G.right = false := by rw [HGR.out]; rfl
          have e1 : RF = zFr := by rw [HRF.out, hg]; rfl
          have e2 : RE = 2 := by rw [HRE.out, hg]; rfl
          rw [e1, e2]
          exact ⟨none, 0, w.heap.size, rfl, Sl.nil_ _ _ _, Nat.le_refl _, hb.trans (hm.below hb.size (fun i hi e => by omega))⟩
        | true =>
          go_wp2_with fail
          have hp := put8_heap (w := w17) (.int .u16 (F.epoch : Int)) (.int .u16 (F.seq : Int)) (.int .u16 (F.next : Int)) (.int .u32 (F.bits : Int)) (.bool F.first) (.bool F.last) (.bool F.alone) (.slice Ad F.data.length d.length) q
          have hm := put8_mod w17 w.heap.size (.int .u16 (F.epoch : Int)) (.int .u16 (F.seq : Int)) (.int .u16 (F.next : Int)) (.int .u32 (F.bits : Int)) (.bool F.first) (.bool F.last) (.bool F.alone) (.slice Ad F.data.length d.length)
          refine bodyPost_ret (results_ct (P := Tryd.prog) rfl _ _ w.heap.size _ _ (0, 0) _ rfl hp Tryd.underlying47 rfl (by kernel_rfl)) rfl ?_
          have hg : G.right = true := by rw [HGR.out]; rfl
          have e1 : RF = F := by rw [HRF.out, hg, if_pos rfl, HGF.out]
          have e2 : RE = 0 := by rw [HRE.out, hg, if_pos rfl]
          rw [e1, e2]
          have h8 := hsd
          rw [HFD.out] at h8
          have h9 := Bs.modne h8 hm (fun hne e => hne (by rw [← HFD.out]; exact hde e))
          clear h8
          exact ⟨Ad, d.length, be, rfl, h9, hbE, hb.trans (hm.below hb.size (fun i hi e => by omega))⟩
end Go.Proofs.YtcgbamkfflcdfaaDoor
