/- A frame's Bytes: sealed, or nothing of one that may not be. Conditions: the numbers fit. -/
import Derived.Test.YtgpedkdebifooaaDoorFrN
import Derived.Deep.RegionHeld3
namespace Go.Proofs.YtgpedkdebifooaaDoor
open Go.RowKit

/-- What a frame's writer keeps: the frame's variable (block w0.heap.size), its data, the pen. -/
structure FB (w0 : World) (P : Nat) (f : Fr) (A : Option Addr) (c b : Nat) (w : World) (r : Option Nat) (l : List UInt8) : Prop where
  box : BoxF w w0.heap.size f A c
  data : Bs w b A f.data
  dlt : f.data ≠ [] → b < w0.heap.size
  pen : PenAt w P r l
  far : ∀ j, r = some j → w0.heap.size < j
  pgt : w0.heap.size < P
  below : Below w0.heap.size w0 w
namespace FB
variable {w0 w w' : World} {P c b : Nat} {f : Fr} {A : Option Addr} {r r' : Option Nat} {l l' : List UInt8}
theorem step (q : FB w0 P f A c b w r l) (hp : PenAt w' P r' l') (hst : PenStep P r r' w w') : FB w0 P f A c b w' r' l' := by
  have hg := q.pgt
  refine ⟨q.box.mod hst.2 ?_, Bs.modne q.data hst.2 ?_, q.dlt, hp, ?_, hg, q.below.trans (hst.2.below q.below.size ?_)⟩
  · rintro (e | e)
    · omega
    · have := q.far _ e; omega
  · intro hne e
    have h1 := q.dlt hne
    rcases e with e | e
    · omega
    · have := q.far _ e; omega
  · intro j hj
    rcases hst.1 with h | ⟨k, h, hk⟩
    · exact q.far j (h ▸ hj)
    · have e := h.symm.trans hj
      injection e with e
      have := q.box.lt
      omega
  · intro i hi e
    rcases e with e | e
    · omega
    · have := q.far _ e; omega
theorem drew (q : FB w0 P f A c b w r l) : FB w0 P f A c b w.drew r l := ⟨q.box, q.data, q.dlt, q.pen, q.far, q.pgt, below_drew q.below⟩
theorem ext (q : FB w0 P f A c b w r l) (h : Below w.heap.size w w') : FB w0 P f A c b w' r l :=
  ⟨q.box.ext h, Sl.ext q.data h, q.dlt, q.pen.ext h, q.far, q.pgt, q.below.trans (h.mono q.below.size)⟩
end FB

set_option maxHeartbeats 2000000 in
set_option maxRecDepth 20000 in
theorem FBytes_no (f : Fr) (A : Option Addr) (c : Nat) (w : World) (hr : f.right = false) :
    Calls Tryd.prog 23 #[.agg (f.cells A c)] w fun e w' => e = .returned (.slice none 0 0) ∧ Below w.heap.size w w' := by
  have q := BoxF.new_ w f A c
  have hb := below_alloc1 w (.cells (f.cells A c) 47)
  have hR := fun W => Right_calls f A c W
  rw [hr] at hR
  obtain ⟨k0, k1, k2, k3, k4, k5, k6, k7⟩ := q.all
  go_enter Tryd.func23, Tryd.ntmps23
  go_wp2_with fail
  refine (hR _).mono ?_
  rintro e w1 ⟨rfl, h1⟩
  go_wp2_with fail
  go_ret
  exact ⟨rfl, hb.trans (h1.mono hb.size)⟩

set_option maxHeartbeats 8000000 in
set_option maxRecDepth 20000 in
theorem FBytes_yes (f : Fr) (A : Option Addr) (c b : Nat) (w : World) (ho : f.Ok) (hs : Bs w b A f.data) (hd : f.data.length ≤ 1000000) (hr : f.right = true) :
    Calls Tryd.prog 23 #[.agg (f.cells A c)] w fun e w' => ∃ v, e = .returned v ∧ Row w' w.heap.size v (sealedL f.raw) ∧ Below w.heap.size w w' := by
  have q := BoxF.new_ w f A c
  have hb := below_alloc1 w (.cells (f.cells A c) 47)
  have hlt : f.data ≠ [] → b < w.heap.size := fun h => Bs.lt hs h
  replace hs := Sl.ext hs hb
  have hR := fun W => Right_calls f A c W
  have hM := fun W => Marks_calls f A c W
  have hmk := f.marks_lt
  rw [hr] at hR
  obtain ⟨k0, k1, k2, k3, k4, k5, k6, k7⟩ := q.all
  go_enter Tryd.func23, Tryd.ntmps23
  go_wp2_with fail
  refine (hR _).mono ?_
  rintro e w1 ⟨rfl, h1⟩
  replace q := q.ext h1
  replace hs := Sl.ext hs h1
  replace hb := hb.trans (h1.mono hb.size)
  clear k0 k1 k2 k3 k4 k5 k6 k7 h1 hR hr
  have h2 := below_alloc1 w1 (.cells #[.slice none 0 0] 106)
  have hp : PenAt (w1.alloc (.cells #[.slice none 0 0] 106)) w1.heap.size none [] := ⟨.slice none 0 0, heap_alloc_new w1 _, Row.nil_ _ _, rfl⟩
  have Q : FB w w1.heap.size f A c b (w1.alloc (.cells #[.slice none 0 0] 106)) none [] := ⟨q.ext h2, Sl.ext hs h2, hlt, hp, fun j hj => by (cases hj), q.lt, hb.trans (h2.mono hb.size)⟩
  clear q hs hlt hp hb h2
  go_wp2_with fail
  obtain ⟨P, hP⟩ : ∃ P, P = w1.heap.size := ⟨_, rfl⟩
  obtain ⟨w2, hw2⟩ : ∃ w2, w2 = w1.alloc (.cells #[.slice none 0 0] 106) := ⟨_, rfl⟩
  rw [← hw2, ← hP] at Q
  rw [← hw2, ← hP]
  clear hw2 hP
  replace Q := Q.drew
  refine wp_region_held_drew (S := fun w0 => BoxF w0 w.heap.size f A c) (by kernel_rfl) ?_ (fun hHeld => ?_)
  · exact Q.box
  refine wpAnyH_take (i := 1) (v := ?av1) (by simp only [List.getElem?_toArray, List.getElem?_cons_succ, List.getElem?_cons_zero]; rfl) (by kernel_rfl) (by kernel_rfl) (by kernel_rfl) (by exact fun _ _ _ h => h) (Or.inl ⟨by kernel_rfl, ?ay1⟩) hHeld ?_
  case ay1 => (intro w hSw; (try dsimp only at hSw); obtain ⟨k0, k1, k2, k3, k4, k5, k6, k7⟩ := hSw.all; clear hSw; go_simp; try (with_reducible rfl))
  try simp only [Act.put, List.setIfInBounds_toArray, List.set_cons_zero, List.set_cons_succ]
  refine wpAnyH_take (i := 2) (v := ?av2) (by simp only [List.getElem?_toArray, List.getElem?_cons_succ, List.getElem?_cons_zero]; rfl) (by kernel_rfl) (by kernel_rfl) (by kernel_rfl) (by exact fun _ _ _ h => h) (Or.inl ⟨by kernel_rfl, ?ay2⟩) hHeld ?_
  case ay2 => (intro w hSw; (try dsimp only at hSw); obtain ⟨k0, k1, k2, k3, k4, k5, k6, k7⟩ := hSw.all; clear hSw; go_simp; try (with_reducible rfl))
  try simp only [Act.put, List.setIfInBounds_toArray, List.set_cons_zero, List.set_cons_succ]
  refine wpAnyH_take (i := 4) (v := ?av4) (by simp only [List.getElem?_toArray, List.getElem?_cons_succ, List.getElem?_cons_zero]; rfl) (by kernel_rfl) (by kernel_rfl) (by kernel_rfl) (by exact fun _ _ _ h => h) (Or.inl ⟨by kernel_rfl, ?ay4⟩) hHeld ?_
  case ay4 => (intro w hSw; (try dsimp only at hSw); obtain ⟨k0, k1, k2, k3, k4, k5, k6, k7⟩ := hSw.all; clear hSw; go_simp; try (with_reducible rfl))
  try simp only [Act.put, List.setIfInBounds_toArray, List.set_cons_zero, List.set_cons_succ]
  refine wpAnyH_take (i := 5) (v := ?av5) (by simp only [List.getElem?_toArray, List.getElem?_cons_succ, List.getElem?_cons_zero]; rfl) (by kernel_rfl) (by kernel_rfl) (by kernel_rfl) (by exact fun _ _ _ h => h) (Or.inl ⟨by kernel_rfl, ?ay5⟩) hHeld ?_
  case ay5 => (intro w hSw; (try dsimp only at hSw); obtain ⟨k0, k1, k2, k3, k4, k5, k6, k7⟩ := hSw.all; clear hSw; go_simp; try (with_reducible rfl))
  try simp only [Act.put, List.setIfInBounds_toArray, List.set_cons_zero, List.set_cons_succ]
  refine wpAnyH_ready (rs := [0]) (by kernel_rfl) (by simp) ?_
  refine AllReadyH.cons (by simp only [List.getElem?_toArray, List.getElem?_cons_zero]; rfl) (fun KK hKK => ?_) AllReadyH.nil
  go_simp
  have hC := PenByte_calls _ none _ 86 _ Q.pen (by omega) (by simp)
  rw [show ((86 : Nat) : Int) = 86 from rfl] at hC
  (with_reducible refine hC.mono ?_)
  rintro e w4 ⟨rfl, r3, hp, hst⟩
  replace Q := Q.step hp hst
  clear hp hst hC
  go_wp2_with fail
  refine hKK.out _ _ ?_ (fun hHeld => ?_)
  · exact Q.box
  clear hKK KK
  try simp only [Act.put, List.setIfInBounds_toArray, List.set_cons_zero, List.set_cons_succ]
  refine wpAnyH_ready (rs := [3]) (by kernel_rfl) (by simp) ?_
  refine AllReadyH.cons (by simp only [List.getElem?_toArray, List.getElem?_cons_succ, List.getElem?_cons_zero]; rfl) (fun KK hKK => ?_) AllReadyH.nil
  go_simp
  have hC := PenHalf_calls _ r3 _ f.epoch _ Q.pen ho.e (by simp)
  (with_reducible refine hC.mono ?_)
  rintro e w5 ⟨rfl, r4, hp, hst⟩
  replace Q := Q.step hp hst
  clear hp hst hC
  go_wp2_with fail
  refine hKK.out _ _ ?_ (fun hHeld => ?_)
  · exact Q.box
  clear hKK KK
  try simp only [Act.put, List.setIfInBounds_toArray, List.set_cons_zero, List.set_cons_succ]
  refine wpAnyH_ready (rs := [6]) (by kernel_rfl) (by simp) ?_
  refine AllReadyH.cons (by simp only [List.getElem?_toArray, List.getElem?_cons_succ, List.getElem?_cons_zero]; rfl) (fun KK hKK => ?_) AllReadyH.nil
  go_simp
  have hC := PenHalf_calls _ r4 _ f.seq _ Q.pen ho.s (by simp)
  (with_reducible refine hC.mono ?_)
  rintro e w6 ⟨rfl, r5, hp, hst⟩
  replace Q := Q.step hp hst
  clear hp hst hC
  go_wp2_with fail
  refine hKK.out _ _ ?_ (fun hHeld => ?_)
  · exact Q.box
  clear hKK KK
  try simp only [Act.put, List.setIfInBounds_toArray, List.set_cons_zero, List.set_cons_succ]
  refine wpAnyH_done (by kernel_rfl) ?_ _
  go_wp2_with fail
  replace Q := Q.drew
  refine wp_region_held_drew (S := fun w0 => BoxF w0 w.heap.size f A c) (by kernel_rfl) ?_ (fun hHeld => ?_)
  · exact Q.box
  refine wpAnyH_take (i := 0) (v := ?bv0) (by simp only [List.getElem?_toArray, List.getElem?_cons_zero]; rfl) (by kernel_rfl) (by kernel_rfl) (by kernel_rfl) (by exact fun _ _ _ h => h) (Or.inl ⟨by kernel_rfl, ?by0⟩) hHeld ?_
  case by0 => (intro w hSw; (try dsimp only at hSw); obtain ⟨k0, k1, k2, k3, k4, k5, k6, k7⟩ := hSw.all; clear hSw; go_simp; try (with_reducible rfl))
  try simp only [Act.put, List.setIfInBounds_toArray, List.set_cons_zero, List.set_cons_succ]
  refine wpAnyH_take (i := 1) (v := ?bv1) (by simp only [List.getElem?_toArray, List.getElem?_cons_succ, List.getElem?_cons_zero]; rfl) (by kernel_rfl) (by kernel_rfl) (by kernel_rfl) (by exact fun _ _ _ h => h) (Or.inl ⟨by kernel_rfl, ?by1⟩) hHeld ?_
  case by1 => (intro w hSw; (try dsimp only at hSw); obtain ⟨k0, k1, k2, k3, k4, k5, k6, k7⟩ := hSw.all; clear hSw; go_simp; try (with_reducible rfl))
  try simp only [Act.put, List.setIfInBounds_toArray, List.set_cons_zero, List.set_cons_succ]
  refine wpAnyH_take (i := 2) (v := ?bv2) (by simp only [List.getElem?_toArray, List.getElem?_cons_succ, List.getElem?_cons_zero]; rfl) (by kernel_rfl) (by kernel_rfl) (by kernel_rfl) (by exact fun _ _ _ h => h) (Or.inl ⟨by kernel_rfl, ?by2⟩) hHeld ?_
  case by2 => (intro w hSw; (try dsimp only at hSw); obtain ⟨k0, k1, k2, k3, k4, k5, k6, k7⟩ := hSw.all; clear hSw; go_simp; try (with_reducible rfl))
  try simp only [Act.put, List.setIfInBounds_toArray, List.set_cons_zero, List.set_cons_succ]
  refine wpAnyH_take (i := 4) (v := ?bv4) (by simp only [List.getElem?_toArray, List.getElem?_cons_succ, List.getElem?_cons_zero]; rfl) (by kernel_rfl) (by kernel_rfl) (by kernel_rfl) (by exact fun _ _ _ h => h) (Or.inl ⟨by kernel_rfl, ?by4⟩) hHeld ?_
  case by4 => (intro w hSw; (try dsimp only at hSw); obtain ⟨k0, k1, k2, k3, k4, k5, k6, k7⟩ := hSw.all; clear hSw; go_simp; try (with_reducible rfl))
  try simp only [Act.put, List.setIfInBounds_toArray, List.set_cons_zero, List.set_cons_succ]
  refine wpAnyH_take (i := 5) (v := ?bv5) (by simp only [List.getElem?_toArray, List.getElem?_cons_succ, List.getElem?_cons_zero]; rfl) (by kernel_rfl) (by kernel_rfl) (by kernel_rfl) (by exact fun _ _ _ h => h) (Or.inl ⟨by kernel_rfl, ?by5⟩) hHeld ?_
  case by5 => (intro w hSw; (try dsimp only at hSw); obtain ⟨k0, k1, k2, k3, k4, k5, k6, k7⟩ := hSw.all; clear hSw; go_simp; try (with_reducible rfl))
  try simp only [Act.put, List.setIfInBounds_toArray, List.set_cons_zero, List.set_cons_succ]
  refine wpAnyH_take (i := 6) (v := ?bv6) (by simp only [List.getElem?_toArray, List.getElem?_cons_succ, List.getElem?_cons_zero]; rfl) (by kernel_rfl) (by kernel_rfl) (by kernel_rfl) (by exact fun _ _ _ h => h) (Or.inl ⟨by kernel_rfl, ?by6⟩) hHeld ?_
  case by6 => (intro w hSw; (try dsimp only at hSw); obtain ⟨k0, k1, k2, k3, k4, k5, k6, k7⟩ := hSw.all; clear hSw; go_simp; try (with_reducible rfl))
  try simp only [Act.put, List.setIfInBounds_toArray, List.set_cons_zero, List.set_cons_succ]
  refine wpAnyH_ready (rs := [3]) (by kernel_rfl) (by simp) ?_
  refine AllReadyH.cons (by simp only [List.getElem?_toArray, List.getElem?_cons_succ, List.getElem?_cons_zero]; rfl) (fun KK hKK => ?_) AllReadyH.nil
  go_simp
  have hC := PenHalf_calls _ r5 _ f.next _ Q.pen ho.n (by simp)
  (with_reducible refine hC.mono ?_)
  rintro e w7 ⟨rfl, r6, hp, hst⟩
  replace Q := Q.step hp hst
  clear hp hst hC
  go_wp2_with fail
  refine hKK.out _ _ ?_ (fun hHeld => ?_)
  · exact Q.box
  clear hKK KK
  try simp only [Act.put, List.setIfInBounds_toArray, List.set_cons_zero, List.set_cons_succ]
  refine wpAnyH_ready (rs := [7]) (by kernel_rfl) (by simp) ?_
  refine AllReadyH.cons (by simp only [List.getElem?_toArray, List.getElem?_cons_succ, List.getElem?_cons_zero]; rfl) (fun KK hKK => ?_) AllReadyH.nil
  go_simp
  have hC := PenWord_calls _ r6 _ f.bits _ Q.pen ho.b (by simp)
  (with_reducible refine hC.mono ?_)
  rintro e w8 ⟨rfl, r7, hp, hst⟩
  replace Q := Q.step hp hst
  clear hp hst hC
  go_wp2_with fail
  refine hKK.out _ _ ?_ (fun hHeld => ?_)
  · exact Q.box
  clear hKK KK
  try simp only [Act.put, List.setIfInBounds_toArray, List.set_cons_zero, List.set_cons_succ]
  refine wpAnyH_done (by kernel_rfl) ?_ _
  go_wp2_with fail
  replace Q := Q.drew
  refine wp_region_held_drew (S := fun w0 => BoxF w0 w.heap.size f A c) (by kernel_rfl) ?_ (fun hHeld => ?_)
  · exact Q.box
  refine wpAnyH_take (i := 0) (v := ?cv0) (by simp only [List.getElem?_toArray, List.getElem?_cons_zero]; rfl) (by kernel_rfl) (by kernel_rfl) (by kernel_rfl) (by exact fun _ _ _ h => h) (Or.inl ⟨by kernel_rfl, ?cy0⟩) hHeld ?_
  case cy0 => (intro w hSw; (try dsimp only at hSw); obtain ⟨k0, k1, k2, k3, k4, k5, k6, k7⟩ := hSw.all; clear hSw; go_simp; try (with_reducible rfl))
  try simp only [Act.put, List.setIfInBounds_toArray, List.set_cons_zero, List.set_cons_succ]
  refine wpAnyH_take (i := 3) (v := ?cv3) (by simp only [List.getElem?_toArray, List.getElem?_cons_succ, List.getElem?_cons_zero]; rfl) (by kernel_rfl) (by kernel_rfl) (by kernel_rfl) (by exact fun _ _ _ h => h) (Or.inl ⟨by kernel_rfl, ?cy3⟩) hHeld ?_
  case cy3 => (intro w hSw; (try dsimp only at hSw); obtain ⟨k0, k1, k2, k3, k4, k5, k6, k7⟩ := hSw.all; clear hSw; go_simp; try (with_reducible rfl))
  try simp only [Act.put, List.setIfInBounds_toArray, List.set_cons_zero, List.set_cons_succ]
  refine wpAnyH_take (i := 4) (v := ?cv4) (by simp only [List.getElem?_toArray, List.getElem?_cons_succ, List.getElem?_cons_zero]; rfl) (by kernel_rfl) (by kernel_rfl) (by kernel_rfl) (by exact fun _ _ _ h => h) (Or.inl ⟨by kernel_rfl, ?cy4⟩) hHeld ?_
  case cy4 => (intro w hSw; (try dsimp only at hSw); obtain ⟨k0, k1, k2, k3, k4, k5, k6, k7⟩ := hSw.all; clear hSw; go_simp; try (with_reducible rfl))
  try simp only [Act.put, List.setIfInBounds_toArray, List.set_cons_zero, List.set_cons_succ]
  refine wpAnyH_ready (rs := [1]) (by kernel_rfl) (by simp) ?_
  refine AllReadyH.cons (by simp only [List.getElem?_toArray, List.getElem?_cons_succ, List.getElem?_cons_zero]; rfl) (fun KK hKK => ?_) AllReadyH.nil
  go_simp
  (with_reducible refine (hM _).mono ?_)
  rintro e w9 ⟨rfl, h1⟩
  replace Q := Q.ext h1
  clear h1
  go_wp2_with fail
  refine hKK.out _ _ ?_ (fun hHeld => ?_)
  · exact Q.box
  clear hKK KK
  try simp only [Act.put, List.setIfInBounds_toArray, List.set_cons_zero, List.set_cons_succ]
  refine wpAnyH_ready (rs := [2]) (by kernel_rfl) (by simp) ?_
  refine AllReadyH.cons (by simp only [List.getElem?_toArray, List.getElem?_cons_succ, List.getElem?_cons_zero]; rfl) (fun KK hKK => ?_) AllReadyH.nil
  go_simp
  have hC := PenByte_calls _ r7 _ f.marks _ Q.pen (by omega) (by simp)
  (with_reducible refine hC.mono ?_)
  rintro e w10 ⟨rfl, r9, hp, hst⟩
  replace Q := Q.step hp hst
  clear hp hst hC
  go_wp2_with fail
  refine hKK.out _ _ ?_ (fun hHeld => ?_)
  · exact Q.box
  clear hKK KK
  try simp only [Act.put, List.setIfInBounds_toArray, List.set_cons_zero, List.set_cons_succ]
  refine wpAnyH_ready (rs := [5]) (by kernel_rfl) (by simp) ?_
  refine AllReadyH.cons (by simp only [List.getElem?_toArray, List.getElem?_cons_succ, List.getElem?_cons_zero]; rfl) (fun KK hKK => ?_) AllReadyH.nil
  go_simp
  obtain ⟨b2, hb2, hf2⟩ : ∃ b2, Bs w10 b2 A f.data ∧ (b2 ≠ P ∧ r9 ≠ some b2) := by
    have h4 := Q.pgt
    by_cases h : f.data = []
    · exact ⟨w.heap.size, by rw [h]; exact Sl.nil_ _ _ _, by omega, fun e => by have := Q.far _ e; omega⟩
    · have h3 := Q.dlt h
      exact ⟨b, Q.data, by omega, fun e => by have := Q.far _ e; omega⟩
  (with_reducible refine (PenBlob_calls _ r9 _ A f.data f.data.length c b2 _ Q.pen hb2 rfl hf2 (by simp; omega)).mono ?_)
  rintro e w11 ⟨rfl, r10, hp, hst⟩
  replace Q := Q.step hp hst
  clear hp hst hb2 hf2
  go_wp2_with fail
  refine hKK.out _ _ ?_ (fun hHeld => ?_)
  · exact Q.box
  clear hKK KK
  try simp only [Act.put, List.setIfInBounds_toArray, List.set_cons_zero, List.set_cons_succ]
  refine wpAnyH_done (by kernel_rfl) ?_ _
  have hraw : f.raw.length ≤ 1000023 := by
    have h1 := numF_length 10 f.data.length
    unfold Fr.raw num
    simp
    omega
  obtain ⟨R, hRR⟩ : ∃ R, R = f.raw := ⟨_, rfl⟩
  have hpen := Q.pen.cast (show _ = R by rw [hRR]; simp [Fr.raw])
  rw [← hRR] at hraw
  have HRR := Lib.hid hRR
  have hbel := Q.below
  clear Q hRR
  go_wp2_with fail
  refine (Make_calls _).mono ?_
  rintro e wm ⟨rfl, h1⟩
  replace hpen := hpen.ext h1
  replace hbel := hbel.trans (h1.mono hbel.size)
  clear h1
  go_wp2_with fail
  refine (PenBytes_calls P r10 R _ hpen (by omega)).mono ?_
  rintro e wp ⟨v, rfl, hrow, h1⟩
  replace hbel := hbel.trans (h1.mono hbel.size)
  obtain ⟨Ar, cr, br, rfl, -, -, -, -, hsr, -⟩ := hrow.sl
  clear h1 hpen hrow
  go_wp2_with fail
  refine (Seal_calls Ar R R.length cr br _ hsr rfl (by omega)).mono ?_
  rintro e wq ⟨v, rfl, hrow, h1⟩
  have hsz := hbel.size
  replace hbel := hbel.trans (h1.mono hbel.size)
  clear h1 hsr
  go_wp2_with fail
  go_ret
  exact ⟨_, rfl, by rw [← HRR.out]; exact hrow.low hsz, hbel⟩
end Go.Proofs.YtgpedkdebifooaaDoor
