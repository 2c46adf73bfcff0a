/- Messages of each kind, those of a step without cells: their Bytes, their Size. Conditions: the numbers fit. -/
import Derived.Test.YtcbhochfdnbaaaaFrL
namespace Go.Proofs.Ytcbhochfdnbaaaa
open Go.RowKit
set_option linter.unusedVariables false

theorem box4_all {w : World} {g : Nat} {t : TypeId} {c0 c1 c2 c3 : Value} (h : w.heap[g]? = some (.cells #[c0, c1, c2, c3] t (0, 0))) : w.cell? ⟨g, 0, none⟩ = some c0 ∧ w.cell? ⟨g, 1, none⟩ = some c1 ∧ w.cell? ⟨g, 2, none⟩ = some c2 ∧ w.cell? ⟨g, 3, none⟩ = some c3 := by
  refine ⟨?_, ?_, ?_, ?_⟩ <;> (rw [cell_of_row w g _ _ _ _ h]; rfl)
/-- What a writer keeps: its variable (block w0.heap.size), the pen. -/
structure FX (w0 : World) (P : Nat) (o : Obj) (w : World) (r : Option Nat) (l : List UInt8) : Prop where
  box : w.heap[w0.heap.size]? = some o
  pen : PenAt w P r l
  far : ∀ j, r = some j → w0.heap.size < j
  pgt : w0.heap.size < P
  below : Below w0.heap.size w0 w
namespace FX
variable {w0 w w' : World} {P : Nat} {o : Obj} {r r' : Option Nat} {l l' : List UInt8}
theorem step (q : FX w0 P o w r l) (hp : PenAt w' P r' l') (hst : PenStep P r r' w w') : FX w0 P o w' r' l' := by
  have hg := q.pgt
  have hlt := box_lt q.box
  refine ⟨(hst.2.block _ hlt ?_).trans q.box, hp, ?_, hg, q.below.trans (hst.2.below q.below.size ?_)⟩
  · rintro (e | e)
    · omega
    · have := q.far _ e; omega
  · intro j hj
    rcases hst.1 with h | ⟨k, h, hk⟩
    · exact q.far j (h ▸ hj)
    · have e := h.symm.trans hj
      injection e with e
      omega
  · intro i hi e
    rcases e with e | e
    · omega
    · have := q.far _ e; omega
theorem drew (q : FX w0 P o w r l) : FX w0 P o w.drew r l := ⟨q.box, q.pen, q.far, q.pgt, below_drew q.below⟩
theorem ext (q : FX w0 P o w r l) (h : Below w.heap.size w w') : FX w0 P o w' r l :=
  ⟨box_ext q.box h, q.pen.ext h, q.far, q.pgt, q.below.trans (h.mono q.below.size)⟩
theorem begin_ (w0 w : World) (o : Obj) (hb : Below w0.heap.size w0 w) (hq : w.heap[w0.heap.size]? = some o) : FX w0 w.heap.size o (w.alloc (.cells #[.slice none 0 0] 91)) none [] := by
  have h2 := below_alloc1 w (.cells #[.slice none 0 0] 91)
  exact ⟨box_ext hq h2, ⟨.slice none 0 0, heap_alloc_new _ _, Row.nil_ _ _, rfl⟩, fun j hj => by (cases hj), box_lt hq, hb.trans (h2.mono hb.size)⟩
end FX

set_option maxHeartbeats 1000000 in
set_option maxRecDepth 20000 in
theorem Rises_nil (t : Nat) (w : World) : Calls Try.prog 80 #[.agg #[.int .u32 (t : Int), .int .u32 0, .slice none 0 0, .slice none 0 0]] w fun e w' => e = .returned (.bool true) ∧ Below w.heap.size w w' := by
  have q : (w.alloc (.cells #[.int .u32 (t : Int), .int .u32 0, .slice none 0 0, .slice none 0 0] 54)).heap[w.heap.size]? = some (.cells #[.int .u32 (t : Int), .int .u32 0, .slice none 0 0, .slice none 0 0] 54 (0, 0)) := heap_alloc_new w _
  have hb := below_alloc1 w (.cells #[.int .u32 (t : Int), .int .u32 0, .slice none 0 0, .slice none 0 0] 54)
  go_enter Try.func80, Try.ntmps80
  go_wp2_with fail
  obtain ⟨w1, hw1⟩ : ∃ w1, w1 = w.alloc (.cells #[.int .u32 (t : Int), .int .u32 0, .slice none 0 0, .slice none 0 0] 54) := ⟨_, rfl⟩
  rw [← hw1] at q hb ⊢
  clear hw1
  obtain ⟨k0, k1, k2, k3⟩ := box4_all q
  go_loopw [8] (fun i wr => i = .int .i64 0 ∧ wr = w1) (fun _ _ => 0)
  case atStart => exact ⟨rfl, rfl⟩
  case round =>
    obtain ⟨rfl, rfl⟩ := hrel
    go_wp2_with fail
    go_ret
    exact ⟨rfl, hb⟩
/-- The bytes of a delta without cells. -/
def dZ (t : Nat) : List UInt8 := low t 4 ++ low 0 4 ++ low 0 1
theorem dZ_length (t : Nat) : (dZ t).length = 9 := by simp [dZ]

set_option maxHeartbeats 4000000 in
set_option maxRecDepth 20000 in
theorem DBytes_nil (t : Nat) (w : World) (ht : t < 4294967296) : Calls Try.prog 60 #[.agg #[.int .u32 (t : Int), .int .u32 0, .slice none 0 0, .slice none 0 0]] w fun e w' => ∃ v, e = .returned v ∧ Row w' w.heap.size v (dZ t) ∧ Below w.heap.size w w' := by
  have q : (w.alloc (.cells #[.int .u32 (t : Int), .int .u32 0, .slice none 0 0, .slice none 0 0] 54)).heap[w.heap.size]? = some (.cells #[.int .u32 (t : Int), .int .u32 0, .slice none 0 0, .slice none 0 0] 54 (0, 0)) := heap_alloc_new w _
  have hb := below_alloc1 w (.cells #[.int .u32 (t : Int), .int .u32 0, .slice none 0 0, .slice none 0 0] 54)
  go_enter Try.func60, Try.ntmps60
  go_wp2_with fail
  refine (Rises_nil t _).mono ?_
  rintro e w1 ⟨rfl, h1⟩
  have Q := FX.begin_ w w1 _ (hb.trans (h1.mono hb.size)) (box_ext q h1)
  clear q hb h1
  go_wp2_with fail
  obtain ⟨P, hP⟩ : ∃ P, P = w1.heap.size := ⟨_, rfl⟩
  obtain ⟨w2, hw2⟩ : ∃ w2, w2 = w1.alloc (.cells #[.slice none 0 0] 91) := ⟨_, rfl⟩
  rw [← hw2, ← hP] at Q
  rw [← hw2, ← hP]
  clear hw2 hP
  replace Q := Q.drew
  have hwr : IntKind.u8.wrap 0 = 0 := by decide
  refine wp_region_held_drew (S := fun w0 => w0.heap[w.heap.size]? = some (.cells #[.int .u32 (t : Int), .int .u32 0, .slice none 0 0, .slice none 0 0] 54 (0, 0))) (by kernel_rfl) ?_ (fun hHeld => ?_)
  · exact Q.box
  refine wpAnyH_take (i := 0) (v := ?dv0) (by simp only [List.getElem?_toArray, List.getElem?_cons_zero]; rfl) (by kernel_rfl) (by kernel_rfl) (by kernel_rfl) (by exact fun _ _ _ h => h) (Or.inl ⟨by kernel_rfl, ?dy0⟩) hHeld ?_
  case dy0 => (intro w hSw; (try dsimp only at hSw); obtain ⟨k0, k1, k2, k3⟩ := box4_all hSw; clear hSw; go_simp; try (with_reducible rfl))
  try simp only [Act.put, List.setIfInBounds_toArray, List.set_cons_zero, List.set_cons_succ]
  refine wpAnyH_take (i := 1) (v := ?dv1) (by simp only [List.getElem?_toArray, List.getElem?_cons_succ, List.getElem?_cons_zero]; rfl) (by kernel_rfl) (by kernel_rfl) (by kernel_rfl) (by exact fun _ _ _ h => h) (Or.inl ⟨by kernel_rfl, ?dy1⟩) hHeld ?_
  case dy1 => (intro w hSw; (try dsimp only at hSw); obtain ⟨k0, k1, k2, k3⟩ := box4_all hSw; clear hSw; go_simp; try (with_reducible rfl))
  try simp only [Act.put, List.setIfInBounds_toArray, List.set_cons_zero, List.set_cons_succ]
  refine wpAnyH_take (i := 3) (v := ?dv3) (by simp only [List.getElem?_toArray, List.getElem?_cons_succ, List.getElem?_cons_zero]; rfl) (by kernel_rfl) (by kernel_rfl) (by kernel_rfl) (by exact fun _ _ _ h => h) (Or.inl ⟨by kernel_rfl, ?dy3⟩) hHeld ?_
  case dy3 => (intro w hSw; (try dsimp only at hSw); obtain ⟨k0, k1, k2, k3⟩ := box4_all hSw; clear hSw; go_simp; try (with_reducible rfl))
  try simp only [Act.put, List.setIfInBounds_toArray, List.set_cons_zero, List.set_cons_succ]
  refine wpAnyH_take (i := 4) (v := ?dv4) (by simp only [List.getElem?_toArray, List.getElem?_cons_succ, List.getElem?_cons_zero]; rfl) (by kernel_rfl) (by kernel_rfl) (by kernel_rfl) (by exact fun _ _ _ h => h) (Or.inl ⟨by kernel_rfl, ?dy4⟩) hHeld ?_
  case dy4 => (intro w hSw; (try dsimp only at hSw); obtain ⟨k0, k1, k2, k3⟩ := box4_all hSw; clear hSw; go_simp; try (with_reducible rfl))
  try simp only [Act.put, List.setIfInBounds_toArray, List.set_cons_zero, List.set_cons_succ]
  refine wpAnyH_take (i := 6) (v := ?dv6) (by simp only [List.getElem?_toArray, List.getElem?_cons_succ, List.getElem?_cons_zero]; rfl) (by kernel_rfl) (by kernel_rfl) (by kernel_rfl) (by exact fun _ _ _ h => h) (Or.inl ⟨by kernel_rfl, ?dy6⟩) hHeld ?_
  case dy6 => (intro w hSw; (try dsimp only at hSw); obtain ⟨k0, k1, k2, k3⟩ := box4_all hSw; clear hSw; go_simp; try (with_reducible rfl))
  try simp only [Act.put, List.setIfInBounds_toArray, List.set_cons_zero, List.set_cons_succ]
  refine wpAnyH_take (i := 7) (v := ?dv7) (by simp only [List.getElem?_toArray, List.getElem?_cons_succ, List.getElem?_cons_zero]; rfl) (by kernel_rfl) (by kernel_rfl) (by kernel_rfl) (by exact fun _ _ _ h => h) (Or.inl ⟨by kernel_rfl, ?dy7⟩) hHeld ?_
  case dy7 => (intro w hSw; (try dsimp only at hSw); obtain ⟨k0, k1, k2, k3⟩ := box4_all hSw; clear hSw; go_simp; try (with_reducible rfl))
  try simp only [Act.put, List.setIfInBounds_toArray, List.set_cons_zero, List.set_cons_succ]
  refine wpAnyH_take (i := 8) (v := ?dv8) (by simp only [List.getElem?_toArray, List.getElem?_cons_succ, List.getElem?_cons_zero]; rfl) (by kernel_rfl) (by kernel_rfl) (by kernel_rfl) (by exact fun _ _ _ h => h) (Or.inl ⟨by kernel_rfl, ?dy8⟩) hHeld ?_
  case dy8 => (intro w hSw; (try dsimp only at hSw); obtain ⟨k0, k1, k2, k3⟩ := box4_all hSw; clear hSw; go_simp; try (with_reducible rfl))
  try simp only [Act.put, List.setIfInBounds_toArray, List.set_cons_zero, List.set_cons_succ]
  refine wpAnyH_take (i := 9) (v := ?dv9) (by simp only [List.getElem?_toArray, List.getElem?_cons_succ, List.getElem?_cons_zero]; rfl) (by kernel_rfl) (by kernel_rfl) (by kernel_rfl) (by exact fun _ _ _ h => h) (Or.inl ⟨by kernel_rfl, ?dy9⟩) hHeld ?_
  case dy9 => (intro w hSw; (try dsimp only at hSw); obtain ⟨k0, k1, k2, k3⟩ := box4_all hSw; clear hSw; go_simp; try (with_reducible rfl))
  try simp only [Act.put, List.setIfInBounds_toArray, List.set_cons_zero, List.set_cons_succ]
  refine wpAnyH_ready (rs := [2]) (by kernel_rfl) (by simp) ?_
  refine AllReadyH.cons (by simp only [List.getElem?_toArray, List.getElem?_cons_succ, List.getElem?_cons_zero]; rfl) (fun KK hKK => ?_) AllReadyH.nil
  go_simp
  have hC := PenWord_calls _ none _ t _ Q.pen ht (by simp)
  (with_reducible refine hC.mono ?_)
  rintro e w3 ⟨rfl, r2, hp, hst⟩
  replace Q := Q.step hp hst
  clear hp hst hC
  go_wp2_with fail
  refine hKK.out _ _ ?_ (fun hHeld => ?_)
  · exact Q.box
  clear hKK KK
  try simp only [Act.put, List.setIfInBounds_toArray, List.set_cons_zero, List.set_cons_succ]
  refine wpAnyH_ready (rs := [5]) (by kernel_rfl) (by simp) ?_
  refine AllReadyH.cons (by simp only [List.getElem?_toArray, List.getElem?_cons_succ, List.getElem?_cons_zero]; rfl) (fun KK hKK => ?_) AllReadyH.nil
  go_simp
  have hC := PenWord_calls _ r2 _ 0 _ Q.pen (by decide) (by simp)
  rw [show ((0 : Nat) : Int) = 0 from rfl] at hC
  (with_reducible refine hC.mono ?_)
  rintro e w4 ⟨rfl, r3, hp, hst⟩
  replace Q := Q.step hp hst
  clear hp hst hC
  go_wp2_with fail
  refine hKK.out _ _ ?_ (fun hHeld => ?_)
  · exact Q.box
  clear hKK KK
  try simp only [Act.put, List.setIfInBounds_toArray, List.set_cons_zero, List.set_cons_succ]
  refine wpAnyH_ready (rs := [10]) (by kernel_rfl) (by simp) ?_
  refine AllReadyH.cons (by simp only [List.getElem?_toArray, List.getElem?_cons_succ, List.getElem?_cons_zero]; rfl) (fun KK hKK => ?_) AllReadyH.nil
  go_simp
  have hC := PenByte_calls _ r3 _ 0 _ Q.pen (by decide) (by simp)
  rw [show ((0 : Nat) : Int) = 0 from rfl] at hC
  (with_reducible refine hC.mono ?_)
  rintro e w5 ⟨rfl, r4, hp, hst⟩
  replace Q := Q.step hp hst
  clear hp hst hC
  go_wp2_with fail
  refine hKK.out _ _ ?_ (fun hHeld => ?_)
  · exact Q.box
  clear hKK KK
  try simp only [Act.put, List.setIfInBounds_toArray, List.set_cons_zero, List.set_cons_succ]
  refine wpAnyH_done (by kernel_rfl) ?_ _
  obtain ⟨k0, k1, k2, k3⟩ := box4_all Q.box
  go_wp2_with fail
  go_loopw [23] (fun i wr => i = .int .i64 0 ∧ wr = w5) (fun _ _ => 0)
  case atStart => exact ⟨rfl, rfl⟩
  case round =>
    obtain ⟨rfl, rfl⟩ := hrel
    go_wp2_with fail
    refine (PenBytes_calls _ r4 _ _ Q.pen (by simp)).mono ?_
    rintro e w7 ⟨v, rfl, hrow, h1⟩
    have hsz := Q.below.size
    have hbel := Q.below.trans (h1.mono hsz)
    go_wp2_with fail
    go_ret
    exact ⟨_, rfl, (hrow.low hsz).cast (by simp [dZ]), hbel⟩
theorem Like_h1 (w : World) : Calls Try.prog 31 #[.agg #[.int .u8 1, .int .u32 0, .int .u32 0, .int .u32 0, .int .u32 0, .slice none 0 0, .slice none 0 0], .agg #[.int .u8 1, .int .u32 0, .int .u32 0, .int .u32 0, .int .u32 0, .slice none 0 0, .slice none 0 0]] w fun e w' => e = .returned (.bool true) ∧ Below w.heap.size w w' := Like_nil 1 0 0 0 0 w
set_option maxHeartbeats 4000000 in
set_option maxRecDepth 20000 in
theorem MBytes_h1 (w : World) : Calls Try.prog 25 #[.agg #[.int .u8 1, .int .u32 0, .int .u32 0, .int .u32 0, .int .u32 0, .slice none 0 0, .slice none 0 0]] w fun e w' => ∃ v, e = .returned v ∧ Row w' w.heap.size v (low 1 1) ∧ Below w.heap.size w w' := by
  have q : (w.alloc (.cells #[.int .u8 1, .int .u32 0, .int .u32 0, .int .u32 0, .int .u32 0, .slice none 0 0, .slice none 0 0] 56)).heap[w.heap.size]? = some (.cells #[.int .u8 1, .int .u32 0, .int .u32 0, .int .u32 0, .int .u32 0, .slice none 0 0, .slice none 0 0] 56 (0, 0)) := heap_alloc_new w _
  have hb := below_alloc1 w (.cells #[.int .u8 1, .int .u32 0, .int .u32 0, .int .u32 0, .int .u32 0, .slice none 0 0, .slice none 0 0] 56)
  have Q := FX.begin_ w _ _ hb q
  rw [World.size_alloc] at Q
  have hC := PenByte_calls _ none [] 1 _ Q.pen (by omega) (by simp)
  rw [show ((1 : Nat) : Int) = 1 from rfl] at hC
  clear q hb
  go_enter Try.func25, Try.ntmps25
  go_wp2_with fail
  refine hC.mono ?_
  rintro e w1 ⟨rfl, r1, hp, hst⟩
  replace Q := Q.step hp hst
  clear hp hst hC
  obtain ⟨k0, k1, k2, k3, k4, k5, k6⟩ := BoxM.all Q.box
  go_wp2_with fail
  refine (Like_h1 _).mono ?_
  rintro e w2 ⟨rfl, h1⟩
  replace Q := Q.ext h1
  clear k0 k1 k2 k3 k4 k5 k6 h1
  go_wp2_with fail
  refine (PenBytes_calls _ r1 _ _ Q.pen (by simp)).mono ?_
  rintro e w3 ⟨v, rfl, hrow, h1⟩
  have hsz := Q.below.size
  have hbel := Q.below.trans (h1.mono hsz)
  go_wp2_with fail
  go_ret
  exact ⟨_, rfl, (hrow.low hsz).cast (by simp), hbel⟩
theorem Like_h3 (w : World) : Calls Try.prog 31 #[.agg #[.int .u8 3, .int .u32 0, .int .u32 0, .int .u32 0, .int .u32 0, .slice none 0 0, .slice none 0 0], .agg #[.int .u8 3, .int .u32 0, .int .u32 0, .int .u32 0, .int .u32 0, .slice none 0 0, .slice none 0 0]] w fun e w' => e = .returned (.bool true) ∧ Below w.heap.size w w' := Like_nil 3 0 0 0 0 w
set_option maxHeartbeats 4000000 in
set_option maxRecDepth 20000 in
theorem MBytes_h3 (w : World) : Calls Try.prog 25 #[.agg #[.int .u8 3, .int .u32 0, .int .u32 0, .int .u32 0, .int .u32 0, .slice none 0 0, .slice none 0 0]] w fun e w' => ∃ v, e = .returned v ∧ Row w' w.heap.size v (low 3 1) ∧ Below w.heap.size w w' := by
  have q : (w.alloc (.cells #[.int .u8 3, .int .u32 0, .int .u32 0, .int .u32 0, .int .u32 0, .slice none 0 0, .slice none 0 0] 56)).heap[w.heap.size]? = some (.cells #[.int .u8 3, .int .u32 0, .int .u32 0, .int .u32 0, .int .u32 0, .slice none 0 0, .slice none 0 0] 56 (0, 0)) := heap_alloc_new w _
  have hb := below_alloc1 w (.cells #[.int .u8 3, .int .u32 0, .int .u32 0, .int .u32 0, .int .u32 0, .slice none 0 0, .slice none 0 0] 56)
  have Q := FX.begin_ w _ _ hb q
  rw [World.size_alloc] at Q
  have hC := PenByte_calls _ none [] 3 _ Q.pen (by omega) (by simp)
  rw [show ((3 : Nat) : Int) = 3 from rfl] at hC
  clear q hb
  go_enter Try.func25, Try.ntmps25
  go_wp2_with fail
  refine hC.mono ?_
  rintro e w1 ⟨rfl, r1, hp, hst⟩
  replace Q := Q.step hp hst
  clear hp hst hC
  obtain ⟨k0, k1, k2, k3, k4, k5, k6⟩ := BoxM.all Q.box
  go_wp2_with fail
  refine (Like_h3 _).mono ?_
  rintro e w2 ⟨rfl, h1⟩
  replace Q := Q.ext h1
  clear k0 k1 k2 k3 k4 k5 k6 h1
  go_wp2_with fail
  refine (PenBytes_calls _ r1 _ _ Q.pen (by simp)).mono ?_
  rintro e w3 ⟨v, rfl, hrow, h1⟩
  have hsz := Q.below.size
  have hbel := Q.below.trans (h1.mono hsz)
  go_wp2_with fail
  go_ret
  exact ⟨_, rfl, (hrow.low hsz).cast (by simp), hbel⟩
theorem Like_h4 (w : World) : Calls Try.prog 31 #[.agg #[.int .u8 4, .int .u32 0, .int .u32 0, .int .u32 0, .int .u32 0, .slice none 0 0, .slice none 0 0], .agg #[.int .u8 4, .int .u32 0, .int .u32 0, .int .u32 0, .int .u32 0, .slice none 0 0, .slice none 0 0]] w fun e w' => e = .returned (.bool true) ∧ Below w.heap.size w w' := Like_nil 4 0 0 0 0 w
set_option maxHeartbeats 4000000 in
set_option maxRecDepth 20000 in
theorem MBytes_h4 (w : World) : Calls Try.prog 25 #[.agg #[.int .u8 4, .int .u32 0, .int .u32 0, .int .u32 0, .int .u32 0, .slice none 0 0, .slice none 0 0]] w fun e w' => ∃ v, e = .returned v ∧ Row w' w.heap.size v (low 4 1) ∧ Below w.heap.size w w' := by
  have q : (w.alloc (.cells #[.int .u8 4, .int .u32 0, .int .u32 0, .int .u32 0, .int .u32 0, .slice none 0 0, .slice none 0 0] 56)).heap[w.heap.size]? = some (.cells #[.int .u8 4, .int .u32 0, .int .u32 0, .int .u32 0, .int .u32 0, .slice none 0 0, .slice none 0 0] 56 (0, 0)) := heap_alloc_new w _
  have hb := below_alloc1 w (.cells #[.int .u8 4, .int .u32 0, .int .u32 0, .int .u32 0, .int .u32 0, .slice none 0 0, .slice none 0 0] 56)
  have Q := FX.begin_ w _ _ hb q
  rw [World.size_alloc] at Q
  have hC := PenByte_calls _ none [] 4 _ Q.pen (by omega) (by simp)
  rw [show ((4 : Nat) : Int) = 4 from rfl] at hC
  clear q hb
  go_enter Try.func25, Try.ntmps25
  go_wp2_with fail
  refine hC.mono ?_
  rintro e w1 ⟨rfl, r1, hp, hst⟩
  replace Q := Q.step hp hst
  clear hp hst hC
  obtain ⟨k0, k1, k2, k3, k4, k5, k6⟩ := BoxM.all Q.box
  go_wp2_with fail
  refine (Like_h4 _).mono ?_
  rintro e w2 ⟨rfl, h1⟩
  replace Q := Q.ext h1
  clear k0 k1 k2 k3 k4 k5 k6 h1
  go_wp2_with fail
  refine (PenBytes_calls _ r1 _ _ Q.pen (by simp)).mono ?_
  rintro e w3 ⟨v, rfl, hrow, h1⟩
  have hsz := Q.below.size
  have hbel := Q.below.trans (h1.mono hsz)
  go_wp2_with fail
  go_ret
  exact ⟨_, rfl, (hrow.low hsz).cast (by simp), hbel⟩
set_option maxHeartbeats 4000000 in
set_option maxRecDepth 20000 in
theorem MBytes_s5 (t : Nat) (w : World) (ht : t < 4294967296) : Calls Try.prog 25 #[.agg #[.int .u8 5, .int .u32 (t : Int), .int .u32 0, .int .u32 (t : Int), .int .u32 0, .slice none 0 0, .slice none 0 0]] w fun e w' => ∃ v, e = .returned v ∧ Row w' w.heap.size v (low 5 1 ++ dZ t) ∧ Below w.heap.size w w' := by
  have q : (w.alloc (.cells #[.int .u8 5, .int .u32 (t : Int), .int .u32 0, .int .u32 (t : Int), .int .u32 0, .slice none 0 0, .slice none 0 0] 56)).heap[w.heap.size]? = some (.cells #[.int .u8 5, .int .u32 (t : Int), .int .u32 0, .int .u32 (t : Int), .int .u32 0, .slice none 0 0, .slice none 0 0] 56 (0, 0)) := heap_alloc_new w _
  have hb := below_alloc1 w (.cells #[.int .u8 5, .int .u32 (t : Int), .int .u32 0, .int .u32 (t : Int), .int .u32 0, .slice none 0 0, .slice none 0 0] 56)
  have Q := FX.begin_ w _ _ hb q
  rw [World.size_alloc] at Q
  have hC := PenByte_calls _ none [] 5 _ Q.pen (by omega) (by simp)
  rw [show ((5 : Nat) : Int) = 5 from rfl] at hC
  clear q hb
  go_enter Try.func25, Try.ntmps25
  go_wp2_with fail
  refine hC.mono ?_
  rintro e w1 ⟨rfl, r1, hp, hst⟩
  replace Q := Q.step hp hst
  clear hp hst hC
  obtain ⟨k0, k1, k2, k3, k4, k5, k6⟩ := BoxM.all Q.box
  go_wp2_with fail
  refine (DBytes_nil t _ ht).mono ?_
  rintro e w2 ⟨v, rfl, hr2, h1⟩
  obtain ⟨A2, c2, b2, rfl, -, -, -, -, hs2, -⟩ := hr2.sl
  rw [dZ_length]
  replace Q := Q.ext h1
  clear k0 k1 k2 k3 k4 k5 k6 h1 hr2
  obtain ⟨k0, k1, k2, k3, k4, k5, k6⟩ := BoxM.all Q.box
  go_wp2_with fail
  refine (PenBytes_calls _ r1 _ _ Q.pen (by simp)).mono ?_
  rintro e w3 ⟨v, rfl, hrow, h1⟩
  have hsz := Q.below.size
  have hbel := Q.below.trans (h1.mono hsz)
  replace hs2 := Sl.ext hs2 h1
  have hz3 := h1.size
  go_wp2_with (at_builtin; go_loud (refine wpList_app w3 rfl (.tmp 55) (.tmp 56) rfl w.heap.size _ _ rfl (hrow.low hsz) b2 A2 9 c2 (dZ t) rfl hs2 (dZ_length t) (by simp) (by omega) ?_); intro v' w4 hown' hmod _)
  go_ret
  exact ⟨_, rfl, hown'.cast (by simp), hbel.trans (hmod.below hbel.size (fun i hi hv => by have := (Row.lt hrow i hv).1; omega))⟩
set_option maxHeartbeats 4000000 in
set_option maxRecDepth 20000 in
theorem MBytes_s6 (t : Nat) (w : World) (ht : t < 4294967296) : Calls Try.prog 25 #[.agg #[.int .u8 6, .int .u32 (t : Int), .int .u32 0, .int .u32 (t : Int), .int .u32 0, .slice none 0 0, .slice none 0 0]] w fun e w' => ∃ v, e = .returned v ∧ Row w' w.heap.size v (low 6 1 ++ dZ t) ∧ Below w.heap.size w w' := by
  have q : (w.alloc (.cells #[.int .u8 6, .int .u32 (t : Int), .int .u32 0, .int .u32 (t : Int), .int .u32 0, .slice none 0 0, .slice none 0 0] 56)).heap[w.heap.size]? = some (.cells #[.int .u8 6, .int .u32 (t : Int), .int .u32 0, .int .u32 (t : Int), .int .u32 0, .slice none 0 0, .slice none 0 0] 56 (0, 0)) := heap_alloc_new w _
  have hb := below_alloc1 w (.cells #[.int .u8 6, .int .u32 (t : Int), .int .u32 0, .int .u32 (t : Int), .int .u32 0, .slice none 0 0, .slice none 0 0] 56)
  have Q := FX.begin_ w _ _ hb q
  rw [World.size_alloc] at Q
  have hC := PenByte_calls _ none [] 6 _ Q.pen (by omega) (by simp)
  rw [show ((6 : Nat) : Int) = 6 from rfl] at hC
  clear q hb
  go_enter Try.func25, Try.ntmps25
  go_wp2_with fail
  refine hC.mono ?_
  rintro e w1 ⟨rfl, r1, hp, hst⟩
  replace Q := Q.step hp hst
  clear hp hst hC
  obtain ⟨k0, k1, k2, k3, k4, k5, k6⟩ := BoxM.all Q.box
  go_wp2_with fail
  refine (DBytes_nil t _ ht).mono ?_
  rintro e w2 ⟨v, rfl, hr2, h1⟩
  obtain ⟨A2, c2, b2, rfl, -, -, -, -, hs2, -⟩ := hr2.sl
  rw [dZ_length]
  replace Q := Q.ext h1
  clear k0 k1 k2 k3 k4 k5 k6 h1 hr2
  obtain ⟨k0, k1, k2, k3, k4, k5, k6⟩ := BoxM.all Q.box
  go_wp2_with fail
  refine (PenBytes_calls _ r1 _ _ Q.pen (by simp)).mono ?_
  rintro e w3 ⟨v, rfl, hrow, h1⟩
  have hsz := Q.below.size
  have hbel := Q.below.trans (h1.mono hsz)
  replace hs2 := Sl.ext hs2 h1
  have hz3 := h1.size
  go_wp2_with (at_builtin; go_loud (refine wpList_app w3 rfl (.tmp 55) (.tmp 56) rfl w.heap.size _ _ rfl (hrow.low hsz) b2 A2 9 c2 (dZ t) rfl hs2 (dZ_length t) (by simp) (by omega) ?_); intro v' w4 hown' hmod _)
  go_ret
  exact ⟨_, rfl, hown'.cast (by simp), hbel.trans (hmod.below hbel.size (fun i hi hv => by have := (Row.lt hrow i hv).1; omega))⟩
set_option maxHeartbeats 4000000 in
set_option maxRecDepth 20000 in
theorem MBytes_n (k : Nat) (w : World) (hk : k < 256) (h1 : k ≠ 1) (h2 : k ≠ 2) (h3 : k ≠ 3) (h4 : k ≠ 4) (h5 : k ≠ 5) (h6 : k ≠ 6) : Calls Try.prog 25 #[.agg #[.int .u8 (k : Int), .int .u32 0, .int .u32 0, .int .u32 0, .int .u32 0, .slice none 0 0, .slice none 0 0]] w fun e w' => e = .returned (.slice none 0 0) ∧ Below w.heap.size w w' := by
  have e1 : ((k : Int) == 1) = false := by simp; omega
  have e2 : ((k : Int) == 2) = false := by simp; omega
  have e3 : ((k : Int) == 3) = false := by simp; omega
  have e4 : ((k : Int) == 4) = false := by simp; omega
  have e5 : ((k : Int) == 5) = false := by simp; omega
  have e6 : ((k : Int) == 6) = false := by simp; omega
  clear h1 h2 h3 h4 h5 h6
  have q : (w.alloc (.cells #[.int .u8 (k : Int), .int .u32 0, .int .u32 0, .int .u32 0, .int .u32 0, .slice none 0 0, .slice none 0 0] 56)).heap[w.heap.size]? = some (.cells #[.int .u8 (k : Int), .int .u32 0, .int .u32 0, .int .u32 0, .int .u32 0, .slice none 0 0, .slice none 0 0] 56 (0, 0)) := heap_alloc_new w _
  have hb := below_alloc1 w (.cells #[.int .u8 (k : Int), .int .u32 0, .int .u32 0, .int .u32 0, .int .u32 0, .slice none 0 0, .slice none 0 0] 56)
  have Q := FX.begin_ w _ _ hb q
  rw [World.size_alloc] at Q
  have hC := PenByte_calls _ none [] k _ Q.pen (by omega) (by simp)
  clear q hb
  go_enter Try.func25, Try.ntmps25
  go_wp2_with fail
  refine hC.mono ?_
  rintro e w1 ⟨rfl, r1, hp, hst⟩
  replace Q := Q.step hp hst
  clear hp hst hC
  obtain ⟨k0, k1, k2, k3, k4, k5, k6⟩ := BoxM.all Q.box
  go_wp2_with fail
  go_ret
  exact ⟨rfl, Q.below⟩
end Go.Proofs.Ytcbhochfdnbaaaa
