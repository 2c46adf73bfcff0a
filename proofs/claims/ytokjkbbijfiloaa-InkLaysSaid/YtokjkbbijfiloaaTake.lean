/- The laws' take: a field is read off an eye, as it was asked: the document's, or nothing. Conditions: the field's numbers fit. -/
import Derived.Test.YtokjkbbijfiloaaApart
import Derived.Test.YtokjkbbijfiloaaEyeNum
import Derived.Handy
namespace Go.Proofs.Ytokjkbbijfiloaa
open Go.RowKit

/-- A field off the front, as it was asked; what is left. -/
def takeF (l : List UInt8) (f : Fld) : Option (Fld × List UInt8) :=
  if f.kind % 5 = 0 then (if l.length < 1 then none else some (⟨f.kind, valN (l.take 1), [], f.most⟩, l.drop 1))
  else if f.kind % 5 = 1 then (if l.length < 2 then none else some (⟨f.kind, valN (l.take 2), [], f.most⟩, l.drop 2))
  else if f.kind % 5 = 2 then (if l.length < 4 then none else some (⟨f.kind, valN (l.take 4), [], f.most⟩, l.drop 4))
  else if f.kind % 5 = 3 then (match rd 0 l with
    | some (v, k) => if v ≤ f.most then some (⟨f.kind, v, [], f.most⟩, l.drop k) else none
    | none => none)
  else (rdBlob l f.most).map fun y => (⟨f.kind, 0, y.1, f.most⟩, y.2)
/-- What is told: the field, or nothing. -/
def toldF (l : List UInt8) (f : Fld) : Fld := match takeF l f with
  | some (y, _) => y
  | none => ⟨f.kind, 0, [], f.most⟩
def leftF (l : List UInt8) (f : Fld) : List UInt8 := match takeF l f with
  | some (_, r) => r
  | none => []
def badF (l : List UInt8) (bad : Bool) (f : Fld) : Bool := match takeF l f with
  | some _ => bad
  | none => true

/-- What take says. -/
def Took (g b : Nat) (l : List UInt8) (bad : Bool) (f : Fld) (w : World) (e : Ending) (w' : World) : Prop :=
  ∃ A c, e = .returned (.agg (Fld.cells (toldF l f) A c).toArray) ∧ Bs w' b A (toldF l f).b ∧ EyeAt w' g b (leftF l f) (badF l bad f) ∧ Mod (fun i => i = g) w w'

theorem box_all {w' : World} {g : Nat} {a b c d : Value} {t : TypeId} (h : w'.heap[g]? = some (.cells #[a, b, c, d] t (0, 0))) :
    w'.cell? ⟨g, 0, none⟩ = some a ∧ w'.cell? ⟨g, 1, none⟩ = some b ∧ w'.cell? ⟨g, 2, none⟩ = some c ∧ w'.cell? ⟨g, 3, none⟩ = some d ∧
    w'.frozen? ⟨g, 0, none⟩ = false ∧ w'.frozen? ⟨g, 1, none⟩ = false ∧ w'.frozen? ⟨g, 2, none⟩ = false ∧ w'.frozen? ⟨g, 3, none⟩ = false := by
  obtain ⟨h0, h1, h2, h3⟩ := box_cells h
  exact ⟨h0, h1, h2, h3, frozen_of_row w' g 0 _ _ h, frozen_of_row w' g 1 _ _ h, frozen_of_row w' g 2 _ _ h, frozen_of_row w' g 3 _ _ h⟩

theorem set4 {w : World} {g : Nat} {a b c d a' b' c' d' : Value} {t : TypeId} (h : w.heap[g]? = some (.cells #[a, b, c, d] t (0, 0))) :
    ((((w.setCell ⟨g, 0, none⟩ a').setCell ⟨g, 1, none⟩ b').setCell ⟨g, 2, none⟩ c').setCell ⟨g, 3, none⟩ d').heap[g]? = some (.cells #[a', b', c', d'] t (0, 0)) := by
  have h0 : (w.setCell ⟨g, 0, none⟩ a').heap[g]? = some (.cells #[a', b, c, d] t (0, 0)) := heap_setCell_same w g 0 _ _ a' h
  have h1 : ((w.setCell ⟨g, 0, none⟩ a').setCell ⟨g, 1, none⟩ b').heap[g]? = some (.cells #[a', b', c, d] t (0, 0)) := heap_setCell_same _ g 1 _ _ b' h0
  have h2 : (((w.setCell ⟨g, 0, none⟩ a').setCell ⟨g, 1, none⟩ b').setCell ⟨g, 2, none⟩ c').heap[g]? = some (.cells #[a', b', c', d] t (0, 0)) := heap_setCell_same _ g 2 _ _ c' h1
  exact heap_setCell_same _ g 3 _ _ d' h2

/-- The end of take: the result's cells, and that only its own two boxes turned. -/
theorem take_end {w1 : World} {G2 G3 j : Nat} {u z0 z1 z2 z3 a b c d : Value} {t : TypeId} (hz : w1.heap[G2]? = some (.cells #[z0, z1, z2, z3] t (0, 0))) (hne : G2 ≠ G3) :
    (((((w1.setCell ⟨G3, j, none⟩ u).setCell ⟨G2, 0, none⟩ a).setCell ⟨G2, 1, none⟩ b).setCell ⟨G2, 2, none⟩ c).setCell ⟨G2, 3, none⟩ d).heap[G2]? = some (.cells #[a, b, c, d] t (0, 0)) ∧
    Mod (fun i => i = G2 ∨ i = G3) w1 (((((w1.setCell ⟨G3, j, none⟩ u).setCell ⟨G2, 0, none⟩ a).setCell ⟨G2, 1, none⟩ b).setCell ⟨G2, 2, none⟩ c).setCell ⟨G2, 3, none⟩ d) := by
  refine ⟨set4 ((heap_setCell_other w1 ⟨G3, j, none⟩ G2 u hne).trans hz), ?_⟩
  have m1 : Mod (fun i => i = G2 ∨ i = G3) w1 (w1.setCell ⟨G3, j, none⟩ u) := (Mod.setCell w1 _ _).mono (fun i _ h => .inr h)
  have st : ∀ (x : World) (q : Nat) (v : Value), Mod (fun i => i = G2 ∨ i = G3) w1 x → Mod (fun i => i = G2 ∨ i = G3) w1 (x.setCell ⟨G2, q, none⟩ v) := fun x q v h => h.trans (Mod.setCell x _ _) (fun _ _ h => h) (fun i _ h => .inl h)
  exact st _ _ _ (st _ _ _ (st _ _ _ (st _ _ _ m1)))

set_option maxHeartbeats 2000000 in
theorem take0_calls (g b : Nat) (l : List UInt8) (bad : Bool) (f : Fld) (A : Option Addr) (c : Nat) (w : World) (he : EyeAt w g b l bad) (hf : f.Ok) (h : f.kind % 5 = 0) :
    Calls Try.prog 17 #[.pointer (some ⟨g, 0, none⟩), .agg (Fld.cells f A c).toArray] w (Took g b l bad f w) := by
  obtain ⟨k, n, bl, most⟩ := f
  obtain ⟨hk, hn, hmo⟩ := hf
  simp only [Fld.cells] at *
  have hglt := he.lt
  have hq : ((k : Int) % 5 == 0) = true := by simp; omega
  have H := Lib.hid h
  clear h
  go_enter Try.func17, Try.ntmps17
  have hx : Below w.heap.size w (((w.alloc (.cells #[.int .u8 (k : Int), .int .u64 (n : Int), .slice A bl.length c, .int .u64 (most : Int)] 30)).alloc (.cells #[.int .u8 0, .int .u64 0, .slice none 0 0, .int .u64 0] 30)).alloc (.cells #[.int .u8 (k : Int), .int .u64 0, .slice none 0 0, .int .u64 (most : Int)] 30)) := by go_grown
  have hz : (((w.alloc (.cells #[.int .u8 (k : Int), .int .u64 (n : Int), .slice A bl.length c, .int .u64 (most : Int)] 30)).alloc (.cells #[.int .u8 0, .int .u64 0, .slice none 0 0, .int .u64 0] 30)).alloc (.cells #[.int .u8 (k : Int), .int .u64 0, .slice none 0 0, .int .u64 (most : Int)] 30)).heap[w.heap.size + 1]? = some (.cells #[.int .u8 0, .int .u64 0, .slice none 0 0, .int .u64 0] 30 (0, 0)) := by
    rw [Below.heap_alloc _ _ _ (by simp)]
    simpa using heap_alloc_new (w.alloc (.cells #[.int .u8 (k : Int), .int .u64 (n : Int), .slice A bl.length c, .int .u64 (most : Int)] 30)) (.cells #[.int .u8 0, .int .u64 0, .slice none 0 0, .int .u64 0] 30)
  have ho : (((w.alloc (.cells #[.int .u8 (k : Int), .int .u64 (n : Int), .slice A bl.length c, .int .u64 (most : Int)] 30)).alloc (.cells #[.int .u8 0, .int .u64 0, .slice none 0 0, .int .u64 0] 30)).alloc (.cells #[.int .u8 (k : Int), .int .u64 0, .slice none 0 0, .int .u64 (most : Int)] 30)).heap[w.heap.size + 1 + 1]? = some (.cells #[.int .u8 (k : Int), .int .u64 0, .slice none 0 0, .int .u64 (most : Int)] 30 (0, 0)) := by
    simpa using heap_alloc_new ((w.alloc (.cells #[.int .u8 (k : Int), .int .u64 (n : Int), .slice A bl.length c, .int .u64 (most : Int)] 30)).alloc (.cells #[.int .u8 0, .int .u64 0, .slice none 0 0, .int .u64 0] 30)) (.cells #[.int .u8 (k : Int), .int .u64 0, .slice none 0 0, .int .u64 (most : Int)] 30)
  have hsz : (((w.alloc (.cells #[.int .u8 (k : Int), .int .u64 (n : Int), .slice A bl.length c, .int .u64 (most : Int)] 30)).alloc (.cells #[.int .u8 0, .int .u64 0, .slice none 0 0, .int .u64 0] 30)).alloc (.cells #[.int .u8 (k : Int), .int .u64 0, .slice none 0 0, .int .u64 (most : Int)] 30)).heap.size = w.heap.size + 3 := by simp
  obtain ⟨W, hW⟩ : ∃ W, W = (((w.alloc (.cells #[.int .u8 (k : Int), .int .u64 (n : Int), .slice A bl.length c, .int .u64 (most : Int)] 30)).alloc (.cells #[.int .u8 0, .int .u64 0, .slice none 0 0, .int .u64 0] 30)).alloc (.cells #[.int .u8 (k : Int), .int .u64 0, .slice none 0 0, .int .u64 (most : Int)] 30)) := ⟨_, rfl⟩
  rw [← hW] at hx hz ho hsz
  have HX := Lib.hid hx
  have HZ := Lib.hid hz
  have HO := Lib.hid ho
  have HSZ := Lib.hid hsz
  have HW := Lib.hid hW
  have he3 := he.ext hx
  clear hx hz ho hsz hW
  go_wp2_with fail
  rw [← HW.out]
  refine (EyeByte_calls g b l bad _ he3).mono ?_
  rintro e w1 hy
  by_cases hl : l.length < 1
  · obtain ⟨rfl, he1, hm1⟩ := hy.2 hl
    obtain ⟨z0, z1, z2, z3, zf0, zf1, zf2, zf3⟩ := box_all ((hm1.block _ (by rw [HSZ.out]; omega) (by omega)).trans HZ.out)
    obtain ⟨o0, o1, o2, o3, of0, of1, of2, of3⟩ := box_all ((hm1.block _ (by rw [HSZ.out]; omega) (by omega)).trans HO.out)
    clear hy
    go_wp2_with fail
    have HE := take_end (j := 1) (u := .int .u64 0) (a := .int .u8 (k : Int)) (b := .int .u64 0) (c := .slice none 0 0) (d := .int .u64 (most : Int)) (t := 30) ((hm1.block _ (by rw [HSZ.out]; omega) (by omega)).trans HZ.out) (show w.heap.size + 1 ≠ w.heap.size + 1 + 1 by omega)
    (try simp only [Exit.inBlock, Exit.then])
    refine bodyPost_ret (results_cell_row (P := Try.prog) rfl _ _ (w.heap.size + 1) _ _ (0, 0) _ rfl HE.1 Try.underlying30 rfl (by kernel_rfl)) rfl ?_
    have hmE := HE.2
    have hbl : l ≠ [] → b < w.heap.size := by obtain ⟨_, A', c', _, _, _, hs⟩ := he; exact Bs.lt hs
    have heE := he1.modne hmE (by omega) (fun h => by have := hbl (by rintro rfl; exact absurd rfl h); omega)
    refine ⟨none, 0, ?_, ?_, ?_, (Mod.of_below HX.out).trans (hm1.trans hmE (S := fun i => i = g ∨ i = w.heap.size + 1 ∨ i = w.heap.size + 1 + 1) (fun i _ h => .inl h) (fun i _ h => .inr h)) (fun i hi h => by omega) (fun i hi h => by omega)⟩
    · have e1 : takeF l ⟨k, n, bl, most⟩ = none := by rw [takeF]; simp only; rw [if_pos H.out, if_pos hl]
      unfold toldF; rw [e1]; rfl
    · have e1 : takeF l ⟨k, n, bl, most⟩ = none := by rw [takeF]; simp only; rw [if_pos H.out, if_pos hl]
      unfold toldF; rw [e1]; exact Sl.nil_ _ _ _
    · have e1 : takeF l ⟨k, n, bl, most⟩ = none := by rw [takeF]; simp only; rw [if_pos H.out, if_pos hl]
      unfold leftF badF; rw [e1]; exact heE
  · obtain ⟨rfl, he1, hm1⟩ := hy.1 (by omega)
    obtain ⟨z0, z1, z2, z3, zf0, zf1, zf2, zf3⟩ := box_all ((hm1.block _ (by rw [HSZ.out]; omega) (by omega)).trans HZ.out)
    obtain ⟨o0, o1, o2, o3, of0, of1, of2, of3⟩ := box_all ((hm1.block _ (by rw [HSZ.out]; omega) (by omega)).trans HO.out)
    have hv := valN_lt (l.take 1)
    rw [List.length_take, Nat.min_eq_left (by omega)] at hv
    clear hy
    go_wp2_with fail
    have HE := take_end (j := 1) (u := .int .u64 (valN (l.take 1) : Nat)) (a := .int .u8 (k : Int)) (b := .int .u64 (valN (l.take 1) : Nat)) (c := .slice none 0 0) (d := .int .u64 (most : Int)) (t := 30) ((hm1.block _ (by rw [HSZ.out]; omega) (by omega)).trans HZ.out) (show w.heap.size + 1 ≠ w.heap.size + 1 + 1 by omega)
    (try simp only [Exit.inBlock, Exit.then])
    refine bodyPost_ret (results_cell_row (P := Try.prog) rfl _ _ (w.heap.size + 1) _ _ (0, 0) _ rfl HE.1 Try.underlying30 rfl (by kernel_rfl)) rfl ?_
    have hmE := HE.2
    have hbl : l ≠ [] → b < w.heap.size := by obtain ⟨_, A', c', _, _, _, hs⟩ := he; exact Bs.lt hs
    have heE := he1.modne hmE (by omega) (fun h => by have := hbl (by rintro rfl; exact absurd (by simp) h); omega)
    refine ⟨none, 0, ?_, ?_, ?_, (Mod.of_below HX.out).trans (hm1.trans hmE (S := fun i => i = g ∨ i = w.heap.size + 1 ∨ i = w.heap.size + 1 + 1) (fun i _ h => .inl h) (fun i _ h => .inr h)) (fun i hi h => by omega) (fun i hi h => by omega)⟩
    · have e1 : takeF l ⟨k, n, bl, most⟩ = some (⟨k, valN (l.take 1), [], most⟩, l.drop 1) := by rw [takeF]; simp only; rw [if_pos H.out, if_neg hl]
      unfold toldF; rw [e1]; rfl
    · have e1 : takeF l ⟨k, n, bl, most⟩ = some (⟨k, valN (l.take 1), [], most⟩, l.drop 1) := by rw [takeF]; simp only; rw [if_pos H.out, if_neg hl]
      unfold toldF; rw [e1]; exact Sl.nil_ _ _ _
    · have e1 : takeF l ⟨k, n, bl, most⟩ = some (⟨k, valN (l.take 1), [], most⟩, l.drop 1) := by rw [takeF]; simp only; rw [if_pos H.out, if_neg hl]
      unfold leftF badF; rw [e1]; exact heE
set_option maxHeartbeats 2000000 in
theorem take1_calls (g b : Nat) (l : List UInt8) (bad : Bool) (f : Fld) (A : Option Addr) (c : Nat) (w : World) (he : EyeAt w g b l bad) (hf : f.Ok) (h : f.kind % 5 = 1) :
    Calls Try.prog 17 #[.pointer (some ⟨g, 0, none⟩), .agg (Fld.cells f A c).toArray] w (Took g b l bad f w) := by
  obtain ⟨k, n, bl, most⟩ := f
  obtain ⟨hk, hn, hmo⟩ := hf
  simp only [Fld.cells] at *
  have hglt := he.lt
  have hq0 : ((k : Int) % 5 == 0) = false := by simp; omega
  have hq : ((k : Int) % 5 == 1) = true := by simp; omega
  have h0 : ¬ k % 5 = 0 := by omega
  have H0 := Lib.hid h0
  clear h0
  have H := Lib.hid h
  clear h
  go_enter Try.func17, Try.ntmps17
  have hx : Below w.heap.size w (((w.alloc (.cells #[.int .u8 (k : Int), .int .u64 (n : Int), .slice A bl.length c, .int .u64 (most : Int)] 30)).alloc (.cells #[.int .u8 0, .int .u64 0, .slice none 0 0, .int .u64 0] 30)).alloc (.cells #[.int .u8 (k : Int), .int .u64 0, .slice none 0 0, .int .u64 (most : Int)] 30)) := by go_grown
  have hz : (((w.alloc (.cells #[.int .u8 (k : Int), .int .u64 (n : Int), .slice A bl.length c, .int .u64 (most : Int)] 30)).alloc (.cells #[.int .u8 0, .int .u64 0, .slice none 0 0, .int .u64 0] 30)).alloc (.cells #[.int .u8 (k : Int), .int .u64 0, .slice none 0 0, .int .u64 (most : Int)] 30)).heap[w.heap.size + 1]? = some (.cells #[.int .u8 0, .int .u64 0, .slice none 0 0, .int .u64 0] 30 (0, 0)) := by
    rw [Below.heap_alloc _ _ _ (by simp)]
    simpa using heap_alloc_new (w.alloc (.cells #[.int .u8 (k : Int), .int .u64 (n : Int), .slice A bl.length c, .int .u64 (most : Int)] 30)) (.cells #[.int .u8 0, .int .u64 0, .slice none 0 0, .int .u64 0] 30)
  have ho : (((w.alloc (.cells #[.int .u8 (k : Int), .int .u64 (n : Int), .slice A bl.length c, .int .u64 (most : Int)] 30)).alloc (.cells #[.int .u8 0, .int .u64 0, .slice none 0 0, .int .u64 0] 30)).alloc (.cells #[.int .u8 (k : Int), .int .u64 0, .slice none 0 0, .int .u64 (most : Int)] 30)).heap[w.heap.size + 1 + 1]? = some (.cells #[.int .u8 (k : Int), .int .u64 0, .slice none 0 0, .int .u64 (most : Int)] 30 (0, 0)) := by
    simpa using heap_alloc_new ((w.alloc (.cells #[.int .u8 (k : Int), .int .u64 (n : Int), .slice A bl.length c, .int .u64 (most : Int)] 30)).alloc (.cells #[.int .u8 0, .int .u64 0, .slice none 0 0, .int .u64 0] 30)) (.cells #[.int .u8 (k : Int), .int .u64 0, .slice none 0 0, .int .u64 (most : Int)] 30)
  have hsz : (((w.alloc (.cells #[.int .u8 (k : Int), .int .u64 (n : Int), .slice A bl.length c, .int .u64 (most : Int)] 30)).alloc (.cells #[.int .u8 0, .int .u64 0, .slice none 0 0, .int .u64 0] 30)).alloc (.cells #[.int .u8 (k : Int), .int .u64 0, .slice none 0 0, .int .u64 (most : Int)] 30)).heap.size = w.heap.size + 3 := by simp
  obtain ⟨W, hW⟩ : ∃ W, W = (((w.alloc (.cells #[.int .u8 (k : Int), .int .u64 (n : Int), .slice A bl.length c, .int .u64 (most : Int)] 30)).alloc (.cells #[.int .u8 0, .int .u64 0, .slice none 0 0, .int .u64 0] 30)).alloc (.cells #[.int .u8 (k : Int), .int .u64 0, .slice none 0 0, .int .u64 (most : Int)] 30)) := ⟨_, rfl⟩
  rw [← hW] at hx hz ho hsz
  have HX := Lib.hid hx
  have HZ := Lib.hid hz
  have HO := Lib.hid ho
  have HSZ := Lib.hid hsz
  have HW := Lib.hid hW
  have he3 := he.ext hx
  clear hx hz ho hsz hW
  go_wp2_with fail
  rw [← HW.out]
  refine (EyeHalf_calls g b l bad _ he3).mono ?_
  rintro e w1 hy
  by_cases hl : l.length < 2
  · obtain ⟨rfl, he1, hm1⟩ := hy.2 hl
    obtain ⟨z0, z1, z2, z3, zf0, zf1, zf2, zf3⟩ := box_all ((hm1.block _ (by rw [HSZ.out]; omega) (by omega)).trans HZ.out)
    obtain ⟨o0, o1, o2, o3, of0, of1, of2, of3⟩ := box_all ((hm1.block _ (by rw [HSZ.out]; omega) (by omega)).trans HO.out)
    clear hy
    go_wp2_with fail
    have HE := take_end (j := 1) (u := .int .u64 0) (a := .int .u8 (k : Int)) (b := .int .u64 0) (c := .slice none 0 0) (d := .int .u64 (most : Int)) (t := 30) ((hm1.block _ (by rw [HSZ.out]; omega) (by omega)).trans HZ.out) (show w.heap.size + 1 ≠ w.heap.size + 1 + 1 by omega)
    (try simp only [Exit.inBlock, Exit.then])
    refine bodyPost_ret (results_cell_row (P := Try.prog) rfl _ _ (w.heap.size + 1) _ _ (0, 0) _ rfl HE.1 Try.underlying30 rfl (by kernel_rfl)) rfl ?_
    have hmE := HE.2
    have hbl : l ≠ [] → b < w.heap.size := by obtain ⟨_, A', c', _, _, _, hs⟩ := he; exact Bs.lt hs
    have heE := he1.modne hmE (by omega) (fun h => by have := hbl (by rintro rfl; exact absurd rfl h); omega)
    refine ⟨none, 0, ?_, ?_, ?_, (Mod.of_below HX.out).trans (hm1.trans hmE (S := fun i => i = g ∨ i = w.heap.size + 1 ∨ i = w.heap.size + 1 + 1) (fun i _ h => .inl h) (fun i _ h => .inr h)) (fun i hi h => by omega) (fun i hi h => by omega)⟩
    · have e1 : takeF l ⟨k, n, bl, most⟩ = none := by rw [takeF]; simp only; rw [if_neg H0.out, if_pos H.out, if_pos hl]
      unfold toldF; rw [e1]; rfl
    · have e1 : takeF l ⟨k, n, bl, most⟩ = none := by rw [takeF]; simp only; rw [if_neg H0.out, if_pos H.out, if_pos hl]
      unfold toldF; rw [e1]; exact Sl.nil_ _ _ _
    · have e1 : takeF l ⟨k, n, bl, most⟩ = none := by rw [takeF]; simp only; rw [if_neg H0.out, if_pos H.out, if_pos hl]
      unfold leftF badF; rw [e1]; exact heE
  · obtain ⟨rfl, he1, hm1⟩ := hy.1 (by omega)
    obtain ⟨z0, z1, z2, z3, zf0, zf1, zf2, zf3⟩ := box_all ((hm1.block _ (by rw [HSZ.out]; omega) (by omega)).trans HZ.out)
    obtain ⟨o0, o1, o2, o3, of0, of1, of2, of3⟩ := box_all ((hm1.block _ (by rw [HSZ.out]; omega) (by omega)).trans HO.out)
    have hv := valN_lt (l.take 2)
    rw [List.length_take, Nat.min_eq_left (by omega)] at hv
    clear hy
    go_wp2_with fail
    have HE := take_end (j := 1) (u := .int .u64 (valN (l.take 2) : Nat)) (a := .int .u8 (k : Int)) (b := .int .u64 (valN (l.take 2) : Nat)) (c := .slice none 0 0) (d := .int .u64 (most : Int)) (t := 30) ((hm1.block _ (by rw [HSZ.out]; omega) (by omega)).trans HZ.out) (show w.heap.size + 1 ≠ w.heap.size + 1 + 1 by omega)
    (try simp only [Exit.inBlock, Exit.then])
    refine bodyPost_ret (results_cell_row (P := Try.prog) rfl _ _ (w.heap.size + 1) _ _ (0, 0) _ rfl HE.1 Try.underlying30 rfl (by kernel_rfl)) rfl ?_
    have hmE := HE.2
    have hbl : l ≠ [] → b < w.heap.size := by obtain ⟨_, A', c', _, _, _, hs⟩ := he; exact Bs.lt hs
    have heE := he1.modne hmE (by omega) (fun h => by have := hbl (by rintro rfl; exact absurd (by simp) h); omega)
    refine ⟨none, 0, ?_, ?_, ?_, (Mod.of_below HX.out).trans (hm1.trans hmE (S := fun i => i = g ∨ i = w.heap.size + 1 ∨ i = w.heap.size + 1 + 1) (fun i _ h => .inl h) (fun i _ h => .inr h)) (fun i hi h => by omega) (fun i hi h => by omega)⟩
    · have e1 : takeF l ⟨k, n, bl, most⟩ = some (⟨k, valN (l.take 2), [], most⟩, l.drop 2) := by rw [takeF]; simp only; rw [if_neg H0.out, if_pos H.out, if_neg hl]
      unfold toldF; rw [e1]; rfl
    · have e1 : takeF l ⟨k, n, bl, most⟩ = some (⟨k, valN (l.take 2), [], most⟩, l.drop 2) := by rw [takeF]; simp only; rw [if_neg H0.out, if_pos H.out, if_neg hl]
      unfold toldF; rw [e1]; exact Sl.nil_ _ _ _
    · have e1 : takeF l ⟨k, n, bl, most⟩ = some (⟨k, valN (l.take 2), [], most⟩, l.drop 2) := by rw [takeF]; simp only; rw [if_neg H0.out, if_pos H.out, if_neg hl]
      unfold leftF badF; rw [e1]; exact heE

set_option maxHeartbeats 2000000 in
theorem take2_calls (g b : Nat) (l : List UInt8) (bad : Bool) (f : Fld) (A : Option Addr) (c : Nat) (w : World) (he : EyeAt w g b l bad) (hf : f.Ok) (h : f.kind % 5 = 2) :
    Calls Try.prog 17 #[.pointer (some ⟨g, 0, none⟩), .agg (Fld.cells f A c).toArray] w (Took g b l bad f w) := by
  obtain ⟨k, n, bl, most⟩ := f
  obtain ⟨hk, hn, hmo⟩ := hf
  simp only [Fld.cells] at *
  have hglt := he.lt
  have hq0 : ((k : Int) % 5 == 0) = false := by simp; omega
  have hq1 : ((k : Int) % 5 == 1) = false := by simp; omega
  have hq : ((k : Int) % 5 == 2) = true := by simp; omega
  have h0 : ¬ k % 5 = 0 := by omega
  have H0 := Lib.hid h0
  clear h0
  have h1 : ¬ k % 5 = 1 := by omega
  have H1 := Lib.hid h1
  clear h1
  have H := Lib.hid h
  clear h
  go_enter Try.func17, Try.ntmps17
  have hx : Below w.heap.size w (((w.alloc (.cells #[.int .u8 (k : Int), .int .u64 (n : Int), .slice A bl.length c, .int .u64 (most : Int)] 30)).alloc (.cells #[.int .u8 0, .int .u64 0, .slice none 0 0, .int .u64 0] 30)).alloc (.cells #[.int .u8 (k : Int), .int .u64 0, .slice none 0 0, .int .u64 (most : Int)] 30)) := by go_grown
  have hz : (((w.alloc (.cells #[.int .u8 (k : Int), .int .u64 (n : Int), .slice A bl.length c, .int .u64 (most : Int)] 30)).alloc (.cells #[.int .u8 0, .int .u64 0, .slice none 0 0, .int .u64 0] 30)).alloc (.cells #[.int .u8 (k : Int), .int .u64 0, .slice none 0 0, .int .u64 (most : Int)] 30)).heap[w.heap.size + 1]? = some (.cells #[.int .u8 0, .int .u64 0, .slice none 0 0, .int .u64 0] 30 (0, 0)) := by
    rw [Below.heap_alloc _ _ _ (by simp)]
    simpa using heap_alloc_new (w.alloc (.cells #[.int .u8 (k : Int), .int .u64 (n : Int), .slice A bl.length c, .int .u64 (most : Int)] 30)) (.cells #[.int .u8 0, .int .u64 0, .slice none 0 0, .int .u64 0] 30)
  have ho : (((w.alloc (.cells #[.int .u8 (k : Int), .int .u64 (n : Int), .slice A bl.length c, .int .u64 (most : Int)] 30)).alloc (.cells #[.int .u8 0, .int .u64 0, .slice none 0 0, .int .u64 0] 30)).alloc (.cells #[.int .u8 (k : Int), .int .u64 0, .slice none 0 0, .int .u64 (most : Int)] 30)).heap[w.heap.size + 1 + 1]? = some (.cells #[.int .u8 (k : Int), .int .u64 0, .slice none 0 0, .int .u64 (most : Int)] 30 (0, 0)) := by
    simpa using heap_alloc_new ((w.alloc (.cells #[.int .u8 (k : Int), .int .u64 (n : Int), .slice A bl.length c, .int .u64 (most : Int)] 30)).alloc (.cells #[.int .u8 0, .int .u64 0, .slice none 0 0, .int .u64 0] 30)) (.cells #[.int .u8 (k : Int), .int .u64 0, .slice none 0 0, .int .u64 (most : Int)] 30)
  have hsz : (((w.alloc (.cells #[.int .u8 (k : Int), .int .u64 (n : Int), .slice A bl.length c, .int .u64 (most : Int)] 30)).alloc (.cells #[.int .u8 0, .int .u64 0, .slice none 0 0, .int .u64 0] 30)).alloc (.cells #[.int .u8 (k : Int), .int .u64 0, .slice none 0 0, .int .u64 (most : Int)] 30)).heap.size = w.heap.size + 3 := by simp
  obtain ⟨W, hW⟩ : ∃ W, W = (((w.alloc (.cells #[.int .u8 (k : Int), .int .u64 (n : Int), .slice A bl.length c, .int .u64 (most : Int)] 30)).alloc (.cells #[.int .u8 0, .int .u64 0, .slice none 0 0, .int .u64 0] 30)).alloc (.cells #[.int .u8 (k : Int), .int .u64 0, .slice none 0 0, .int .u64 (most : Int)] 30)) := ⟨_, rfl⟩
  rw [← hW] at hx hz ho hsz
  have HX := Lib.hid hx
  have HZ := Lib.hid hz
  have HO := Lib.hid ho
  have HSZ := Lib.hid hsz
  have HW := Lib.hid hW
  have he3 := he.ext hx
  clear hx hz ho hsz hW
  go_wp2_with fail
  rw [← HW.out]
  refine (EyeWord_calls g b l bad _ he3).mono ?_
  rintro e w1 hy
  by_cases hl : l.length < 4
  · obtain ⟨rfl, he1, hm1⟩ := hy.2 hl
    obtain ⟨z0, z1, z2, z3, zf0, zf1, zf2, zf3⟩ := box_all ((hm1.block _ (by rw [HSZ.out]; omega) (by omega)).trans HZ.out)
    obtain ⟨o0, o1, o2, o3, of0, of1, of2, of3⟩ := box_all ((hm1.block _ (by rw [HSZ.out]; omega) (by omega)).trans HO.out)
    clear hy
    go_wp2_with fail
    have HE := take_end (j := 1) (u := .int .u64 0) (a := .int .u8 (k : Int)) (b := .int .u64 0) (c := .slice none 0 0) (d := .int .u64 (most : Int)) (t := 30) ((hm1.block _ (by rw [HSZ.out]; omega) (by omega)).trans HZ.out) (show w.heap.size + 1 ≠ w.heap.size + 1 + 1 by omega)
    (try simp only [Exit.inBlock, Exit.then])
    refine bodyPost_ret (results_cell_row (P := Try.prog) rfl _ _ (w.heap.size + 1) _ _ (0, 0) _ rfl HE.1 Try.underlying30 rfl (by kernel_rfl)) rfl ?_
    have hmE := HE.2
    have hbl : l ≠ [] → b < w.heap.size := by obtain ⟨_, A', c', _, _, _, hs⟩ := he; exact Bs.lt hs
    have heE := he1.modne hmE (by omega) (fun h => by have := hbl (by rintro rfl; exact absurd rfl h); omega)
    refine ⟨none, 0, ?_, ?_, ?_, (Mod.of_below HX.out).trans (hm1.trans hmE (S := fun i => i = g ∨ i = w.heap.size + 1 ∨ i = w.heap.size + 1 + 1) (fun i _ h => .inl h) (fun i _ h => .inr h)) (fun i hi h => by omega) (fun i hi h => by omega)⟩
    · have e1 : takeF l ⟨k, n, bl, most⟩ = none := by rw [takeF]; simp only; rw [if_neg H0.out, if_neg H1.out, if_pos H.out, if_pos hl]
      unfold toldF; rw [e1]; rfl
    · have e1 : takeF l ⟨k, n, bl, most⟩ = none := by rw [takeF]; simp only; rw [if_neg H0.out, if_neg H1.out, if_pos H.out, if_pos hl]
      unfold toldF; rw [e1]; exact Sl.nil_ _ _ _
    · have e1 : takeF l ⟨k, n, bl, most⟩ = none := by rw [takeF]; simp only; rw [if_neg H0.out, if_neg H1.out, if_pos H.out, if_pos hl]
      unfold leftF badF; rw [e1]; exact heE
  · obtain ⟨rfl, he1, hm1⟩ := hy.1 (by omega)
    obtain ⟨z0, z1, z2, z3, zf0, zf1, zf2, zf3⟩ := box_all ((hm1.block _ (by rw [HSZ.out]; omega) (by omega)).trans HZ.out)
    obtain ⟨o0, o1, o2, o3, of0, of1, of2, of3⟩ := box_all ((hm1.block _ (by rw [HSZ.out]; omega) (by omega)).trans HO.out)
    have hv := valN_lt (l.take 4)
    rw [List.length_take, Nat.min_eq_left (by omega)] at hv
    clear hy
    go_wp2_with fail
    have HE := take_end (j := 1) (u := .int .u64 (valN (l.take 4) : Nat)) (a := .int .u8 (k : Int)) (b := .int .u64 (valN (l.take 4) : Nat)) (c := .slice none 0 0) (d := .int .u64 (most : Int)) (t := 30) ((hm1.block _ (by rw [HSZ.out]; omega) (by omega)).trans HZ.out) (show w.heap.size + 1 ≠ w.heap.size + 1 + 1 by omega)
    (try simp only [Exit.inBlock, Exit.then])
    refine bodyPost_ret (results_cell_row (P := Try.prog) rfl _ _ (w.heap.size + 1) _ _ (0, 0) _ rfl HE.1 Try.underlying30 rfl (by kernel_rfl)) rfl ?_
    have hmE := HE.2
    have hbl : l ≠ [] → b < w.heap.size := by obtain ⟨_, A', c', _, _, _, hs⟩ := he; exact Bs.lt hs
    have heE := he1.modne hmE (by omega) (fun h => by have := hbl (by rintro rfl; exact absurd (by simp) h); omega)
    refine ⟨none, 0, ?_, ?_, ?_, (Mod.of_below HX.out).trans (hm1.trans hmE (S := fun i => i = g ∨ i = w.heap.size + 1 ∨ i = w.heap.size + 1 + 1) (fun i _ h => .inl h) (fun i _ h => .inr h)) (fun i hi h => by omega) (fun i hi h => by omega)⟩
    · have e1 : takeF l ⟨k, n, bl, most⟩ = some (⟨k, valN (l.take 4), [], most⟩, l.drop 4) := by rw [takeF]; simp only; rw [if_neg H0.out, if_neg H1.out, if_pos H.out, if_neg hl]
      unfold toldF; rw [e1]; rfl
    · have e1 : takeF l ⟨k, n, bl, most⟩ = some (⟨k, valN (l.take 4), [], most⟩, l.drop 4) := by rw [takeF]; simp only; rw [if_neg H0.out, if_neg H1.out, if_pos H.out, if_neg hl]
      unfold toldF; rw [e1]; exact Sl.nil_ _ _ _
    · have e1 : takeF l ⟨k, n, bl, most⟩ = some (⟨k, valN (l.take 4), [], most⟩, l.drop 4) := by rw [takeF]; simp only; rw [if_neg H0.out, if_neg H1.out, if_pos H.out, if_neg hl]
      unfold leftF badF; rw [e1]; exact heE

theorem take3_none {l : List UInt8} {k n most : Nat} {bl : List UInt8} (h0 : ¬ k % 5 = 0) (h1 : ¬ k % 5 = 1) (h2 : ¬ k % 5 = 2) (h3 : k % 5 = 3) (hl : ¬ ∃ v kk, rd 0 l = some (v, kk) ∧ v ≤ most) : takeF l ⟨k, n, bl, most⟩ = none := by
  rw [takeF]
  simp only
  rw [if_neg h0, if_neg h1, if_neg h2, if_pos h3]
  split
  · rename_i v kk hv
    exact if_neg (fun hle => hl ⟨v, kk, hv, hle⟩)
  · rfl
theorem take3_some {l : List UInt8} {k n most v kk : Nat} {bl : List UInt8} (h0 : ¬ k % 5 = 0) (h1 : ¬ k % 5 = 1) (h2 : ¬ k % 5 = 2) (h3 : k % 5 = 3) (hv : rd 0 l = some (v, kk)) (hle : v ≤ most) : takeF l ⟨k, n, bl, most⟩ = some (⟨k, v, [], most⟩, l.drop kk) := by
  rw [takeF]
  simp only
  rw [if_neg h0, if_neg h1, if_neg h2, if_pos h3, hv]
  exact if_pos hle
theorem take4_none {l : List UInt8} {k n most : Nat} {bl : List UInt8} (h0 : ¬ k % 5 = 0) (h1 : ¬ k % 5 = 1) (h2 : ¬ k % 5 = 2) (h3 : ¬ k % 5 = 3) (hl : rdBlob l most = none) : takeF l ⟨k, n, bl, most⟩ = none := by
  rw [takeF]
  simp only
  rw [if_neg h0, if_neg h1, if_neg h2, if_neg h3, hl]
  rfl
theorem take4_some {l x r : List UInt8} {k n most : Nat} {bl : List UInt8} (h0 : ¬ k % 5 = 0) (h1 : ¬ k % 5 = 1) (h2 : ¬ k % 5 = 2) (h3 : ¬ k % 5 = 3) (hl : rdBlob l most = some (x, r)) : takeF l ⟨k, n, bl, most⟩ = some (⟨k, 0, x, most⟩, r) := by
  rw [takeF]
  simp only
  rw [if_neg h0, if_neg h1, if_neg h2, if_neg h3, hl]
  rfl

set_option maxHeartbeats 2000000 in
theorem take3_calls (g b : Nat) (l : List UInt8) (bad : Bool) (f : Fld) (A : Option Addr) (c : Nat) (w : World) (he : EyeAt w g b l bad) (hf : f.Ok) (h : f.kind % 5 = 3) :
    Calls Try.prog 17 #[.pointer (some ⟨g, 0, none⟩), .agg (Fld.cells f A c).toArray] w (Took g b l bad f w) := by
  obtain ⟨k, n, bl, most⟩ := f
  obtain ⟨hk, hn, hmo⟩ := hf
  simp only [Fld.cells] at *
  have hglt := he.lt
  have hq0 : ((k : Int) % 5 == 0) = false := by simp; omega
  have hq1 : ((k : Int) % 5 == 1) = false := by simp; omega
  have hq2 : ((k : Int) % 5 == 2) = false := by simp; omega
  have hq : ((k : Int) % 5 == 3) = true := by simp; omega
  have h0 : ¬ k % 5 = 0 := by omega
  have H0 := Lib.hid h0
  clear h0
  have h1 : ¬ k % 5 = 1 := by omega
  have H1 := Lib.hid h1
  clear h1
  have h2 : ¬ k % 5 = 2 := by omega
  have H2 := Lib.hid h2
  clear h2
  have H := Lib.hid h
  clear h
  go_enter Try.func17, Try.ntmps17
  have hx : Below w.heap.size w (((w.alloc (.cells #[.int .u8 (k : Int), .int .u64 (n : Int), .slice A bl.length c, .int .u64 (most : Int)] 30)).alloc (.cells #[.int .u8 0, .int .u64 0, .slice none 0 0, .int .u64 0] 30)).alloc (.cells #[.int .u8 (k : Int), .int .u64 0, .slice none 0 0, .int .u64 (most : Int)] 30)) := by go_grown
  have hz : (((w.alloc (.cells #[.int .u8 (k : Int), .int .u64 (n : Int), .slice A bl.length c, .int .u64 (most : Int)] 30)).alloc (.cells #[.int .u8 0, .int .u64 0, .slice none 0 0, .int .u64 0] 30)).alloc (.cells #[.int .u8 (k : Int), .int .u64 0, .slice none 0 0, .int .u64 (most : Int)] 30)).heap[w.heap.size + 1]? = some (.cells #[.int .u8 0, .int .u64 0, .slice none 0 0, .int .u64 0] 30 (0, 0)) := by
    rw [Below.heap_alloc _ _ _ (by simp)]
    simpa using heap_alloc_new (w.alloc (.cells #[.int .u8 (k : Int), .int .u64 (n : Int), .slice A bl.length c, .int .u64 (most : Int)] 30)) (.cells #[.int .u8 0, .int .u64 0, .slice none 0 0, .int .u64 0] 30)
  have ho : (((w.alloc (.cells #[.int .u8 (k : Int), .int .u64 (n : Int), .slice A bl.length c, .int .u64 (most : Int)] 30)).alloc (.cells #[.int .u8 0, .int .u64 0, .slice none 0 0, .int .u64 0] 30)).alloc (.cells #[.int .u8 (k : Int), .int .u64 0, .slice none 0 0, .int .u64 (most : Int)] 30)).heap[w.heap.size + 1 + 1]? = some (.cells #[.int .u8 (k : Int), .int .u64 0, .slice none 0 0, .int .u64 (most : Int)] 30 (0, 0)) := by
    simpa using heap_alloc_new ((w.alloc (.cells #[.int .u8 (k : Int), .int .u64 (n : Int), .slice A bl.length c, .int .u64 (most : Int)] 30)).alloc (.cells #[.int .u8 0, .int .u64 0, .slice none 0 0, .int .u64 0] 30)) (.cells #[.int .u8 (k : Int), .int .u64 0, .slice none 0 0, .int .u64 (most : Int)] 30)
  have hsz : (((w.alloc (.cells #[.int .u8 (k : Int), .int .u64 (n : Int), .slice A bl.length c, .int .u64 (most : Int)] 30)).alloc (.cells #[.int .u8 0, .int .u64 0, .slice none 0 0, .int .u64 0] 30)).alloc (.cells #[.int .u8 (k : Int), .int .u64 0, .slice none 0 0, .int .u64 (most : Int)] 30)).heap.size = w.heap.size + 3 := by simp
  obtain ⟨W, hW⟩ : ∃ W, W = (((w.alloc (.cells #[.int .u8 (k : Int), .int .u64 (n : Int), .slice A bl.length c, .int .u64 (most : Int)] 30)).alloc (.cells #[.int .u8 0, .int .u64 0, .slice none 0 0, .int .u64 0] 30)).alloc (.cells #[.int .u8 (k : Int), .int .u64 0, .slice none 0 0, .int .u64 (most : Int)] 30)) := ⟨_, rfl⟩
  rw [← hW] at hx hz ho hsz
  have HX := Lib.hid hx
  have HZ := Lib.hid hz
  have HO := Lib.hid ho
  have HSZ := Lib.hid hsz
  have HW := Lib.hid hW
  have he3 := he.ext hx
  clear hx hz ho hsz hW
  go_wp2_with fail
  rw [← HW.out]
  refine (EyeNum_calls g b l bad most _ he3 hmo).mono ?_
  rintro e w1 hy
  by_cases hl : ¬ ∃ v kk, rd 0 l = some (v, kk) ∧ v ≤ most
  · obtain ⟨rfl, he1⟩ := hy.2.1 (fun v kk hv hle => hl ⟨v, kk, hv, hle⟩)
    have hm1 := hy.2.2
    obtain ⟨z0, z1, z2, z3, zf0, zf1, zf2, zf3⟩ := box_all ((hm1.block _ (by rw [HSZ.out]; omega) (by omega)).trans HZ.out)
    obtain ⟨o0, o1, o2, o3, of0, of1, of2, of3⟩ := box_all ((hm1.block _ (by rw [HSZ.out]; omega) (by omega)).trans HO.out)
    clear hy
    go_wp2_with fail
    have HE := take_end (j := 1) (u := .int .u64 0) (a := .int .u8 (k : Int)) (b := .int .u64 0) (c := .slice none 0 0) (d := .int .u64 (most : Int)) (t := 30) ((hm1.block _ (by rw [HSZ.out]; omega) (by omega)).trans HZ.out) (show w.heap.size + 1 ≠ w.heap.size + 1 + 1 by omega)
    (try simp only [Exit.inBlock, Exit.then])
    refine bodyPost_ret (results_cell_row (P := Try.prog) rfl _ _ (w.heap.size + 1) _ _ (0, 0) _ rfl HE.1 Try.underlying30 rfl (by kernel_rfl)) rfl ?_
    have hmE := HE.2
    have hbl : l ≠ [] → b < w.heap.size := by obtain ⟨_, A', c', _, _, _, hs⟩ := he; exact Bs.lt hs
    have heE := he1.modne hmE (by omega) (fun h => by have := hbl (by rintro rfl; exact absurd rfl h); omega)
    refine ⟨none, 0, ?_, ?_, ?_, (Mod.of_below HX.out).trans (hm1.trans hmE (S := fun i => i = g ∨ i = w.heap.size + 1 ∨ i = w.heap.size + 1 + 1) (fun i _ h => .inl h) (fun i _ h => .inr h)) (fun i hi h => by omega) (fun i hi h => by omega)⟩
    · have e1 : takeF l ⟨k, n, bl, most⟩ = none := take3_none H0.out H1.out H2.out H.out hl
      unfold toldF; rw [e1]; rfl
    · have e1 : takeF l ⟨k, n, bl, most⟩ = none := take3_none H0.out H1.out H2.out H.out hl
      unfold toldF; rw [e1]; exact Sl.nil_ _ _ _
    · have e1 : takeF l ⟨k, n, bl, most⟩ = none := take3_none H0.out H1.out H2.out H.out hl
      unfold leftF badF; rw [e1]; exact heE
  · obtain ⟨v, kk, hv, hle⟩ := Classical.not_not.1 hl
    obtain ⟨rfl, he1⟩ := hy.1 v kk hv hle
    have hm1 := hy.2.2
    obtain ⟨z0, z1, z2, z3, zf0, zf1, zf2, zf3⟩ := box_all ((hm1.block _ (by rw [HSZ.out]; omega) (by omega)).trans HZ.out)
    obtain ⟨o0, o1, o2, o3, of0, of1, of2, of3⟩ := box_all ((hm1.block _ (by rw [HSZ.out]; omega) (by omega)).trans HO.out)
    have HV := Lib.hid hv
    have HLE := Lib.hid hle
    clear hv
    clear hy
    go_wp2_with fail
    have HE := take_end (j := 1) (u := .int .u64 (v : Int)) (a := .int .u8 (k : Int)) (b := .int .u64 (v : Int)) (c := .slice none 0 0) (d := .int .u64 (most : Int)) (t := 30) ((hm1.block _ (by rw [HSZ.out]; omega) (by omega)).trans HZ.out) (show w.heap.size + 1 ≠ w.heap.size + 1 + 1 by omega)
    (try simp only [Exit.inBlock, Exit.then])
    refine bodyPost_ret (results_cell_row (P := Try.prog) rfl _ _ (w.heap.size + 1) _ _ (0, 0) _ rfl HE.1 Try.underlying30 rfl (by kernel_rfl)) rfl ?_
    have hmE := HE.2
    have hbl : l ≠ [] → b < w.heap.size := by obtain ⟨_, A', c', _, _, _, hs⟩ := he; exact Bs.lt hs
    have heE := he1.modne hmE (by omega) (fun h => by have := hbl (by rintro rfl; exact absurd (by simp) h); omega)
    refine ⟨none, 0, ?_, ?_, ?_, (Mod.of_below HX.out).trans (hm1.trans hmE (S := fun i => i = g ∨ i = w.heap.size + 1 ∨ i = w.heap.size + 1 + 1) (fun i _ h => .inl h) (fun i _ h => .inr h)) (fun i hi h => by omega) (fun i hi h => by omega)⟩
    · have e1 : takeF l ⟨k, n, bl, most⟩ = some (⟨k, v, [], most⟩, l.drop kk) := take3_some H0.out H1.out H2.out H.out HV.out HLE.out
      unfold toldF; rw [e1]; rfl
    · have e1 : takeF l ⟨k, n, bl, most⟩ = some (⟨k, v, [], most⟩, l.drop kk) := take3_some H0.out H1.out H2.out H.out HV.out HLE.out
      unfold toldF; rw [e1]; exact Sl.nil_ _ _ _
    · have e1 : takeF l ⟨k, n, bl, most⟩ = some (⟨k, v, [], most⟩, l.drop kk) := take3_some H0.out H1.out H2.out H.out HV.out HLE.out
      unfold leftF badF; rw [e1]; exact heE

theorem rdBlob_ne {l x r : List UInt8} {most : Nat} (h : rdBlob l most = some (x, r)) : l ≠ [] := by
  rintro rfl
  unfold rdBlob rd at h
  cases h

set_option maxHeartbeats 2000000 in
theorem take4_calls (g b : Nat) (l : List UInt8) (bad : Bool) (f : Fld) (A : Option Addr) (c : Nat) (w : World) (he : EyeAt w g b l bad) (hf : f.Ok) (h : f.kind % 5 = 4) (h63 : f.most ≤ 9223372036854775807) :
    Calls Try.prog 17 #[.pointer (some ⟨g, 0, none⟩), .agg (Fld.cells f A c).toArray] w (Took g b l bad f w) := by
  obtain ⟨k, n, bl, most⟩ := f
  obtain ⟨hk, hn, hmo⟩ := hf
  simp only [Fld.cells] at *
  have hglt := he.lt
  have hq0 : ((k : Int) % 5 == 0) = false := by simp; omega
  have hq1 : ((k : Int) % 5 == 1) = false := by simp; omega
  have hq2 : ((k : Int) % 5 == 2) = false := by simp; omega
  have hq3 : ((k : Int) % 5 == 3) = false := by simp; omega
  have h0 : ¬ k % 5 = 0 := by omega
  have H0 := Lib.hid h0
  clear h0
  have h1 : ¬ k % 5 = 1 := by omega
  have H1 := Lib.hid h1
  clear h1
  have h2 : ¬ k % 5 = 2 := by omega
  have H2 := Lib.hid h2
  clear h2
  have h3 : ¬ k % 5 = 3 := by omega
  have H3 := Lib.hid h3
  clear h3
  have H := Lib.hid h
  clear h
  go_enter Try.func17, Try.ntmps17
  have hx : Below w.heap.size w (((w.alloc (.cells #[.int .u8 (k : Int), .int .u64 (n : Int), .slice A bl.length c, .int .u64 (most : Int)] 30)).alloc (.cells #[.int .u8 0, .int .u64 0, .slice none 0 0, .int .u64 0] 30)).alloc (.cells #[.int .u8 (k : Int), .int .u64 0, .slice none 0 0, .int .u64 (most : Int)] 30)) := by go_grown
  have hz : (((w.alloc (.cells #[.int .u8 (k : Int), .int .u64 (n : Int), .slice A bl.length c, .int .u64 (most : Int)] 30)).alloc (.cells #[.int .u8 0, .int .u64 0, .slice none 0 0, .int .u64 0] 30)).alloc (.cells #[.int .u8 (k : Int), .int .u64 0, .slice none 0 0, .int .u64 (most : Int)] 30)).heap[w.heap.size + 1]? = some (.cells #[.int .u8 0, .int .u64 0, .slice none 0 0, .int .u64 0] 30 (0, 0)) := by
    rw [Below.heap_alloc _ _ _ (by simp)]
    simpa using heap_alloc_new (w.alloc (.cells #[.int .u8 (k : Int), .int .u64 (n : Int), .slice A bl.length c, .int .u64 (most : Int)] 30)) (.cells #[.int .u8 0, .int .u64 0, .slice none 0 0, .int .u64 0] 30)
  have ho : (((w.alloc (.cells #[.int .u8 (k : Int), .int .u64 (n : Int), .slice A bl.length c, .int .u64 (most : Int)] 30)).alloc (.cells #[.int .u8 0, .int .u64 0, .slice none 0 0, .int .u64 0] 30)).alloc (.cells #[.int .u8 (k : Int), .int .u64 0, .slice none 0 0, .int .u64 (most : Int)] 30)).heap[w.heap.size + 1 + 1]? = some (.cells #[.int .u8 (k : Int), .int .u64 0, .slice none 0 0, .int .u64 (most : Int)] 30 (0, 0)) := by
    simpa using heap_alloc_new ((w.alloc (.cells #[.int .u8 (k : Int), .int .u64 (n : Int), .slice A bl.length c, .int .u64 (most : Int)] 30)).alloc (.cells #[.int .u8 0, .int .u64 0, .slice none 0 0, .int .u64 0] 30)) (.cells #[.int .u8 (k : Int), .int .u64 0, .slice none 0 0, .int .u64 (most : Int)] 30)
  have hsz : (((w.alloc (.cells #[.int .u8 (k : Int), .int .u64 (n : Int), .slice A bl.length c, .int .u64 (most : Int)] 30)).alloc (.cells #[.int .u8 0, .int .u64 0, .slice none 0 0, .int .u64 0] 30)).alloc (.cells #[.int .u8 (k : Int), .int .u64 0, .slice none 0 0, .int .u64 (most : Int)] 30)).heap.size = w.heap.size + 3 := by simp
  obtain ⟨W, hW⟩ : ∃ W, W = (((w.alloc (.cells #[.int .u8 (k : Int), .int .u64 (n : Int), .slice A bl.length c, .int .u64 (most : Int)] 30)).alloc (.cells #[.int .u8 0, .int .u64 0, .slice none 0 0, .int .u64 0] 30)).alloc (.cells #[.int .u8 (k : Int), .int .u64 0, .slice none 0 0, .int .u64 (most : Int)] 30)) := ⟨_, rfl⟩
  rw [← hW] at hx hz ho hsz
  have HX := Lib.hid hx
  have HZ := Lib.hid hz
  have HO := Lib.hid ho
  have HSZ := Lib.hid hsz
  have HW := Lib.hid hW
  have he3 := he.ext hx
  clear hx hz ho hsz hW
  go_wp2_with fail
  rw [← HW.out]
  refine (EyeBlob_calls g b l bad most _ he3 h63).mono ?_
  rintro e w1 hy
  by_cases hl : rdBlob l most = none
  · obtain ⟨A', rfl, he1⟩ := hy.2.2 hl
    have hm1 := hy.1
    have HLN := Lib.hid hl
    clear hl
    obtain ⟨z0, z1, z2, z3, zf0, zf1, zf2, zf3⟩ := box_all ((hm1.block _ (by rw [HSZ.out]; omega) (by omega)).trans HZ.out)
    obtain ⟨o0, o1, o2, o3, of0, of1, of2, of3⟩ := box_all ((hm1.block _ (by rw [HSZ.out]; omega) (by omega)).trans HO.out)
    clear hy
    go_wp2_with fail
    have HE := take_end (j := 2) (u := .slice A' 0 0) (a := .int .u8 (k : Int)) (b := .int .u64 0) (c := .slice A' 0 0) (d := .int .u64 (most : Int)) (t := 30) ((hm1.block _ (by rw [HSZ.out]; omega) (by omega)).trans HZ.out) (show w.heap.size + 1 ≠ w.heap.size + 1 + 1 by omega)
    (try simp only [Exit.inBlock, Exit.then])
    refine bodyPost_ret (results_cell_row (P := Try.prog) rfl _ _ (w.heap.size + 1) _ _ (0, 0) _ rfl HE.1 Try.underlying30 rfl (by kernel_rfl)) rfl ?_
    have hmE := HE.2
    have hbl : l ≠ [] → b < w.heap.size := by obtain ⟨_, A', c', _, _, _, hs⟩ := he; exact Bs.lt hs
    have heE := he1.modne hmE (by omega) (fun h => by have := hbl (by rintro rfl; exact absurd rfl h); omega)
    refine ⟨A', 0, ?_, ?_, ?_, (Mod.of_below HX.out).trans (hm1.trans hmE (S := fun i => i = g ∨ i = w.heap.size + 1 ∨ i = w.heap.size + 1 + 1) (fun i _ h => .inl h) (fun i _ h => .inr h)) (fun i hi h => by omega) (fun i hi h => by omega)⟩
    · have e1 : takeF l ⟨k, n, bl, most⟩ = none := take4_none H0.out H1.out H2.out H3.out HLN.out
      unfold toldF; rw [e1]; rfl
    · have e1 : takeF l ⟨k, n, bl, most⟩ = none := take4_none H0.out H1.out H2.out H3.out HLN.out
      unfold toldF; rw [e1]; exact Sl.nil_ _ _ _
    · have e1 : takeF l ⟨k, n, bl, most⟩ = none := take4_none H0.out H1.out H2.out H3.out HLN.out
      unfold leftF badF; rw [e1]; exact heE
  · obtain ⟨⟨x, r⟩, hxr⟩ := Option.ne_none_iff_exists'.1 hl
    obtain ⟨A', rfl, hsx, he1⟩ := hy.2.1 x r hxr
    have hm1 := hy.1
    have HXR := Lib.hid hxr
    clear hxr hl
    obtain ⟨z0, z1, z2, z3, zf0, zf1, zf2, zf3⟩ := box_all ((hm1.block _ (by rw [HSZ.out]; omega) (by omega)).trans HZ.out)
    obtain ⟨o0, o1, o2, o3, of0, of1, of2, of3⟩ := box_all ((hm1.block _ (by rw [HSZ.out]; omega) (by omega)).trans HO.out)
    clear hy
    go_wp2_with fail
    have HE := take_end (j := 2) (u := .slice A' x.length x.length) (a := .int .u8 (k : Int)) (b := .int .u64 0) (c := .slice A' x.length x.length) (d := .int .u64 (most : Int)) (t := 30) ((hm1.block _ (by rw [HSZ.out]; omega) (by omega)).trans HZ.out) (show w.heap.size + 1 ≠ w.heap.size + 1 + 1 by omega)
    (try simp only [Exit.inBlock, Exit.then])
    refine bodyPost_ret (results_cell_row (P := Try.prog) rfl _ _ (w.heap.size + 1) _ _ (0, 0) _ rfl HE.1 Try.underlying30 rfl (by kernel_rfl)) rfl ?_
    have hmE := HE.2
    have hbl : l ≠ [] → b < w.heap.size := by obtain ⟨_, A', c', _, _, _, hs⟩ := he; exact Bs.lt hs
    have heE := he1.modne hmE (by omega) (fun h => by have := hbl (rdBlob_ne HXR.out); omega)
    refine ⟨A', x.length, ?_, ?_, ?_, (Mod.of_below HX.out).trans (hm1.trans hmE (S := fun i => i = g ∨ i = w.heap.size + 1 ∨ i = w.heap.size + 1 + 1) (fun i _ h => .inl h) (fun i _ h => .inr h)) (fun i hi h => by omega) (fun i hi h => by omega)⟩
    · have e1 : takeF l ⟨k, n, bl, most⟩ = some (⟨k, 0, x, most⟩, r) := take4_some H0.out H1.out H2.out H3.out HXR.out
      unfold toldF; rw [e1]; rfl
    · have e1 : takeF l ⟨k, n, bl, most⟩ = some (⟨k, 0, x, most⟩, r) := take4_some H0.out H1.out H2.out H3.out HXR.out
      unfold toldF; rw [e1]; exact Bs.modne hsx hmE (fun h => by have := hbl (rdBlob_ne HXR.out); omega)
    · have e1 : takeF l ⟨k, n, bl, most⟩ = some (⟨k, 0, x, most⟩, r) := take4_some H0.out H1.out H2.out H3.out HXR.out
      unfold leftF badF; rw [e1]; exact heE


theorem take_calls (g b : Nat) (l : List UInt8) (bad : Bool) (f : Fld) (A : Option Addr) (c : Nat) (w : World) (he : EyeAt w g b l bad) (hf : f.Ok) (h63 : f.kind % 5 = 4 → f.most ≤ 9223372036854775807) :
    Calls Try.prog 17 #[.pointer (some ⟨g, 0, none⟩), .agg (Fld.cells f A c).toArray] w (Took g b l bad f w) := by
  have hk5 : f.kind % 5 = 0 ∨ f.kind % 5 = 1 ∨ f.kind % 5 = 2 ∨ f.kind % 5 = 3 ∨ f.kind % 5 = 4 := by omega
  rcases hk5 with h | h | h | h | h
  · exact take0_calls g b l bad f A c w he hf h
  · exact take1_calls g b l bad f A c w he hf h
  · exact take2_calls g b l bad f A c w he hf h
  · exact take3_calls g b l bad f A c w he hf h
  · exact take4_calls g b l bad f A c w he hf h (h63 h)
end Go.Proofs.Ytokjkbbijfiloaa
