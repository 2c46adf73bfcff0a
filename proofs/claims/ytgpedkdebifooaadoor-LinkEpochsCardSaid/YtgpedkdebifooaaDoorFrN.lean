/- A frame, plainly, and how it lies in a variable. No condition: plain lemmas. -/
import Derived.Test.YtgpedkdebifooaaDoorWaxPlain
import Derived.Test.YtgpedkdebifooaaDoorPen
import Derived.Test.YtgpedkdebifooaaDoorEyeNum
import Derived.Test.YtgpedkdebifooaaDoorBox
namespace Go.Proofs.YtgpedkdebifooaaDoor
open Go.RowKit

/-- A frame, plainly. -/
structure Fr where
  epoch : Nat
  seq : Nat
  next : Nat
  bits : Nat
  first : Bool
  last : Bool
  alone : Bool
  data : List UInt8
structure Fr.Ok (f : Fr) : Prop where
  e : f.epoch < 65536
  s : f.seq < 65536
  n : f.next < 65536
  b : f.bits < 4294967296
def Fr.right (f : Fr) : Bool := if f.alone then decide (f.seq = 0) && decide (f.data.length = 0) && !f.first && !f.last else decide (f.data.length ≤ 64)
def Fr.marks (f : Fr) : Nat := (if f.first then 1 else 0) + (if f.last then 2 else 0) + (if f.alone then 4 else 0)
theorem Fr.marks_lt (f : Fr) : f.marks < 8 := by
  unfold Fr.marks
  split <;> split <;> split <;> omega
def Fr.raw (f : Fr) : List UInt8 := low 86 1 ++ low f.epoch 2 ++ low f.seq 2 ++ low f.next 2 ++ low f.bits 4 ++ low f.marks 1 ++ (num f.data.length ++ f.data)
def Fr.bytes (f : Fr) : List UInt8 := if f.right then sealedL f.raw else []
abbrev Fr.cells (f : Fr) (A : Option Addr) (c : Nat) : Array Value := #[.int .u16 (f.epoch : Int), .int .u16 (f.seq : Int), .int .u16 (f.next : Int), .int .u32 (f.bits : Int), .bool f.first, .bool f.last, .bool f.alone, .slice A f.data.length c]

/-- Block g is a frame in a variable. -/
def BoxF (w : World) (g : Nat) (f : Fr) (A : Option Addr) (c : Nat) : Prop := w.heap[g]? = some (.cells (f.cells A c) 47 (0, 0))
namespace BoxF
variable {w w' : World} {g : Nat} {f : Fr} {A : Option Addr} {c : Nat}
theorem new_ (w : World) (f : Fr) (A : Option Addr) (c : Nat) : BoxF (w.alloc (.cells (f.cells A c) 47)) w.heap.size f A c := heap_alloc_new w _
theorem lt (h : BoxF w g f A c) : g < w.heap.size := (Array.getElem?_eq_some_iff.1 h).1
theorem c0 (h : BoxF w g f A c) : w.cell? ⟨g, 0, none⟩ = some (.int .u16 (f.epoch : Int)) := by rw [cell_of_row w g 0 _ _ _ h]; rfl
theorem c1 (h : BoxF w g f A c) : w.cell? ⟨g, 1, none⟩ = some (.int .u16 (f.seq : Int)) := by rw [cell_of_row w g 1 _ _ _ h]; rfl
theorem c2 (h : BoxF w g f A c) : w.cell? ⟨g, 2, none⟩ = some (.int .u16 (f.next : Int)) := by rw [cell_of_row w g 2 _ _ _ h]; rfl
theorem c3 (h : BoxF w g f A c) : w.cell? ⟨g, 3, none⟩ = some (.int .u32 (f.bits : Int)) := by rw [cell_of_row w g 3 _ _ _ h]; rfl
theorem c4 (h : BoxF w g f A c) : w.cell? ⟨g, 4, none⟩ = some (.bool f.first) := by rw [cell_of_row w g 4 _ _ _ h]; rfl
theorem c5 (h : BoxF w g f A c) : w.cell? ⟨g, 5, none⟩ = some (.bool f.last) := by rw [cell_of_row w g 5 _ _ _ h]; rfl
theorem c6 (h : BoxF w g f A c) : w.cell? ⟨g, 6, none⟩ = some (.bool f.alone) := by rw [cell_of_row w g 6 _ _ _ h]; rfl
theorem c7 (h : BoxF w g f A c) : w.cell? ⟨g, 7, none⟩ = some (.slice A f.data.length c) := by rw [cell_of_row w g 7 _ _ _ h]; rfl
theorem all (h : BoxF w g f A c) : w.cell? ⟨g, 0, none⟩ = some (.int .u16 (f.epoch : Int)) ∧ w.cell? ⟨g, 1, none⟩ = some (.int .u16 (f.seq : Int)) ∧ w.cell? ⟨g, 2, none⟩ = some (.int .u16 (f.next : Int)) ∧ w.cell? ⟨g, 3, none⟩ = some (.int .u32 (f.bits : Int)) ∧ w.cell? ⟨g, 4, none⟩ = some (.bool f.first) ∧ w.cell? ⟨g, 5, none⟩ = some (.bool f.last) ∧ w.cell? ⟨g, 6, none⟩ = some (.bool f.alone) ∧ w.cell? ⟨g, 7, none⟩ = some (.slice A f.data.length c) :=
  ⟨h.c0, h.c1, h.c2, h.c3, h.c4, h.c5, h.c6, h.c7⟩
theorem fz (h : BoxF w g f A c) (j : Nat) : w.frozen? ⟨g, j, none⟩ = false := frozen_of_row w g j _ _ h
theorem mod {S : Nat → Prop} (h : BoxF w g f A c) (hm : Mod S w w') (hs : ¬ S g) : BoxF w' g f A c := (hm.block g h.lt hs).trans h
theorem ext (h : BoxF w g f A c) (hm : Below w.heap.size w w') : BoxF w' g f A c := (hm.block g h.lt).trans h
end BoxF
theorem frame_under : ∃ d, Tryd.prog.underlying 47 = some d ∧ (match d with | .struct _ | .array _ _ => true | _ => false) = true ∧ (Tryd.prog.info? 47).map (·.size) = some 8 := ⟨_, Tryd.underlying47, rfl, by kernel_rfl⟩

set_option maxHeartbeats 2000000 in
set_option maxRecDepth 20000 in
theorem Right_calls (f : Fr) (A : Option Addr) (c : Nat) (w : World) :
    Calls Tryd.prog 41 #[.agg (f.cells A c)] w fun e w' => e = .returned (.bool f.right) ∧ Below w.heap.size w w' := by
  obtain ⟨ep, s, nx, bi, fi, la, al, d⟩ := f
  obtain ⟨m, hm⟩ : ∃ m, m = d.length := ⟨_, rfl⟩
  obtain ⟨z1, h1⟩ : ∃ z, z = ((s : Int) == 0) := ⟨_, rfl⟩
  obtain ⟨z2, h2⟩ : ∃ z, z = ((m : Int) == 0) := ⟨_, rfl⟩
  obtain ⟨z3, h3⟩ : ∃ z, z = decide ((m : Int) ≤ 64) := ⟨_, rfl⟩
  have hR : Fr.right ⟨ep, s, nx, bi, fi, la, al, d⟩ = if al then z1 && z2 && !fi && !la else z3 := by
    have e1 : decide (s = 0) = z1 := by rw [h1, Bool.eq_iff_iff]; simp
    have e2 : decide (d.length = 0) = z2 := by rw [h2, hm, Bool.eq_iff_iff]; simp
    have e3 : decide (d.length ≤ 64) = z3 := by rw [h3, hm, Bool.eq_iff_iff]; simp; omega
    simp only [Fr.right]
    rw [e1, e2, e3]
  rw [hR]
  simp only [Fr.cells]
  rw [← hm]
  have e1 := h1.symm
  have e2 := h2.symm
  have e3 := h3.symm
  have hb := below_alloc1 w (.cells #[.int .u16 (ep : Int), .int .u16 (s : Int), .int .u16 (nx : Int), .int .u32 (bi : Int), .bool fi, .bool la, .bool al, .slice A m c] 47)
  clear h1 h2 h3 hR hm
  cases al
  · clear e1 e2
    go_enter Tryd.func41, Tryd.ntmps41
    go_wp2_with fail
    go_ret
    exact ⟨rfl, hb⟩
  · clear e3
    cases z1 <;> cases z2 <;> cases fi <;> cases la <;>
      (go_enter Tryd.func41, Tryd.ntmps41
       go_wp2_with fail
       go_ret
       exact ⟨rfl, hb⟩)

set_option maxHeartbeats 2000000 in
set_option maxRecDepth 20000 in
theorem Marks_calls (f : Fr) (A : Option Addr) (c : Nat) (w : World) :
    Calls Tryd.prog 45 #[.agg (f.cells A c)] w fun e w' => e = .returned (.int .u8 (f.marks : Int)) ∧ Below w.heap.size w w' := by
  obtain ⟨ep, s, nx, bi, fi, la, al, d⟩ := f
  simp only [Fr.cells, Fr.marks]
  obtain ⟨m, hm⟩ : ∃ m, m = d.length := ⟨_, rfl⟩
  rw [← hm]
  have hb := below_alloc1 w (.cells #[.int .u16 (ep : Int), .int .u16 (s : Int), .int .u16 (nx : Int), .int .u32 (bi : Int), .bool fi, .bool la, .bool al, .slice A m c] 47)
  clear hm
  cases fi <;> cases la <;> cases al <;>
    (go_enter Tryd.func45, Tryd.ntmps45
     go_wp2_with fail
     go_ret
     exact ⟨rfl, hb⟩)
end Go.Proofs.YtgpedkdebifooaaDoor
