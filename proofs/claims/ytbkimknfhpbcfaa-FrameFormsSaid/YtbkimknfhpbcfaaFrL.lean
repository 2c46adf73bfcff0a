/- The contracts of frames in the words of the laws' walks: the numbers as they come. Conditions: the numbers fit. -/
import Derived.Test.YtbkimknfhpbcfaaFrP
namespace Go.Proofs.Ytbkimknfhpbcfaa
open Go.RowKit

theorem box8_all {w : World} {g : Nat} {t : TypeId} {c0 c1 c2 c3 c4 c5 c6 c7 : Value} (h : w.heap[g]? = some (.cells #[c0, c1, c2, c3, c4, c5, c6, c7] t (0, 0))) : w.cell? ⟨g, 0, none⟩ = some c0 ∧ w.cell? ⟨g, 1, none⟩ = some c1 ∧ w.cell? ⟨g, 2, none⟩ = some c2 ∧ w.cell? ⟨g, 3, none⟩ = some c3 ∧ w.cell? ⟨g, 4, none⟩ = some c4 ∧ w.cell? ⟨g, 5, none⟩ = some c5 ∧ w.cell? ⟨g, 6, none⟩ = some c6 ∧ w.cell? ⟨g, 7, none⟩ = some c7 := by
  refine ⟨?_, ?_, ?_, ?_, ?_, ?_, ?_, ?_⟩ <;> (rw [cell_of_row w g _ _ _ _ h]; rfl)
theorem box_ext {w w' : World} {g : Nat} {o : Obj} (h : w.heap[g]? = some o) (hm : Below w.heap.size w w') : w'.heap[g]? = some o := (hm.block g (Array.getElem?_eq_some_iff.1 h).1).trans h
theorem box_lt {w : World} {g : Nat} {o : Obj} (h : w.heap[g]? = some o) : g < w.heap.size := (Array.getElem?_eq_some_iff.1 h).1

theorem LBytes_no (ep s nx bi : Nat) (S : Int) (fi la al : Bool) (A : Option Addr) (d : List UInt8) (n c : Nat) (hS : S = (s : Int)) (hn : d.length = n) (w : World) (hr : Fr.right ⟨ep, s, nx, bi, fi, la, al, d⟩ = false) :
    Calls Try.prog 12 #[.agg #[.int .u16 (ep : Int), .int .u16 S, .int .u16 (nx : Int), .int .u32 (bi : Int), .bool fi, .bool la, .bool al, .slice A n c]] w fun e w' => e = .returned (.slice none 0 0) ∧ Below w.heap.size w w' := by
  subst hS hn
  exact FBytes_no ⟨ep, s, nx, bi, fi, la, al, d⟩ A c w hr
theorem LBytes_yes (ep s nx bi : Nat) (S : Int) (fi la al : Bool) (A : Option Addr) (d : List UInt8) (n c b : Nat) (hS : S = (s : Int)) (hn : d.length = n) (w : World) (f : Fr) (hf : f = ⟨ep, s, nx, bi, fi, la, al, d⟩) (ho : f.Ok) (hs : Bs w b A d) (hr : f.right = true) :
    Calls Try.prog 12 #[.agg #[.int .u16 (ep : Int), .int .u16 S, .int .u16 (nx : Int), .int .u32 (bi : Int), .bool fi, .bool la, .bool al, .slice A n c]] w fun e w' => ∃ v, e = .returned v ∧ Row w' w.heap.size v (sealedL f.raw) ∧ Below w.heap.size w w' := by
  subst hS hn hf
  exact FBytes_yes ⟨ep, s, nx, bi, fi, la, al, d⟩ A c b w ho hs (by have := Fr.right_len hr; simp only at this ⊢; omega) hr
theorem LParse (ep s nx bi : Nat) (S : Int) (fi la al : Bool) (d : List UInt8) (n m : Nat) (A : Option Addr) (c b : Nat) (hS : S = (s : Int)) (hn : d.length = n) (w : World) (f : Fr) (hf : f = ⟨ep, s, nx, bi, fi, la, al, d⟩) (ho : f.Ok) (hr : f.right = true) (hs : Bs w b A (sealedL f.raw)) (hm : (sealedL f.raw).length = m) (hc : m ≤ c) :
    Calls Try.prog 15 #[.slice A m c] w fun e w' => ∃ A' c' b', e = .returned (.tuple #[.agg #[.int .u16 (ep : Int), .int .u16 S, .int .u16 (nx : Int), .int .u32 (bi : Int), .bool fi, .bool la, .bool al, .slice A' n c'], .int .i64 0]) ∧ Bs w' b' A' d ∧ w.heap.size ≤ b' ∧ Below w.heap.size w w' := by
  subst hS hn hf
  exact Parse_own ⟨ep, s, nx, bi, fi, la, al, d⟩ A m c b w ho hr hs hm hc
theorem LSame (ep s nx bi : Nat) (S : Int) (fi la al : Bool) (A : Option Addr) (d : List UInt8) (n c b : Nat) (ep' s' nx' bi' : Nat) (S' : Int) (fi' la' al' : Bool) (A' : Option Addr) (d' : List UInt8) (n' c' b' : Nat) (hS : S = (s : Int)) (hn : d.length = n) (hS' : S' = (s' : Int)) (hn' : d'.length = n') (z : Bool)
    (hz : Fr.same ⟨ep, s, nx, bi, fi, la, al, d⟩ ⟨ep', s', nx', bi', fi', la', al', d'⟩ = z) (w : World) (hs : Bs w b A d) (hs' : Bs w b' A' d') :
    Calls Try.prog 18 #[.agg #[.int .u16 (ep : Int), .int .u16 S, .int .u16 (nx : Int), .int .u32 (bi : Int), .bool fi, .bool la, .bool al, .slice A n c], .agg #[.int .u16 (ep' : Int), .int .u16 S', .int .u16 (nx' : Int), .int .u32 (bi' : Int), .bool fi', .bool la', .bool al', .slice A' n' c']] w fun e w' => e = .returned (.bool z) ∧ Below w.heap.size w w' := by
  subst hS hn hS' hn' hz
  exact FSame_calls ⟨ep, s, nx, bi, fi, la, al, d⟩ ⟨ep', s', nx', bi', fi', la', al', d'⟩ A A' c c' b b' w hs hs'
end Go.Proofs.Ytbkimknfhpbcfaa
