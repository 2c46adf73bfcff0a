/- How a cell that comes in is read. Conditions: those said. -/
import Derived.Test.YtnbbglhpjpebhaaDoorZTrBase11
namespace Go.Proofs.YtnbbglhpjpebhaaDoor
open Go.ChangeShapes Go.WideShapes Go.ChangeAt Go.RowKit Go.Deep

set_option maxRecDepth 100000 in
/-- A cell by value. -/
theorem open_cell {H : Type} {enc : TypeId × Value → H} {W : World} {base b0 : Nat} {spare : Nat → Bool} {held : Bool} {r : Reach} {v : Value} {d : DataW H} {p : List MemPlace} (hv : Value.okWide Tryd.prog W r base 33 v) (h : DataW.Trod enc Tryd.prog W b0 spare held 33 v d p) :
    ∃ (x : Int) (y : Nat), v = .agg #[.int .i32 x, .int .u32 (y : Int)] ∧ ((-2147483648 ≤ x ∧ x ≤ 2147483647) ∧ y < 4294967296) := by
  obtain ⟨f0, f1, hu, _, _, _⟩ := bcell_under
  obtain ⟨cs, rfl, hsz⟩ := okWide_struct hu hv
  obtain ⟨fuel, hf⟩ := h
  obtain ⟨y, hy, hyin⟩ := trod_cell (by simpa [Value.cells] using hsz.trans bcell_cells) hf
  refine ⟨y.1, y.2, ?_, hyin⟩
  congr 1
  apply Array.ext'
  simpa [Value.cells] using hy
end Go.Proofs.YtnbbglhpjpebhaaDoor
