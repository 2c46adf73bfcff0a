/- The library's table, as the row lays it: what the walks want of it, and a world in which it lies. No condition. -/
import Derived.Test.YtdkfmgadipfipaaDoorTz
import Derived.Test.YtdkfmgadipfipaaDoorRows
import Derived.Lib.LaidTab
namespace Go.Proofs.YtdkfmgadipfipaaDoor
open Go.RowKit

def tabZ : List Int := Lib.deBruijn32tab.map Int.ofNat
theorem tab_of_laid {W : World} (h : laidMet Tryd.prog [("math/bits.deBruijn32tab", Rows.laid_math_bits_deBruijn32tab)] W) : Tab W := by
  have hT : Lib.TabIs Tryd.prog W "math/bits.deBruijn32tab" .u8 tabZ :=
    Lib.tabIs_of_head (g := 0) (t := 54) (e := 5) (n := 32) (by kernel_rfl) (by kernel_rfl) Tryd.underlying54 Tryd.underlying5 (by kernel_rfl) (by kernel_rfl) h
  intro j hj
  have h1 := hT.cell (g := 0) (by kernel_rfl) j (by simpa [tabZ] using hj)
  rw [h1]
  simp [tabZ, List.getD, hj]
/-- A world in which the table lies as it is laid. -/
noncomputable def laidWorld (os : Os) : World :=
  { World.holding Tryd.prog os ⟨#[], #[], []⟩ with heap := (World.holding Tryd.prog os ⟨#[], #[], []⟩).heap.modify 0 fun
      | .cells _ t frozen => .cells (tabZ.map fun z => Value.int .u8 z).toArray t frozen
      | o => o }
end Go.Proofs.YtdkfmgadipfipaaDoor
