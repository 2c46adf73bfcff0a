/- The library's tables, as the row lays them: what the walks want of them, and a world in which they lie. No condition. -/
import Derived.Test.YtbbabmiacmmkpaaDoorMTz
import Derived.Lib.LaidTab
import Derived.Lib.ItoaNum
namespace Go.Proofs.YtbbabmiacmmkpaaDoor
open Go.RowKit

def tabZ : List Int := Lib.deBruijn32tab.map Int.ofNat
theorem tab_of_laid {W : World} (h : laidMet Tryd.prog [("math/bits.deBruijn32tab", Rows.laid_math_bits_deBruijn32tab), ("math/bits.deBruijn64tab", Rows.laid_math_bits_deBruijn64tab), ("internal/strconv.uint64pow10", Rows.laid_internal_strconv_uint64pow10)] W) : Tab W := by
  have hT : Lib.TabIs Tryd.prog W "math/bits.deBruijn32tab" .u8 tabZ :=
    Lib.tabIs_of_head (g := 0) (t := 65) (e := 5) (n := 32) (by kernel_rfl) (by kernel_rfl) Tryd.underlying65 Tryd.underlying5 (by kernel_rfl) (by kernel_rfl) h
  intro j hj
  have h1 := hT.cell (g := 0) (by kernel_rfl) j (by simpa [tabZ] using hj)
  rw [h1]
  simp [tabZ, List.getD, hj]
/-- A row of numbers, laid. -/
noncomputable def layRow (k : IntKind) (zs : List Int) : Obj → Obj
  | .cells _ t frozen => .cells (zs.map fun z => Value.int k z).toArray t frozen
  | o => o
/-- A world in which the tables lie as they are laid. -/
noncomputable def laidWorld (os : Os) : World :=
  { World.holding Tryd.prog os ⟨#[], #[], []⟩ with heap := (((World.holding Tryd.prog os ⟨#[], #[], []⟩).heap.modify 0 (layRow .u8 tabZ)).modify 3 (layRow .u8 (Lib.deBruijn64tab.map Int.ofNat))).modify 1 (layRow .u64 Lib.pow10Tab) }
end Go.Proofs.YtbbabmiacmmkpaaDoor
