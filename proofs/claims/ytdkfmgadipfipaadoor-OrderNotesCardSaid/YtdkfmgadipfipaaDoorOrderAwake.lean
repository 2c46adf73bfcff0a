/- awake: the document's examples. -/
import Derived.Test.YtdkfmgadipfipaaDoorOnes
namespace Go.Proofs.YtdkfmgadipfipaaDoor
open Go.RowKit

set_option maxHeartbeats 4000000 in
set_option maxRecDepth 20000 in
theorem Awake_calls (w : World) (hTab : Tab w) :
    Calls Tryd.prog 8 #[] w fun e w' => e = .returned (.bool true) ∧ Below w.heap.size w w' := by
  have n1 : noteV 0 0 (noteN 0 0 1) = .tuple #[acksV 0 1, .bool true] := by rw [show noteN 0 0 1 = some (0, 1) by decide +kernel]; rfl
  have n2 : noteV 0 1 (noteN 0 1 0) = .tuple #[acksV 2 0, .bool true] := by rw [show noteN 0 1 0 = some (2, 0) by decide +kernel]; rfl
  have l1 : decide (0 < toI 65535 3) = true := by decide +kernel
  have hN1 := fun W h => Note_calls 0 0 1 W h (by omega) (by omega) (by omega)
  have hN2 := fun W h => Note_calls 0 1 0 W h (by omega) (by omega) (by omega)
  have hL := fun W => Less_calls 65535 3 W (by omega) (by omega)
  rw [n1] at hN1
  rw [n2] at hN2
  rw [l1] at hL
  clear n1 n2 l1
  go_enter Tryd.func8, Tryd.ntmps8
  go_wp2_with fail
  refine (hN1 _ hTab).mono ?_
  rintro e w1 ⟨rfl, hb1⟩
  have t1 := Tab.ext hTab hb1
  have HT := Lib.hid t1
  clear hN1 t1 hTab
  simp only [acksV]
  go_wp2_with fail
  have q0 := Box2.new_ w1 (.int .u16 0) (.int .u32 1)
  have s1 := below_alloc1 w1 (.cells #[.int .u16 0, .int .u32 1] 34)
  refine (hN2 _ (Tab.ext HT.out s1)).mono ?_
  rintro e w2 ⟨rfl, hb2⟩
  have hb3 := hb1.trans ((s1.trans (hb2.mono s1.size)).mono hb1.size)
  have q1 := q0.ext hb2
  have k0 := q1.alloc (.cells #[.int .u16 2, .int .u32 0] 34)
  have k1 := Box2.new_ w2 (.int .u16 2) (.int .u32 0)
  have c00 := k0.c0
  have c01 := k0.c1
  have c10 := k1.c0
  have c11 := k1.c1
  have hb4 := hb3.alloc (hb3.size) (.cells #[.int .u16 2, .int .u32 0] 34)
  clear hN2 HT s1 hb1 hb2 hb3 q0 q1
  simp only [acksV]
  go_wp2_with fail
  refine (hL _).mono ?_
  rintro e w3 ⟨rfl, rfl⟩
  go_wp2_with fail
  go_ret
  exact ⟨rfl, by first | exact hb4 | exact below_drew hb4 | exact below_drewN hb4 _⟩
end Go.Proofs.YtdkfmgadipfipaaDoor
