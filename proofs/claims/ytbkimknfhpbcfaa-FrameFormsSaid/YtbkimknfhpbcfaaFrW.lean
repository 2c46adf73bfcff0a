/- The law's awake: the document's example. No condition. -/
import Derived.Test.YtbkimknfhpbcfaaFrM
namespace Go.Proofs.Ytbkimknfhpbcfaa
open Go.RowKit

theorem MBytes_ex (w : World) : Calls Try.prog 25 #[.agg #[.int .u8 2, .int .u32 5, .int .u32 2, .int .u32 0, .int .u32 0, .slice none 0 0, .slice none 0 0]] w fun e w' => ∃ v, e = .returned v ∧ Row w' w.heap.size v (inB 5 2) ∧ Below w.heap.size w w' := MBytes_in 5 2 w (by decide) (by decide)
theorem Read_ex (A : Option Addr) (c b : Nat) (w : World) (hs : Bs w b A (inB 5 2)) : Calls Try.prog 29 #[.slice A 9 c] w fun e w' => e = .returned (.tuple #[.agg #[.int .u8 2, .int .u32 5, .int .u32 2, .int .u32 0, .int .u32 0, .slice none 0 0, .slice none 0 0], .int .i64 0]) ∧ Below w.heap.size w w' := Read_in A 5 2 c b w (by decide) (by decide) hs
theorem Like_ex (w : World) : Calls Try.prog 31 #[.agg #[.int .u8 2, .int .u32 5, .int .u32 2, .int .u32 0, .int .u32 0, .slice none 0 0, .slice none 0 0], .agg #[.int .u8 2, .int .u32 5, .int .u32 2, .int .u32 0, .int .u32 0, .slice none 0 0, .slice none 0 0]] w fun e w' => e = .returned (.bool true) ∧ Below w.heap.size w w' := Like_nil 2 5 2 0 0 w

set_option maxHeartbeats 4000000 in
set_option maxRecDepth 20000 in
theorem awake_calls (w : World) : Calls Try.prog 10 #[] w fun e w' => e = .returned (.bool true) ∧ Below w.heap.size w w' := by
  have q := BoxM.new_ w #[.int .u8 2, .int .u32 5, .int .u32 2, .int .u32 0, .int .u32 0, .slice none 0 0, .slice none 0 0]
  have hb := below_alloc1 w (.cells #[.int .u8 2, .int .u32 5, .int .u32 2, .int .u32 0, .int .u32 0, .slice none 0 0, .slice none 0 0] 56)
  go_enter Try.func10, Try.ntmps10
  go_wp2_with fail
  refine (MBytes_ex _).mono ?_
  rintro e w1 ⟨v, rfl, hrow, h1⟩
  obtain ⟨A, c, b, rfl, -, -, -, -, hs, -⟩ := hrow.sl
  replace q := q.ext h1
  replace hb := hb.trans (h1.mono hb.size)
  rw [inB_length]
  clear hrow h1
  go_wp2_with fail
  refine (Read_ex A c b _ hs).mono ?_
  rintro e w2 ⟨rfl, h1⟩
  replace q := q.ext h1
  replace hb := hb.trans (h1.mono hb.size)
  have q2 := BoxM.new_ w2 #[.int .u8 2, .int .u32 5, .int .u32 2, .int .u32 0, .int .u32 0, .slice none 0 0, .slice none 0 0]
  have ha := below_alloc1 w2 (.cells #[.int .u8 2, .int .u32 5, .int .u32 2, .int .u32 0, .int .u32 0, .slice none 0 0, .slice none 0 0] 56)
  replace q := q.ext ha
  replace hb := hb.trans (ha.mono hb.size)
  obtain ⟨a0, a1, a2, a3, a4, a5, a6⟩ := q.all
  clear hs h1 ha
  go_wp2_with fail
  refine (MBytes_ex _).mono ?_
  rintro e w3 ⟨v, rfl, hrow, h1⟩
  obtain ⟨A', c', b', rfl, -, -, -, -, -, -⟩ := hrow.sl
  rw [inB_length]
  replace q := q.ext h1
  replace q2 := q2.ext h1
  replace hb := hb.trans (h1.mono hb.size)
  clear hrow h1 a0 a1 a2 a3 a4 a5 a6
  obtain ⟨a0, a1, a2, a3, a4, a5, a6⟩ := q.all
  obtain ⟨b0, b1, b2, b3, b4, b5, b6⟩ := q2.all
  go_wp2_with fail
  refine (Like_ex _).mono ?_
  rintro e w4 ⟨rfl, h1⟩
  replace hb := hb.trans (h1.mono hb.size)
  go_wp2_with fail
  go_ret
  exact ⟨rfl, hb⟩
end Go.Proofs.Ytbkimknfhpbcfaa
