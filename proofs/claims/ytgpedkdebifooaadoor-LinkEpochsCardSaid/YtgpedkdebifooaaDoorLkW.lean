/- Take of a frame of another epoch; Acks. Conditions: those said. -/
import Derived.Test.YtgpedkdebifooaaDoorLkV
import Derived.Test.YtgpedkdebifooaaDoorFrP
namespace Go.Proofs.YtgpedkdebifooaaDoor
open Go.RowKit
set_option linter.unusedVariables false

set_option maxHeartbeats 8000000 in
set_option maxRecDepth 20000 in
theorem TakeOld_calls (g bm : Nat) (L : Lk) (vw vf vh : Value) (f : Fr) (A : Option Addr) (n c b : Nat) (w : World) (q : LkB w g bm L vw vf vh) (ho : f.Ok) (hr : f.right = true) (hs : Bs w b A (sealedL f.raw)) (hn : (sealedL f.raw).length = n) (hc : n ≤ c) (hep : L.ep < 65536) (hne : f.epoch ≠ L.ep) :
    Calls Tryd.prog 18 #[.pointer (some ⟨g, 0, none⟩), .slice A n c] w fun e w' => e = .returned (.tuple #[.slice none 0 0, .int .i64 10]) ∧ Below w.heap.size w w' := by
  have hP := Parse_own f A n c b w ho hr hs hn hc
  have hq := q.lt
  have hne1 : ((f.epoch : Int) != (L.ep : Int)) = true := by simp; omega
  clear hn hc hs ho hr hep hne
  go_enter Tryd.func18, Tryd.ntmps18
  go_wp2_with fail
  refine hP.mono ?_
  rintro e w1 ⟨A1, c1, b1, rfl, -, -, hb1⟩
  have q1 := q.ext hb1
  have hb2 := below_alloc1 w1 (.cells (f.cells A1 c1) 47)
  have c0 := (q1.ext hb2).c0
  have HB := Lib.hid (hb1.trans (hb2.mono hb1.size))
  clear hP q q1 hb1 hb2
  go_wp2_with fail
  go_quiet (fail)
  go_wp2_with fail
  go_ret2
  exact ⟨rfl, below_drewN HB.out nq⟩
set_option maxRecDepth 20000 in
theorem LAcks_calls (g bm : Nat) (L : Lk) (vw vf vh : Value) (w : World) (q : LkB w g bm L vw vf vh) :
    Calls Tryd.prog 26 #[.pointer (some ⟨g, 0, none⟩)] w fun e w' => e = .returned (.agg #[.int .u16 (L.cn : Int), .int .u32 (L.cb : Int)]) ∧ Below w.heap.size w w' := by
  have hb := below_alloc1 w (.cells #[.int .u16 (L.cn : Int), .int .u32 (L.cb : Int)] 45)
  have ha := below_alloc1 w (.cells #[.int .u16 0, .int .u32 0] 45)
  have c4 := q.c4
  have c5 := q.c5
  have d4 := (q.ext ha).c4
  have d5 := (q.ext ha).c5
  clear q
  go_enter Tryd.func26, Tryd.ntmps26
  go_wp2_with fail
  have hg := heap_alloc_new w (.cells #[.int .u16 (L.cn : Int), .int .u32 (L.cb : Int)] 45)
  refine bodyPost_ret (results_cell_row (P := Tryd.prog) rfl _ _ w.heap.size _ _ (0, 0) _ rfl hg Tryd.underlying45 rfl (by kernel_rfl)) rfl ⟨rfl, hb⟩
end Go.Proofs.YtgpedkdebifooaaDoor
