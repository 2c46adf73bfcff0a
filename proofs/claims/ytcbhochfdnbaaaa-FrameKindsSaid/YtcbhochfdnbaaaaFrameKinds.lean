/- FrameKinds: the walk. Conditions: the numbers fit. -/
import Derived.Test.YtcbhochfdnbaaaaFrK
namespace Go.Proofs.Ytcbhochfdnbaaaa
open Go.RowKit
set_option linter.unusedVariables false

theorem MBytes_i (t m : Nat) (w : World) (ht : t < 4294967296) (hm : m < 4294967296) : Calls Try.prog 25 #[.agg #[.int .u8 2, .int .u32 (t : Int), .int .u32 (m : Int), .int .u32 0, .int .u32 0, .slice none 0 0, .slice none 0 0]] w fun e w' => ∃ v, e = .returned v ∧ Row w' w.heap.size v (inB t m) ∧ Below w.heap.size w w' := MBytes_in t m w ht hm
theorem row_head {w : World} {B : Nat} {v : Value} {l : List UInt8} {x : UInt8} {r : List UInt8} (h : Row w B v l) (hl : l = x :: r) : ∃ A c b off, v = .slice A l.length c ∧ A = some ⟨b, off, none⟩ ∧ Bs w b A l ∧ w.cell? ⟨b, off, none⟩ = some (.int .u8 (x.toNat : Int)) := by
  obtain ⟨A, c, b, e, _, _, _, _, hs, _⟩ := h.sl
  obtain ⟨off, hA, hc⟩ := Bs.at_ hs (k := 0) (by rw [hl]; simp)
  refine ⟨A, c, b, off, e, hA, hs, ?_⟩
  have := hc 0 (by rw [hl]; simp)
  subst hl
  simpa using this
set_option maxHeartbeats 4000000 in
set_option maxRecDepth 20000 in
theorem Size_h1 (w : World) : Calls Try.prog 28 #[.agg #[.int .u8 1, .int .u32 0, .int .u32 0, .int .u32 0, .int .u32 0, .slice none 0 0, .slice none 0 0]] w fun e w' => e = .returned (.int .i64 1) ∧ Below w.heap.size w w' := by
  have hb := below_alloc1 w (.cells #[.int .u8 1, .int .u32 0, .int .u32 0, .int .u32 0, .int .u32 0, .slice none 0 0, .slice none 0 0] 56)
  go_enter Try.func28, Try.ntmps28
  go_wp2_with fail
  refine (MBytes_h1 _).mono ?_
  rintro e w1 ⟨v, rfl, hrow, h1⟩
  obtain ⟨A, c, b, rfl, -, -, -, -, -, -⟩ := hrow.sl
  rw [show (low 1 1).length = 1 by simp]
  go_wp2_with fail
  go_ret
  exact ⟨rfl, hb.trans (h1.mono hb.size)⟩
set_option maxHeartbeats 4000000 in
set_option maxRecDepth 20000 in
theorem Size_h3 (w : World) : Calls Try.prog 28 #[.agg #[.int .u8 3, .int .u32 0, .int .u32 0, .int .u32 0, .int .u32 0, .slice none 0 0, .slice none 0 0]] w fun e w' => e = .returned (.int .i64 1) ∧ Below w.heap.size w w' := by
  have hb := below_alloc1 w (.cells #[.int .u8 3, .int .u32 0, .int .u32 0, .int .u32 0, .int .u32 0, .slice none 0 0, .slice none 0 0] 56)
  go_enter Try.func28, Try.ntmps28
  go_wp2_with fail
  refine (MBytes_h3 _).mono ?_
  rintro e w1 ⟨v, rfl, hrow, h1⟩
  obtain ⟨A, c, b, rfl, -, -, -, -, -, -⟩ := hrow.sl
  rw [show (low 3 1).length = 1 by simp]
  go_wp2_with fail
  go_ret
  exact ⟨rfl, hb.trans (h1.mono hb.size)⟩
set_option maxHeartbeats 4000000 in
set_option maxRecDepth 20000 in
theorem Size_h4 (w : World) : Calls Try.prog 28 #[.agg #[.int .u8 4, .int .u32 0, .int .u32 0, .int .u32 0, .int .u32 0, .slice none 0 0, .slice none 0 0]] w fun e w' => e = .returned (.int .i64 1) ∧ Below w.heap.size w w' := by
  have hb := below_alloc1 w (.cells #[.int .u8 4, .int .u32 0, .int .u32 0, .int .u32 0, .int .u32 0, .slice none 0 0, .slice none 0 0] 56)
  go_enter Try.func28, Try.ntmps28
  go_wp2_with fail
  refine (MBytes_h4 _).mono ?_
  rintro e w1 ⟨v, rfl, hrow, h1⟩
  obtain ⟨A, c, b, rfl, -, -, -, -, -, -⟩ := hrow.sl
  rw [show (low 4 1).length = 1 by simp]
  go_wp2_with fail
  go_ret
  exact ⟨rfl, hb.trans (h1.mono hb.size)⟩
set_option maxHeartbeats 4000000 in
set_option maxRecDepth 20000 in
theorem Size_i (t m : Nat) (ht : t < 4294967296) (hm : m < 4294967296) (w : World) : Calls Try.prog 28 #[.agg #[.int .u8 2, .int .u32 (t : Int), .int .u32 (m : Int), .int .u32 0, .int .u32 0, .slice none 0 0, .slice none 0 0]] w fun e w' => e = .returned (.int .i64 9) ∧ Below w.heap.size w w' := by
  have hb := below_alloc1 w (.cells #[.int .u8 2, .int .u32 (t : Int), .int .u32 (m : Int), .int .u32 0, .int .u32 0, .slice none 0 0, .slice none 0 0] 56)
  go_enter Try.func28, Try.ntmps28
  go_wp2_with fail
  refine (MBytes_i t m _ ht hm).mono ?_
  rintro e w1 ⟨v, rfl, hrow, h1⟩
  obtain ⟨A, c, b, rfl, -, -, -, -, -, -⟩ := hrow.sl
  rw [show (inB t m).length = 9 by simp [inB]]
  go_wp2_with fail
  go_ret
  exact ⟨rfl, hb.trans (h1.mono hb.size)⟩
set_option maxHeartbeats 4000000 in
set_option maxRecDepth 20000 in
theorem Size_s5 (t : Nat) (ht : t < 4294967296) (w : World) : Calls Try.prog 28 #[.agg #[.int .u8 5, .int .u32 (t : Int), .int .u32 0, .int .u32 (t : Int), .int .u32 0, .slice none 0 0, .slice none 0 0]] w fun e w' => e = .returned (.int .i64 10) ∧ Below w.heap.size w w' := by
  have hb := below_alloc1 w (.cells #[.int .u8 5, .int .u32 (t : Int), .int .u32 0, .int .u32 (t : Int), .int .u32 0, .slice none 0 0, .slice none 0 0] 56)
  go_enter Try.func28, Try.ntmps28
  go_wp2_with fail
  refine (MBytes_s5 t _ ht).mono ?_
  rintro e w1 ⟨v, rfl, hrow, h1⟩
  obtain ⟨A, c, b, rfl, -, -, -, -, -, -⟩ := hrow.sl
  rw [show ((low 5 1 ++ dZ t)).length = 10 by simp [dZ]]
  go_wp2_with fail
  go_ret
  exact ⟨rfl, hb.trans (h1.mono hb.size)⟩
set_option maxHeartbeats 4000000 in
set_option maxRecDepth 20000 in
theorem Size_s6 (t : Nat) (ht : t < 4294967296) (w : World) : Calls Try.prog 28 #[.agg #[.int .u8 6, .int .u32 (t : Int), .int .u32 0, .int .u32 (t : Int), .int .u32 0, .slice none 0 0, .slice none 0 0]] w fun e w' => e = .returned (.int .i64 10) ∧ Below w.heap.size w w' := by
  have hb := below_alloc1 w (.cells #[.int .u8 6, .int .u32 (t : Int), .int .u32 0, .int .u32 (t : Int), .int .u32 0, .slice none 0 0, .slice none 0 0] 56)
  go_enter Try.func28, Try.ntmps28
  go_wp2_with fail
  refine (MBytes_s6 t _ ht).mono ?_
  rintro e w1 ⟨v, rfl, hrow, h1⟩
  obtain ⟨A, c, b, rfl, -, -, -, -, -, -⟩ := hrow.sl
  rw [show ((low 6 1 ++ dZ t)).length = 10 by simp [dZ]]
  go_wp2_with fail
  go_ret
  exact ⟨rfl, hb.trans (h1.mono hb.size)⟩
set_option maxHeartbeats 4000000 in
set_option maxRecDepth 20000 in
theorem Size_n (k : Nat) (w : World) (hk : k < 256) (h1 : k ≠ 1) (h2 : k ≠ 2) (h3 : k ≠ 3) (h4 : k ≠ 4) (h5 : k ≠ 5) (h6 : k ≠ 6) : Calls Try.prog 28 #[.agg #[.int .u8 (k : Int), .int .u32 0, .int .u32 0, .int .u32 0, .int .u32 0, .slice none 0 0, .slice none 0 0]] w fun e w' => e = .returned (.int .i64 0) ∧ Below w.heap.size w w' := by
  have hB := fun W => MBytes_n k W hk h1 h2 h3 h4 h5 h6
  have hb := below_alloc1 w (.cells #[.int .u8 (k : Int), .int .u32 0, .int .u32 0, .int .u32 0, .int .u32 0, .slice none 0 0, .slice none 0 0] 56)
  clear h1 h2 h3 h4 h5 h6
  go_enter Try.func28, Try.ntmps28
  go_wp2_with fail
  refine (hB _).mono ?_
  rintro e w1 ⟨rfl, h1⟩
  go_wp2_with fail
  go_ret
  exact ⟨rfl, hb.trans (h1.mono hb.size)⟩
set_option maxHeartbeats 4000000 in
set_option maxRecDepth 20000 in
theorem FrameKinds_walk (t m k : Nat) (w : World) (ht : t ≤ 4294967295) (hm : m ≤ 4294967295) (hk : k ≤ 255) :
    Calls Try.prog 8 #[.int .u32 t, .int .u32 m, .int .u8 k] w fun e w' => e = .returned (.bool true) ∧ Below w.heap.size w w' := by
  have hcases : k = 1 ∨ k = 3 ∨ k = 4 ∨ k = 2 ∨ k = 5 ∨ k = 6 ∨ (k ≠ 1 ∧ k ≠ 2 ∧ k ≠ 3 ∧ k ≠ 4 ∧ k ≠ 5 ∧ k ≠ 6) := by omega
  rcases hcases with rfl | rfl | rfl | rfl | rfl | rfl | ⟨h1, h2, h3, h4, h5, h6⟩
  · have q : ∀ W : World, (W.alloc (.cells #[.int .u8 1, .int .u32 0, .int .u32 0, .int .u32 0, .int .u32 0, .slice none 0 0, .slice none 0 0] 56)).heap[W.heap.size]? = some (.cells #[.int .u8 1, .int .u32 0, .int .u32 0, .int .u32 0, .int .u32 0, .slice none 0 0, .slice none 0 0] 56 (0, 0)) := fun W => heap_alloc_new W _
    go_enter Try.func8, Try.ntmps8
    go_wp2_with fail
    refine (awake_calls _).mono ?_
    rintro e w1 ⟨rfl, hb⟩
    have ha := below_alloc1 w1 (.cells #[.int .u8 1, .int .u32 0, .int .u32 0, .int .u32 0, .int .u32 0, .slice none 0 0, .slice none 0 0] 56)
    replace q := q w1
    replace hb := hb.trans (ha.mono hb.size)
    clear ha
    go_wp2_with fail
    refine (MBytes_h1 _).mono ?_
    rintro e w2 ⟨v, rfl, hrow, h1⟩
    obtain ⟨A, c, b, off, rfl, rfl, hs, hc⟩ := row_head hrow (x := 1) (r := []) (by simp [low_one])
    rw [show (1 : UInt8).toNat = 1 from rfl] at hc
    rw [show (low 1 1).length = 1 by simp]
    replace q := box_ext q h1
    replace hb := hb.trans (h1.mono hb.size)
    obtain ⟨k0, k1, k2, k3, k4, k5, k6⟩ := BoxM.all q
    clear h1 hrow hs
    go_wp2_with fail
    refine (Size_h1 _).mono ?_
    rintro e w3 ⟨rfl, h1⟩
    replace hb := hb.trans (h1.mono hb.size)
    go_wp2_with fail
    go_ret
    exact ⟨rfl, hb⟩
  · have q : ∀ W : World, (W.alloc (.cells #[.int .u8 3, .int .u32 0, .int .u32 0, .int .u32 0, .int .u32 0, .slice none 0 0, .slice none 0 0] 56)).heap[W.heap.size]? = some (.cells #[.int .u8 3, .int .u32 0, .int .u32 0, .int .u32 0, .int .u32 0, .slice none 0 0, .slice none 0 0] 56 (0, 0)) := fun W => heap_alloc_new W _
    go_enter Try.func8, Try.ntmps8
    go_wp2_with fail
    refine (awake_calls _).mono ?_
    rintro e w1 ⟨rfl, hb⟩
    have ha := below_alloc1 w1 (.cells #[.int .u8 3, .int .u32 0, .int .u32 0, .int .u32 0, .int .u32 0, .slice none 0 0, .slice none 0 0] 56)
    replace q := q w1
    replace hb := hb.trans (ha.mono hb.size)
    clear ha
    go_wp2_with fail
    refine (MBytes_h3 _).mono ?_
    rintro e w2 ⟨v, rfl, hrow, h1⟩
    obtain ⟨A, c, b, off, rfl, rfl, hs, hc⟩ := row_head hrow (x := 3) (r := []) (by simp [low_one])
    rw [show (3 : UInt8).toNat = 3 from rfl] at hc
    rw [show (low 3 1).length = 1 by simp]
    replace q := box_ext q h1
    replace hb := hb.trans (h1.mono hb.size)
    obtain ⟨k0, k1, k2, k3, k4, k5, k6⟩ := BoxM.all q
    clear h1 hrow hs
    go_wp2_with fail
    refine (Size_h3 _).mono ?_
    rintro e w3 ⟨rfl, h1⟩
    replace hb := hb.trans (h1.mono hb.size)
    go_wp2_with fail
    go_ret
    exact ⟨rfl, hb⟩
  · have q : ∀ W : World, (W.alloc (.cells #[.int .u8 4, .int .u32 0, .int .u32 0, .int .u32 0, .int .u32 0, .slice none 0 0, .slice none 0 0] 56)).heap[W.heap.size]? = some (.cells #[.int .u8 4, .int .u32 0, .int .u32 0, .int .u32 0, .int .u32 0, .slice none 0 0, .slice none 0 0] 56 (0, 0)) := fun W => heap_alloc_new W _
    go_enter Try.func8, Try.ntmps8
    go_wp2_with fail
    refine (awake_calls _).mono ?_
    rintro e w1 ⟨rfl, hb⟩
    have ha := below_alloc1 w1 (.cells #[.int .u8 4, .int .u32 0, .int .u32 0, .int .u32 0, .int .u32 0, .slice none 0 0, .slice none 0 0] 56)
    replace q := q w1
    replace hb := hb.trans (ha.mono hb.size)
    clear ha
    go_wp2_with fail
    refine (MBytes_h4 _).mono ?_
    rintro e w2 ⟨v, rfl, hrow, h1⟩
    obtain ⟨A, c, b, off, rfl, rfl, hs, hc⟩ := row_head hrow (x := 4) (r := []) (by simp [low_one])
    rw [show (4 : UInt8).toNat = 4 from rfl] at hc
    rw [show (low 4 1).length = 1 by simp]
    replace q := box_ext q h1
    replace hb := hb.trans (h1.mono hb.size)
    obtain ⟨k0, k1, k2, k3, k4, k5, k6⟩ := BoxM.all q
    clear h1 hrow hs
    go_wp2_with fail
    refine (Size_h4 _).mono ?_
    rintro e w3 ⟨rfl, h1⟩
    replace hb := hb.trans (h1.mono hb.size)
    go_wp2_with fail
    go_ret
    exact ⟨rfl, hb⟩
  · have q : ∀ W : World, (W.alloc (.cells #[.int .u8 2, .int .u32 (t : Int), .int .u32 (m : Int), .int .u32 0, .int .u32 0, .slice none 0 0, .slice none 0 0] 56)).heap[W.heap.size]? = some (.cells #[.int .u8 2, .int .u32 (t : Int), .int .u32 (m : Int), .int .u32 0, .int .u32 0, .slice none 0 0, .slice none 0 0] 56 (0, 0)) := fun W => heap_alloc_new W _
    go_enter Try.func8, Try.ntmps8
    go_wp2_with fail
    refine (awake_calls _).mono ?_
    rintro e w1 ⟨rfl, hb⟩
    have ha := below_alloc1 w1 (.cells #[.int .u8 2, .int .u32 (t : Int), .int .u32 (m : Int), .int .u32 0, .int .u32 0, .slice none 0 0, .slice none 0 0] 56)
    replace q := q w1
    replace hb := hb.trans (ha.mono hb.size)
    clear ha
    go_wp2_with fail
    refine (MBytes_i t m _ (by omega) (by omega)).mono ?_
    rintro e w2 ⟨v, rfl, hrow, h1⟩
    obtain ⟨A, c, b, off, rfl, rfl, hs, hc⟩ := row_head hrow (x := 2) (r := low t 4 ++ low m 4) (by simp [inB, low_one])
    rw [show (2 : UInt8).toNat = 2 from rfl] at hc
    rw [show (inB t m).length = 9 by simp [inB]]
    replace q := box_ext q h1
    replace hb := hb.trans (h1.mono hb.size)
    obtain ⟨k0, k1, k2, k3, k4, k5, k6⟩ := BoxM.all q
    clear h1 hrow hs
    go_wp2_with fail
    refine (Size_i t m (by omega) (by omega) _).mono ?_
    rintro e w3 ⟨rfl, h1⟩
    replace hb := hb.trans (h1.mono hb.size)
    go_wp2_with fail
    go_ret
    exact ⟨rfl, hb⟩
  · have q : ∀ W : World, (W.alloc (.cells #[.int .u8 5, .int .u32 (t : Int), .int .u32 0, .int .u32 (t : Int), .int .u32 0, .slice none 0 0, .slice none 0 0] 56)).heap[W.heap.size]? = some (.cells #[.int .u8 5, .int .u32 (t : Int), .int .u32 0, .int .u32 (t : Int), .int .u32 0, .slice none 0 0, .slice none 0 0] 56 (0, 0)) := fun W => heap_alloc_new W _
    go_enter Try.func8, Try.ntmps8
    go_wp2_with fail
    refine (awake_calls _).mono ?_
    rintro e w1 ⟨rfl, hb⟩
    have ha := below_alloc1 w1 (.cells #[.int .u8 5, .int .u32 (t : Int), .int .u32 0, .int .u32 (t : Int), .int .u32 0, .slice none 0 0, .slice none 0 0] 56)
    replace q := q w1
    replace hb := hb.trans (ha.mono hb.size)
    clear ha
    go_wp2_with fail
    refine (MBytes_s5 t _ (by omega)).mono ?_
    rintro e w2 ⟨v, rfl, hrow, h1⟩
    obtain ⟨A, c, b, off, rfl, rfl, hs, hc⟩ := row_head hrow (x := 5) (r := dZ t) (by simp [low_one])
    rw [show (5 : UInt8).toNat = 5 from rfl] at hc
    rw [show (low 5 1 ++ dZ t).length = 10 by simp [dZ]]
    replace q := box_ext q h1
    replace hb := hb.trans (h1.mono hb.size)
    obtain ⟨k0, k1, k2, k3, k4, k5, k6⟩ := BoxM.all q
    clear h1 hrow hs
    go_wp2_with fail
    refine (Size_s5 t (by omega) _).mono ?_
    rintro e w3 ⟨rfl, h1⟩
    replace hb := hb.trans (h1.mono hb.size)
    go_wp2_with fail
    go_ret
    exact ⟨rfl, hb⟩
  · have q : ∀ W : World, (W.alloc (.cells #[.int .u8 6, .int .u32 (t : Int), .int .u32 0, .int .u32 (t : Int), .int .u32 0, .slice none 0 0, .slice none 0 0] 56)).heap[W.heap.size]? = some (.cells #[.int .u8 6, .int .u32 (t : Int), .int .u32 0, .int .u32 (t : Int), .int .u32 0, .slice none 0 0, .slice none 0 0] 56 (0, 0)) := fun W => heap_alloc_new W _
    go_enter Try.func8, Try.ntmps8
    go_wp2_with fail
    refine (awake_calls _).mono ?_
    rintro e w1 ⟨rfl, hb⟩
    have ha := below_alloc1 w1 (.cells #[.int .u8 6, .int .u32 (t : Int), .int .u32 0, .int .u32 (t : Int), .int .u32 0, .slice none 0 0, .slice none 0 0] 56)
    replace q := q w1
    replace hb := hb.trans (ha.mono hb.size)
    clear ha
    go_wp2_with fail
    refine (MBytes_s6 t _ (by omega)).mono ?_
    rintro e w2 ⟨v, rfl, hrow, h1⟩
    obtain ⟨A, c, b, off, rfl, rfl, hs, hc⟩ := row_head hrow (x := 6) (r := dZ t) (by simp [low_one])
    rw [show (6 : UInt8).toNat = 6 from rfl] at hc
    rw [show (low 6 1 ++ dZ t).length = 10 by simp [dZ]]
    replace q := box_ext q h1
    replace hb := hb.trans (h1.mono hb.size)
    obtain ⟨k0, k1, k2, k3, k4, k5, k6⟩ := BoxM.all q
    clear h1 hrow hs
    go_wp2_with fail
    refine (Size_s6 t (by omega) _).mono ?_
    rintro e w3 ⟨rfl, h1⟩
    replace hb := hb.trans (h1.mono hb.size)
    go_wp2_with fail
    go_ret
    exact ⟨rfl, hb⟩
  · have e1 : ((k : Int) == 1) = false := by simp; omega
    have e2 : ((k : Int) == 2) = false := by simp; omega
    have e3 : ((k : Int) == 3) = false := by simp; omega
    have e4 : ((k : Int) == 4) = false := by simp; omega
    have e5 : ((k : Int) == 5) = false := by simp; omega
    have e6 : ((k : Int) == 6) = false := by simp; omega
    have hB := fun W => MBytes_n k W (by omega) h1 h2 h3 h4 h5 h6
    have hS := fun W => Size_n k W (by omega) h1 h2 h3 h4 h5 h6
    clear h1 h2 h3 h4 h5 h6
    go_enter Try.func8, Try.ntmps8
    go_wp2_with fail
    refine (awake_calls _).mono ?_
    rintro e w1 ⟨rfl, hb⟩
    have ha := below_alloc1 w1 (.cells #[.int .u8 (k : Int), .int .u32 0, .int .u32 0, .int .u32 0, .int .u32 0, .slice none 0 0, .slice none 0 0] 56)
    have q : (w1.alloc (.cells #[.int .u8 (k : Int), .int .u32 0, .int .u32 0, .int .u32 0, .int .u32 0, .slice none 0 0, .slice none 0 0] 56)).heap[w1.heap.size]? = some (.cells #[.int .u8 (k : Int), .int .u32 0, .int .u32 0, .int .u32 0, .int .u32 0, .slice none 0 0, .slice none 0 0] 56 (0, 0)) := heap_alloc_new w1 _
    replace hb := hb.trans (ha.mono hb.size)
    clear ha
    go_wp2_with fail
    refine (hB _).mono ?_
    rintro e w2 ⟨rfl, h1⟩
    replace q := box_ext q h1
    replace hb := hb.trans (h1.mono hb.size)
    obtain ⟨k0, k1, k2, k3, k4, k5, k6⟩ := BoxM.all q
    clear h1
    go_wp2_with fail
    refine (hS _).mono ?_
    rintro e w3 ⟨rfl, h1⟩
    replace hb := hb.trans (h1.mono hb.size)
    go_wp2_with fail
    go_ret
    exact ⟨rfl, hb⟩
end Go.Proofs.Ytcbhochfdnbaaaa
