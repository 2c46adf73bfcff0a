/- CodeTurns: the walk. Conditions: the numbers fit; the tables lie. -/
import Derived.Test.YtdmjkgafnnjkkaaDoorCodeK2
namespace Go.Proofs.YtdmjkgafnnjkkaaDoor
open Go.RowKit

theorem one_check (c : Cd) (cells players : Int) : checkV [c] cells players = (0, fitsB c cells (1 + 1) players) := by
  cases h : fitsB c cells (1 + 1) players with
  | true => exact checkV_good (by simp) (fun j hj => by
      have : j = 0 := by simpa using hj
      subst this
      exact h)
  | false => exact checkV_bad (k := 0) (by simp) (by simp) h (fun j hj => by omega)
theorem fits_lt {c : Cd} {x y z : Int} (h : fitsB c x y z = true) : c.op < 26 := by
  unfold fitsB at h
  rw [Bool.and_eq_true, decide_eq_true_iff] at h
  exact h.1
theorem contains_next {l : List UInt8} {j : Nat} (h : j < l.length) (x : UInt8) : (l.take (j + 1)).contains x = ((l.take j).contains x || l[j] == x) := by
  rw [List.take_add_one, List.getElem?_eq_getElem h]
  simp only [Option.toList_some, List.contains_eq_mem, List.mem_append, List.mem_singleton]
  rw [Bool.eq_iff_iff]
  simp only [decide_eq_true_iff, Bool.or_eq_true, beq_iff_eq]
  exact or_congr Iff.rfl eq_comm
theorem turn_a {op a b cc : Nat} {n : Int} {m : Nat} {x y z : Int} (r : Nat) (h : fitsB ⟨op, a, b, cc, n, m⟩ x y z = true) : fitsB ⟨op, r, b, cc, n, m⟩ x y z = regB r (uB op 0) := by
  simp only [fitsB, Bool.and_eq_true] at h
  obtain ⟨h1, h2, h3, h4, h5, h6⟩ := h
  simp only [fitsB]
  rw [h1, h3, h4, h5, h6]
  simp
theorem turn_b {op a b cc : Nat} {n : Int} {m : Nat} {x y z : Int} (r : Nat) (h : fitsB ⟨op, a, b, cc, n, m⟩ x y z = true) : fitsB ⟨op, a, r, cc, n, m⟩ x y z = regB r (uB op 1) := by
  simp only [fitsB, Bool.and_eq_true] at h
  obtain ⟨h1, h2, h3, h4, h5, h6⟩ := h
  simp only [fitsB]
  rw [h1, h2, h4, h5, h6]
  simp
theorem row_only : ∀ j : Fin 26, j.val ≠ 24 → uB j.val 3 = false := by decide +kernel
theorem turn_c {op a b cc : Nat} {n : Int} {m : Nat} {x y z : Int} (r : Nat) (h : fitsB ⟨op, a, b, cc, n, m⟩ x y z = true) (h24 : op ≠ 24) : fitsB ⟨op, a, b, r, n, m⟩ x y z = regB r (uB op 2) := by
  have hr := row_only ⟨op, fits_lt h⟩ h24
  simp only at hr
  simp only [fitsB, Bool.and_eq_true, hr, Bool.false_eq_true, if_false] at h
  obtain ⟨h1, h2, h3, h4, h5, h6⟩ := h
  simp only [fitsB, hr, Bool.false_eq_true, if_false]
  rw [h1, h2, h3, h4, h6]
  simp
set_option maxHeartbeats 16000000 in
set_option maxRecDepth 20000 in
theorem CodeTurns_walk (op a b cc : Nat) (n : Int) (m : Nat) (r x y : Nat) (w : World) (hT : AllT w) (hc : (Cd.mk op a b cc n m).Ok) (hr : r ≤ 255) (hx : x ≤ 255) (hy : y ≤ 255) :
    Calls Tryd.prog 6 #[.agg #[.int .u8 (op : Int), .int .u8 (a : Int), .int .u8 (b : Int), .int .u8 (cc : Int), .int .i32 n, .int .u32 (m : Int)], .int .u8 (r : Int), .int .u8 (x : Int), .int .u8 (y : Int)] w fun e w' => e = .returned (.bool true) ∧ Below w.heap.size w w' := by
  obtain ⟨N, hN⟩ : ∃ N : Int, N = 1 + (x % 48 : Nat) := ⟨_, rfl⟩
  obtain ⟨P, hP⟩ : ∃ P : Int, P = 1 + (y % 6 : Nat) := ⟨_, rfl⟩
  have ex1 : (x : Int).tmod 48 = ((x % 48 : Nat) : Int) := by rw [Int.tmod_eq_emod_of_nonneg (by omega)]; omega
  have ey1 : (y : Int).tmod 6 = ((y % 6 : Nat) : Int) := by rw [Int.tmod_eq_emod_of_nonneg (by omega)]; omega
  obtain ⟨x1, hx1⟩ : ∃ x1, x1 = x % 48 := ⟨_, rfl⟩
  obtain ⟨y1, hy1⟩ : ∃ y1, y1 = y % 6 := ⟨_, rfl⟩
  rw [← hx1] at hN ex1
  rw [← hy1] at hP ey1
  have ex2 := IntWalk.i64_in (x1 : Int) (by omega)
  have ey2 := IntWalk.i64_in (y1 : Int) (by omega)
  have ex3 : IntKind.i64.wrap (1 + (x1 : Int)) = N := by rw [hN]; exact IntWalk.i64_in _ (by omega)
  have ey3 : IntKind.i64.wrap (1 + (y1 : Int)) = P := by rw [hP]; exact IntWalk.i64_in _ (by omega)
  have hNb : -9223372036854775808 ≤ N ∧ N ≤ 9223372036854775807 := by omega
  clear hN hP hx1 hy1
  have hRR := fun W => RRight_calls op a b cc n m hc 1 N P (by omega) (by omega) hNb.1 hNb.2 W
  have hRt : ∀ (c : Cd) (_ : c.Ok) (W : World) (g : Nat) (_ : Sl W g (some ⟨g, 0, none⟩) (kv [c])) (_ : CTab W), Calls Tryd.prog 15 #[.slice (some ⟨g, 0, none⟩) 1 1, .int .i64 N, .int .i64 P] W fun e w' => e = .returned (.bool (fitsB c N (1 + 1) P)) ∧ Below W.heap.size W w' := by
    intro c hc W g hs hT
    have := Right_calls (some ⟨g, 0, none⟩) [c] 1 1 g N P W hs rfl (by decide) (okK_one hc) hNb.1 hNb.2 hT
    rw [one_check] at this
    exact this
  have hOw := fun (W : World) (g : Nat) (h : Sl W g (some ⟨g, 0, none⟩) (kv [⟨op, a, b, cc, n, m⟩])) => Own_calls (some ⟨g, 0, none⟩) [⟨op, a, b, cc, n, m⟩] 1 1 g W h rfl (by omega)
  have hRc := hRt ⟨op, a, b, cc, n, m⟩ hc
  obtain ⟨f, hf⟩ : ∃ f, f = fitsB ⟨op, a, b, cc, n, m⟩ N (1 + 1) P := ⟨_, rfl⟩
  rw [← hf] at hRR hRc
  have HF := Lib.hid hf
  clear hf
  have hb := below_alloc1 w (.cells #[.int .u8 (op : Int), .int .u8 (a : Int), .int .u8 (b : Int), .int .u8 (cc : Int), .int .i32 n, .int .u32 (m : Int)] 33)
  have kA := heap_alloc_new w (.cells #[.int .u8 (op : Int), .int .u8 (a : Int), .int .u8 (b : Int), .int .u8 (cc : Int), .int .i32 n, .int .u32 (m : Int)] 33)
  replace hT := hT.ext hb
  go_enter Tryd.func6, Tryd.ntmps6
  go_wp2_with fail
  refine (Awake_calls _ hT).mono ?_
  rintro e w1 ⟨rfl, h9⟩
  replace kA := (h9.block _ (Array.getElem?_eq_some_iff.1 kA).1).trans kA
  replace hb := hb.trans (h9.mono hb.size)
  replace hT := hT.ext h9
  clear h9
  have a0 := (cell_of_row _ (w.heap.size) 0 _ _ _ kA).trans (show _ = some _ from rfl)
  have a1 := (cell_of_row _ (w.heap.size) 1 _ _ _ kA).trans (show _ = some _ from rfl)
  have a2 := (cell_of_row _ (w.heap.size) 2 _ _ _ kA).trans (show _ = some _ from rfl)
  have a3 := (cell_of_row _ (w.heap.size) 3 _ _ _ kA).trans (show _ = some _ from rfl)
  have a4 := (cell_of_row _ (w.heap.size) 4 _ _ _ kA).trans (show _ = some _ from rfl)
  have a5 := (cell_of_row _ (w.heap.size) 5 _ _ _ kA).trans (show _ = some _ from rfl)
  have hsn := sl_new w1 (kv [⟨op, a, b, cc, n, m⟩]) 33
  have hbn := below_alloc1 w1 (.cells #[.int .u8 (op : Int), .int .u8 (a : Int), .int .u8 (b : Int), .int .u8 (cc : Int), .int .i32 n, .int .u32 (m : Int)] 33)
  go_wp2_with fail
  refine (hOw _ _ hsn).mono ?_
  rintro e w2 ⟨v, rfl, hrow, h9⟩
  replace h9 := hbn.trans (h9.mono hbn.size)
  obtain ⟨A3, c3, b3, hv3, -, -, -, -, hs3, -⟩ := hrow.sl
  subst hv3
  clear hrow hOw hsn hbn a0 a1 a2 a3 a4 a5
  replace kA := (h9.block _ (Array.getElem?_eq_some_iff.1 kA).1).trans kA
  replace hb := hb.trans (h9.mono hb.size)
  replace hT := hT.ext h9
  clear h9
  obtain ⟨off3, rfl, d0, d1, d2, d3, d4, d5⟩ := sl_code hs3 (i := 0) (by simp)
  simp only [Nat.zero_mul, Nat.add_zero, List.getElem_cons_zero] at d0 d1 d2 d3 d4 d5
  go_wp2_with fail
  refine (hRR _).mono ?_
  rintro e w3 ⟨rfl, h9⟩
  clear hRR d0 d1 d2 d3 d4 d5 hs3
  replace kA := (h9.block _ (Array.getElem?_eq_some_iff.1 kA).1).trans kA
  replace hb := hb.trans (h9.mono hb.size)
  replace hT := hT.ext h9
  clear h9
  have a0 := (cell_of_row _ (w.heap.size) 0 _ _ _ kA).trans (show _ = some _ from rfl)
  have a1 := (cell_of_row _ (w.heap.size) 1 _ _ _ kA).trans (show _ = some _ from rfl)
  have a2 := (cell_of_row _ (w.heap.size) 2 _ _ _ kA).trans (show _ = some _ from rfl)
  have a3 := (cell_of_row _ (w.heap.size) 3 _ _ _ kA).trans (show _ = some _ from rfl)
  have a4 := (cell_of_row _ (w.heap.size) 4 _ _ _ kA).trans (show _ = some _ from rfl)
  have a5 := (cell_of_row _ (w.heap.size) 5 _ _ _ kA).trans (show _ = some _ from rfl)
  have hsn := sl_new w3 (kv [⟨op, a, b, cc, n, m⟩]) 33
  have hbn := below_alloc1 w3 (.cells #[.int .u8 (op : Int), .int .u8 (a : Int), .int .u8 (b : Int), .int .u8 (cc : Int), .int .i32 n, .int .u32 (m : Int)] 33)
  have hTn := hT.ext hbn
  cases f with
  | false =>
    go_wp2_with fail
    refine (hRc _ _ hsn hTn.c).mono ?_
    rintro e w4 ⟨rfl, h9⟩
    replace h9 := hbn.trans (h9.mono hbn.size)
    replace hb := hb.trans (h9.mono hb.size)
    go_wp2
    go_ret
    exact ⟨rfl, hb⟩
  | true =>
    go_wp2_with fail
    refine (hRc _ _ hsn hTn.c).mono ?_
    rintro e w4 ⟨rfl, h9⟩
    replace h9 := hbn.trans (h9.mono hbn.size)
    clear hRc hsn hbn hTn a0 a1 a2 a3 a4 a5
    replace kA := (h9.block _ (Array.getElem?_eq_some_iff.1 kA).1).trans kA
    replace hb := hb.trans (h9.mono hb.size)
    replace hT := hT.ext h9
    clear h9
    have h26 : op < 26 := fits_lt (c := ⟨op, a, b, cc, n, m⟩) HF.out.symm
    have a0 := (cell_of_row _ (w.heap.size) 0 _ _ _ kA).trans (show _ = some _ from rfl)
    have a1 := (cell_of_row _ (w.heap.size) 1 _ _ _ kA).trans (show _ = some _ from rfl)
    have a2 := (cell_of_row _ (w.heap.size) 2 _ _ _ kA).trans (show _ = some _ from rfl)
    have a3 := (cell_of_row _ (w.heap.size) 3 _ _ _ kA).trans (show _ = some _ from rfl)
    have a4 := (cell_of_row _ (w.heap.size) 4 _ _ _ kA).trans (show _ = some _ from rfl)
    have a5 := (cell_of_row _ (w.heap.size) 5 _ _ _ kA).trans (show _ = some _ from rfl)
    obtain ⟨u0, u1, u2, -, -⟩ := let_use ⟨op, h26⟩
    obtain ⟨-, hll, -⟩ := row_len ⟨op, h26⟩
    simp only at u0 u1 u2 hll
    have hPt := fun W => Parts_in op h26 W
    obtain ⟨su, hsu⟩ : ∃ s, s = letAt op := ⟨_, rfl⟩
    rw [← hsu] at u0 u1 u2 hll hPt
    clear hsu
    have HU0 := Lib.hid u0
    have HU1 := Lib.hid u1
    have HU2 := Lib.hid u2
    clear u0 u1 u2
    go_wp2_with fail
    refine (hPt _).mono ?_
    rintro e w5 ⟨rfl, h9⟩
    clear hPt a0 a1 a2 a3 a4 a5
    replace kA := (h9.block _ (Array.getElem?_eq_some_iff.1 kA).1).trans kA
    replace hb := hb.trans (h9.mono hb.size)
    replace hT := hT.ext h9
    clear h9
    have h9 := below_alloc1 w5 (.cells #[.int .u8 65, .int .u8 66, .int .u8 67] 5)
    have kB := heap_alloc_new w5 (.cells #[.int .u8 65, .int .u8 66, .int .u8 67] 5)
    replace kA := (h9.block _ (Array.getElem?_eq_some_iff.1 kA).1).trans kA
    replace hb := hb.trans (h9.mono hb.size)
    replace hT := hT.ext h9
    clear h9
    obtain ⟨w6, hw6⟩ : ∃ w6, w6 = w5.alloc (.cells #[.int .u8 65, .int .u8 66, .int .u8 67] 5) := ⟨_, rfl⟩
    go_wp2_with fail
    rw [← hw6] at kA kB hb hT
    rw [← hw6]
    clear hw6
    go_loopw [57] (fun i wr => ∃ k : Nat, k ≤ 3 ∧ i = .int .i64 k ∧ wr.heap[w.heap.size]? = some (.cells #[.int .u8 (op : Int), .int .u8 (a : Int), .int .u8 (b : Int), .int .u8 (cc : Int), .int .i32 n, .int .u32 (m : Int)] 33 (0, 0)) ∧ wr.heap[w5.heap.size]? = some (.cells #[.int .u8 65, .int .u8 66, .int .u8 67] 5 (0, 0)) ∧ AllT wr ∧ Below w.heap.size w wr) (fun i _ => 3 - (intOf i).toNat)
    case atStart => exact ⟨0, by omega, rfl, kA, kB, hT, hb⟩
    case round =>
      clear kA kB hT hb
      obtain ⟨k, hk, rfl, kA, kB, hT, hb⟩ := hrel
      by_cases hk3 : k < 3
      · obtain rfl | rfl | rfl : k = 0 ∨ k = 1 ∨ k = 2 := by omega
        · have a0 := (cell_of_row _ (w.heap.size) 0 _ _ _ kA).trans (show _ = some _ from rfl)
          have a1 := (cell_of_row _ (w.heap.size) 1 _ _ _ kA).trans (show _ = some _ from rfl)
          have a2 := (cell_of_row _ (w.heap.size) 2 _ _ _ kA).trans (show _ = some _ from rfl)
          have a3 := (cell_of_row _ (w.heap.size) 3 _ _ _ kA).trans (show _ = some _ from rfl)
          have a4 := (cell_of_row _ (w.heap.size) 4 _ _ _ kA).trans (show _ = some _ from rfl)
          have a5 := (cell_of_row _ (w.heap.size) 5 _ _ _ kA).trans (show _ = some _ from rfl)
          have z0 := (cell_of_row _ w5.heap.size 0 _ _ _ kB).trans (show _ = some _ from rfl)
          have kD := heap_alloc_new wr (.cells #[.int .u8 (op : Int), .int .u8 (a : Int), .int .u8 (b : Int), .int .u8 (cc : Int), .int .i32 n, .int .u32 (m : Int)] 33)
          have hbd := below_alloc1 wr (.cells #[.int .u8 (op : Int), .int .u8 (a : Int), .int .u8 (b : Int), .int .u8 (cc : Int), .int .i32 n, .int .u32 (m : Int)] 33)
          go_wp2_with fail
          clear kD hbd
          have kD : ((wr.alloc (.cells #[.int .u8 (op : Int), .int .u8 (r : Int), .int .u8 (b : Int), .int .u8 (cc : Int), .int .i32 n, .int .u32 (m : Int)] 33)).alloc (.cells #[.pointer (some ⟨wr.heap.size, 1, none⟩), .pointer (some ⟨wr.heap.size, 2, none⟩), .pointer (some ⟨wr.heap.size, 3, none⟩)] 63)).heap[wr.heap.size]? = some (.cells #[.int .u8 (op : Int), .int .u8 (r : Int), .int .u8 (b : Int), .int .u8 (cc : Int), .int .i32 n, .int .u32 (m : Int)] 33 (0, 0)) := (Below.heap_alloc _ (.cells #[.pointer (some ⟨wr.heap.size, 1, none⟩), .pointer (some ⟨wr.heap.size, 2, none⟩), .pointer (some ⟨wr.heap.size, 3, none⟩)] 63) _ (by simp)).trans (heap_alloc_new wr _)
          have h9 := below_alloc2 wr (.cells #[.int .u8 (op : Int), .int .u8 (r : Int), .int .u8 (b : Int), .int .u8 (cc : Int), .int .i32 n, .int .u32 (m : Int)] 33) (.cells #[.pointer (some ⟨wr.heap.size, 1, none⟩), .pointer (some ⟨wr.heap.size, 2, none⟩), .pointer (some ⟨wr.heap.size, 3, none⟩)] 63)
          obtain ⟨wq, hwq⟩ : ∃ wq, wq = (wr.alloc (.cells #[.int .u8 (op : Int), .int .u8 (r : Int), .int .u8 (b : Int), .int .u8 (cc : Int), .int .i32 n, .int .u32 (m : Int)] 33)).alloc (.cells #[.pointer (some ⟨wr.heap.size, 1, none⟩), .pointer (some ⟨wr.heap.size, 2, none⟩), .pointer (some ⟨wr.heap.size, 3, none⟩)] 63) := ⟨_, rfl⟩
          rw [← hwq] at kD h9 ⊢
          clear hwq z0 a0 a1 a2 a3 a4 a5
          replace kA := (h9.block _ (Array.getElem?_eq_some_iff.1 kA).1).trans kA
          replace kB := (h9.block _ (Array.getElem?_eq_some_iff.1 kB).1).trans kB
          replace hb := hb.trans (h9.mono hb.size)
          replace hT := hT.ext h9
          clear h9
          go_loop [16, 74] (fun used i => ∃ j : Nat, j ≤ su.length ∧ i = .int .i64 j ∧ used = .bool ((su.take j).contains 65)) (fun _ i => su.length - (intOf i).toNat)
          case atStart => exact ⟨0, Nat.zero_le _, rfl, rfl⟩
          case round =>
            obtain ⟨j, hj, rfl, rfl⟩ := hrel
            by_cases hjs : j < su.length
            · have ejs : (j : Int) < (su.length : Int) := by omega
              have hlb : j < (⟨su.toArray⟩ : ByteArray).size := by simpa [ByteArray.size] using hjs
              have hnx := contains_next hjs 65
              obtain ⟨d0, hd0⟩ : ∃ d, d = (su.take j).contains 65 := ⟨_, rfl⟩
              rw [← hd0] at hnx ⊢
              clear hd0
              cases d0 with
              | true =>
                rw [Bool.true_or] at hnx
                have HN := Lib.hid hnx
                clear hnx
                go_wp2
                go_round
                case rel => exact ⟨j + 1, by omega, by go_num, by rw [HN.out]⟩
                case measure => simp [intOf]; omega
              | false =>
                rw [Bool.false_or] at hnx
                obtain ⟨d1, hd1⟩ : ∃ d, d = (su[j] == (65 : UInt8)) := ⟨_, rfl⟩
                have ex : (((((⟨su.toArray⟩ : ByteArray)[j]'hlb).toNat : Nat) : Int) == 65) = d1 := by
                  rw [hd1, Bool.eq_iff_iff, beq_iff_eq, beq_iff_eq]
                  show ((su[j].toNat : Int)) = 65 ↔ _
                  constructor
                  · intro h; apply UInt8.toNat.inj; simp; omega
                  · intro h; rw [h]; rfl
                rw [← hd1] at hnx
                have HN := Lib.hid hnx
                clear hnx hd1
                go_wp2
                go_round
                case rel => exact ⟨j + 1, by omega, by go_num, by rw [HN.out]⟩
                case measure => simp [intOf]; omega
            · obtain rfl : j = su.length := by omega
              have hend : (su.take su.length).contains 65 = uB op 0 := by rw [List.take_length]; exact HU0.out
              rw [hend]
              clear hend
              have a0 := (cell_of_row _ (w.heap.size) 0 _ _ _ kA).trans (show _ = some _ from rfl)
              have a1 := (cell_of_row _ (w.heap.size) 1 _ _ _ kA).trans (show _ = some _ from rfl)
              have a2 := (cell_of_row _ (w.heap.size) 2 _ _ _ kA).trans (show _ = some _ from rfl)
              have a3 := (cell_of_row _ (w.heap.size) 3 _ _ _ kA).trans (show _ = some _ from rfl)
              have a4 := (cell_of_row _ (w.heap.size) 4 _ _ _ kA).trans (show _ = some _ from rfl)
              have a5 := (cell_of_row _ (w.heap.size) 5 _ _ _ kA).trans (show _ = some _ from rfl)
              have hRd := hRt ⟨op, r, b, cc, n, m⟩ ⟨hc.ho, hr, hc.hb, hc.hc, hc.n0, hc.n1, hc.hm⟩
              rw [turn_a r HF.out.symm] at hRd
              have d0 := (cell_of_row _ (wr.heap.size) 0 _ _ _ kD).trans (show _ = some _ from rfl)
              have d1 := (cell_of_row _ (wr.heap.size) 1 _ _ _ kD).trans (show _ = some _ from rfl)
              have d2 := (cell_of_row _ (wr.heap.size) 2 _ _ _ kD).trans (show _ = some _ from rfl)
              have d3 := (cell_of_row _ (wr.heap.size) 3 _ _ _ kD).trans (show _ = some _ from rfl)
              have d4 := (cell_of_row _ (wr.heap.size) 4 _ _ _ kD).trans (show _ = some _ from rfl)
              have d5 := (cell_of_row _ (wr.heap.size) 5 _ _ _ kD).trans (show _ = some _ from rfl)
              have hsn := sl_new wq (kv [⟨op, r, b, cc, n, m⟩]) 33
              have hbn := below_alloc1 wq (.cells #[.int .u8 (op : Int), .int .u8 (r : Int), .int .u8 (b : Int), .int .u8 (cc : Int), .int .i32 n, .int .u32 (m : Int)] 33)
              have hTn := hT.ext hbn
              obtain ⟨u, hu⟩ : ∃ u, u = uB op 0 := ⟨_, rfl⟩
              rw [← hu] at hRd ⊢
              clear hu
              go_wp2_with fail
              refine (hRd _ _ hsn hTn.c).mono ?_
              rintro e w8 ⟨rfl, h9⟩
              replace h9 := hbn.trans (h9.mono hbn.size)
              clear hRd hsn hbn hTn a0 a1 a2 a3 a4 a5 d0 d1 d2 d3 d4 d5
              replace kA := (h9.block _ (Array.getElem?_eq_some_iff.1 kA).1).trans kA
              replace kB := (h9.block _ (Array.getElem?_eq_some_iff.1 kB).1).trans kB
              replace hb := hb.trans (h9.mono hb.size)
              replace hT := hT.ext h9
              clear h9
              by_cases r0 : 0 < r
              · have er : ((r : Int) == 0) = false := by rw [beq_eq_false_iff_ne]; omega
                have hreg : regB r u = (u && decide (r < 8)) := by unfold regB; rw [show (r == 0) = false by rw [beq_eq_false_iff_ne]; omega, Bool.false_or]
                rw [hreg]
                clear hreg
                cases u with
                | false =>
                  simp only [Bool.false_and]
                  go_wp2_with fail
                  go_roundw
                  case rel => exact ⟨1, by omega, by go_num, kA, kB, hT, hb⟩
                  case measure => simp [intOf]
                | true =>
                  simp only [Bool.true_and]
                  by_cases r8 : r < 8
                  · have e8 : decide ((r : Int) < 8) = true := by simp; omega
                    rw [decide_eq_true r8]
                    go_wp2_with fail
                    go_roundw
                    case rel => exact ⟨1, by omega, by go_num, kA, kB, hT, hb⟩
                    case measure => simp [intOf]
                  · have e8 : decide ((r : Int) < 8) = false := by simp; omega
                    rw [decide_eq_false r8]
                    go_wp2_with fail
                    go_roundw
                    case rel => exact ⟨1, by omega, by go_num, kA, kB, hT, hb⟩
                    case measure => simp [intOf]
              · have er : ((r : Int) == 0) = true := by rw [beq_iff_eq]; omega
                have hreg : regB r u = true := by unfold regB; rw [show (r == 0) = true by rw [beq_iff_eq]; omega, Bool.true_or]
                rw [hreg]
                clear hreg
                go_wp2_with fail
                go_roundw
                case rel => exact ⟨1, by omega, by go_num, kA, kB, hT, hb⟩
                case measure => simp [intOf]
        · have a0 := (cell_of_row _ (w.heap.size) 0 _ _ _ kA).trans (show _ = some _ from rfl)
          have a1 := (cell_of_row _ (w.heap.size) 1 _ _ _ kA).trans (show _ = some _ from rfl)
          have a2 := (cell_of_row _ (w.heap.size) 2 _ _ _ kA).trans (show _ = some _ from rfl)
          have a3 := (cell_of_row _ (w.heap.size) 3 _ _ _ kA).trans (show _ = some _ from rfl)
          have a4 := (cell_of_row _ (w.heap.size) 4 _ _ _ kA).trans (show _ = some _ from rfl)
          have a5 := (cell_of_row _ (w.heap.size) 5 _ _ _ kA).trans (show _ = some _ from rfl)
          have z0 := (cell_of_row _ w5.heap.size 1 _ _ _ kB).trans (show _ = some _ from rfl)
          have kD := heap_alloc_new wr (.cells #[.int .u8 (op : Int), .int .u8 (a : Int), .int .u8 (b : Int), .int .u8 (cc : Int), .int .i32 n, .int .u32 (m : Int)] 33)
          have hbd := below_alloc1 wr (.cells #[.int .u8 (op : Int), .int .u8 (a : Int), .int .u8 (b : Int), .int .u8 (cc : Int), .int .i32 n, .int .u32 (m : Int)] 33)
          go_wp2_with fail
          clear kD hbd
          have kD : ((wr.alloc (.cells #[.int .u8 (op : Int), .int .u8 (a : Int), .int .u8 (r : Int), .int .u8 (cc : Int), .int .i32 n, .int .u32 (m : Int)] 33)).alloc (.cells #[.pointer (some ⟨wr.heap.size, 1, none⟩), .pointer (some ⟨wr.heap.size, 2, none⟩), .pointer (some ⟨wr.heap.size, 3, none⟩)] 63)).heap[wr.heap.size]? = some (.cells #[.int .u8 (op : Int), .int .u8 (a : Int), .int .u8 (r : Int), .int .u8 (cc : Int), .int .i32 n, .int .u32 (m : Int)] 33 (0, 0)) := (Below.heap_alloc _ (.cells #[.pointer (some ⟨wr.heap.size, 1, none⟩), .pointer (some ⟨wr.heap.size, 2, none⟩), .pointer (some ⟨wr.heap.size, 3, none⟩)] 63) _ (by simp)).trans (heap_alloc_new wr _)
          have h9 := below_alloc2 wr (.cells #[.int .u8 (op : Int), .int .u8 (a : Int), .int .u8 (r : Int), .int .u8 (cc : Int), .int .i32 n, .int .u32 (m : Int)] 33) (.cells #[.pointer (some ⟨wr.heap.size, 1, none⟩), .pointer (some ⟨wr.heap.size, 2, none⟩), .pointer (some ⟨wr.heap.size, 3, none⟩)] 63)
          obtain ⟨wq, hwq⟩ : ∃ wq, wq = (wr.alloc (.cells #[.int .u8 (op : Int), .int .u8 (a : Int), .int .u8 (r : Int), .int .u8 (cc : Int), .int .i32 n, .int .u32 (m : Int)] 33)).alloc (.cells #[.pointer (some ⟨wr.heap.size, 1, none⟩), .pointer (some ⟨wr.heap.size, 2, none⟩), .pointer (some ⟨wr.heap.size, 3, none⟩)] 63) := ⟨_, rfl⟩
          rw [← hwq] at kD h9 ⊢
          clear hwq z0 a0 a1 a2 a3 a4 a5
          replace kA := (h9.block _ (Array.getElem?_eq_some_iff.1 kA).1).trans kA
          replace kB := (h9.block _ (Array.getElem?_eq_some_iff.1 kB).1).trans kB
          replace hb := hb.trans (h9.mono hb.size)
          replace hT := hT.ext h9
          clear h9
          go_loop [16, 74] (fun used i => ∃ j : Nat, j ≤ su.length ∧ i = .int .i64 j ∧ used = .bool ((su.take j).contains 66)) (fun _ i => su.length - (intOf i).toNat)
          case atStart => exact ⟨0, Nat.zero_le _, rfl, rfl⟩
          case round =>
            obtain ⟨j, hj, rfl, rfl⟩ := hrel
            by_cases hjs : j < su.length
            · have ejs : (j : Int) < (su.length : Int) := by omega
              have hlb : j < (⟨su.toArray⟩ : ByteArray).size := by simpa [ByteArray.size] using hjs
              have hnx := contains_next hjs 66
              obtain ⟨d0, hd0⟩ : ∃ d, d = (su.take j).contains 66 := ⟨_, rfl⟩
              rw [← hd0] at hnx ⊢
              clear hd0
              cases d0 with
              | true =>
                rw [Bool.true_or] at hnx
                have HN := Lib.hid hnx
                clear hnx
                go_wp2
                go_round
                case rel => exact ⟨j + 1, by omega, by go_num, by rw [HN.out]⟩
                case measure => simp [intOf]; omega
              | false =>
                rw [Bool.false_or] at hnx
                obtain ⟨d1, hd1⟩ : ∃ d, d = (su[j] == (66 : UInt8)) := ⟨_, rfl⟩
                have ex : (((((⟨su.toArray⟩ : ByteArray)[j]'hlb).toNat : Nat) : Int) == 66) = d1 := by
                  rw [hd1, Bool.eq_iff_iff, beq_iff_eq, beq_iff_eq]
                  show ((su[j].toNat : Int)) = 66 ↔ _
                  constructor
                  · intro h; apply UInt8.toNat.inj; simp; omega
                  · intro h; rw [h]; rfl
                rw [← hd1] at hnx
                have HN := Lib.hid hnx
                clear hnx hd1
                go_wp2
                go_round
                case rel => exact ⟨j + 1, by omega, by go_num, by rw [HN.out]⟩
                case measure => simp [intOf]; omega
            · obtain rfl : j = su.length := by omega
              have hend : (su.take su.length).contains 66 = uB op 1 := by rw [List.take_length]; exact HU1.out
              rw [hend]
              clear hend
              have a0 := (cell_of_row _ (w.heap.size) 0 _ _ _ kA).trans (show _ = some _ from rfl)
              have a1 := (cell_of_row _ (w.heap.size) 1 _ _ _ kA).trans (show _ = some _ from rfl)
              have a2 := (cell_of_row _ (w.heap.size) 2 _ _ _ kA).trans (show _ = some _ from rfl)
              have a3 := (cell_of_row _ (w.heap.size) 3 _ _ _ kA).trans (show _ = some _ from rfl)
              have a4 := (cell_of_row _ (w.heap.size) 4 _ _ _ kA).trans (show _ = some _ from rfl)
              have a5 := (cell_of_row _ (w.heap.size) 5 _ _ _ kA).trans (show _ = some _ from rfl)
              have hRd := hRt ⟨op, a, r, cc, n, m⟩ ⟨hc.ho, hc.ha, hr, hc.hc, hc.n0, hc.n1, hc.hm⟩
              rw [turn_b r HF.out.symm] at hRd
              have d0 := (cell_of_row _ (wr.heap.size) 0 _ _ _ kD).trans (show _ = some _ from rfl)
              have d1 := (cell_of_row _ (wr.heap.size) 1 _ _ _ kD).trans (show _ = some _ from rfl)
              have d2 := (cell_of_row _ (wr.heap.size) 2 _ _ _ kD).trans (show _ = some _ from rfl)
              have d3 := (cell_of_row _ (wr.heap.size) 3 _ _ _ kD).trans (show _ = some _ from rfl)
              have d4 := (cell_of_row _ (wr.heap.size) 4 _ _ _ kD).trans (show _ = some _ from rfl)
              have d5 := (cell_of_row _ (wr.heap.size) 5 _ _ _ kD).trans (show _ = some _ from rfl)
              have hsn := sl_new wq (kv [⟨op, a, r, cc, n, m⟩]) 33
              have hbn := below_alloc1 wq (.cells #[.int .u8 (op : Int), .int .u8 (a : Int), .int .u8 (r : Int), .int .u8 (cc : Int), .int .i32 n, .int .u32 (m : Int)] 33)
              have hTn := hT.ext hbn
              obtain ⟨u, hu⟩ : ∃ u, u = uB op 1 := ⟨_, rfl⟩
              rw [← hu] at hRd ⊢
              clear hu
              go_wp2_with fail
              refine (hRd _ _ hsn hTn.c).mono ?_
              rintro e w8 ⟨rfl, h9⟩
              replace h9 := hbn.trans (h9.mono hbn.size)
              clear hRd hsn hbn hTn a0 a1 a2 a3 a4 a5 d0 d1 d2 d3 d4 d5
              replace kA := (h9.block _ (Array.getElem?_eq_some_iff.1 kA).1).trans kA
              replace kB := (h9.block _ (Array.getElem?_eq_some_iff.1 kB).1).trans kB
              replace hb := hb.trans (h9.mono hb.size)
              replace hT := hT.ext h9
              clear h9
              by_cases r0 : 0 < r
              · have er : ((r : Int) == 0) = false := by rw [beq_eq_false_iff_ne]; omega
                have hreg : regB r u = (u && decide (r < 8)) := by unfold regB; rw [show (r == 0) = false by rw [beq_eq_false_iff_ne]; omega, Bool.false_or]
                rw [hreg]
                clear hreg
                cases u with
                | false =>
                  simp only [Bool.false_and]
                  go_wp2_with fail
                  go_roundw
                  case rel => exact ⟨2, by omega, by go_num, kA, kB, hT, hb⟩
                  case measure => simp [intOf]
                | true =>
                  simp only [Bool.true_and]
                  by_cases r8 : r < 8
                  · have e8 : decide ((r : Int) < 8) = true := by simp; omega
                    rw [decide_eq_true r8]
                    go_wp2_with fail
                    go_roundw
                    case rel => exact ⟨2, by omega, by go_num, kA, kB, hT, hb⟩
                    case measure => simp [intOf]
                  · have e8 : decide ((r : Int) < 8) = false := by simp; omega
                    rw [decide_eq_false r8]
                    go_wp2_with fail
                    go_roundw
                    case rel => exact ⟨2, by omega, by go_num, kA, kB, hT, hb⟩
                    case measure => simp [intOf]
              · have er : ((r : Int) == 0) = true := by rw [beq_iff_eq]; omega
                have hreg : regB r u = true := by unfold regB; rw [show (r == 0) = true by rw [beq_iff_eq]; omega, Bool.true_or]
                rw [hreg]
                clear hreg
                go_wp2_with fail
                go_roundw
                case rel => exact ⟨2, by omega, by go_num, kA, kB, hT, hb⟩
                case measure => simp [intOf]
        · have a0 := (cell_of_row _ (w.heap.size) 0 _ _ _ kA).trans (show _ = some _ from rfl)
          have a1 := (cell_of_row _ (w.heap.size) 1 _ _ _ kA).trans (show _ = some _ from rfl)
          have a2 := (cell_of_row _ (w.heap.size) 2 _ _ _ kA).trans (show _ = some _ from rfl)
          have a3 := (cell_of_row _ (w.heap.size) 3 _ _ _ kA).trans (show _ = some _ from rfl)
          have a4 := (cell_of_row _ (w.heap.size) 4 _ _ _ kA).trans (show _ = some _ from rfl)
          have a5 := (cell_of_row _ (w.heap.size) 5 _ _ _ kA).trans (show _ = some _ from rfl)
          have z0 := (cell_of_row _ w5.heap.size 2 _ _ _ kB).trans (show _ = some _ from rfl)
          have kD := heap_alloc_new wr (.cells #[.int .u8 (op : Int), .int .u8 (a : Int), .int .u8 (b : Int), .int .u8 (cc : Int), .int .i32 n, .int .u32 (m : Int)] 33)
          have hbd := below_alloc1 wr (.cells #[.int .u8 (op : Int), .int .u8 (a : Int), .int .u8 (b : Int), .int .u8 (cc : Int), .int .i32 n, .int .u32 (m : Int)] 33)
          go_wp2_with fail
          clear kD hbd
          have kD : ((wr.alloc (.cells #[.int .u8 (op : Int), .int .u8 (a : Int), .int .u8 (b : Int), .int .u8 (r : Int), .int .i32 n, .int .u32 (m : Int)] 33)).alloc (.cells #[.pointer (some ⟨wr.heap.size, 1, none⟩), .pointer (some ⟨wr.heap.size, 2, none⟩), .pointer (some ⟨wr.heap.size, 3, none⟩)] 63)).heap[wr.heap.size]? = some (.cells #[.int .u8 (op : Int), .int .u8 (a : Int), .int .u8 (b : Int), .int .u8 (r : Int), .int .i32 n, .int .u32 (m : Int)] 33 (0, 0)) := (Below.heap_alloc _ (.cells #[.pointer (some ⟨wr.heap.size, 1, none⟩), .pointer (some ⟨wr.heap.size, 2, none⟩), .pointer (some ⟨wr.heap.size, 3, none⟩)] 63) _ (by simp)).trans (heap_alloc_new wr _)
          have h9 := below_alloc2 wr (.cells #[.int .u8 (op : Int), .int .u8 (a : Int), .int .u8 (b : Int), .int .u8 (r : Int), .int .i32 n, .int .u32 (m : Int)] 33) (.cells #[.pointer (some ⟨wr.heap.size, 1, none⟩), .pointer (some ⟨wr.heap.size, 2, none⟩), .pointer (some ⟨wr.heap.size, 3, none⟩)] 63)
          obtain ⟨wq, hwq⟩ : ∃ wq, wq = (wr.alloc (.cells #[.int .u8 (op : Int), .int .u8 (a : Int), .int .u8 (b : Int), .int .u8 (r : Int), .int .i32 n, .int .u32 (m : Int)] 33)).alloc (.cells #[.pointer (some ⟨wr.heap.size, 1, none⟩), .pointer (some ⟨wr.heap.size, 2, none⟩), .pointer (some ⟨wr.heap.size, 3, none⟩)] 63) := ⟨_, rfl⟩
          rw [← hwq] at kD h9 ⊢
          clear hwq z0 a0 a1 a2 a3 a4 a5
          replace kA := (h9.block _ (Array.getElem?_eq_some_iff.1 kA).1).trans kA
          replace kB := (h9.block _ (Array.getElem?_eq_some_iff.1 kB).1).trans kB
          replace hb := hb.trans (h9.mono hb.size)
          replace hT := hT.ext h9
          clear h9
          go_loop [16, 74] (fun used i => ∃ j : Nat, j ≤ su.length ∧ i = .int .i64 j ∧ used = .bool ((su.take j).contains 67)) (fun _ i => su.length - (intOf i).toNat)
          case atStart => exact ⟨0, Nat.zero_le _, rfl, rfl⟩
          case round =>
            obtain ⟨j, hj, rfl, rfl⟩ := hrel
            by_cases hjs : j < su.length
            · have ejs : (j : Int) < (su.length : Int) := by omega
              have hlb : j < (⟨su.toArray⟩ : ByteArray).size := by simpa [ByteArray.size] using hjs
              have hnx := contains_next hjs 67
              obtain ⟨d0, hd0⟩ : ∃ d, d = (su.take j).contains 67 := ⟨_, rfl⟩
              rw [← hd0] at hnx ⊢
              clear hd0
              cases d0 with
              | true =>
                rw [Bool.true_or] at hnx
                have HN := Lib.hid hnx
                clear hnx
                go_wp2
                go_round
                case rel => exact ⟨j + 1, by omega, by go_num, by rw [HN.out]⟩
                case measure => simp [intOf]; omega
              | false =>
                rw [Bool.false_or] at hnx
                obtain ⟨d1, hd1⟩ : ∃ d, d = (su[j] == (67 : UInt8)) := ⟨_, rfl⟩
                have ex : (((((⟨su.toArray⟩ : ByteArray)[j]'hlb).toNat : Nat) : Int) == 67) = d1 := by
                  rw [hd1, Bool.eq_iff_iff, beq_iff_eq, beq_iff_eq]
                  show ((su[j].toNat : Int)) = 67 ↔ _
                  constructor
                  · intro h; apply UInt8.toNat.inj; simp; omega
                  · intro h; rw [h]; rfl
                rw [← hd1] at hnx
                have HN := Lib.hid hnx
                clear hnx hd1
                go_wp2
                go_round
                case rel => exact ⟨j + 1, by omega, by go_num, by rw [HN.out]⟩
                case measure => simp [intOf]; omega
            · obtain rfl : j = su.length := by omega
              have hend : (su.take su.length).contains 67 = uB op 2 := by rw [List.take_length]; exact HU2.out
              rw [hend]
              clear hend
              have a0 := (cell_of_row _ (w.heap.size) 0 _ _ _ kA).trans (show _ = some _ from rfl)
              have a1 := (cell_of_row _ (w.heap.size) 1 _ _ _ kA).trans (show _ = some _ from rfl)
              have a2 := (cell_of_row _ (w.heap.size) 2 _ _ _ kA).trans (show _ = some _ from rfl)
              have a3 := (cell_of_row _ (w.heap.size) 3 _ _ _ kA).trans (show _ = some _ from rfl)
              have a4 := (cell_of_row _ (w.heap.size) 4 _ _ _ kA).trans (show _ = some _ from rfl)
              have a5 := (cell_of_row _ (w.heap.size) 5 _ _ _ kA).trans (show _ = some _ from rfl)
              by_cases h24 : op = 24
              · have e24 : ((op : Int) == 24) = true := by rw [beq_iff_eq]; omega
                have H24 := Lib.hid h24
                clear h24
                go_wp2_with fail
                go_roundw
                case rel => exact ⟨3, by omega, by go_num, kA, kB, hT, hb⟩
                case measure => simp [intOf]
              have e24 : ((op : Int) == 24) = false := by rw [beq_eq_false_iff_ne]; omega
              have hRd := hRt ⟨op, a, b, r, n, m⟩ ⟨hc.ho, hc.ha, hc.hb, hr, hc.n0, hc.n1, hc.hm⟩
              rw [turn_c r HF.out.symm h24] at hRd
              have d0 := (cell_of_row _ (wr.heap.size) 0 _ _ _ kD).trans (show _ = some _ from rfl)
              have d1 := (cell_of_row _ (wr.heap.size) 1 _ _ _ kD).trans (show _ = some _ from rfl)
              have d2 := (cell_of_row _ (wr.heap.size) 2 _ _ _ kD).trans (show _ = some _ from rfl)
              have d3 := (cell_of_row _ (wr.heap.size) 3 _ _ _ kD).trans (show _ = some _ from rfl)
              have d4 := (cell_of_row _ (wr.heap.size) 4 _ _ _ kD).trans (show _ = some _ from rfl)
              have d5 := (cell_of_row _ (wr.heap.size) 5 _ _ _ kD).trans (show _ = some _ from rfl)
              have hsn := sl_new wq (kv [⟨op, a, b, r, n, m⟩]) 33
              have hbn := below_alloc1 wq (.cells #[.int .u8 (op : Int), .int .u8 (a : Int), .int .u8 (b : Int), .int .u8 (r : Int), .int .i32 n, .int .u32 (m : Int)] 33)
              have hTn := hT.ext hbn
              obtain ⟨u, hu⟩ : ∃ u, u = uB op 2 := ⟨_, rfl⟩
              rw [← hu] at hRd ⊢
              clear hu
              go_wp2_with fail
              refine (hRd _ _ hsn hTn.c).mono ?_
              rintro e w8 ⟨rfl, h9⟩
              replace h9 := hbn.trans (h9.mono hbn.size)
              clear hRd hsn hbn hTn a0 a1 a2 a3 a4 a5 d0 d1 d2 d3 d4 d5
              replace kA := (h9.block _ (Array.getElem?_eq_some_iff.1 kA).1).trans kA
              replace kB := (h9.block _ (Array.getElem?_eq_some_iff.1 kB).1).trans kB
              replace hb := hb.trans (h9.mono hb.size)
              replace hT := hT.ext h9
              clear h9
              by_cases r0 : 0 < r
              · have er : ((r : Int) == 0) = false := by rw [beq_eq_false_iff_ne]; omega
                have hreg : regB r u = (u && decide (r < 8)) := by unfold regB; rw [show (r == 0) = false by rw [beq_eq_false_iff_ne]; omega, Bool.false_or]
                rw [hreg]
                clear hreg
                cases u with
                | false =>
                  simp only [Bool.false_and]
                  go_wp2_with fail
                  go_roundw
                  case rel => exact ⟨3, by omega, by go_num, kA, kB, hT, hb⟩
                  case measure => simp [intOf]
                | true =>
                  simp only [Bool.true_and]
                  by_cases r8 : r < 8
                  · have e8 : decide ((r : Int) < 8) = true := by simp; omega
                    rw [decide_eq_true r8]
                    go_wp2_with fail
                    go_roundw
                    case rel => exact ⟨3, by omega, by go_num, kA, kB, hT, hb⟩
                    case measure => simp [intOf]
                  · have e8 : decide ((r : Int) < 8) = false := by simp; omega
                    rw [decide_eq_false r8]
                    go_wp2_with fail
                    go_roundw
                    case rel => exact ⟨3, by omega, by go_num, kA, kB, hT, hb⟩
                    case measure => simp [intOf]
              · have er : ((r : Int) == 0) = true := by rw [beq_iff_eq]; omega
                have hreg : regB r u = true := by unfold regB; rw [show (r == 0) = true by rw [beq_iff_eq]; omega, Bool.true_or]
                rw [hreg]
                clear hreg
                go_wp2_with fail
                go_roundw
                case rel => exact ⟨3, by omega, by go_num, kA, kB, hT, hb⟩
                case measure => simp [intOf]
      · obtain rfl : k = 3 := by omega
        go_wp2_with fail
        go_ret
        exact ⟨rfl, hb⟩
end Go.Proofs.YtdmjkgafnnjkkaaDoor
