/- Parts of one proof, in their order. -/
import Derived.Test.YtcgbamkfflcdfaaDoorZLkBasf02
import Derived.Lib.SlBytesConst
import Derived.Outline
import Derived.Test.YtcgbamkfflcdfaaDoorRows
import Derived.Deep.RegionHeld3
import Derived.Deep.RegionLaw
import Derived.Deep.MidRow
import Derived.Laws.CopyOwn
/- Make: the table of the plain steps. No condition. -/
namespace Go.Proofs.YtcgbamkfflcdfaaDoor
open Go.RowKit

/-- A table with its first k made. -/
def tabTo (k : Nat) : Array Value := ((List.range 256).map fun i => Value.int .u32 ((if i < k then step8 0 i else 0 : Nat) : Int)).toArray
theorem tabTo_size (k : Nat) : (tabTo k).size = 256 := by simp [tabTo]
theorem tabTo_get {k i : Nat} (h : i < 256) : (tabTo k)[i]? = some (Value.int .u32 ((if i < k then step8 0 i else 0 : Nat) : Int)) := by
  simp [tabTo, List.getElem?_range h]
theorem tabTo_set {k : Nat} : (tabTo k).set! k (Value.int .u32 ((step8 0 k : Nat) : Int)) = tabTo (k + 1) := by
  apply Array.ext_getElem?
  intro i
  rcases Nat.lt_or_ge i 256 with h | h
  · rw [Array.set!_eq_setIfInBounds, Array.getElem?_setIfInBounds, tabTo_get h, tabTo_get h, tabTo_size]
    by_cases hik : k = i
    · subst hik
      rw [if_pos rfl, if_pos h, if_pos (by omega)]
    · rw [if_neg hik]
      by_cases h1 : i < k
      · rw [if_pos h1, if_pos (by omega)]
      · rw [if_neg h1, if_neg (by omega)]
  · rw [Array.getElem?_eq_none (by rw [Array.set!_eq_setIfInBounds, Array.size_setIfInBounds, tabTo_size]; exact h), Array.getElem?_eq_none (by rw [tabTo_size]; exact h)]
theorem tabTo_all (k : Nat) : (tabTo k).all (·.oneCell') = true := by simp [tabTo, Value.oneCell']
theorem table_under : Tryd.prog.underlying 114 = some (.array 256 43) := by kernel_rfl
theorem table_size (k : Nat) : (Tryd.prog.info? 114).map (·.size) = some (tabTo k).size := by rw [tabTo_size]; kernel_rfl
theorem below_setRow {B : Nat} {a w : World} (h : Below B a w) (g : Nat) (cs : Array Value) (hg : B ≤ g) : Below B a (w.setRow g cs) :=
  h.trans ⟨rfl, rfl, rfl, by simp, fun k hk => setRow_other w g k cs (by omega)⟩
theorem zeroTable (w : World) : (zeroValue 114).run Tryd.prog w = .ok (.agg (tabTo 0)) w := by kernel_rfl
set_option maxHeartbeats 1000000 in
set_option maxRecDepth 20000 in
theorem Make_calls (w : World) :
    Calls Tryd.prog 47 #[] w fun e w' => e = .returned (.agg (tabTo 256)) ∧ Below w.heap.size w w' := by
  go_enter Tryd.func47, Tryd.ntmps47
  go_wp2_with fail
  rw [show Tryd.zeroCells114 = tabTo 0 by kernel_rfl]
  have hg0 := heap_alloc2_new w (.cells (tabTo 0) 114) (.cells (tabTo 0) 114)
  have hr0 : ((w.alloc (.cells (tabTo 0) 114)).alloc (.cells (tabTo 0) 114)).heap[w.heap.size]? = some (.cells (tabTo 0) 114 (0, 0)) := (Below.heap_alloc _ _ _ (by simp)).trans (heap_alloc_new w _)
  have hb0 : Below w.heap.size w ((w.alloc (.cells (tabTo 0) 114)).alloc (.cells (tabTo 0) 114)) := ((Below.refl _ _).alloc (Nat.le_refl _) _).alloc (by simp) _
  go_wp2_with fail
  go_loopw [3] (fun i wr => ∃ k : Nat, k ≤ 256 ∧ i = .int .i64 k ∧ wr.heap[w.heap.size + 1]? = some (.cells (tabTo k) 114 (0, 0)) ∧ wr.heap[w.heap.size]? = some (.cells (tabTo 0) 114 (0, 0)) ∧ Below w.heap.size w wr) (fun i _ => 256 - (intOf i).toNat)
  case atStart => exact ⟨0, by omega, rfl, hg0, hr0, hb0⟩
  case round =>
    obtain ⟨k, hk, rfl, hg, hr, hb⟩ := hrel
    by_cases hlt : k < 256
    · have hc := cell_of_row wr (w.heap.size + 1) k _ _ _ hg
      rw [tabTo_get hlt] at hc
      have hfz := frozen_of_row wr (w.heap.size + 1) k _ _ hg
      go_wp2_with fail
      refine (Step_calls 0 k _ (by omega) hlt).mono ?_
      rintro e w1 ⟨rfl, rfl⟩
      go_wp2_with fail
      go_roundw
      case rel =>
        refine ⟨k + 1, by omega, by go_num, ?_, (heap_setCell_other _ _ _ _ (by simp)).trans hr, hb.setCell (by simp) _⟩
        have h1 := heap_setCell_same wr (w.heap.size + 1) k _ _ (.int .u32 (step8 0 k : Nat)) hg
        rwa [← Array.set!_eq_setIfInBounds, tabTo_set] at h1
      case measure => simp [intOf]; omega
    · have hk2 : k = 256 := by omega
      subst hk2
      go_wp2_with fail
      refine wp_load_row 114 _ rfl (w.heap.size + 1) rfl _ _ _ _ hg table_under rfl (table_size 256) ?_
      go_wp2_with fail
      have hst := run_storeCells_from (P := Tryd.prog) w.heap.size _ (tabTo 256).toList 0 _ wr hr (by simp [tabTo_size]) (fun v hv => (Array.all_eq_true_iff_forall_mem.1 (tabTo_all 256)) v (by simpa using hv))
      rw [List.take_zero, List.nil_append, Array.toArray_toList] at hst
      rw [hst]
      simp only [Result.andThen_ok]
      have hr2 := setRow_heap wr w.heap.size _ (tabTo 256) _ _ hr
      have hb2 := below_setRow hb w.heap.size (tabTo 256) (Nat.le_refl _)
      go_wp2_with fail
      refine bodyPost_ret (results_cell_row (P := Tryd.prog) rfl _ _ w.heap.size _ _ (0, 0) _ rfl hr2 table_under rfl (table_size 256)) rfl ?_
      exact ⟨rfl, hb2⟩
end Go.Proofs.YtcgbamkfflcdfaaDoor
/- (Table).Sum: of any parts, the sum of them joined. Condition: the table is Make's. -/
namespace Go.Proofs.YtcgbamkfflcdfaaDoor
open Go.RowKit

theorem crc_take' {s : Nat} {l : List UInt8} {k : Nat} (h : k < l.length) : crc s (l.take (k + 1)) = step8 (crc s (l.take k)) l[k].toNat := crc_take h
set_option maxHeartbeats 1000000 in
set_option maxRecDepth 20000 in
theorem TableSum_calls (A : Option Addr) (vs : List Value) (ls : List (List UInt8)) (n c b : Nat) (w : World) (hs : Sl w b A vs) (hv : Bss w vs ls) (hn : ls.length = n) (h1 : n ≤ maxLen) (h2 : ls.flatten.length ≤ 140737488355328) :
    Calls Tryd.prog 90 #[.agg (tabTo 256), .slice A n c] w fun e w' => e = .returned (.int .u32 (sumN ls.flatten : Nat)) ∧ Below w.heap.size w w' := by
  unfold maxLen at h1
  have HN := Lib.hid hn
  have HL := Lib.hid h2
  clear hn h2
  go_enter Tryd.func90, Tryd.ntmps90
  go_wp2_with fail
  have hb1 : Below w.heap.size w (w.alloc (.cells (tabTo 256) 114)) := (Below.refl _ _).alloc (Nat.le_refl _) _
  have hg := heap_alloc_new w (.cells (tabTo 256) 114)
  obtain ⟨W, hW⟩ : ∃ W, W = w.alloc (.cells (tabTo 256) 114) := ⟨_, rfl⟩
  rw [← hW] at hb1 hg ⊢
  have hs1 := Sl.ext hs hb1
  have hv1 := hv.ext hb1
  clear hW hs hv
  go_loop [5, 12] (fun v i => ∃ k m : Nat, k ≤ n ∧ i = .int .i64 k ∧ v = .int .u32 m ∧ Hid (m < 2 ^ 32) ∧ Hid (m = crc 4294967295 (ls.take k).flatten)) (fun _ i => n - (intOf i).toNat)
  case atStart => exact ⟨0, 4294967295, by omega, rfl, rfl, Lib.hid (by omega), Lib.hid rfl⟩
  case round =>
    obtain ⟨k, m0, hk, rfl, rfl, hm0, hc0⟩ := hrel
    by_cases hlt : k < n
    · have hkl : k < ls.length := by rw [HN.out]; exact hlt
      obtain ⟨A1, c1, b1, hv2, hs2⟩ := hv1.2 k ls[k] (List.getElem?_eq_getElem hkl)
      obtain ⟨oa, rfl, hca⟩ := hs1 (by rintro rfl; simp at hv2)
      have ca := hca k _ hv2
      obtain ⟨q, hq⟩ : ∃ q, q = ls[k] := ⟨_, rfl⟩
      rw [← hq] at ca hs2
      have e1 := Lib.hid (flatten_take_succ ls k hkl)
      have hql : q.length ≤ 140737488355328 := by
        have h3 := flatten_take_le ls (k + 1)
        have h4 := HL.out
        rw [e1.out, ← hq] at h3
        simp only [List.length_append] at h3
        omega
      have HQ := Lib.hid hq
      clear hca hv2 hq
      go_wp2_with fail
      go_loop [5, 18] (fun v i => ∃ j m : Nat, j ≤ q.length ∧ i = .int .i64 j ∧ v = .int .u32 m ∧ Hid (m < 2 ^ 32) ∧ Hid (m = crc m0 (q.take j))) (fun _ i => q.length - (intOf i).toNat)
      case atStart => exact ⟨0, m0, by omega, rfl, rfl, hm0, Lib.hid rfl⟩
      case round =>
        obtain ⟨j, m, hj, rfl, rfl, hm, hc⟩ := hrel
        by_cases hlt2 : j < q.length
        · obtain ⟨o2, rfl, hcb⟩ := hs2.at_ (k := j) hlt2
          have cb := hcb j hlt2
          have HT := Lib.hid (crc_take' (s := m0) hlt2)
          obtain ⟨x, hx⟩ : ∃ x : Nat, x = q[j].toNat := ⟨_, rfl⟩
          have x8 : x < 256 := by have := q[j].toNat_lt; omega
          rw [← hx] at cb HT
          have hmm := hm.out
          have hix : bits .xor .u8 ((m : Int) % 256) (x : Int) = ((m % 256 ^^^ x : Nat) : Int) := by
            rw [show ((m : Int) % 256) = ((m % 256 : Nat) : Int) by omega, u8_xor_nat _ _ (by omega) x8]
          have hil : m % 256 ^^^ x < 256 := Nat.xor_lt_two_pow (n := 8) (by omega) (by omega)
          have hst := step8_table m x
          have hsl := step8_lt hmm x8
          obtain ⟨t, ht⟩ : ∃ t, t = m % 256 ^^^ x := ⟨_, rfl⟩
          rw [← ht] at hix hil hst
          have htb := cell_of_row W w.heap.size t _ _ _ hg
          rw [tabTo_get hil, if_pos hil] at htb
          obtain ⟨z, hz⟩ : ∃ z, z = step8 0 t := ⟨_, rfl⟩
          have hzl : z < 2 ^ 32 := by rw [hz]; exact step8_lt (by omega) hil
          rw [← hz] at htb hst
          have hxo : bits .xor .u32 ((m : Int) / 256) (z : Int) = ((step8 m x : Nat) : Int) := by
            rw [hst, show ((m : Int) / 256) = ((m / 256 : Nat) : Int) by omega, u32_xor_nat _ _ (by omega) (by omega)]
          clear hcb hx hst ht hz hmm
          go_wp2_with fail
          go_round
          case rel => exact ⟨j + 1, step8 m x, by omega, by go_num, rfl, Lib.hid hsl, Lib.hid (by rw [HT.out, hc.out])⟩
          case measure => simp [intOf]; omega
        · have hjl : j = q.length := by omega
          subst hjl
          have hall : m = crc 4294967295 (ls.take (k + 1)).flatten := by rw [hc.out, List.take_length, e1.out, crc_append, ← hc0.out, HQ.out]
          go_wp2_with fail
          go_round
          case rel => exact ⟨k + 1, m, by omega, by go_num, rfl, hm, Lib.hid hall⟩
          case measure => simp [intOf]; omega
    · have hall : m0 = crc 4294967295 ls.flatten := by rw [hc0.out, List.take_of_length_le (by have := HN.out; omega)]
      have hmm := hm0.out
      rw [hall] at hmm
      have hno := Lib.hid (show bits .xor .u32 IntKind.u32.max ((crc 4294967295 ls.flatten : Nat) : Int) = ((sumN ls.flatten : Nat) : Int) by
        rw [show IntKind.u32.max = ((4294967295 : Nat) : Int) from rfl, u32_xor_nat _ _ (by omega) (by omega), sumN, flip_xor hmm])
      go_wp2_with fail
      go_ret
      exact ⟨by rw [← hno.out]; rfl, hb1⟩
end Go.Proofs.YtcgbamkfflcdfaaDoor
/- The law's awake: the document's example. No condition. -/
namespace Go.Proofs.YtcgbamkfflcdfaaDoor
open Go.RowKit

theorem Sl.cells_new' (w : World) (cs : Array Value) (t : TypeId) (fr : Nat × Nat) : Sl (w.alloc (.cells cs t fr)) w.heap.size (some ⟨w.heap.size, 0, none⟩) cs.toList := fun _ =>
  ⟨0, rfl, fun j u hu => by
    rw [Nat.zero_add, cell_of_row _ _ _ cs t fr (heap_alloc_new w _)]
    simpa using hu⟩
end Go.Proofs.YtcgbamkfflcdfaaDoor
/- tailOf: a text's sum, as four bytes, the lowest first. Condition: the table is Make's. -/
namespace Go.Proofs.YtcgbamkfflcdfaaDoor
open Go.RowKit

theorem put4 {w : World} {g : Nat} {a b c d a' b' c' d' : Value} {t : TypeId} (h : w.heap[g]? = some (.cells #[a, b, c, d] t (0, 0))) :
    ((((w.setCell ⟨g, 0, none⟩ a').setCell ⟨g, 1, none⟩ b').setCell ⟨g, 2, none⟩ c').setCell ⟨g, 3, none⟩ d').heap[g]? = some (.cells #[a', b', c', d'] t (0, 0)) := by
  have h0 : (w.setCell ⟨g, 0, none⟩ a').heap[g]? = some (.cells #[a', b, c, d] t (0, 0)) := heap_setCell_same w g 0 _ _ a' h
  have h1 : ((w.setCell ⟨g, 0, none⟩ a').setCell ⟨g, 1, none⟩ b').heap[g]? = some (.cells #[a', b', c, d] t (0, 0)) := heap_setCell_same _ g 1 _ _ b' h0
  have h2 : (((w.setCell ⟨g, 0, none⟩ a').setCell ⟨g, 1, none⟩ b').setCell ⟨g, 2, none⟩ c').heap[g]? = some (.cells #[a', b', c', d] t (0, 0)) := heap_setCell_same _ g 2 _ _ c' h1
  exact heap_setCell_same _ g 3 _ _ d' h2
theorem low4_int (v : Nat) (h : v < 2 ^ 32) : (bv (low v 4)).toArray = #[Value.int .u8 ((v : Int) % 256), .int .u8 ((v : Int) / 256 % 256), .int .u8 ((v : Int) / 65536 % 256), .int .u8 ((v : Int) / 16777216)] := by
  simp only [low, bv, List.range_succ_eq_map, List.range_zero, List.map_cons, List.map_nil, UInt8.toNat_ofNat']
  simp
  omega
set_option maxHeartbeats 1000000 in
set_option maxRecDepth 20000 in
theorem TailOf_calls (A : Option Addr) (l : List UInt8) (n c b : Nat) (w : World) (hs : Bs w b A l) (hn : l.length = n) (h2 : n ≤ 140737488355328) :
    Calls Tryd.prog 77 #[.agg (tabTo 256), .slice A n c] w fun e w' => e = .returned (.agg (bv (low (sumN l) 4)).toArray) ∧ Below w.heap.size w w' := by
  have HN := Lib.hid hn
  clear hn
  go_enter Tryd.func77, Tryd.ntmps77
  go_wp2_with fail
  have hb1 : Below w.heap.size w ((w.alloc (.cells (tabTo 256) 114)).alloc (.cells #[.int .u8 0, .int .u8 0, .int .u8 0, .int .u8 0] 155)) := ((Below.refl _ _).alloc (Nat.le_refl _) _).alloc (by simp) _
  have hg : ((w.alloc (.cells (tabTo 256) 114)).alloc (.cells #[.int .u8 0, .int .u8 0, .int .u8 0, .int .u8 0] 155)).heap[w.heap.size]? = some (.cells (tabTo 256) 114 (0, 0)) := (Below.heap_alloc _ _ _ (by simp)).trans (heap_alloc_new w _)
  have hr := heap_alloc2_new w (.cells (tabTo 256) 114) (.cells #[.int .u8 0, .int .u8 0, .int .u8 0, .int .u8 0] 155)
  have hz : w.heap.size + 2 ≤ ((w.alloc (.cells (tabTo 256) 114)).alloc (.cells #[.int .u8 0, .int .u8 0, .int .u8 0, .int .u8 0] 155)).heap.size := by simp
  obtain ⟨W, hW⟩ : ∃ W, W = (w.alloc (.cells (tabTo 256) 114)).alloc (.cells #[.int .u8 0, .int .u8 0, .int .u8 0, .int .u8 0] 155) := ⟨_, rfl⟩
  rw [← hW] at hb1 hg hr hz ⊢
  clear hW
  have hs1 := Sl.ext hs hb1
  refine wp_load_row 114 _ rfl w.heap.size rfl _ _ _ _ hg table_under rfl (table_size 256) ?_
  go_wp2_with fail
  have hx : Below W.heap.size W (W.alloc (.cells #[.slice A n c] 31)) := (Below.refl _ _).alloc (Nat.le_refl _) _
  refine (TableSum_calls _ [.slice A n c] [l] 1 1 W.heap.size _ (Sl.cells_new W _ _) ((Bss.cons hs1 HN.out (Bss.nil_ _)).ext hx) rfl (by simp [maxLen]) (by have := HN.out; simp; omega)).mono ?_
  rintro e w4 ⟨rfl, hb4⟩
  have hr4 := (hb4.block (w.heap.size + 1) (Nat.lt_of_lt_of_le (by omega) hx.size)).trans ((hx.block _ (by omega)).trans hr)
  have hb5 := (hb1.trans (hx.mono (by omega))).trans (hb4.mono (Nat.le_trans (by omega) hx.size))
  rw [show ([l] : List (List UInt8)).flatten = l by simp]
  have hsl := sumN_lt l
  obtain ⟨v, hv⟩ : ∃ v, v = sumN l := ⟨_, rfl⟩
  rw [← hv] at hsl ⊢
  have p0 := cell_of_row w4 (w.heap.size + 1) 0 _ _ _ hr4
  have p1 := cell_of_row w4 (w.heap.size + 1) 1 _ _ _ hr4
  have p2 := cell_of_row w4 (w.heap.size + 1) 2 _ _ _ hr4
  have p3 := cell_of_row w4 (w.heap.size + 1) 3 _ _ _ hr4
  simp at p0 p1 p2 p3
  have f0 := frozen_of_row w4 (w.heap.size + 1) 0 _ _ hr4
  have f1 := frozen_of_row w4 (w.heap.size + 1) 1 _ _ hr4
  have f2 := frozen_of_row w4 (w.heap.size + 1) 2 _ _ hr4
  have f3 := frozen_of_row w4 (w.heap.size + 1) 3 _ _ hr4
  have HR := Lib.hid hr4
  have HV := Lib.hid hv
  clear hx hb4 hb1 hg hr hs1 hs hr4 hv
  go_wp2_with fail
  have hE := put4 (a' := .int .u8 ((v : Int) % 256)) (b' := .int .u8 ((v : Int) / 256 % 256)) (c' := .int .u8 ((v : Int) / 65536 % 256)) (d' := .int .u8 ((v : Int) / 16777216)) HR.out
  refine bodyPost_ret (results_cell_row (P := Tryd.prog) rfl _ _ (w.heap.size + 1) _ _ (0, 0) (.array 4 5) rfl hE (by kernel_rfl) rfl (by kernel_rfl)) rfl ?_
  refine ⟨by rw [← HV.out, low4_int v hsl], (((hb5.setCell ?_ _).setCell ?_ _).setCell ?_ _).setCell ?_ _⟩ <;> simp
end Go.Proofs.YtcgbamkfflcdfaaDoor
/- A text with bits turned, as a number: what is turned is a burst. No condition beyond those said. -/
namespace Go.Proofs.YtcgbamkfflcdfaaDoor

theorem mul_xor (k a b : Nat) : 2 ^ k * (a ^^^ b) = (2 ^ k * a) ^^^ (2 ^ k * b) := by
  apply Nat.eq_of_testBit_eq
  intro i
  rw [Nat.testBit_xor, Nat.testBit_two_pow_mul, Nat.testBit_two_pow_mul, Nat.testBit_two_pow_mul, Nat.testBit_xor]
  by_cases h : i ≥ k <;> simp [h]
theorem valN_inj {l m : List UInt8} (hl : l.length = m.length) (h : valN l = valN m) : l = m := by
  induction l generalizing m with
  | nil => cases m with
    | nil => rfl
    | cons y m => simp at hl
  | cons x l ih => cases m with
    | nil => simp at hl
    | cons y m =>
      rw [valN_cons, valN_cons] at h
      have hx := x.toNat_lt
      have hy := y.toNat_lt
      have h1 : x.toNat = y.toNat := by omega
      have h2 : valN l = valN m := by omega
      rw [UInt8.toNat_inj.1 h1, ih (by simpa using hl) h2]
/-- A byte of a text, turned. -/
def turnAt (l : List UInt8) (i : Nat) (t : UInt8) : List UInt8 := l.set i (l.getD i 0 ^^^ t)
@[simp] theorem turnAt_length (l : List UInt8) (i : Nat) (t : UInt8) : (turnAt l i t).length = l.length := by simp [turnAt]
theorem valN_turnAt (l : List UInt8) (i : Nat) (t : UInt8) (h : i < l.length) : valN (turnAt l i t) = valN l ^^^ (2 ^ (8 * i) * t.toNat) := by
  induction l generalizing i with
  | nil => simp at h
  | cons x l ih =>
    cases i with
    | zero =>
      have hx := x.toNat_lt
      have ht := t.toNat_lt
      show valN ((x ^^^ t) :: l) = _
      rw [valN_cons, valN_cons, low_byte _ _ (UInt8.toNat_lt _), low_byte _ _ hx, UInt8.toNat_xor, Nat.xor_assoc]
      simp
    | succ i =>
      have hx := x.toNat_lt
      show valN (x :: turnAt l i t) = _
      rw [valN_cons, valN_cons, ih i (by simpa using h), low_byte _ _ hx, low_byte _ _ hx]
      rw [show (256 : Nat) = 2 ^ 8 from rfl, mul_xor, ← Nat.mul_assoc, ← Nat.pow_add, Nat.xor_assoc, Nat.xor_assoc, Nat.xor_comm x.toNat]
      rw [show 8 + 8 * i = 8 * (i + 1) by omega]
/-- Bits of a text, turned: the first k of the mask, from the bit j on, as far as there are. -/
def turned (l : List UInt8) (j mask : Nat) : Nat → List UInt8
  | 0 => l
  | k + 1 => if (j + k) / 8 < l.length ∧ mask / 2 ^ k % 2 = 1 then turnAt (turned l j mask k) ((j + k) / 8) (UInt8.ofNat (2 ^ ((j + k) % 8))) else turned l j mask k
@[simp] theorem turned_length (l : List UInt8) (j mask k : Nat) : (turned l j mask k).length = l.length := by
  induction k with
  | zero => rfl
  | succ k ih => unfold turned; split <;> simp [ih]
theorem mod_pow_succ_xor (m k : Nat) : m % 2 ^ (k + 1) = (m % 2 ^ k) ^^^ (2 ^ k * (m / 2 ^ k % 2)) := by
  apply Nat.eq_of_testBit_eq
  intro i
  rw [Nat.testBit_xor, Nat.testBit_mod_two_pow, Nat.testBit_mod_two_pow, Nat.testBit_two_pow_mul]
  by_cases h1 : i < k
  · simp [h1, show i < k + 1 by omega, show ¬ i ≥ k by omega]
  · by_cases h2 : i = k
    · subst h2
      have h3 : (m / 2 ^ i % 2).testBit 0 = m.testBit i := by
        rw [Nat.testBit_zero, Nat.testBit_eq_decide_div_mod_eq]
        simp
      simp [h3]
    · have h4 : (m / 2 ^ k % 2).testBit (i - k) = false := Nat.testBit_lt_two_pow (Nat.lt_of_lt_of_le (Nat.mod_lt _ (by omega)) (by have := Nat.pow_le_pow_right (n := 2) (by omega) (show 1 ≤ i - k by omega); simpa using this))
      simp [h1, h4, show ¬ i < k + 1 by omega]
theorem valN_turned (l : List UInt8) (j mask k : Nat) (hj : j ≤ 8 * l.length) : valN (turned l j mask k) = valN l ^^^ (2 ^ j * (mask % 2 ^ min k (8 * l.length - j))) := by
  induction k with
  | zero => simp [turned, Nat.mod_one]
  | succ k ih =>
    unfold turned
    by_cases h1 : (j + k) / 8 < l.length
    · rw [show min (k + 1) (8 * l.length - j) = k + 1 by omega, mod_pow_succ_xor, mul_xor, ← Nat.xor_assoc]
      rw [show min k (8 * l.length - j) = k by omega] at ih
      by_cases h2 : mask / 2 ^ k % 2 = 1
      · rw [if_pos ⟨h1, h2⟩, valN_turnAt _ _ _ (by simpa using h1), ih]
        congr 1
        have h3 : (j + k) % 8 < 8 := Nat.mod_lt _ (by omega)
        have h4 : 2 ^ ((j + k) % 8) ≤ 2 ^ 7 := Nat.pow_le_pow_right (by omega) (by omega)
        rw [UInt8.toNat_ofNat', Nat.mod_eq_of_lt (by omega), ← Nat.pow_add, h2, Nat.mul_one, ← Nat.pow_add]
        congr 1
        omega
      · rw [if_neg (fun h => h2 h.2), ih, show mask / 2 ^ k % 2 = 0 by omega]
        simp
    · rw [if_neg (fun h => h1 h.1), ih]
      rw [show min (k + 1) (8 * l.length - j) = min k (8 * l.length - j) by omega]
/-- What is turned in 32 bits in a row: a number below 2^32, from the bit j on. -/
theorem valN_turned_burst (l : List UInt8) (j mask : Nat) (hj : j ≤ 8 * l.length) (hm : mask < 2 ^ 32) : ∃ d, d < 2 ^ 32 ∧ valN l ^^^ valN (turned l j mask 32) = 2 ^ j * d :=
  ⟨mask % 2 ^ min 32 (8 * l.length - j), Nat.lt_of_le_of_lt (Nat.mod_le _ _) hm, by
    rw [valN_turned l j mask 32 hj, ← Nat.xor_assoc, Nat.xor_self, Nat.zero_xor]⟩
theorem valN_turnAt_burst (l : List UInt8) (i : Nat) (t : UInt8) (h : i < l.length) : valN l ^^^ valN (turnAt l i t) = 2 ^ (8 * i) * t.toNat := by
  rw [valN_turnAt l i t h, ← Nat.xor_assoc, Nat.xor_self, Nat.zero_xor]
end Go.Proofs.YtcgbamkfflcdfaaDoor
/- Seal: a text and its sum, in memory of its own. Condition: the table is Make's, the text's length fits. -/
namespace Go.Proofs.YtcgbamkfflcdfaaDoor
open Go.RowKit

/-- The sum's bytes, one by one. -/
theorem TailOf_four (A : Option Addr) (l : List UInt8) (n c b : Nat) (w : World) (hs : Bs w b A l) (hn : l.length = n) (h2 : n ≤ 140737488355328) :
    Calls Tryd.prog 77 #[.agg (tabTo 256), .slice A n c] w fun e w' => ∃ x y z t : Nat, e = .returned (.agg #[.int .u8 x, .int .u8 y, .int .u8 z, .int .u8 t]) ∧ Hid (bv (low (sumN l) 4) = [.int .u8 x, .int .u8 y, .int .u8 z, .int .u8 t]) ∧ Below w.heap.size w w' := by
  refine (TailOf_calls A l n c b w hs hn h2).mono ?_
  rintro e w' ⟨rfl, hb⟩
  have h := low4_int (sumN l) (sumN_lt l)
  refine ⟨sumN l % 256, sumN l / 256 % 256, sumN l / 65536 % 256, sumN l / 16777216, ?_, Lib.hid ?_, hb⟩
  · rw [h]
    simp only [Int.natCast_emod, Int.natCast_ediv]
    rfl
  · have h2 := congrArg Array.toList h
    simp only [Int.natCast_emod, Int.natCast_ediv]
    simpa using h2
/-- A sealed text. -/
def sealedL (l : List UInt8) : List UInt8 := l ++ low (sumN l) 4
@[simp] theorem sealedL_length (l : List UInt8) : (sealedL l).length = l.length + 4 := by simp [sealedL]

set_option maxHeartbeats 1000000 in
set_option maxRecDepth 20000 in
theorem Seal_calls (A : Option Addr) (l : List UInt8) (n c b : Nat) (w : World) (hs : Bs w b A l) (hn : l.length = n) (h2 : n ≤ 140737488355000) :
    Calls Tryd.prog 48 #[.agg (tabTo 256), .slice A n c] w fun e w' => ∃ v, e = .returned v ∧ Row w' w.heap.size v (sealedL l) ∧ Below w.heap.size w w' := by
  have HN := Lib.hid hn
  clear hn
  go_enter Tryd.func48, Tryd.ntmps48
  go_wp2_with fail
  have hb1 := (Below.refl w.heap.size w).alloc (Nat.le_refl _) (.cells (tabTo 256) 114)
  have hg := heap_alloc_new w (.cells (tabTo 256) 114)
  obtain ⟨W, hW⟩ : ∃ W, W = w.alloc (.cells (tabTo 256) 114) := ⟨_, rfl⟩
  rw [← hW] at hb1 hg ⊢
  clear hW
  have hs1 := Sl.ext hs hb1
  refine wp_load_row 114 _ rfl w.heap.size rfl _ _ _ _ hg table_under rfl (table_size 256) ?_
  go_wp2_with fail
  refine (TailOf_four A l n c b _ hs1 HN.out (by omega)).mono ?_
  rintro e w4 ⟨x, y, z, t, rfl, hE, hb4⟩
  have hs4 := Sl.ext hs1 hb4
  have hb5 := hb1.trans (hb4.mono hb1.size)
  have hb4' := hb4.size
  clear hs1 hb1 hb4 hg hs
  have sx := Sl.cells_new w4 #[.int .u8 (x : Int), .int .u8 (y : Int), .int .u8 (z : Int), .int .u8 (t : Int)] 155
  rw [show (#[Value.int .u8 (x : Int), .int .u8 (y : Int), .int .u8 (z : Int), .int .u8 (t : Int)] : Array Value).toList = bv (low (sumN l) 4) from hE.out.symm] at sx
  have hs5 := hs4.alloc (.cells #[.int .u8 (x : Int), .int .u8 (y : Int), .int .u8 (z : Int), .int .u8 (t : Int)] 155)
  have hb6 := hb5.alloc hb5.size (.cells #[.int .u8 (x : Int), .int .u8 (y : Int), .int .u8 (z : Int), .int .u8 (t : Int)] 155)
  have hz6 : (w4.alloc (.cells #[.int .u8 (x : Int), .int .u8 (y : Int), .int .u8 (z : Int), .int .u8 (t : Int)] 155)).heap.size = w4.heap.size + 1 := by simp
  obtain ⟨i0, hi0, hz0, hz1, hz2⟩ := info_parts byte_info
  obtain ⟨w6, hr, hown, hgr⟩ := run_make_own (P := Tryd.prog) (w4.alloc (.cells #[.int .u8 (x : Int), .int .u8 (y : Int), .int .u8 (z : Int), .int .u8 (t : Int)] 155)) w.heap.size 31 5 i0 _ 1 Tryd.underlying31 hi0 hz0 hz1 .i64 .i64 (n + 4) (by rw [hz2]; omega) (by simp only [maxLen]; omega) hb6.size
  have hr' : (Instr.makeSlice 31 (.int .i64 0) (.int .i64 ((n : Int) + 4))).run Tryd.prog (w4.alloc (.cells #[.int .u8 (x : Int), .int .u8 (y : Int), .int .u8 (z : Int), .int .u8 (t : Int)] 155)) = _ := hr
  have HR := Lib.hid hr'
  have hm6 := Mod.of_grown hgr
  have hs6 := hs5.mod hm6 (by simp)
  have sx6 := sx.mod hm6 (by simp)
  have hb7 := hb6.trans (hm6.below hb6.size (fun i _ h => by simp at h))
  have hz7 := hm6.size
  rw [hz6] at hz7
  have hb6' := hb6.size
  rw [hz6] at hb6'
  have hrow : Row w6 w.heap.size (.slice (some ⟨w4.heap.size + 1, 0, none⟩) 0 (n + 4)) [] := by rw [← hz6]; exact hown
  rw [hz6] at HR
  clear hr hr' hown hgr hi0 hz0 hz1 hz2 hs5 sx hb5 hb6 hm6 hs4
  go_wp2_with fail
  rw [HR.out]
  simp only [Result.andThen_ok]
  have hno : ∀ i, (Value.slice (some ⟨w4.heap.size + 1, 0, none⟩) 0 (n + 4)).ownBlock = some i → w.heap.size ≤ i := by
    intro i hi
    simp [Value.ownBlock] at hi
    omega
  have sx6' : Value.ownBlock (Value.slice (some ⟨w4.heap.size + 1, 0, none⟩) 0 (n + 4)) = some w4.heap.size → False := by simp [Value.ownBlock]
  go_wp2_with (first
    | (at_builtin; refine wpList_app w6 rfl (.tmp 14) (.tmp 15) rfl w.heap.size _ _ rfl hrow b A n c l rfl hs6 HN.out (by simp; omega) hb7.size ?_; intro v7 w7 hrow7 hmod7 hown7; have sx7 := sx6.mod hmod7 sx6'; have hb8 := hb7.trans (hmod7.below hb7.size (fun i hi h => Nat.not_le_of_lt hi (hno i h))); clear hmod7 hs6 sx6 hb7 hrow)
    | (at_builtin; refine wpList_app w7 rfl (.tmp 17) (.tmp 18) rfl w.heap.size _ _ rfl hrow7 w4.heap.size _ 4 4 (low (sumN l) 4) rfl sx7 (by simp) (by have := HN.out; simp; omega) hb8.size ?_; intro v8 w8 hrow8 hmod8 hown8))
  go_ret
  refine ⟨_, rfl, hrow8.cast ?_, hb8.trans (hmod8.below hb8.size (fun i hi h => Nat.not_le_of_lt hi (hrow7.lt i h).1))⟩
  simp [sealedL]
end Go.Proofs.YtcgbamkfflcdfaaDoor
/- '==' on tails of sums: byte by byte. No condition. -/
namespace Go.Proofs.YtcgbamkfflcdfaaDoor
open Go.RowKit

theorem run_part_u8 (w : World) (xs : Array Value) (i : Nat) (v : Value) (h : xs[i]? = some v) : (part 5 xs i).run Tryd.prog w = .ok v w := by
  have h2 : (isAgg 5).run Tryd.prog w = .ok false w := by kernel_rfl
  simp [part, h2, h]
theorem run_eq4' (D : Nat) (w : World) (a b c d a' b' c' d' : Int) :
    (Op.equalIn (D + 1 + 1) 155 (.agg #[.int .u8 a, .int .u8 b, .int .u8 c, .int .u8 d]) (.agg #[.int .u8 a', .int .u8 b', .int .u8 c', .int .u8 d'])).run Tryd.prog w = .ok (a == a' && (b == b' && (c == c' && d == d'))) w := by
  have h : (sizeOf 5).run Tryd.prog w = .ok 1 w := by kernel_rfl
  have hu : Tryd.prog.underlying 155 = some (.array 4 5) := by kernel_rfl
  have he : ∀ x y : Int, (Op.equalIn (D + 1) 5 (.int .u8 x) (.int .u8 y)).run Tryd.prog w = .ok (x == y) w := fun x y => run_equalIn_int w D _ .u8 _ x y Tryd.underlying5
  have p0 := run_part_u8 w #[.int .u8 a, .int .u8 b, .int .u8 c, .int .u8 d] 0 (.int .u8 a) rfl
  have p1 := run_part_u8 w #[.int .u8 a, .int .u8 b, .int .u8 c, .int .u8 d] 1 (.int .u8 b) rfl
  have p2 := run_part_u8 w #[.int .u8 a, .int .u8 b, .int .u8 c, .int .u8 d] 2 (.int .u8 c) rfl
  have p3 := run_part_u8 w #[.int .u8 a, .int .u8 b, .int .u8 c, .int .u8 d] 3 (.int .u8 d) rfl
  have q0 := run_part_u8 w #[.int .u8 a', .int .u8 b', .int .u8 c', .int .u8 d'] 0 (.int .u8 a') rfl
  have q1 := run_part_u8 w #[.int .u8 a', .int .u8 b', .int .u8 c', .int .u8 d'] 1 (.int .u8 b') rfl
  have q2 := run_part_u8 w #[.int .u8 a', .int .u8 b', .int .u8 c', .int .u8 d'] 2 (.int .u8 c') rfl
  have q3 := run_part_u8 w #[.int .u8 a', .int .u8 b', .int .u8 c', .int .u8 d'] 3 (.int .u8 d') rfl
  rw [Op.equalIn]
  simp only [Sem.run_bind, run_underlying hu, Result.andThen_ok, h]
  simp only [Std.Legacy.Range.forIn_eq_forIn_range', Std.Legacy.Range.size, List.range', Nat.sub_zero, Nat.reduceAdd, Nat.reduceSub, Nat.reduceDiv, List.forIn_cons, List.forIn_nil, Sem.run_bind, Nat.mul_one, p0, q0, Result.andThen_ok, he]
  cases h0 : (a == a') <;> cases h1 : (b == b') <;> cases h2 : (c == c') <;> cases h3 : (d == d') <;> simp [Result.andThen, p1, p2, p3, q1, q2, q3, he, h1, h2, h3]
theorem run_eq4 (w : World) (a b c d a' b' c' d' : Int) :
    (Op.equalIn 10000 155 (.agg #[.int .u8 a, .int .u8 b, .int .u8 c, .int .u8 d]) (.agg #[.int .u8 a', .int .u8 b', .int .u8 c', .int .u8 d'])).run Tryd.prog w = .ok (a == a' && (b == b' && (c == c' && d == d'))) w :=
  run_eq4' 9998 w a b c d a' b' c' d'
end Go.Proofs.YtcgbamkfflcdfaaDoor
/- Open: what it tells of any bytes. Condition: the table is Make's, the length fits. -/
namespace Go.Proofs.YtcgbamkfflcdfaaDoor
open Go.RowKit

/-- The table, as a list. -/
def tabL : List Value := (List.range 256).map fun i => Value.int .u32 ((if i < 256 then step8 0 i else 0 : Nat) : Int)
theorem tabL_eq : tabTo 256 = tabL.toArray := rfl
theorem tabL_length : tabL.length = 256 := by simp [tabL]
theorem tabL_range {w : World} {g : Nat} {t : TypeId} (h : w.heap[g]? = some (.cells (tabTo 256) t (0, 0))) : w.rangeAt g 0 tabL := fun j v hv => by
  rw [cell_of_row _ _ _ _ _ _ h, tabL_eq, Nat.zero_add]
  simpa using hv
theorem range_below {B : Nat} {w w' : World} {g o : Nat} {cs : List Value} (h : w.rangeAt g o cs) (hb : Below B w w') (hg : g < B) : w'.rangeAt g o cs := fun j v hv =>
  (hb.cell (p := ⟨g, o + j, none⟩) hg).trans (h j v hv)
theorem tab_info : (Tryd.prog.info? 114).map (·.size) = some tabL.length := by rw [tabL_length]; kernel_rfl

set_option maxHeartbeats 1000000 in
set_option maxRecDepth 20000 in
theorem Open_short (A : Option Addr) (n c : Nat) (w : World) (h4 : n < 4) :
    Calls Tryd.prog 58 #[.agg (tabTo 256), .slice A n c] w fun e w' => e = .returned (.tuple #[.slice none 0 0, .int .i64 2]) ∧ Below w.heap.size w w' := by
  go_enter Tryd.func58, Tryd.ntmps58
  go_wp2_with fail
  go_ret2
  exact ⟨rfl, below_alloc2 _ _ _⟩

theorem TailOf_is (A : Option Addr) (l : List UInt8) (n c b : Nat) (t0 t1 t2 t3 : Nat) (hn : l.length = n) (h2 : n ≤ 140737488355328) (hq : bv (low (sumN l) 4) = [.int .u8 t0, .int .u8 t1, .int .u8 t2, .int .u8 t3]) (w : World) (hs : Bs w b A l) :
    Calls Tryd.prog 77 #[.agg tabL.toArray, .slice A n c] w fun e w' => e = .returned (.agg #[.int .u8 t0, .int .u8 t1, .int .u8 t2, .int .u8 t3]) ∧ Below w.heap.size w w' := by
  have h := TailOf_calls A l n c b w hs hn h2
  rw [hq, tabL_eq] at h
  exact h
theorem bv_inj {a b : List UInt8} (h : bv a = bv b) : a = b := by
  have h2 : a.map (fun x => x.toNat) = b.map (fun x => x.toNat) := by
    have := congrArg (List.map fun v : Value => match v with | .int _ n => n.toNat | _ => 0) h
    simpa [bv, Function.comp_def] using this
  exact (List.map_inj_right (fun x y h => UInt8.toNat_inj.1 h)).1 h2
/-- Whether a text ends in the sum of what is ahead. -/
def opensB (l : List UInt8) (k : Nat) : Bool := decide (l.drop k = low (sumN (l.take k)) 4)
theorem opens_four {l : List UInt8} {k : Nat} {q0 q1 q2 q3 : UInt8} {t0 t1 t2 t3 : Nat} (hq : l.drop k = [q0, q1, q2, q3]) (ht : bv (low (sumN (l.take k)) 4) = [.int .u8 t0, .int .u8 t1, .int .u8 t2, .int .u8 t3]) :
    ((q0.toNat : Int) == (t0 : Int) && ((q1.toNat : Int) == (t1 : Int) && ((q2.toNat : Int) == (t2 : Int) && (q3.toNat : Int) == (t3 : Int)))) = opensB l k := by
  unfold opensB
  rw [Bool.eq_iff_iff]
  simp only [Bool.and_eq_true, beq_iff_eq, decide_eq_true_eq]
  rw [hq]
  constructor
  · rintro ⟨h0, h1, h2, h3⟩
    apply bv_inj
    rw [ht, ← h0, ← h1, ← h2, ← h3]
    rfl
  · intro h
    rw [← h] at ht
    simp [bv] at ht
    omega
theorem open_held {w w' : World} {g : Nat} {cs : List Value} {a b c d : Value} (hb : Below w.heap.size w w') (h : w.rangeAt g 0 cs ∧ w.cell? ⟨g + 1, 0, none⟩ = some a ∧ w.cell? ⟨g + 1, 1, none⟩ = some b ∧ w.cell? ⟨g + 1, 2, none⟩ = some c ∧ w.cell? ⟨g + 1, 3, none⟩ = some d) (hl : g + 1 < w.heap.size) :
    w'.rangeAt g 0 cs ∧ w'.cell? ⟨g + 1, 0, none⟩ = some a ∧ w'.cell? ⟨g + 1, 1, none⟩ = some b ∧ w'.cell? ⟨g + 1, 2, none⟩ = some c ∧ w'.cell? ⟨g + 1, 3, none⟩ = some d :=
  ⟨range_below h.1 hb (by omega), (hb.cell (p := ⟨g + 1, 0, none⟩) hl).trans h.2.1, (hb.cell (p := ⟨g + 1, 1, none⟩) hl).trans h.2.2.1, (hb.cell (p := ⟨g + 1, 2, none⟩) hl).trans h.2.2.2.1, (hb.cell (p := ⟨g + 1, 3, none⟩) hl).trans h.2.2.2.2⟩
theorem drop4 {l : List UInt8} {k : Nat} (h : l.length = k + 4) : ∃ a b c d : UInt8, l.drop k = [a, b, c, d] := by
  have h1 : (l.drop k).length = 4 := by simp; omega
  match hl : l.drop k, h1 with
  | [a, b, c, d], _ => exact ⟨a, b, c, d, rfl⟩
set_option maxHeartbeats 1000000 in
set_option maxRecDepth 20000 in
theorem Open_bad (A : Option Addr) (l : List UInt8) (k c b : Nat) (w : World) (hs : Bs w b A l) (hn : l.length = k + 4) (hc : k + 4 ≤ c) (h2 : k ≤ 140737488355000) (heq : opensB l k = false) :
    Calls Tryd.prog 58 #[.agg (tabTo 256), .slice A (k + 4) c] w fun e w' => e = .returned (.tuple #[.slice none 0 0, .int .i64 5]) ∧ Below w.heap.size w w' := by
  have HN := Lib.hid hn
  obtain ⟨q0, q1, q2, q3, hq⟩ := drop4 hn
  obtain ⟨t0, t1, t2, t3, hl4⟩ : ∃ t0 t1 t2 t3 : Nat, bv (low (sumN (l.take k)) 4) = [.int .u8 t0, .int .u8 t1, .int .u8 t2, .int .u8 t3] := by
    have h := congrArg Array.toList (low4_int (sumN (l.take k)) (sumN_lt _))
    exact ⟨sumN (l.take k) % 256, sumN (l.take k) / 256 % 256, sumN (l.take k) / 65536 % 256, sumN (l.take k) / 16777216, by simpa using h⟩
  have hT := TailOf_is A (l.take k) k k b t0 t1 t2 t3 (by simp; omega) (by omega) hl4
  have hE4 : ∀ w, (Op.equalIn 10000 155 (.agg #[.int .u8 (q0.toNat : Int), .int .u8 (q1.toNat : Int), .int .u8 (q2.toNat : Int), .int .u8 (q3.toNat : Int)]) (.agg #[.int .u8 t0, .int .u8 t1, .int .u8 t2, .int .u8 t3])).run Tryd.prog w = .ok false w := fun w => by
    rw [run_eq4, opens_four hq hl4, heq]
  clear heq hl4
  have hkc : (if c = k then A else A.map (·.add k)) = A.map (·.add k) := by rw [if_neg (by omega)]
  have hsd := Sl.drop hs (k := k) (cap := c) (by simp; omega)
  rw [hkc, bv_drop, hq] at hsd
  have hst := Sl.take hs k
  rw [bv_take] at hst
  have hlt : l.take k ≠ [] → b < w.heap.size := Bs.lt hst
  clear hn
  go_enter Tryd.func58, Tryd.ntmps58
  go_wp2_with fail
  have hb1 := below_alloc2 w (.cells (tabTo 256) 114) (.cells #[.int .u8 0, .int .u8 0, .int .u8 0, .int .u8 0] 155)
  have hg : ((w.alloc (.cells (tabTo 256) 114)).alloc (.cells #[.int .u8 0, .int .u8 0, .int .u8 0, .int .u8 0] 155)).heap[w.heap.size]? = some (.cells (tabTo 256) 114 (0, 0)) := (Below.heap_alloc _ _ _ (by simp)).trans (heap_alloc_new w _)
  have hz := heap_alloc2_new w (.cells (tabTo 256) 114) (.cells #[.int .u8 0, .int .u8 0, .int .u8 0, .int .u8 0] 155)
  have hsz : w.heap.size + 2 ≤ ((w.alloc (.cells (tabTo 256) 114)).alloc (.cells #[.int .u8 0, .int .u8 0, .int .u8 0, .int .u8 0] 155)).heap.size := by simp
  obtain ⟨W, hW⟩ : ∃ W, W = (w.alloc (.cells (tabTo 256) 114)).alloc (.cells #[.int .u8 0, .int .u8 0, .int .u8 0, .int .u8 0] 155) := ⟨_, rfl⟩
  rw [← hW] at hb1 hg hz hsz ⊢
  clear hW
  have hsd1 := Sl.ext hsd hb1
  have hst1 := Sl.ext hst hb1
  clear hsd hst
  have HG := Lib.hid hg
  have HZ := Lib.hid hz
  have e1 : (0 : Int) ≤ (k : Int) := by omega
  have e2 : (k : Int) ≤ (k : Int) + 4 := by omega
  obtain ⟨o2, ho2, hc2⟩ := hsd1 (by simp [bv])
  have HO := Lib.hid ho2
  have HC := Lib.hid (show ∀ j v, (bv [q0, q1, q2, q3])[j]? = some v → W.drew.cell? ((⟨b, o2, none⟩ : Addr).add j) = some v from fun j v hv => by rw [Addr.add_lit]; exact hc2 j v hv)
  clear hg hz hsd1 ho2 hc2
  go_region_law (first | (refine step_copy_splice rfl (.tmp 18) (.tmp 21) 31 31 rfl 5 Tryd.underlying31 (by kernel_rfl) _ _ _ _ _ _ rfl rfl (w.heap.size + 1) 0 [.int .u8 0, .int .u8 0, .int .u8 0, .int .u8 0] 155 HZ.out (bv [q0, q1, q2, q3]) rfl (fun _ => ⟨rfl, _, HO.out, HC.out⟩) (by simp) (bv_one _) (w.heap.size + 1) _ (Below.refl _ _) (Nat.le_refl _) ?_; intro w4 hg4 hb4))
  have HG4 := Lib.hid (show w4.heap[w.heap.size + 1]? = some (.cells (bv [q0, q1, q2, q3]).toArray 155 (0, 0)) from by rw [hg4.out]; simp [splice, bv])
  have ht4 := (hb4.block w.heap.size (by omega)).trans HG.out
  have hst4 : Bs w4 b A (l.take k) := Bs.modne (w := W.drew) hst1 (Mod.of_below hb4) (fun hne h => by have := hlt hne; omega)
  have hb5 := (below_drew hb1).trans (hb4.mono (by omega))
  have hsz4 := hb4.size
  have hS : w4.rangeAt w.heap.size 0 tabL ∧ w4.cell? ⟨w.heap.size + 1, 0, none⟩ = some (.int .u8 (q0.toNat : Int)) ∧ w4.cell? ⟨w.heap.size + 1, 1, none⟩ = some (.int .u8 (q1.toNat : Int)) ∧ w4.cell? ⟨w.heap.size + 1, 2, none⟩ = some (.int .u8 (q2.toNat : Int)) ∧ w4.cell? ⟨w.heap.size + 1, 3, none⟩ = some (.int .u8 (q3.toNat : Int)) := by
    refine ⟨tabL_range ht4, ?_, ?_, ?_, ?_⟩ <;> (rw [cell_of_row _ _ _ _ _ _ HG4.out]; rfl)
  have hu := table_under
  have hi := tab_info
  have hb6 := below_drew hb5
  have hsz5 : w.heap.size + 1 < w4.drew.heap.size := Nat.lt_of_lt_of_le hsz hsz4
  clear hg4 hb4 hst1 hb1 hsz ht4 HG4 HG HZ HO HC hlt hs
  go_wp2_with fail
  go_region_held3 (fun w' => w'.rangeAt w.heap.size 0 tabL ∧ w'.cell? ⟨w.heap.size + 1, 0, none⟩ = some (.int .u8 (q0.toNat : Int)) ∧ w'.cell? ⟨w.heap.size + 1, 1, none⟩ = some (.int .u8 (q1.toNat : Int)) ∧ w'.cell? ⟨w.heap.size + 1, 2, none⟩ = some (.int .u8 (q2.toNat : Int)) ∧ w'.cell? ⟨w.heap.size + 1, 3, none⟩ = some (.int .u8 (q3.toNat : Int))) (first | exact hS | exact hS5)
    (first
      | (go_at_call 77; ((refine (hT w4.drew hst4).mono ?_); rintro e w5 ⟨rfl, hb⟩; have hS5 := open_held (w := w4.drew) hb hS hsz5; have hst5 := Sl.ext (w := w4.drew) hst4 hb; have hb7 := hb6.trans (hb.mono hb6.size); clear hb)))
  go_wp2_with fail
  go_ret2
  exact ⟨rfl, hb7⟩
set_option maxHeartbeats 1000000 in
set_option maxRecDepth 20000 in
theorem Open_good (A : Option Addr) (l : List UInt8) (k c b : Nat) (w : World) (hs : Bs w b A l) (hn : l.length = k + 4) (hc : k + 4 ≤ c) (h2 : k ≤ 140737488355000) (heq : opensB l k = true) :
    Calls Tryd.prog 58 #[.agg (tabTo 256), .slice A (k + 4) c] w fun e w' => ∃ v, e = .returned (.tuple #[v, .int .i64 0]) ∧ Row w' w.heap.size v (l.take k) ∧ Below w.heap.size w w' := by
  have HN := Lib.hid hn
  obtain ⟨q0, q1, q2, q3, hq⟩ := drop4 hn
  obtain ⟨t0, t1, t2, t3, hl4⟩ : ∃ t0 t1 t2 t3 : Nat, bv (low (sumN (l.take k)) 4) = [.int .u8 t0, .int .u8 t1, .int .u8 t2, .int .u8 t3] := by
    have h := congrArg Array.toList (low4_int (sumN (l.take k)) (sumN_lt _))
    exact ⟨sumN (l.take k) % 256, sumN (l.take k) / 256 % 256, sumN (l.take k) / 65536 % 256, sumN (l.take k) / 16777216, by simpa using h⟩
  have hT := TailOf_is A (l.take k) k k b t0 t1 t2 t3 (by simp; omega) (by omega) hl4
  have hE4 : ∀ w, (Op.equalIn 10000 155 (.agg #[.int .u8 (q0.toNat : Int), .int .u8 (q1.toNat : Int), .int .u8 (q2.toNat : Int), .int .u8 (q3.toNat : Int)]) (.agg #[.int .u8 t0, .int .u8 t1, .int .u8 t2, .int .u8 t3])).run Tryd.prog w = .ok true w := fun w => by
    rw [run_eq4, opens_four hq hl4, heq]
  clear heq hl4
  have hkc : (if c = k then A else A.map (·.add k)) = A.map (·.add k) := by rw [if_neg (by omega)]
  have hsd := Sl.drop hs (k := k) (cap := c) (by simp; omega)
  rw [hkc, bv_drop, hq] at hsd
  have hst := Sl.take hs k
  rw [bv_take] at hst
  have hlt : l.take k ≠ [] → b < w.heap.size := Bs.lt hst
  clear hn
  go_enter Tryd.func58, Tryd.ntmps58
  go_wp2_with fail
  have hb1 := below_alloc2 w (.cells (tabTo 256) 114) (.cells #[.int .u8 0, .int .u8 0, .int .u8 0, .int .u8 0] 155)
  have hg : ((w.alloc (.cells (tabTo 256) 114)).alloc (.cells #[.int .u8 0, .int .u8 0, .int .u8 0, .int .u8 0] 155)).heap[w.heap.size]? = some (.cells (tabTo 256) 114 (0, 0)) := (Below.heap_alloc _ _ _ (by simp)).trans (heap_alloc_new w _)
  have hz := heap_alloc2_new w (.cells (tabTo 256) 114) (.cells #[.int .u8 0, .int .u8 0, .int .u8 0, .int .u8 0] 155)
  have hsz : w.heap.size + 2 ≤ ((w.alloc (.cells (tabTo 256) 114)).alloc (.cells #[.int .u8 0, .int .u8 0, .int .u8 0, .int .u8 0] 155)).heap.size := by simp
  obtain ⟨W, hW⟩ : ∃ W, W = (w.alloc (.cells (tabTo 256) 114)).alloc (.cells #[.int .u8 0, .int .u8 0, .int .u8 0, .int .u8 0] 155) := ⟨_, rfl⟩
  rw [← hW] at hb1 hg hz hsz ⊢
  clear hW
  have hsd1 := Sl.ext hsd hb1
  have hst1 := Sl.ext hst hb1
  clear hsd hst
  have HG := Lib.hid hg
  have HZ := Lib.hid hz
  have e1 : (0 : Int) ≤ (k : Int) := by omega
  have e2 : (k : Int) ≤ (k : Int) + 4 := by omega
  obtain ⟨o2, ho2, hc2⟩ := hsd1 (by simp [bv])
  have HO := Lib.hid ho2
  have HC := Lib.hid (show ∀ j v, (bv [q0, q1, q2, q3])[j]? = some v → W.drew.cell? ((⟨b, o2, none⟩ : Addr).add j) = some v from fun j v hv => by rw [Addr.add_lit]; exact hc2 j v hv)
  clear hg hz hsd1 ho2 hc2
  go_region_law (first | (refine step_copy_splice rfl (.tmp 18) (.tmp 21) 31 31 rfl 5 Tryd.underlying31 (by kernel_rfl) _ _ _ _ _ _ rfl rfl (w.heap.size + 1) 0 [.int .u8 0, .int .u8 0, .int .u8 0, .int .u8 0] 155 HZ.out (bv [q0, q1, q2, q3]) rfl (fun _ => ⟨rfl, _, HO.out, HC.out⟩) (by simp) (bv_one _) (w.heap.size + 1) _ (Below.refl _ _) (Nat.le_refl _) ?_; intro w4 hg4 hb4))
  have HG4 := Lib.hid (show w4.heap[w.heap.size + 1]? = some (.cells (bv [q0, q1, q2, q3]).toArray 155 (0, 0)) from by rw [hg4.out]; simp [splice, bv])
  have ht4 := (hb4.block w.heap.size (by omega)).trans HG.out
  have hst4 : Bs w4 b A (l.take k) := Bs.modne (w := W.drew) hst1 (Mod.of_below hb4) (fun hne h => by have := hlt hne; omega)
  have hb5 := (below_drew hb1).trans (hb4.mono (by omega))
  have hsz4 := hb4.size
  have hS : w4.rangeAt w.heap.size 0 tabL ∧ w4.cell? ⟨w.heap.size + 1, 0, none⟩ = some (.int .u8 (q0.toNat : Int)) ∧ w4.cell? ⟨w.heap.size + 1, 1, none⟩ = some (.int .u8 (q1.toNat : Int)) ∧ w4.cell? ⟨w.heap.size + 1, 2, none⟩ = some (.int .u8 (q2.toNat : Int)) ∧ w4.cell? ⟨w.heap.size + 1, 3, none⟩ = some (.int .u8 (q3.toNat : Int)) := by
    refine ⟨tabL_range ht4, ?_, ?_, ?_, ?_⟩ <;> (rw [cell_of_row _ _ _ _ _ _ HG4.out]; rfl)
  have hu := table_under
  have hi := tab_info
  have hb6 := below_drew hb5
  have hsz5 : w.heap.size + 1 < w4.drew.heap.size := Nat.lt_of_lt_of_le hsz hsz4
  clear hg4 hb4 hst1 hb1 hsz ht4 HG4 HG HZ HO HC hlt hs
  go_wp2_with fail
  go_region_held3 (fun w' => w'.rangeAt w.heap.size 0 tabL ∧ w'.cell? ⟨w.heap.size + 1, 0, none⟩ = some (.int .u8 (q0.toNat : Int)) ∧ w'.cell? ⟨w.heap.size + 1, 1, none⟩ = some (.int .u8 (q1.toNat : Int)) ∧ w'.cell? ⟨w.heap.size + 1, 2, none⟩ = some (.int .u8 (q2.toNat : Int)) ∧ w'.cell? ⟨w.heap.size + 1, 3, none⟩ = some (.int .u8 (q3.toNat : Int))) (first | exact hS | exact hS5)
    (first
      | (go_at_call 77; ((refine (hT w4.drew hst4).mono ?_); rintro e w5 ⟨rfl, hb⟩; have hS5 := open_held (w := w4.drew) hb hS hsz5; have hst5 := Sl.ext (w := w4.drew) hst4 hb; have hb7 := hb6.trans (hb.mono hb6.size); clear hb)))
  have hlen : (l.take k).length = k := by simp; have := HN.out; omega
  have HL := Lib.hid hlen
  clear hlen
  go_wp2_with (at_builtin; refine wpList_app w5 rfl (.const (.slice none 0 0)) (.tmp 28) rfl w.heap.size _ [] rfl (Row.nil_ _ _) b A k k (l.take k) rfl hst5 HL.out (by simp; omega) hb7.size ?_; intro v6 w6 hrow6 hmod6 hown6)
  go_ret2
  exact ⟨_, rfl, hrow6.cast (by simp), hb7.trans (hmod6.below hb7.size (fun i _ h => by cases h))⟩
end Go.Proofs.YtcgbamkfflcdfaaDoor
/- The reference's Same: it returns whether two lists of bytes are alike, and writes nothing. Condition: the lengths fit. -/
namespace Go.Proofs.YtcgbamkfflcdfaaDoor
open Go.RowKit

theorem take_succ_eq (a b : List UInt8) (k : Nat) (ha : k < a.length) (hb : k < b.length) : (a.take (k + 1) = b.take (k + 1)) ↔ (a.take k = b.take k ∧ a[k] = b[k]) := by
  rw [List.take_succ_eq_append_getElem ha, List.take_succ_eq_append_getElem hb]
  constructor
  · intro h
    have := List.append_inj h (by simp; omega)
    exact ⟨this.1, by simpa using this.2⟩
  · rintro ⟨h1, h2⟩
    rw [h1, h2]

set_option maxHeartbeats 400000 in
theorem Same_calls (A B : Option Addr) (a b : List UInt8) (n m ca cb ba bb : Nat) (w : World) (ha : Bs w ba A a) (hb : Bs w bb B b) (hn : a.length = n) (hm : b.length = m) (h1 : n ≤ maxLen) (_h2 : m ≤ maxLen) :
    Calls Tryd.prog 21 #[.slice A n ca, .slice B m cb] w fun e w' => e = .returned (.bool (decide (a = b))) ∧ ∃ k, w' = w.drewN k := by
  unfold maxLen at h1
  by_cases hlen : n = m
  · subst hlen
    have hne : ((n : Int) != (n : Int)) = false := by simp
    have HN := Lib.hid hn
    have HM := Lib.hid hm
    clear hn hm
    go_enter Tryd.func21, Tryd.ntmps21
    go_wp2
    go_loopw [13] (fun i wr => ∃ k : Nat, k ≤ n ∧ i = .int .i64 k ∧ Hid (a.take k = b.take k) ∧ ∃ d, wr = w.drewN d) (fun i _ => n - (intOf i).toNat)
    case atStart => exact ⟨0, Nat.zero_le _, rfl, rfl, 0, rfl⟩
    case round =>
      obtain ⟨k, hk, rfl, hpre, d, rfl⟩ := hrel
      by_cases hlt : k < n
      · obtain ⟨oa, rfl, hca⟩ := ha.at_ (k := k) (by rw [HN.out]; exact hlt)
        obtain ⟨ob, rfl, hcb⟩ := hb.at_ (k := k) (by rw [HM.out]; exact hlt)
        have ca := hca k (by rw [HN.out]; exact hlt)
        have cb := hcb k (by rw [HM.out]; exact hlt)
        have ka : k < a.length := by rw [HN.out]; exact hlt
        have kb : k < b.length := by rw [HM.out]; exact hlt
        have ts := Lib.hid (take_succ_eq a b k ka kb)
        clear hca hcb
        have e18 : ((n : Int) ≤ 9223372036854775807) := by omega
        by_cases hx : a[k] = b[k]
        · have hq : ((a[k].toNat : Int) != (b[k].toNat : Int)) = false := by simp [hx]
          go_wp2
          go_quiet (fail)
          go_wp2
          go_roundw
          case rel => exact ⟨k + 1, by omega, by go_num, Lib.hid (ts.out.2 ⟨hpre.out, hx⟩), _, rfl⟩
          case measure => simp [intOf]; omega
        · have hq : ((a[k].toNat : Int) != (b[k].toNat : Int)) = true := by
            simp only [bne_iff_ne, ne_eq]
            intro he
            exact hx (UInt8.toNat_inj.1 (by omega))
          go_wp2
          go_quiet (fail)
          go_wp2
          go_ret
          have hab : decide (a = b) = false := by
            simp only [decide_eq_false_iff_not]
            rintro rfl
            exact hx rfl
          exact ⟨by rw [hab]; rfl, _, by first | rfl | exact World.drewN_drewN _ _ _⟩
      · go_wp2
        go_ret
        have hkn : k = n := by omega
        have hab : decide (a = b) = true := by
          simp only [decide_eq_true_eq]
          have := hpre.out
          rw [hkn, List.take_of_length_le (by rw [HN.out]; exact Nat.le_refl _), List.take_of_length_le (by rw [HM.out]; exact Nat.le_refl _)] at this
          exact this
        exact ⟨by rw [hab]; rfl, _, by first | rfl | exact World.drewN_drewN _ _ _⟩
  · have hne : ((n : Int) != (m : Int)) = true := by simp only [bne_iff_ne, ne_eq]; omega
    have hd : decide (a = b) = false := by simp only [decide_eq_false_iff_not]; rintro rfl; omega
    go_enter Tryd.func21, Tryd.ntmps21
    go_wp2
    go_ret
    exact ⟨by rw [hd]; rfl, 0, rfl⟩
end Go.Proofs.YtcgbamkfflcdfaaDoor
/- The reference's Seal and Open: by the plain sum. Conditions: the lengths fit. -/
namespace Go.Proofs.YtcgbamkfflcdfaaDoor
open Go.RowKit

set_option maxHeartbeats 1000000 in
set_option maxRecDepth 20000 in
theorem RefSeal_calls (A : Option Addr) (l : List UInt8) (n c b : Nat) (w : World) (hs : Bs w b A l) (hn : l.length = n) (h2 : n ≤ 140737488355000) :
    Calls Tryd.prog 50 #[.slice A n c] w fun e w' => ∃ v, e = .returned v ∧ Row w' w.heap.size v (sealedL l) ∧ Below w.heap.size w w' := by
  have hsum := sumN_lt l
  have HN := Lib.hid hn
  clear hn
  go_enter Tryd.func50, Tryd.ntmps50
  go_wp2_with fail
  refine (RefSum_calls A l n c b _ hs HN.out (by simp only [maxLen]; omega)).mono ?_
  rintro e w1 ⟨rfl, rfl⟩
  go_wp2_with fail
  refine (Low_calls (sumN l) 4 _ (by omega) (by omega) (by omega)).mono ?_
  rintro e w2 ⟨v2, rfl, hrow2, hb2⟩
  obtain ⟨A2, c2, b2, rfl, h3, h4, h5, h6, hs2, h7⟩ := hrow2.sl
  have hs3 := Sl.ext hs hb2
  clear hrow2 hs h3 h4 h5 h6 h7
  go_wp2_with fail
  have hx : Below w2.heap.size w2 (w2.alloc (.cells #[.slice A n c, .slice A2 (low (sumN l) (4 : Int).toNat).length c2] 31)) := (Below.refl _ _).alloc (Nat.le_refl _) _
  refine (Join_calls _ [.slice A n c, .slice A2 (low (sumN l) (4 : Int).toNat).length c2] [l, low (sumN l) 4] 2 2 w2.heap.size _ (Sl.cells_new w2 _ _) ((Bss.cons hs3 HN.out (Bss.cons hs2 rfl (Bss.nil_ _))).ext hx) rfl (by simp [maxLen]) (by have := HN.out; simp; omega)).mono ?_
  rintro e w3 ⟨v3, rfl, hrow3, hb3⟩
  go_wp2_with fail
  go_ret
  exact ⟨v3, rfl, (hrow3.low (by have := hb2.size; simp; omega)).cast (by simp [sealedL]), (hb2.trans (hx.mono hb2.size)).trans (hb3.mono (by have := hb2.size; simp; omega))⟩

set_option maxHeartbeats 1000000 in
set_option maxRecDepth 20000 in
theorem RefOpen_short (A : Option Addr) (n c : Nat) (w : World) (h4 : n < 4) :
    Calls Tryd.prog 79 #[.slice A n c] w fun e w' => e = .returned (.bool false) ∧ ∃ k, w' = w.drewN k := by
  have hd : decide (4 ≤ (n : Int)) = false := by simp only [decide_eq_false_iff_not]; omega
  have hw : IntKind.i64.wrap ((n : Int) - 4) = (n : Int) - 4 := IntWalk.i64_in _ (by omega)
  go_enter Tryd.func79, Tryd.ntmps79
  go_wp2_with fail
  go_quiet (fail)
  go_wp2_with fail
  go_ret
  exact ⟨rfl, _, rfl⟩

theorem opens_val {l : List UInt8} {k : Nat} (h : l.length = k + 4) : (((valN (l.drop k) : Nat) : Int) == ((sumN (l.take k) : Nat) : Int)) = opensB l k := by
  unfold opensB
  have hv := valN_low (sumN (l.take k)) 4
  have hl := sumN_lt (l.take k)
  rw [Nat.mod_eq_of_lt (by omega)] at hv
  rw [Bool.eq_iff_iff]
  simp only [beq_iff_eq, decide_eq_true_eq]
  constructor
  · intro e
    exact valN_inj (by simp; omega) (by rw [hv]; omega)
  · intro e
    rw [e, hv]
set_option maxHeartbeats 1000000 in
set_option maxRecDepth 20000 in
theorem RefOpen_long (A : Option Addr) (l : List UInt8) (k c b : Nat) (w : World) (hs : Bs w b A l) (hn : l.length = k + 4) (hc : k + 4 ≤ c) (h2 : k ≤ 140737488355000) :
    Calls Tryd.prog 79 #[.slice A (k + 4) c] w fun e w' => e = .returned (.bool (opensB l k)) ∧ ∃ m, w' = w.drewN m := by
  have hq := opens_val hn
  have hd : decide (4 ≤ ((k + 4 : Nat) : Int)) = true := by simp only [decide_eq_true_eq]; omega
  have hd2 : decide ((0 : Int) ≤ (k : Int)) = true := by simp only [decide_eq_true_eq]; omega
  have hkc : (if c = k then A else A.map (·.add k)) = A.map (·.add k) := by rw [if_neg (by omega)]
  have hsd := Sl.drop hs (k := k) (cap := c) (by simp; omega)
  rw [hkc, bv_drop] at hsd
  have hst := Sl.take hs k
  rw [bv_take] at hst
  have hV : ∀ m, Calls Tryd.prog 80 #[.slice (A.map (·.add k)) 4 (c - k)] (w.drewN m) fun e w' => e = .returned (.int .u64 (valN (l.drop k) : Nat)) ∧ w' = w.drewN m := fun m =>
    (Value_calls _ (l.drop k) 4 (c - k) b (w.drewN m) (hsd.drewN m) (by simp; omega) (by omega)).mono fun _ _ ⟨a, b⟩ => ⟨a, b.symm⟩
  have hS : ∀ m, Calls Tryd.prog 78 #[.slice A k c] (w.drewN m) fun e w' => e = .returned (.int .u32 (sumN (l.take k) : Nat)) ∧ w' = w.drewN m := fun m =>
    (RefSum_calls _ (l.take k) k c b (w.drewN m) (hst.drewN m) (by simp; omega) (by simp only [maxLen]; omega)).mono fun _ _ ⟨a, b⟩ => ⟨a, b.symm⟩
  have hsl := sumN_lt (l.take k)
  obtain ⟨V, hV1⟩ : ∃ V, V = valN (l.drop k) := ⟨_, rfl⟩
  obtain ⟨S, hS1⟩ : ∃ S, S = sumN (l.take k) := ⟨_, rfl⟩
  obtain ⟨o, ho⟩ : ∃ o, o = opensB l k := ⟨_, rfl⟩
  rw [← hV1] at hV
  rw [← hS1] at hS hsl
  rw [← hV1, ← hS1, ← ho] at hq
  rw [← ho]
  have hcv : IntKind.u64.wrap (S : Int) = (S : Int) := IntWalk.u64_in _ (by omega)
  have e2 : (k : Int) ≤ (k : Int) + 4 := by omega
  clear hV1 hS1 ho hn hkc hsd hst hs
  go_enter Tryd.func79, Tryd.ntmps79
  go_wp2_with fail
  go_quiet ((first | (go_at_call 80; exact Calls.quiet_of_same (hV _)) | (go_at_call 78; exact Calls.quiet_of_same (hS _))))
  go_wp2_with fail
  go_ret
  exact ⟨rfl, _, rfl⟩
end Go.Proofs.YtcgbamkfflcdfaaDoor
/- What of a sealed text is opened, in plain words. No condition. -/
namespace Go.Proofs.YtcgbamkfflcdfaaDoor

theorem opensB_iff {l : List UInt8} {k : Nat} (h : l.length = k + 4) : opensB l k = true ↔ crc 4294967295 l = crcBits 32 4294967295 := by
  have h1 := opens_val h
  have h2 := opens_iff (p := l.take k) (t := l.drop k) (by simp; omega)
  rw [List.take_append_drop] at h2
  rw [← h2, ← h1]
  simp only [beq_iff_eq]
  omega
theorem sealed_rest (p : List UInt8) : crc 4294967295 (sealedL p) = crcBits 32 4294967295 := by
  have h2 := opens_iff (p := p) (t := low (sumN p) 4) (by simp)
  have hv := valN_low (sumN p) 4
  have hl := sumN_lt p
  rw [Nat.mod_eq_of_lt (by omega)] at hv
  exact h2.1 hv
/-- What is sealed and turned by some of 32 bits in a row opens just if none was turned. -/
theorem opens_turned {p m : List UInt8} {j d : Nat} (hl : m.length = p.length + 4) (hj : j ≤ 8 * (p.length + 4)) (hd : d < 2 ^ 32) (hx : valN (sealedL p) ^^^ valN m = 2 ^ j * d) : opensB m p.length = decide (d = 0) := by
  rw [Bool.eq_iff_iff, opensB_iff hl, decide_eq_true_eq]
  exact opens_burst (sealed_rest p) (by simp [hl]) (by simpa using hj) hd hx
theorem sealed_opens (p : List UInt8) : opensB (sealedL p) p.length = true := (opensB_iff (by simp)).2 (sealed_rest p)
theorem sealed_take (p : List UInt8) : (sealedL p).take p.length = p := by simp [sealedL]
theorem opens_turnAt {p : List UInt8} {i : Nat} {t : UInt8} (hi : i < p.length + 4) : opensB (turnAt (sealedL p) i t) p.length = decide (t = 0) := by
  rw [opens_turned (d := t.toNat) (j := 8 * i) (by simp) (by omega) (by have := t.toNat_lt; omega) (valN_turnAt_burst _ _ _ (by simpa using hi))]
  rw [decide_eq_decide]
  exact ⟨fun h => UInt8.toNat_inj.1 h, fun h => by rw [h]; rfl⟩
theorem turnAt_zero (l : List UInt8) (i : Nat) : turnAt l i 0 = l := by
  unfold turnAt
  rw [UInt8.xor_zero]
  by_cases h : i < l.length
  · rw [List.getD_eq_getElem?_getD, List.getElem?_eq_getElem h]
    simp
  · exact List.set_eq_of_length_le (by omega)
theorem opens_spoilt {p : List UInt8} {j mask : Nat} (hj : j ≤ 8 * (p.length + 4)) (hm : mask < 2 ^ 32) : opensB (turned (sealedL p) j mask 32) p.length = decide (turned (sealedL p) j mask 32 = sealedL p) := by
  obtain ⟨d, hd, hx⟩ := valN_turned_burst (sealedL p) j mask (by simpa using hj) hm
  rw [opens_turned (by simp) hj hd hx, decide_eq_decide]
  constructor
  · intro h
    subst h
    exact valN_inj (by simp) (xor_nought (by rw [Nat.xor_comm, hx, Nat.mul_zero]))
  · intro h
    rw [h, Nat.xor_self] at hx
    rcases Nat.mul_eq_zero.1 hx.symm with h2 | h2
    · exact absurd h2 (Nat.pos_iff_ne_zero.1 (Nat.two_pow_pos j))
    · exact h2
theorem sum_turnAt {p : List UInt8} {i : Nat} {t : UInt8} (hi : i < p.length) : sumN p = sumN (turnAt p i t) ↔ t = 0 := by
  constructor
  · intro h
    have h2 := crc_burst (s := 4294967295) (l := p) (m := turnAt p i t) (j := 8 * i) (d := t.toNat) (by simp) (by omega) (by have := t.toNat_lt; omega) (valN_turnAt_burst _ _ _ hi) (sumN_inj.1 h)
    exact UInt8.toNat_inj.1 h2
  · intro h
    rw [h, turnAt_zero]
end Go.Proofs.YtcgbamkfflcdfaaDoor
/- The reference's Num: a number in as few bytes as may be, seven bits each. Condition: it fits 64 bits. -/
namespace Go.Proofs.YtcgbamkfflcdfaaDoor
open Go.RowKit

/-- A number in as few bytes as may be, seven bits each. -/
def numF : Nat → Nat → List UInt8
  | 0, _ => []
  | f + 1, n => if n < 128 then [UInt8.ofNat n] else UInt8.ofNat (n % 128 + 128) :: numF f (n / 128)
def num (n : Nat) : List UInt8 := numF 10 n
theorem numF_length (f n : Nat) : (numF f n).length ≤ f := by
  induction f generalizing n with
  | zero => simp [numF]
  | succ f ih =>
    rw [numF]
    split
    · simp
    · simp only [List.length_cons]; have := ih (n / 128); omega
theorem numF_big (f n : Nat) (h : 128 ≤ n) : numF (f + 1) n = UInt8.ofNat (n % 128 + 128) :: numF f (n / 128) := by rw [numF, if_neg (by omega)]
theorem numF_small (f n : Nat) (h : n < 128) : numF (f + 1) n = [UInt8.ofNat n] := by rw [numF, if_pos h]

theorem Row.lit1 (w : World) (q : UInt8) (x : Int) (hx : x = (q.toNat : Int)) : Row (w.alloc (.cells #[.int .u8 x] 5)) w.heap.size (.slice (some ⟨w.heap.size, 0, none⟩) 1 1) [q] := by
  subst hx
  exact World.ownsRow_lit w #[.int .u8 (q.toNat : Int)] 1 (Nat.le_refl _) (by simp [maxLen]) rfl


end Go.Proofs.YtcgbamkfflcdfaaDoor
/- The pen's methods: what each call appends, and that only the pen's own memory turns; of a nil pen: nil, nothing. Condition: the sum of the lengths fits. -/
namespace Go.Proofs.YtcgbamkfflcdfaaDoor
open Go.RowKit

theorem Row.ne_blk {w : World} {B : Nat} {v : Value} {l : List UInt8} (h : Row w B v l) {g : Nat} {cs : Array Value} {t : TypeId} {fr : Nat × Nat} (hg : w.heap[g]? = some (.cells cs t fr)) (ht : t ≠ 5) : v.ownBlock ≠ some g := by
  intro hv
  rcases h.2 with ⟨rfl, _⟩ | ⟨g', cap, cur, rfl, _, hh, _⟩
  · simp [Value.ownBlock] at hv
  · have : g' = g := by simpa [Value.ownBlock] using hv
    subst this
    rw [hh] at hg
    injection hg with hg
    injection hg with _ h2 _
    exact ht h2.symm

/-- A pen in block g, its bytes l in the row r. -/
def PenAt (w : World) (g : Nat) (r : Option Nat) (l : List UInt8) : Prop :=
  ∃ v, w.heap[g]? = some (.cells #[v] 106 (0, 0)) ∧ Row w 0 v l ∧ v.ownBlock = r

/-- What a pen's write may turn: its block, its row; and where its row lies then. -/
def PenStep (g : Nat) (r r' : Option Nat) (w w' : World) : Prop :=
  (r' = r ∨ ∃ k, r' = some k ∧ w.heap.size ≤ k) ∧ Mod (fun i => i = g ∨ r = some i) w w'

theorem PenAt.lt {w : World} {g : Nat} {r : Option Nat} {l : List UInt8} (h : PenAt w g r l) : g < w.heap.size := by
  obtain ⟨v, hg, _⟩ := h
  exact (Array.getElem?_eq_some_iff.1 hg).1
theorem PenAt.mod {w w' : World} {g : Nat} {r : Option Nat} {l : List UInt8} (h : PenAt w g r l) {S : Nat → Prop} (hm : Mod S w w') (hg : ¬ S g) (hr : ∀ k, r = some k → ¬ S k) : PenAt w' g r l := by
  obtain ⟨v, h1, h2, h3⟩ := h
  exact ⟨v, by rw [hm.block g (Array.getElem?_eq_some_iff.1 h1).1 hg]; exact h1, h2.mod hm (fun k hk => hr k (h3 ▸ hk)), h3⟩
theorem PenAt.row_lt {w : World} {g : Nat} {r : Option Nat} {l : List UInt8} (h : PenAt w g r l) : ∀ k, r = some k → k < w.heap.size := by
  obtain ⟨v, _, h2, h3⟩ := h
  intro k hk
  exact (h2.lt k (h3.trans hk)).2
theorem PenAt.ext {w w' : World} {g : Nat} {r : Option Nat} {l : List UInt8} (h : PenAt w g r l) (hm : Below w.heap.size w w') : PenAt w' g r l :=
  h.mod (Mod.of_below hm) (by have := h.lt; omega) (fun k hk => by have := h.row_lt k hk; omega)
theorem PenAt.cast {w : World} {g : Nat} {r : Option Nat} {l l' : List UInt8} (h : PenAt w g r l) (e : l = l') : PenAt w g r l' := e ▸ h
theorem PenStep.refl (g : Nat) (r : Option Nat) (w : World) : PenStep g r r w w := ⟨.inl rfl, Mod.refl _ _⟩
theorem PenStep.trans {g : Nat} {r r1 r2 : Option Nat} {a b c : World} (h : PenStep g r r1 a b) (k : PenStep g r1 r2 b c) : PenStep g r r2 a c := by
  obtain ⟨h1, hm⟩ := h
  obtain ⟨k1, km⟩ := k
  refine ⟨?_, hm.trans km (fun i _ h => h) (fun i hi h => ?_)⟩
  · rcases k1 with rfl | ⟨q, rfl, hq⟩
    · exact h1
    · exact .inr ⟨q, rfl, Nat.le_trans hm.size hq⟩
  · rcases h with h | h
    · exact .inl h
    · rcases h1 with rfl | ⟨q, rfl, hq⟩
      · exact .inr h
      · injection h with h
        omega
theorem PenStep.below {g : Nat} {r r1 : Option Nat} {a b c : World} (h : Below a.heap.size a b) (k : PenStep g r r1 b c) : PenStep g r r1 a c :=
  ⟨k.1.imp id fun ⟨q, e, hq⟩ => ⟨q, e, Nat.le_trans h.size hq⟩, (Mod.of_below h).trans k.2 (fun i hi h => by omega) (fun i _ h => h)⟩
theorem PenStep.ext {g : Nat} {r r1 : Option Nat} {a b c : World} (h : PenStep g r r1 a b) (k : Below b.heap.size b c) : PenStep g r r1 a c :=
  ⟨h.1, h.2.trans (Mod.of_below k) (fun i _ h => h) (fun i hi hh => by have := h.2.size; omega)⟩

theorem pen_store {w : World} {g : Nat} {u v : Value} {l : List UInt8} {n : Nat} (hg : w.heap[g]? = some (.cells #[u] 106 (0, 0))) (hrow : w.ownsRow 0 5 1 v n (bv l)) : PenAt (w.setCell ⟨g, 0, none⟩ v) g v.ownBlock l := by
  have hn : n = l.length := by have := hrow.1; simpa using this.symm
  subst hn
  have hrow : Row w 0 v l := hrow
  exact ⟨v, by rw [heap_setCell_same w g 0 _ _ v hg]; rfl, hrow.mod (Mod.setCell w _ v) (fun k hk hkg => hrow.ne_blk hg (by decide) (by rw [hk, show k = g from hkg])), rfl⟩

set_option maxHeartbeats 400000 in
theorem add_calls (g : Nat) (r : Option Nat) (l : List UInt8) (A : Option Addr) (more : List UInt8) (n c b : Nat) (w : World) (hp : PenAt w g r l) (hs : Bs w b A more) (hn : more.length = n) (hlen : l.length + n ≤ 140737488355328) :
    Calls Tryd.prog 74 #[.pointer (some ⟨g, 0, none⟩), .slice A n c] w fun e w' => e = .returned (.pointer (some ⟨g, 0, none⟩)) ∧ ∃ r', PenAt w' g r' (l ++ more) ∧ PenStep g r r' w w' := by
  obtain ⟨v, hg, hrow, hr⟩ := hp
  have hc := cell_of_row w g 0 _ _ _ hg
  have hf := frozen_of_row w g 0 _ _ hg
  have hne := hrow.ne_blk hg (by decide)
  have hglt : g < w.heap.size := (Array.getElem?_eq_some_iff.1 hg).1
  simp only [List.getElem?_toArray, List.getElem?_cons_zero] at hc
  have HG := Lib.hid hg
  have HR := Lib.hid hr
  have HNE := Lib.hid hne
  clear hg hr hne
  go_enter Tryd.func74, Tryd.ntmps74
  go_wp2_with (at_builtin; refine wpList_app w rfl (.tmp 11) (.tmp 12) rfl 0 v l rfl hrow b A n c more rfl hs hn hlen (Nat.zero_le _) ?_; intro v' w1 hrow1 hmod hat; have hg1 := Lib.hid ((hmod.block g hglt HNE.out).trans HG.out); have hc1 : w1.cell? ⟨g, 0, none⟩ = some v := (cell_of_row w1 g 0 _ _ _ hg1.out).trans rfl; have hf1 := frozen_of_row w1 g 0 _ _ hg1.out; obtain ⟨A', c', b', hv', _⟩ := hrow1.sl; subst hv')
  go_ret
  have hmm : Mod (fun i => i = g ∨ r = some i) w w1 := hmod.mono fun i _ h => .inr (HR.out.symm.trans h)
  have el : (l ++ more).length = l.length + n := by simp [hn]
  rw [el] at hrow1 hat
  have hat' : (Value.slice A' (l.length + n) c').ownBlock = r ∨ ∃ k, (Value.slice A' (l.length + n) c').ownBlock = some k ∧ w.heap.size ≤ k := hat.imp (fun h => h.trans HR.out) (fun h => ⟨_, h, Nat.le_refl _⟩)
  exact ⟨rfl, _, pen_store hg1.out hrow1, hat', hmm.trans (Mod.setCell w1 _ _) (fun i _ h => h) (fun i _ h => .inl h)⟩

theorem add_nil (v : Value) (w : World) : Calls Tryd.prog 74 #[.pointer none, v] w fun e w' => e = .returned (.pointer none) ∧ w = w' := by
  go_enter Tryd.func74, Tryd.ntmps74
  go_wp2
  go_ret
  exact ⟨rfl, rfl⟩

/-- What each write's contract says. -/
def Wrote (g : Nat) (r : Option Nat) (l : List UInt8) (w : World) (e : Ending) (w' : World) : Prop :=
  e = .returned (.pointer (some ⟨g, 0, none⟩)) ∧ ∃ r', PenAt w' g r' l ∧ PenStep g r r' w w'

theorem low_one (n : Nat) : low n 1 = [UInt8.ofNat n] := by simp [low]
theorem bv_low_one (n : Nat) (h : n < 256) : bv (low n 1) = [.int .u8 (n : Int)] := by
  rw [low_one]
  simp only [bv, List.map_cons, List.map_nil, u8_ofNat]
  rw [Int.emod_eq_of_lt (by omega) (by omega)]
theorem bv_low_two (n : Nat) (h : n < 65536) : bv (low n 2) = [.int .u8 ((n : Int) % 256), .int .u8 ((n : Int) / 256)] := by
  simp only [low, List.range_succ, List.range_zero, List.nil_append, List.map_cons, List.map_nil, bv, u8_ofNat, List.cons_append]
  simp
  omega
theorem bv_low_four (n : Nat) (h : n < 4294967296) : bv (low n 4) = [.int .u8 ((n : Int) % 256), .int .u8 ((n : Int) / 256 % 256), .int .u8 ((n : Int) / 65536 % 256), .int .u8 ((n : Int) / 16777216)] := by
  simp only [low, List.range_succ, List.range_zero, List.nil_append, List.map_cons, List.map_nil, bv, u8_ofNat, List.cons_append]
  simp
  omega

set_option maxHeartbeats 400000 in
theorem PenByte_calls (g : Nat) (r : Option Nat) (l : List UInt8) (n : Nat) (w : World) (hp : PenAt w g r l) (hn : n < 256) (hlen : l.length + 1 ≤ 140737488355328) :
    Calls Tryd.prog 42 #[.pointer (some ⟨g, 0, none⟩), .int .u8 n] w (Wrote g r (l ++ low n 1) w) := by
  have hb := Lib.hid (bv_low_one n hn)
  go_enter Tryd.func42, Tryd.ntmps42
  go_wp2_with fail
  have hx : Below w.heap.size w (w.alloc (.cells #[.int .u8 (n : Int)] 5)) := (Below.refl _ _).alloc (Nat.le_refl _) _
  refine (add_calls g r l _ (low n 1) 1 1 w.heap.size _ (hp.ext hx) (by unfold Bs; rw [hb.out]; exact Sl.cells_new w _ _) (by simp) hlen).mono ?_
  rintro e w1 ⟨rfl, r', hp', hst⟩
  go_wp2
  go_ret
  exact ⟨rfl, r', hp', PenStep.below hx hst⟩

set_option maxHeartbeats 400000 in
theorem PenHalf_calls (g : Nat) (r : Option Nat) (l : List UInt8) (n : Nat) (w : World) (hp : PenAt w g r l) (hn : n < 65536) (hlen : l.length + 2 ≤ 140737488355328) :
    Calls Tryd.prog 43 #[.pointer (some ⟨g, 0, none⟩), .int .u16 n] w (Wrote g r (l ++ low n 2) w) := by
  have hb := Lib.hid (bv_low_two n hn)
  go_enter Tryd.func43, Tryd.ntmps43
  go_wp2_with fail
  have hx : Below w.heap.size w (w.alloc (.cells #[.int .u8 ((n : Int) % 256), .int .u8 ((n : Int) / 256)] 5)) := (Below.refl _ _).alloc (Nat.le_refl _) _
  refine (add_calls g r l _ (low n 2) 2 2 w.heap.size _ (hp.ext hx) (by unfold Bs; rw [hb.out]; exact Sl.cells_new w _ _) (by simp) hlen).mono ?_
  rintro e w1 ⟨rfl, r', hp', hst⟩
  go_wp2
  go_ret
  exact ⟨rfl, r', hp', PenStep.below hx hst⟩

set_option maxHeartbeats 400000 in
theorem PenWord_calls (g : Nat) (r : Option Nat) (l : List UInt8) (n : Nat) (w : World) (hp : PenAt w g r l) (hn : n < 4294967296) (hlen : l.length + 4 ≤ 140737488355328) :
    Calls Tryd.prog 44 #[.pointer (some ⟨g, 0, none⟩), .int .u32 n] w (Wrote g r (l ++ low n 4) w) := by
  have hb := Lib.hid (bv_low_four n hn)
  go_enter Tryd.func44, Tryd.ntmps44
  go_wp2_with fail
  have hx : Below w.heap.size w (w.alloc (.cells #[.int .u8 ((n : Int) % 256), .int .u8 ((n : Int) / 256 % 256), .int .u8 ((n : Int) / 65536 % 256), .int .u8 ((n : Int) / 16777216)] 5)) := (Below.refl _ _).alloc (Nat.le_refl _) _
  refine (add_calls g r l _ (low n 4) 4 4 w.heap.size _ (hp.ext hx) (by unfold Bs; rw [hb.out]; exact Sl.cells_new w _ _) (by simp) hlen).mono ?_
  rintro e w1 ⟨rfl, r', hp', hst⟩
  go_wp2
  go_ret
  exact ⟨rfl, r', hp', PenStep.below hx hst⟩

set_option maxRecDepth 20000 in
theorem or128 (m : Nat) : bits .or .u8 ((m : Int) % 256) 128 = ((UInt8.ofNat (m % 128 + 128)).toNat : Int) := by
  have h : ∀ x : Fin 256, x.val ||| 128 = x.val % 128 + 128 := by decide
  rw [u8_or _ _ (by omega) (by omega) (by omega) (by omega), u8_ofNat]
  have h2 := h ⟨m % 256, by omega⟩
  have e1 : ((m : Int) % 256).toNat = m % 256 := by omega
  have e2 : (128 : Int).toNat = 128 := rfl
  rw [e1, e2]
  simp only at h2
  rw [h2]
  omega

set_option maxHeartbeats 400000 in
set_option maxRecDepth 20000 in
theorem PenNum_calls (g : Nat) (r : Option Nat) (l : List UInt8) (n : Nat) (w : World) (hp : PenAt w g r l) (hn : n ≤ 18446744073709551615) (hlen : l.length + 10 ≤ 140737488355328) :
    Calls Tryd.prog 75 #[.pointer (some ⟨g, 0, none⟩), .int .u64 n] w (Wrote g r (l ++ num n) w) := by
  have HN := Lib.hid hn
  go_enter Tryd.func75, Tryd.ntmps75
  go_wp2_with fail
  go_loopw [1] (fun x wr => ∃ (m f : Nat) (r1 : Option Nat) (l1 : List UInt8), x = .int .u64 m ∧ m ≤ n ∧ f ≤ 9 ∧ Hid (m < 128 ^ (f + 1) ∧ l1 ++ numF (f + 1) m = l ++ num n ∧ l1.length + f + 1 = l.length + 10) ∧ PenAt wr g r1 l1 ∧ PenStep g r r1 w wr) (fun x _ => (intOf x).toNat)
  case atStart => exact ⟨n, 9, r, l, rfl, Nat.le_refl _, Nat.le_refl _, Lib.hid ⟨by have := HN.out; simp; omega, rfl, rfl⟩, hp, PenStep.refl _ _ _⟩
  case round =>
    obtain ⟨m, f, r1, l1, rfl, hmn, hf, H, hp1, hst⟩ := hrel
    clear hp
    by_cases hm : 128 ≤ m
    · have hor := or128 m
      go_wp2_with fail
      have hx : Below wr.heap.size wr (wr.alloc (.cells #[.int .u8 ((UInt8.ofNat (m % 128 + 128)).toNat : Int)] 5)) := (Below.refl _ _).alloc (Nat.le_refl _) _
      refine (add_calls g r1 l1 _ [UInt8.ofNat (m % 128 + 128)] 1 1 wr.heap.size _ (hp1.ext hx) (Sl.cells_new wr _ _) rfl (by have := H.out.2.2; omega)).mono ?_
      rintro e w1 ⟨rfl, r2, hp2, hst2⟩
      clear hor hp1
      obtain ⟨f', rfl⟩ : ∃ f', f = f' + 1 := ⟨f - 1, by
        rcases f with _ | f'
        · have := H.out.1; simp at this; omega
        · omega⟩
      go_wp2
      go_roundw
      case rel =>
        refine ⟨m / 128, f', r2, _, by go_num, by omega, by omega, Lib.hid ⟨?_, ?_, ?_⟩, hp2, hst.trans (PenStep.below hx hst2)⟩
        · have := H.out.1
          rw [Nat.pow_succ] at this
          exact Nat.div_lt_of_lt_mul (by rw [Nat.mul_comm]; exact this)
        · rw [← H.out.2.1, numF_big _ m hm]
          simp
        · have := H.out.2.2
          simp only [List.length_append, List.length_cons, List.length_nil]
          omega
      case measure => simp [intOf]; omega
    · have hm' : m < 128 := by omega
      have e2 := Lib.hid (u8_ofNat m)
      go_wp2_with fail
      have hx : Below wr.heap.size wr (wr.alloc (.cells #[.int .u8 (m : Int)] 5)) := (Below.refl _ _).alloc (Nat.le_refl _) _
      refine (add_calls g r1 l1 _ [UInt8.ofNat m] 1 1 wr.heap.size _ (hp1.ext hx) ?_ rfl (by have := H.out.2.2; omega)).mono ?_
      · have : bv [UInt8.ofNat m] = [.int .u8 (m : Int)] := by
          simp only [bv, List.map_cons, List.map_nil, e2.out]
          rw [Int.emod_eq_of_lt (by omega) (by omega)]
        unfold Bs
        rw [this]
        exact Sl.cells_new wr _ _
      rintro e w1 ⟨rfl, r2, hp2, hst2⟩
      go_wp2
      go_ret
      refine ⟨rfl, r2, hp2.cast ?_, hst.trans (PenStep.below hx hst2)⟩
      rw [← H.out.2.1, numF_small _ _ hm']

set_option maxHeartbeats 400000 in
theorem PenBlob_calls (g : Nat) (r : Option Nat) (l : List UInt8) (A : Option Addr) (bs : List UInt8) (n c b : Nat) (w : World) (hp : PenAt w g r l) (hs : Bs w b A bs) (hn : bs.length = n) (hfar : b ≠ g ∧ r ≠ some b) (hlen : l.length + 10 + n ≤ 140737488355328) :
    Calls Tryd.prog 46 #[.pointer (some ⟨g, 0, none⟩), .slice A n c] w (Wrote g r (l ++ (num bs.length ++ bs)) w) := by
  have HN := Lib.hid hn
  have HF := Lib.hid hfar
  clear hfar hn
  go_enter Tryd.func46, Tryd.ntmps46
  go_wp2_with fail
  refine (PenNum_calls g r l n _ hp (by omega) (by omega)).mono ?_
  rintro e w1 ⟨rfl, r1, hp1, hst⟩
  have hs1 : Bs w1 b A bs := Sl.mod hs hst.2 (fun h => h.elim HF.out.1 HF.out.2)
  have hl := numF_length 10 n
  go_wp2_with fail
  refine (add_calls g r1 _ A bs n c b _ hp1 hs1 HN.out (by simp only [List.length_append]; unfold num; omega)).mono ?_
  rintro e w2 ⟨rfl, r2, hp2, hst2⟩
  go_wp2
  go_ret
  exact ⟨rfl, r2, hp2.cast (by rw [HN.out, List.append_assoc]), hst.trans hst2⟩

set_option maxHeartbeats 400000 in
theorem PenBytes_calls (g : Nat) (r : Option Nat) (l : List UInt8) (w : World) (hp : PenAt w g r l) (hlen : l.length ≤ 140737488355328) :
    Calls Tryd.prog 49 #[.pointer (some ⟨g, 0, none⟩)] w fun e w' => ∃ v, e = .returned v ∧ Row w' w.heap.size v l ∧ Below w.heap.size w w' := by
  obtain ⟨v, hg, hrow, hr⟩ := hp
  obtain ⟨A, c, b, rfl, _, _, _, _, hs, _⟩ := hrow.sl
  have hc := cell_of_row w g 0 _ _ _ hg
  simp only [List.getElem?_toArray, List.getElem?_cons_zero] at hc
  clear hr hrow hg
  go_enter Tryd.func49, Tryd.ntmps49
  go_wp2_with (at_builtin; refine wpList_app w rfl (.const (.slice none 0 0)) (.tmp 8) rfl w.heap.size (.slice none 0 0) [] rfl (Row.nil_ _ _) b A l.length c l rfl hs rfl (by simp; omega) (Nat.le_refl _) ?_; intro v' w1 hrow1 hmod hat; obtain ⟨A', c', b', hv', _⟩ := hrow1.sl; subst hv')
  go_ret
  exact ⟨_, rfl, hrow1, hmod.below (Nat.le_refl _) (fun i _ h => by simp [Value.ownBlock] at h)⟩

/-! A nil pen. -/
theorem PenNil_Byte (n : Nat) (w : World) (_hn : n < 256) : Calls Tryd.prog 42 #[.pointer none, .int .u8 n] w fun e w' => e = .returned (.pointer none) ∧ Below w.heap.size w w' := by
  go_enter Tryd.func42, Tryd.ntmps42
  go_wp2_with (go_at_call 74; refine (add_nil _ _).mono ?_; rintro e w' ⟨rfl, rfl⟩)
  go_ret
  exact ⟨rfl, (Below.refl _ _).alloc (Nat.le_refl _) _⟩
theorem PenNil_Half (n : Nat) (w : World) (_hn : n < 65536) : Calls Tryd.prog 43 #[.pointer none, .int .u16 n] w fun e w' => e = .returned (.pointer none) ∧ Below w.heap.size w w' := by
  go_enter Tryd.func43, Tryd.ntmps43
  go_wp2_with (go_at_call 74; refine (add_nil _ _).mono ?_; rintro e w' ⟨rfl, rfl⟩)
  go_ret
  exact ⟨rfl, (Below.refl _ _).alloc (Nat.le_refl _) _⟩
theorem PenNil_Word (n : Nat) (w : World) (_hn : n < 4294967296) : Calls Tryd.prog 44 #[.pointer none, .int .u32 n] w fun e w' => e = .returned (.pointer none) ∧ Below w.heap.size w w' := by
  go_enter Tryd.func44, Tryd.ntmps44
  go_wp2_with (go_at_call 74; refine (add_nil _ _).mono ?_; rintro e w' ⟨rfl, rfl⟩)
  go_ret
  exact ⟨rfl, (Below.refl _ _).alloc (Nat.le_refl _) _⟩
set_option maxHeartbeats 400000 in
set_option maxRecDepth 20000 in
theorem PenNil_Num (n : Nat) (w : World) (_hn : n ≤ 18446744073709551615) : Calls Tryd.prog 75 #[.pointer none, .int .u64 n] w fun e w' => e = .returned (.pointer none) ∧ Below w.heap.size w w' := by
  go_enter Tryd.func75, Tryd.ntmps75
  go_wp2_with fail
  go_loopw [1] (fun x wr => ∃ m : Nat, x = .int .u64 m ∧ m ≤ n ∧ Below w.heap.size w wr) (fun x _ => (intOf x).toNat)
  case atStart => exact ⟨n, rfl, Nat.le_refl _, Below.refl _ _⟩
  case round =>
    obtain ⟨m, rfl, hmn, hb⟩ := hrel
    have hbs := hb.size
    by_cases hm : 128 ≤ m
    · have hor := or128 m
      go_wp2_with (go_at_call 74; refine (add_nil _ _).mono ?_; rintro e w' ⟨rfl, rfl⟩)
      go_roundw
      case rel => exact ⟨m / 128, by go_num, by omega, hb.alloc hbs _⟩
      case measure => simp [intOf]; omega
    · have hm' : m < 128 := by omega
      go_wp2_with (go_at_call 74; refine (add_nil _ _).mono ?_; rintro e w' ⟨rfl, rfl⟩)
      go_ret
      exact ⟨rfl, hb.alloc hbs _⟩
theorem PenNil_Blob (A : Option Addr) (n c : Nat) (w : World) (hn : n ≤ 9223372036854775807) : Calls Tryd.prog 46 #[.pointer none, .slice A n c] w fun e w' => e = .returned (.pointer none) ∧ Below w.heap.size w w' := by
  go_enter Tryd.func46, Tryd.ntmps46
  go_wp2_with fail
  refine (PenNil_Num n _ (by omega)).mono ?_
  rintro e w1 ⟨rfl, hb⟩
  go_wp2_with (go_at_call 74; refine (add_nil _ _).mono ?_; rintro e w' ⟨rfl, rfl⟩)
  go_ret
  exact ⟨rfl, hb⟩
theorem PenNil_Bytes (w : World) : Calls Tryd.prog 49 #[.pointer none] w fun e w' => e = .returned (.slice none 0 0) ∧ w = w' := by
  go_enter Tryd.func49, Tryd.ntmps49
  go_wp2
  go_ret
  exact ⟨rfl, rfl⟩
end Go.Proofs.YtcgbamkfflcdfaaDoor
/- The eye's methods: what each call reads off the front, and when it isn't right any more; only the eye's own block turns. -/
namespace Go.Proofs.YtcgbamkfflcdfaaDoor
open Go.RowKit

/-- An eye in block g: what is left is l, its bytes in block b; has it been wrong? -/
def EyeAt (w : World) (g b : Nat) (l : List UInt8) (wr : Bool) : Prop :=
  b ≠ g ∧ ∃ A c, w.heap[g]? = some (.cells #[.slice A l.length c, .bool wr] 164 (0, 0)) ∧ l.length ≤ c ∧ c ≤ maxLen ∧ Bs w b A l

theorem EyeAt.lt {w : World} {g b : Nat} {l : List UInt8} {wr : Bool} (h : EyeAt w g b l wr) : g < w.heap.size := by
  obtain ⟨_, A, c, hg, _⟩ := h
  exact (Array.getElem?_eq_some_iff.1 hg).1
theorem EyeAt.mod {w w' : World} {g b : Nat} {l : List UInt8} {wr : Bool} (h : EyeAt w g b l wr) {S : Nat → Prop} (hm : Mod S w w') (hg : ¬ S g) (hb : ¬ S b) : EyeAt w' g b l wr := by
  obtain ⟨hne, A, c, h1, h2, h3, h4⟩ := h
  exact ⟨hne, A, c, by rw [hm.block g (Array.getElem?_eq_some_iff.1 h1).1 hg]; exact h1, h2, h3, Sl.mod h4 hm hb⟩
theorem EyeAt.ext {w w' : World} {g b : Nat} {l : List UInt8} {wr : Bool} (h : EyeAt w g b l wr) (hm : Below w.heap.size w w') : EyeAt w' g b l wr := by
  have hlt := h.lt
  obtain ⟨hne, A, c, h1, h2, h3, h4⟩ := h
  exact ⟨hne, A, c, by rw [hm.block g hlt]; exact h1, h2, h3, Sl.ext h4 hm⟩

/-- A cell of two, written. -/
theorem eye_set0 {w : World} {g : Nat} {u v x : Value} (hg : w.heap[g]? = some (.cells #[u, v] 164 (0, 0))) : (w.setCell ⟨g, 0, none⟩ x).heap[g]? = some (.cells #[x, v] 164 (0, 0)) := by
  rw [heap_setCell_same w g 0 _ _ x hg]; rfl
theorem eye_set1 {w : World} {g : Nat} {u v x : Value} (hg : w.heap[g]? = some (.cells #[u, v] 164 (0, 0))) : (w.setCell ⟨g, 1, none⟩ x).heap[g]? = some (.cells #[u, x] 164 (0, 0)) := by
  rw [heap_setCell_same w g 1 _ _ x hg]; rfl

theorem eye_store {w : World} {g b : Nat} {u : Value} {wr : Bool} {A : Option Addr} {l : List UInt8} {n c : Nat} (hne : b ≠ g) (hg : w.heap[g]? = some (.cells #[u, .bool wr] 164 (0, 0))) (hs : Bs w b A l) (hn : l.length = n) (h1 : n ≤ c) (h2 : c ≤ maxLen) : EyeAt (w.setCell ⟨g, 0, none⟩ (.slice A n c)) g b l wr := by
  subst hn
  exact ⟨hne, A, c, eye_set0 hg, h1, h2, Sl.setCell hs hne _⟩

set_option maxHeartbeats 400000 in
theorem fail_calls (g b : Nat) (l : List UInt8) (wr : Bool) (w : World) (he : EyeAt w g b l wr) :
    Calls Tryd.prog 91 #[.pointer (some ⟨g, 0, none⟩)] w fun e w' => e = .returned (.tuple #[]) ∧ EyeAt w' g b [] true ∧ Mod (fun i => i = g) w w' := by
  obtain ⟨hne, A, c, hg, _, _, _⟩ := he
  have hc0 := cell_of_row w g 0 _ _ _ hg
  have hc1 := cell_of_row w g 1 _ _ _ hg
  have hf0 := frozen_of_row w g 0 _ _ hg
  have hf1 := frozen_of_row w g 1 _ _ hg
  simp only [List.getElem?_toArray, List.getElem?_cons_zero, List.getElem?_cons_succ] at hc0 hc1
  have HG := Lib.hid hg
  clear hg
  go_enter Tryd.func91, Tryd.ntmps91
  go_wp2
  go_end0
  refine ⟨rfl, ⟨hne, none, 0, eye_set1 (eye_set0 HG.out), Nat.le_refl _, by simp [maxLen], Sl.nil_ _ _ _⟩, ?_⟩
  exact (Mod.setCell w _ _).trans (Mod.setCell _ _ _) (fun i _ h => h) (fun i _ h => h)

set_option maxHeartbeats 400000 in
theorem take_no (g b : Nat) (l : List UInt8) (wr : Bool) (k : Int) (w : World) (he : EyeAt w g b l wr) (hk : (l.length : Int) < k) :
    Calls Tryd.prog 85 #[.pointer (some ⟨g, 0, none⟩), .int .i64 k] w fun e w' => e = .returned (.slice none 0 0) ∧ EyeAt w' g b [] true ∧ Mod (fun i => i = g) w w' := by
  have he0 := he
  obtain ⟨hne, A, c, hg, _, _, _⟩ := he
  have hc0 := cell_of_row w g 0 _ _ _ hg
  simp only [List.getElem?_toArray, List.getElem?_cons_zero] at hc0
  clear hg
  go_enter Tryd.func85, Tryd.ntmps85
  go_wp2_with (go_at_call 91; refine (fail_calls g b l wr _ he0).mono ?_; rintro e w1 ⟨rfl, h1, h2⟩)
  go_ret
  exact ⟨rfl, h1, h2⟩

set_option maxHeartbeats 400000 in
theorem take_yes (g b : Nat) (l : List UInt8) (wr : Bool) (k : Nat) (w : World) (he : EyeAt w g b l wr) (hk : k ≤ l.length) :
    Calls Tryd.prog 85 #[.pointer (some ⟨g, 0, none⟩), .int .i64 k] w fun e w' => ∃ A', e = .returned (.slice A' k k) ∧ Bs w' b A' (l.take k) ∧ EyeAt w' g b (l.drop k) wr ∧ Mod (fun i => i = g) w w' := by
  obtain ⟨hne, A, c, hg, hlc, hcm, hs⟩ := he
  unfold maxLen at hcm
  have hc0 := cell_of_row w g 0 _ _ _ hg
  have hf0 := frozen_of_row w g 0 _ _ hg
  simp only [List.getElem?_toArray, List.getElem?_cons_zero] at hc0
  have HG := Lib.hid hg
  clear hg
  go_enter Tryd.func85, Tryd.ntmps85
  go_wp2_with fail
  · go_ret
    have h : c = k := by assumption
    have hd := hs.drop (k := k) (by simpa using hlc)
    rw [bv_drop, if_pos h] at hd
    exact ⟨A, rfl, by have := Sl.take hs k; rw [bv_take] at this; exact Sl.setCell this hne _, eye_store hne HG.out hd (by simp) (by omega) (Nat.zero_le _), Mod.setCell w ⟨g, 0, none⟩ _⟩
  · go_ret
    have h : ¬ c = k := by assumption
    have hd := hs.drop (k := k) (by simpa using hlc)
    rw [bv_drop, if_neg h] at hd
    exact ⟨A, rfl, by have := Sl.take hs k; rw [bv_take] at this; exact Sl.setCell this hne _, eye_store hne HG.out hd (by simp) (by omega) (by unfold maxLen; omega), Mod.setCell w ⟨g, 0, none⟩ _⟩

theorem take_nil (k : Int) (w : World) : Calls Tryd.prog 85 #[.pointer none, .int .i64 k] w fun e w' => e = .returned (.slice none 0 0) ∧ w = w' := by
  have hf : Calls Tryd.prog 91 #[.pointer none] w fun e w' => e = .returned (.tuple #[]) ∧ w = w' := by
    go_enter Tryd.func91, Tryd.ntmps91
    go_wp2
    go_end0
    exact ⟨rfl, rfl⟩
  have HF := Lib.hid hf
  clear hf
  go_enter Tryd.func85, Tryd.ntmps85
  go_wp2_with (go_at_call 91; refine HF.out.mono ?_; rintro e w1 ⟨rfl, rfl⟩)
  go_ret
  exact ⟨rfl, rfl⟩

theorem valN_snoc (l : List UInt8) (x : UInt8) : valN (l ++ [x]) = valN l + 256 ^ l.length * x.toNat := by
  induction l with
  | nil => simp [valN]
  | cons y l ih => rw [List.cons_append, valN_cons, ih, valN_cons, List.length_cons, Nat.pow_succ, Nat.mul_add, Nat.mul_comm (256 ^ l.length) 256, Nat.mul_assoc]; omega
theorem valN_take_succ (l : List UInt8) (k : Nat) (h : k < l.length) : valN (l.take (k + 1)) = valN (l.take k) + 256 ^ k * l[k].toNat := by
  rw [List.take_succ_eq_append_getElem h, valN_snoc, List.length_take, Nat.min_eq_left (by omega)]

theorem or_add (m q i : Nat) (h : m < 2 ^ i) : m ||| (q * 2 ^ i) = m + q * 2 ^ i := by
  rw [Nat.or_comm, ← Nat.shiftLeft_eq, ← Nat.shiftLeft_add_eq_or_of_lt h, Nat.add_comm]
theorem u32_or_add (m q P i : Nat) (hP : P = 2 ^ i) (h : m < P) (hb : m + q * P < 4294967296) : bits .or .u32 (m : Int) ((q : Int) * (P : Int)) = ((m + q * P : Nat) : Int) := by
  have e : ((q : Int) * (P : Int)) = ((q * P : Nat) : Int) := by simp
  rw [e, u32_or_nat m (q * P) (by omega) (by omega)]
  subst hP
  rw [or_add _ _ _ h]

set_option maxHeartbeats 400000 in
theorem number_calls (A : Option Addr) (l : List UInt8) (n c b : Nat) (w : World) (hs : Bs w b A l) (hn : l.length = n) (h4 : n ≤ 4) :
    Calls Tryd.prog 84 #[.slice A n c] w fun e w' => e = .returned (.int .u32 (valN l : Nat)) ∧ w = w' := by
  have HN := Lib.hid hn
  clear hn
  go_enter Tryd.func84, Tryd.ntmps84
  go_wp2
  go_loop [3, 8] (fun x i => ∃ k m : Nat, k ≤ n ∧ i = .int .i64 k ∧ x = .int .u32 m ∧ Hid (m = valN (l.take k))) (fun _ i => n - (intOf i).toNat)
  case atStart => exact ⟨0, 0, Nat.zero_le _, rfl, rfl, Lib.hid rfl⟩
  case round =>
    obtain ⟨k, m, hk, rfl, rfl, hm⟩ := hrel
    by_cases hlt : k < n
    · have hkl : k < l.length := by rw [HN.out]; exact hlt
      obtain ⟨oa, rfl, hca⟩ := Bs.at_ hs hkl
      have ca := hca k hkl
      have hv := Lib.hid (valN_take_succ l k hkl)
      obtain ⟨q, hq⟩ : ∃ q, q = l[k] := ⟨_, rfl⟩
      rw [← hq] at ca
      have HQ := Lib.hid hq
      have hq8 := q.toNat_lt
      have hml := Lib.hid (valN_lt (l.take k))
      clear hca hq
      have hk4 : k = 0 ∨ k = 1 ∨ k = 2 ∨ k = 3 := by omega
      rcases hk4 with rfl | rfl | rfl | rfl
      · simp only [Nat.add_zero] at ca
        go_wp2
        have hb1 : m < 1 := by
          have h1 := hml.out
          rw [← hm.out] at h1
          refine Nat.lt_of_lt_of_le h1 (Nat.le_trans (Nat.pow_le_pow_right (by omega) (List.length_take_le 0 l)) (by decide))
        have e1 := u32_or_add m q.toNat 1 0 (by decide) hb1 (by omega)
        go_round
        case rel =>
          refine ⟨1, m + q.toNat * 1, by omega, rfl, by rw [← e1]; simp, Lib.hid ?_⟩
          rw [hv.out, ← hm.out, HQ.out]
          omega
        case measure => simp [intOf]; omega
      · go_wp2
        have hb1 : m < 256 := by
          have h1 := hml.out
          rw [← hm.out] at h1
          refine Nat.lt_of_lt_of_le h1 (Nat.le_trans (Nat.pow_le_pow_right (by omega) (List.length_take_le 1 l)) (by decide))
        have e1 := u32_or_add m q.toNat 256 8 (by decide) hb1 (by omega)
        go_round
        case rel =>
          refine ⟨2, m + q.toNat * 256, by omega, rfl, by rw [← e1]; rfl, Lib.hid ?_⟩
          rw [hv.out, ← hm.out, HQ.out]
          omega
        case measure => simp [intOf]; omega
      · go_wp2
        have hb1 : m < 65536 := by
          have h1 := hml.out
          rw [← hm.out] at h1
          refine Nat.lt_of_lt_of_le h1 (Nat.le_trans (Nat.pow_le_pow_right (by omega) (List.length_take_le 2 l)) (by decide))
        have e1 := u32_or_add m q.toNat 65536 16 (by decide) hb1 (by omega)
        go_round
        case rel =>
          refine ⟨3, m + q.toNat * 65536, by omega, rfl, by rw [← e1]; rfl, Lib.hid ?_⟩
          rw [hv.out, ← hm.out, HQ.out]
          omega
        case measure => simp [intOf]; omega
      · go_wp2
        have hb1 : m < 16777216 := by
          have h1 := hml.out
          rw [← hm.out] at h1
          refine Nat.lt_of_lt_of_le h1 (Nat.le_trans (Nat.pow_le_pow_right (by omega) (List.length_take_le 3 l)) (by decide))
        have e1 := u32_or_add m q.toNat 16777216 24 (by decide) hb1 (by omega)
        go_round
        case rel =>
          refine ⟨4, m + q.toNat * 16777216, by omega, rfl, by rw [← e1]; rfl, Lib.hid ?_⟩
          rw [hv.out, ← hm.out, HQ.out]
          omega
        case measure => simp [intOf]; omega
    · go_wp2
      go_ret
      rw [show k = n by omega, List.take_of_length_le (by rw [HN.out]; exact Nat.le_refl _)] at hm
      exact ⟨by rw [← hm.out]; rfl, rfl⟩

/-- What an eye's read of k fixed bytes says. -/
def ReadN (g b k : Nat) (l : List UInt8) (wr : Bool) (K : IntKind) (w : World) (e : Ending) (w' : World) : Prop :=
  (k ≤ l.length → e = .returned (.int K (valN (l.take k) : Nat)) ∧ EyeAt w' g b (l.drop k) wr ∧ Mod (fun i => i = g) w w') ∧
  (l.length < k → e = .returned (.int K 0) ∧ EyeAt w' g b [] true ∧ Mod (fun i => i = g) w w')

set_option maxHeartbeats 400000 in
theorem EyeByte_calls (g b : Nat) (l : List UInt8) (wr : Bool) (w : World) (he : EyeAt w g b l wr) :
    Calls Tryd.prog 60 #[.pointer (some ⟨g, 0, none⟩)] w (ReadN g b 1 l wr .u8 w) := by
  by_cases hk : 1 ≤ l.length
  · have hv := valN_lt (l.take 1)
    rw [List.length_take, Nat.min_eq_left hk] at hv
    go_enter Tryd.func60, Tryd.ntmps60
    go_wp2_with fail
    refine (take_yes g b l wr 1 _ he hk).mono ?_
    rintro e w1 ⟨A', rfl, hs, he1, hm⟩
    go_wp2_with fail
    refine (number_calls A' (l.take 1) 1 1 b _ hs (by simp; omega) (by omega)).mono ?_
    rintro e w2 ⟨rfl, rfl⟩
    go_wp2
    go_ret
    exact ⟨fun _ => ⟨rfl, he1, hm⟩, fun h => by omega⟩
  · go_enter Tryd.func60, Tryd.ntmps60
    go_wp2_with fail
    refine (take_no g b l wr 1 _ he (by omega)).mono ?_
    rintro e w1 ⟨rfl, he1, hm⟩
    go_wp2_with fail
    refine (number_calls none [] 0 0 b _ (Sl.nil_ _ _ _) rfl (by omega)).mono ?_
    rintro e w2 ⟨rfl, rfl⟩
    go_wp2
    go_ret
    exact ⟨fun h => by omega, fun _ => ⟨rfl, he1, hm⟩⟩

set_option maxHeartbeats 400000 in
theorem EyeHalf_calls (g b : Nat) (l : List UInt8) (wr : Bool) (w : World) (he : EyeAt w g b l wr) :
    Calls Tryd.prog 61 #[.pointer (some ⟨g, 0, none⟩)] w (ReadN g b 2 l wr .u16 w) := by
  by_cases hk : 2 ≤ l.length
  · have hv := valN_lt (l.take 2)
    rw [List.length_take, Nat.min_eq_left hk] at hv
    go_enter Tryd.func61, Tryd.ntmps61
    go_wp2_with fail
    refine (take_yes g b l wr 2 _ he hk).mono ?_
    rintro e w1 ⟨A', rfl, hs, he1, hm⟩
    go_wp2_with fail
    refine (number_calls A' (l.take 2) 2 2 b _ hs (by simp; omega) (by omega)).mono ?_
    rintro e w2 ⟨rfl, rfl⟩
    go_wp2
    go_ret
    exact ⟨fun _ => ⟨rfl, he1, hm⟩, fun h => by omega⟩
  · go_enter Tryd.func61, Tryd.ntmps61
    go_wp2_with fail
    refine (take_no g b l wr 2 _ he (by omega)).mono ?_
    rintro e w1 ⟨rfl, he1, hm⟩
    go_wp2_with fail
    refine (number_calls none [] 0 0 b _ (Sl.nil_ _ _ _) rfl (by omega)).mono ?_
    rintro e w2 ⟨rfl, rfl⟩
    go_wp2
    go_ret
    exact ⟨fun h => by omega, fun _ => ⟨rfl, he1, hm⟩⟩

set_option maxHeartbeats 400000 in
theorem EyeWord_calls (g b : Nat) (l : List UInt8) (wr : Bool) (w : World) (he : EyeAt w g b l wr) :
    Calls Tryd.prog 62 #[.pointer (some ⟨g, 0, none⟩)] w (ReadN g b 4 l wr .u32 w) := by
  by_cases hk : 4 ≤ l.length
  · go_enter Tryd.func62, Tryd.ntmps62
    go_wp2_with fail
    refine (take_yes g b l wr 4 _ he hk).mono ?_
    rintro e w1 ⟨A', rfl, hs, he1, hm⟩
    go_wp2_with fail
    refine (number_calls A' (l.take 4) 4 4 b _ hs (by simp; omega) (by omega)).mono ?_
    rintro e w2 ⟨rfl, rfl⟩
    go_wp2
    go_ret
    exact ⟨fun _ => ⟨rfl, he1, hm⟩, fun h => by omega⟩
  · go_enter Tryd.func62, Tryd.ntmps62
    go_wp2_with fail
    refine (take_no g b l wr 4 _ he (by omega)).mono ?_
    rintro e w1 ⟨rfl, he1, hm⟩
    go_wp2_with fail
    refine (number_calls none [] 0 0 b _ (Sl.nil_ _ _ _) rfl (by omega)).mono ?_
    rintro e w2 ⟨rfl, rfl⟩
    go_wp2
    go_ret
    exact ⟨fun h => by omega, fun _ => ⟨rfl, he1, hm⟩⟩
end Go.Proofs.YtcgbamkfflcdfaaDoor
/- The eye's Num and Blob; Left, Done, Read; a nil eye. -/
namespace Go.Proofs.YtcgbamkfflcdfaaDoor
open Go.RowKit

/-- A number off the front: its value, how many bytes; the byte at its head is number i of it. -/
def rd : Nat → List UInt8 → Option (Nat × Nat)
  | _, [] => none
  | i, x :: l =>
    if x.toNat < 128 then (if (0 < i ∧ x.toNat = 0) ∨ (i = 9 ∧ 1 < x.toNat) then none else some (x.toNat, 1))
    else if i = 9 then none else (rd (i + 1) l).map fun y => (x.toNat % 128 + 128 * y.1, y.2 + 1)

theorem u64_or_add (m q P i : Nat) (hP : P = 2 ^ i) (h : m < P) (hb : m + q * P < 18446744073709551616) : bits .or .u64 (m : Int) ((q : Int) * (P : Int)) = ((m + q * P : Nat) : Int) := by
  have e : ((q : Int) * (P : Int)) = ((q * P : Nat) : Int) := by simp
  rw [e, u64_or_nat m (q * P) (by omega) (by omega)]
  subst hP
  rw [or_add _ _ _ h]
set_option maxRecDepth 20000 in
theorem and127 (q : Nat) (hq : q < 256) : bits .and .u8 (q : Int) 127 = ((q % 128 : Nat) : Int) := by
  have h : ∀ x : Fin 256, x.val &&& 127 = x.val % 128 := by decide
  have e : (127 : Int) = ((127 : Nat) : Int) := rfl
  rw [e, u8_and_nat q 127 hq (by omega)]
  have := h ⟨q, hq⟩
  simp only at this
  rw [this]

/-- One byte more of a number. -/
theorem num_or (p q k : Nat) (hq : q < 256) (hp : p < 128 ^ k) (hb : p + 128 ^ k * (q % 128) < 18446744073709551616) :
    bits .or .u64 (p : Int) (IntKind.u64.wrap (IntKind.u64.wrap (bits .and .u8 (q : Int) 127) * 2 ^ (7 * k))) = ((p + 128 ^ k * (q % 128) : Nat) : Int) := by
  have hk : (128 : Nat) ^ k = 2 ^ (7 * k) := by rw [Nat.pow_mul]
  have hpw : (2 : Int) ^ (7 * k) = ((128 ^ k : Nat) : Int) := by rw [hk]; simp
  have e1 : IntKind.u64.wrap ((q % 128 : Nat) : Int) = ((q % 128 : Nat) : Int) := IntWalk.u64_in _ (by omega)
  have e : (((q % 128 : Nat) : Int) * ((128 ^ k : Nat) : Int)) = ((128 ^ k * (q % 128) : Nat) : Int) := by rw [Nat.mul_comm (128 ^ k)]; simp
  have e2 : IntKind.u64.wrap (((q % 128 : Nat) : Int) * ((128 ^ k : Nat) : Int)) = ((q % 128 : Nat) : Int) * ((128 ^ k : Nat) : Int) := IntWalk.u64_in _ (by rw [e]; omega)
  rw [and127 q hq, e1, hpw, e2, u64_or_add p (q % 128) (128 ^ k) (7 * k) hk hp (by rw [Nat.mul_comm]; exact hb), Nat.mul_comm (128 ^ k)]
theorem pow128_le (k : Nat) (hk : k < 9) : 128 ^ k * 128 ≤ 9223372036854775808 := by
  rw [← Nat.pow_succ]
  exact Nat.le_trans (Nat.pow_le_pow_right (by omega) (show k + 1 ≤ 9 by omega)) (by decide)

/-- What reading a number says. -/
def ReadNum (g b : Nat) (l : List UInt8) (bad : Bool) (most : Nat) (w : World) (e : Ending) (w' : World) : Prop :=
  (∀ v k, rd 0 l = some (v, k) → v ≤ most → e = .returned (.int .u64 (v : Nat)) ∧ EyeAt w' g b (l.drop k) bad) ∧
  ((∀ v k, rd 0 l = some (v, k) → ¬ v ≤ most) → e = .returned (.int .u64 0) ∧ EyeAt w' g b [] true) ∧ Mod (fun i => i = g) w w'

/-- Where the reading stands behind k bytes, of value p. -/
def At (l : List UInt8) (k p : Nat) : Prop := p < 128 ^ k ∧ rd 0 l = (rd k (l.drop k)).map fun y => (p + 128 ^ k * y.1, k + y.2)

theorem At.zero (l : List UInt8) : At l 0 0 := ⟨by simp, by simp⟩
theorem At.end_ {l : List UInt8} {k p : Nat} (h : At l k p) (hk : l.length ≤ k) : rd 0 l = none := by
  rw [h.2, List.drop_eq_nil_of_le hk]; rfl
theorem At.here {l : List UInt8} {k p : Nat} (h : At l k p) (hk : k < l.length) : rd 0 l = (rd k (l[k] :: l.drop (k + 1))).map fun y => (p + 128 ^ k * y.1, k + y.2) := by
  rw [h.2, List.drop_eq_getElem_cons hk]
theorem At.big9 {l : List UInt8} {k p : Nat} (h9 : k = 9) (h : At l k p) (hk : k < l.length) (hq : 1 < l[k].toNat) : rd 0 l = none := by
  subst h9
  rw [h.here hk, rd]
  split
  · rw [if_pos (.inr ⟨rfl, hq⟩)]; rfl
  · rfl
theorem At.zero_last {l : List UInt8} {k p : Nat} (h : At l k p) (hk : k < l.length) (h0 : 0 < k) (hq : l[k].toNat = 0) : rd 0 l = none := by
  rw [h.here hk, rd, if_pos (by omega), if_pos (.inl ⟨h0, hq⟩)]; rfl
theorem At.last {l : List UInt8} {k p : Nat} (h : At l k p) (hk : k < l.length) (hq : l[k].toNat < 128) (h0 : ¬ (0 < k ∧ l[k].toNat = 0)) (h9 : ¬ (k = 9 ∧ 1 < l[k].toNat)) : rd 0 l = some (p + 128 ^ k * l[k].toNat, k + 1) := by
  rw [h.here hk, rd, if_pos hq, if_neg (by rintro (h | h); exact h0 h; exact h9 h)]; rfl
theorem At.next {l : List UInt8} {k p : Nat} (h : At l k p) (hk : k < l.length) (hq : 128 ≤ l[k].toNat) (h9 : k ≠ 9) : At l (k + 1) (p + 128 ^ k * (l[k].toNat % 128)) := by
  refine ⟨?_, ?_⟩
  · have h1 := h.1
    have h2 : l[k].toNat % 128 + 1 ≤ 128 := by omega
    have h3 := Nat.mul_le_mul_left (128 ^ k) h2
    rw [Nat.pow_succ]
    rw [Nat.mul_add] at h3
    omega
  · rw [h.here hk, rd, if_neg (by omega), if_neg h9, Option.map_map]
    congr 1
    funext y
    simp only [Function.comp, Nat.pow_succ, Prod.mk.injEq]
    refine ⟨?_, by omega⟩
    rw [Nat.mul_add, Nat.mul_assoc]
    omega

theorem ReadNum.none_ {g b : Nat} {l : List UInt8} {bad : Bool} {most : Nat} {w w' : World} (h : rd 0 l = none) (he : EyeAt w' g b [] true) (hm : Mod (fun i => i = g) w w') : ReadNum g b l bad most w (.returned (.int .u64 0)) w' :=
  ⟨fun v k hv => (by rw [h] at hv; cases hv), fun _ => ⟨rfl, he⟩, hm⟩
theorem ReadNum.much {g b : Nat} {l : List UInt8} {bad : Bool} {most v k : Nat} {w w' : World} (h : rd 0 l = some (v, k)) (hv : most < v) (he : EyeAt w' g b [] true) (hm : Mod (fun i => i = g) w w') : ReadNum g b l bad most w (.returned (.int .u64 0)) w' :=
  ⟨fun v' k' hv' hle => by rw [h] at hv'; injection hv' with hv'; injection hv' with h1 h2; omega, fun _ => ⟨rfl, he⟩, hm⟩
theorem ReadNum.ok {g b : Nat} {l : List UInt8} {bad : Bool} {most v k : Nat} {w w' : World} (h : rd 0 l = some (v, k)) (hv : v ≤ most) (he : EyeAt w' g b (l.drop k) bad) (hm : Mod (fun i => i = g) w w') : ReadNum g b l bad most w (.returned (.int .u64 (v : Nat))) w' := by
  refine ⟨fun v' k' hv' _ => ?_, fun hn => absurd hv (hn v k h), hm⟩
  rw [h] at hv'
  injection hv' with hv'
  injection hv' with h1 h2
  subst h1
  subst h2
  exact ⟨rfl, he⟩
theorem EyeAt.castl {w : World} {g b : Nat} {l l' : List UInt8} {bad : Bool} (h : EyeAt w g b l bad) (e : l = l') : EyeAt w g b l' bad := e ▸ h
theorem Mod.step {g : Nat} {a b c : World} (h : Mod (fun i => i = g) a b) (k : Mod (fun i => i = g) b c) : Mod (fun i => i = g) a c := h.trans k (fun _ _ h => h) (fun _ _ h => h)

set_option maxHeartbeats 1000000 in
set_option maxRecDepth 20000 in
theorem EyeNum_calls (g b : Nat) (l : List UInt8) (bad : Bool) (most : Nat) (w : World) (he : EyeAt w g b l bad) (hm : most ≤ 18446744073709551615) :
    Calls Tryd.prog 86 #[.pointer (some ⟨g, 0, none⟩), .int .u64 most] w (ReadNum g b l bad most w) := by
  have HM := Lib.hid hm
  clear hm
  go_enter Tryd.func86, Tryd.ntmps86
  go_wp2_with fail
  go_loopw [5, 8] (fun x i wr => ∃ k p : Nat, k ≤ 9 ∧ k ≤ l.length ∧ i = .int .i64 k ∧ x = .int .u64 p ∧ Hid (At l k p) ∧ EyeAt wr g b (l.drop k) bad ∧ Mod (fun i => i = g) w wr) (fun _ i _ => 10 - (intOf i).toNat)
  case atStart => exact ⟨0, 0, by omega, by omega, rfl, rfl, Lib.hid (At.zero l), he, Mod.refl _ _⟩
  case round =>
    obtain ⟨k, p, hk, hkl, rfl, rfl, hp, he1, hmod⟩ := hrel
    clear he
    by_cases hlt : k < l.length
    · have hx : valN ((l.drop k).take 1) = l[k].toNat := by
        rw [List.drop_eq_getElem_cons hlt, List.take_succ_cons, List.take_zero, valN_cons]
        simp [valN]
      have HX := Lib.hid hx
      clear hx
      obtain ⟨q, hq⟩ : ∃ q, q = l[k] := ⟨_, rfl⟩
      have HQ := Lib.hid hq
      clear hq
      have hq8 := q.toNat_lt
      have hdr : l.drop (k + 1) = (l.drop k).drop 1 := by simp
      have HD := Lib.hid hdr
      clear hdr
      rcases Nat.lt_or_ge k 9 with h9 | h9
      · have h9' : ((k : Int) == 9) = false := by simp; omega
        have hor := num_or p q.toNat k hq8 hp.out.1 (by have h1 := hp.out.1; have h2 := pow128_le k h9; have h3 : 128 ^ k * (q.toNat % 128) ≤ 128 ^ k * 127 := Nat.mul_le_mul_left _ (by omega); omega)
        obtain ⟨p', hp'⟩ : ∃ p', p' = p + 128 ^ k * (q.toNat % 128) := ⟨_, rfl⟩
        rw [← hp'] at hor
        have HP := Lib.hid hp'
        clear hp'
        by_cases hge : 128 ≤ q.toNat
        · go_wp2_with fail
          refine (EyeByte_calls g b _ bad _ he1).mono ?_
          rintro e w1 ⟨hy, _⟩
          obtain ⟨rfl, he2, hm2⟩ := hy (by simp; omega)
          rw [HX.out, ← HQ.out]
          clear hy he1
          go_wp2_with fail
          go_roundw
          case rel => exact ⟨k + 1, p', by omega, by omega, by go_num, rfl, Lib.hid (by rw [HP.out, HQ.out]; exact hp.out.next hlt (by rw [← HQ.out]; exact hge) (by omega)), he2.castl HD.out.symm, hmod.step hm2⟩
          case measure => simp [intOf]; omega
        · have hq7 : q.toNat < 128 := by omega
          by_cases hz : 0 < k ∧ q.toNat = 0
          · have hr : rd 0 l = none := hp.out.zero_last hlt hz.1 (by rw [← HQ.out]; exact hz.2)
            have HR := Lib.hid hr
            clear hr
            have hk0 : (0 : Int) < (k : Int) := by omega
            have hq0 : ((q.toNat : Int) == 0) = true := by simp [hz.2]
            have hz1 := hz.1
            have hz2 : q.toNat ≤ 0 := by omega
            clear hz
            by_cases hmo : most < p'
            all_goals
              go_wp2_with fail
              refine (EyeByte_calls g b _ bad _ he1).mono ?_
              rintro e w1 ⟨hy, _⟩
              obtain ⟨rfl, he2, hm2⟩ := hy (by simp; omega)
              rw [HX.out, ← HQ.out]
              clear hy he1
              go_wp2_with fail
              refine (fail_calls g b _ _ _ he2).mono ?_
              rintro e w2 ⟨rfl, he3, hm3⟩
              go_wp2_with fail
              go_ret
              exact ReadNum.none_ HR.out he3 ((hmod.step hm2).step hm3)
          · have hr := hp.out.last hlt (by rw [← HQ.out]; exact hq7) (by rw [← HQ.out]; exact hz) (by omega)
            rw [← HQ.out, show 128 ^ k * q.toNat = 128 ^ k * (q.toNat % 128) by rw [Nat.mod_eq_of_lt hq7], ← HP.out] at hr
            have HR := Lib.hid hr
            clear hr
            have hzz : ¬ (0 : Int) < (k : Int) ∨ ((q.toNat : Int) == 0) = false := by
              rcases Nat.eq_zero_or_pos k with h | h
              · exact .inl (by omega)
              · refine .inr ?_
                simp only [beq_eq_false_iff_ne, ne_eq]
                omega
            clear hz
            by_cases hmo : most < p'
            · go_wp2_with fail
              refine (EyeByte_calls g b _ bad _ he1).mono ?_
              rintro e w1 ⟨hy, _⟩
              obtain ⟨rfl, he2, hm2⟩ := hy (by simp; omega)
              rw [HX.out, ← HQ.out]
              clear hy he1 hzz
              go_wp2_with fail
              refine (fail_calls g b _ _ _ he2).mono ?_
              rintro e w2 ⟨rfl, he3, hm3⟩
              go_wp2_with fail
              go_ret
              exact ReadNum.much HR.out hmo he3 ((hmod.step hm2).step hm3)
            · rcases hzz with hzz | hzz
              all_goals
                go_wp2_with fail
                refine (EyeByte_calls g b _ bad _ he1).mono ?_
                rintro e w1 ⟨hy, _⟩
                obtain ⟨rfl, he2, hm2⟩ := hy (by simp; omega)
                rw [HX.out, ← HQ.out]
                clear hy he1
                go_wp2_with fail
                all_goals
                  go_ret
                  exact ReadNum.ok HR.out (by omega) (he2.castl HD.out.symm) (hmod.step hm2)
      · have hk9 : k = 9 := by omega
        have HK := Lib.hid hk9
        clear hk9
        have h9' : ((k : Int) == 9) = true := by simp [HK.out]
        rcases Nat.lt_or_ge 1 q.toNat with hbig | hsm
        · have hr := At.big9 HK.out hp.out hlt (by rw [← HQ.out]; exact hbig)
          have HR := Lib.hid hr
          clear hr
          go_wp2_with fail
          refine (EyeByte_calls g b _ bad _ he1).mono ?_
          rintro e w1 ⟨hy, _⟩
          obtain ⟨rfl, he2, hm2⟩ := hy (by simp; omega)
          rw [HX.out, ← HQ.out]
          clear hy he1
          go_wp2_with fail
          refine (fail_calls g b _ _ _ he2).mono ?_
          rintro e w2 ⟨rfl, he3, hm3⟩
          go_wp2_with fail
          go_ret
          exact ReadNum.none_ HR.out he3 ((hmod.step hm2).step hm3)
        · have hor := num_or p q.toNat k hq8 hp.out.1 (by
            have h1 := hp.out.1
            have h2 : (128 : Nat) ^ 9 = 9223372036854775808 := by decide
            rw [HK.out, h2] at h1
            rw [HK.out, h2]
            omega)
          obtain ⟨p', hp'⟩ : ∃ p', p' = p + 128 ^ k * (q.toNat % 128) := ⟨_, rfl⟩
          rw [← hp'] at hor
          have HP := Lib.hid hp'
          clear hp'
          rcases Nat.eq_zero_or_pos q.toNat with h0 | h0
          · have hr : rd 0 l = none := hp.out.zero_last hlt (by omega) (by rw [← HQ.out]; exact h0)
            have HR := Lib.hid hr
            have hq0 : ((q.toNat : Int) == 0) = true := by simp [h0]
            have h0' : q.toNat ≤ 0 := by omega
            clear hr h0
            by_cases hmo : most < p'
            all_goals
              go_wp2_with fail
              refine (EyeByte_calls g b _ bad _ he1).mono ?_
              rintro e w1 ⟨hy, _⟩
              obtain ⟨rfl, he2, hm2⟩ := hy (by simp; omega)
              rw [HX.out, ← HQ.out]
              clear hy he1
              go_wp2_with fail
              refine (fail_calls g b _ _ _ he2).mono ?_
              rintro e w2 ⟨rfl, he3, hm3⟩
              go_wp2_with fail
              go_ret
              exact ReadNum.none_ HR.out he3 ((hmod.step hm2).step hm3)
          · have hr := hp.out.last hlt (by rw [← HQ.out]; omega) (by rw [← HQ.out]; omega) (by rw [← HQ.out]; omega)
            rw [← HQ.out, show 128 ^ k * q.toNat = 128 ^ k * (q.toNat % 128) by rw [Nat.mod_eq_of_lt (by omega)], ← HP.out] at hr
            have HR := Lib.hid hr
            have hq0 : ((q.toNat : Int) == 0) = false := by simp only [beq_eq_false_iff_ne, ne_eq]; omega
            clear hr
            by_cases hmo : most < p'
            · go_wp2_with fail
              refine (EyeByte_calls g b _ bad _ he1).mono ?_
              rintro e w1 ⟨hy, _⟩
              obtain ⟨rfl, he2, hm2⟩ := hy (by simp; omega)
              rw [HX.out, ← HQ.out]
              clear hy he1
              go_wp2_with fail
              refine (fail_calls g b _ _ _ he2).mono ?_
              rintro e w2 ⟨rfl, he3, hm3⟩
              go_wp2_with fail
              go_ret
              exact ReadNum.much HR.out hmo he3 ((hmod.step hm2).step hm3)
            · go_wp2_with fail
              refine (EyeByte_calls g b _ bad _ he1).mono ?_
              rintro e w1 ⟨hy, _⟩
              obtain ⟨rfl, he2, hm2⟩ := hy (by simp; omega)
              rw [HX.out, ← HQ.out]
              clear hy he1
              go_wp2_with fail
              go_ret
              exact ReadNum.ok HR.out (by omega) (he2.castl HD.out.symm) (hmod.step hm2)
    · have hr := hp.out.end_ (by omega)
      have HR := Lib.hid hr
      clear hr
      have hn0 : (l.drop k).length < 1 := by simp; omega
      have hor := num_or p 0 k (by omega) hp.out.1 (by
        have h1 := hp.out.1
        have h2 : (128 : Nat) ^ k ≤ 128 ^ 9 := Nat.pow_le_pow_right (by omega) hk
        have h3 : (128 : Nat) ^ 9 = 9223372036854775808 := by decide
        omega)
      simp only [Nat.zero_mod, Nat.mul_zero, Nat.add_zero, Int.natCast_zero] at hor
      rcases Nat.eq_zero_or_pos k with hk0 | hk0
      · have hp0 : p = 0 := by have := hp.out.1; rw [hk0] at this; simp at this; exact this
        have HP := Lib.hid hp0
        have hk0' : ¬ (0 : Int) < (k : Int) := by omega
        have h9' : ((k : Int) == 9) = false := by simp; omega
        have hmo : ¬ most < p := by omega
        clear hp0 hk0
        go_wp2_with fail
        refine (EyeByte_calls g b _ bad _ he1).mono ?_
        rintro e w1 ⟨_, hy⟩
        obtain ⟨rfl, he2, hm2⟩ := hy hn0
        clear hy he1
        go_wp2_with fail
        go_ret
        have hz := HP.out
        rw [hz]
        exact ReadNum.none_ HR.out he2 (hmod.step hm2)
      · have hk0' : (0 : Int) < (k : Int) := by omega
        have h9' : ((k : Int) == 9) = false ∨ ((k : Int) == 9) = true := by cases ((k : Int) == 9) <;> simp
        rcases h9' with h9' | h9'
        all_goals
          by_cases hmo : most < p
          all_goals
            go_wp2_with fail
            refine (EyeByte_calls g b _ bad _ he1).mono ?_
            rintro e w1 ⟨_, hy⟩
            obtain ⟨rfl, he2, hm2⟩ := hy hn0
            clear hy he1
            go_wp2_with fail
            refine (fail_calls g b _ _ _ he2).mono ?_
            rintro e w2 ⟨rfl, he3, hm3⟩
            go_wp2_with fail
            go_ret
            exact ReadNum.none_ HR.out he3 ((hmod.step hm2).step hm3)

/-- A blob off the front: itself; none: there is none. -/
def rdBlob (l : List UInt8) (most : Nat) : Option (List UInt8 × List UInt8) :=
  match rd 0 l with
  | some (v, k) => if v ≤ most ∧ v ≤ (l.drop k).length then some ((l.drop k).take v, (l.drop k).drop v) else none
  | none => none

/-- What reading a blob says. -/
def ReadBlob (g b : Nat) (l : List UInt8) (bad : Bool) (most : Nat) (w : World) (e : Ending) (w' : World) : Prop :=
  Mod (fun i => i = g) w w' ∧
  (∀ x r, rdBlob l most = some (x, r) → ∃ A, e = .returned (.slice A x.length x.length) ∧ Bs w' b A x ∧ EyeAt w' g b r bad) ∧
  (rdBlob l most = none → ∃ A, e = .returned (.slice A 0 0) ∧ EyeAt w' g b [] true)

set_option maxHeartbeats 400000 in
theorem EyeBlob_calls (g b : Nat) (l : List UInt8) (bad : Bool) (most : Nat) (w : World) (he : EyeAt w g b l bad) (hm : most ≤ 9223372036854775807) :
    Calls Tryd.prog 63 #[.pointer (some ⟨g, 0, none⟩), .int .i64 most] w (ReadBlob g b l bad most w) := by
  go_enter Tryd.func63, Tryd.ntmps63
  go_wp2_with fail
  refine (EyeNum_calls g b l bad most _ he (by omega)).mono ?_
  rintro e w1 ⟨hy, hn, hm1⟩
  by_cases hr : ∃ v k, rd 0 l = some (v, k) ∧ v ≤ most
  · obtain ⟨v, k, hr, hv⟩ := hr
    obtain ⟨rfl, he1⟩ := hy v k hr hv
    have HR := Lib.hid hr
    clear hr hy hn he
    by_cases hfit : v ≤ (l.drop k).length
    · have HF := Lib.hid hfit
      clear hfit
      go_wp2_with fail
      refine (take_yes g b _ bad v _ he1 HF.out).mono ?_
      rintro e w2 ⟨A', rfl, hs, he2, hm2⟩
      go_wp2_with fail
      go_ret
      have e1 : rdBlob l most = some ((l.drop k).take v, (l.drop k).drop v) := by
        unfold rdBlob
        rw [HR.out]
        simp only
        rw [if_pos ⟨hv, HF.out⟩]
      refine ⟨hm1.step hm2, fun x r hx => ?_, fun hx => by rw [e1] at hx; cases hx⟩
      rw [e1] at hx
      injection hx with hx
      injection hx with h1 h2
      subst h1
      subst h2
      have hl : ((l.drop k).take v).length = v := by rw [List.length_take]; exact Nat.min_eq_left HF.out
      rw [hl]
      exact ⟨A', rfl, hs, he2⟩
    · have HF := Lib.hid hfit
      clear hfit
      go_wp2_with fail
      refine (take_no g b _ bad v _ he1 (by have := HF.out; omega)).mono ?_
      rintro e w2 ⟨rfl, he2, hm2⟩
      go_wp2_with fail
      go_ret
      have e1 : rdBlob l most = none := by
        unfold rdBlob
        rw [HR.out]
        simp only
        rw [if_neg (fun h => HF.out h.2)]
      exact ⟨hm1.step hm2, fun x r hx => (by rw [e1] at hx; cases hx), fun _ => ⟨_, rfl, he2⟩⟩
  · obtain ⟨rfl, he1⟩ := hn (fun v k h hv => hr ⟨v, k, h, hv⟩)
    have HR := Lib.hid hr
    clear hr hy hn he
    go_wp2_with fail
    refine (take_yes g b _ true 0 _ he1 (Nat.le_refl _)).mono ?_
    rintro e w2 ⟨A', rfl, hs, he2, hm2⟩
    go_wp2_with fail
    go_ret
    have e1 : rdBlob l most = none := by
      unfold rdBlob
      split
      · rename_i v k h
        rw [if_neg (fun hh => HR.out ⟨v, k, h, hh.1⟩)]
      · rfl
    exact ⟨hm1.step hm2, fun x r hx => (by rw [e1] at hx; cases hx), fun _ => ⟨_, rfl, he2⟩⟩


def doneErr (l : List UInt8) (bad : Bool) : Int := if bad = true ∨ l ≠ [] then 2 else 0
theorem Done_nil (w : World) : Calls Tryd.prog 64 #[.pointer none] w fun e w' => e = .returned (.int .i64 2) ∧ w = w' := by
  go_enter Tryd.func64, Tryd.ntmps64
  go_wp2
  go_ret
  exact ⟨rfl, rfl⟩
theorem Done_calls (g b : Nat) (l : List UInt8) (bad : Bool) (w : World) (he : EyeAt w g b l bad) :
    Calls Tryd.prog 64 #[.pointer (some ⟨g, 0, none⟩)] w fun e w' => e = .returned (.int .i64 (doneErr l bad)) ∧ w = w' := by
  obtain ⟨hne, A, c, hg, hlc, hcm, hs⟩ := he
  unfold maxLen at hcm
  have hc0 := cell_of_row w g 0 _ _ _ hg
  have hc1 := cell_of_row w g 1 _ _ _ hg
  simp only [List.getElem?_toArray, List.getElem?_cons_zero, List.getElem?_cons_succ] at hc0 hc1
  clear hg
  cases bad
  · rcases Nat.eq_zero_or_pos l.length with h | h
    · have hl : l = [] := List.eq_nil_of_length_eq_zero h
      subst hl
      go_enter Tryd.func64, Tryd.ntmps64
      go_wp2
      go_ret
      exact ⟨by simp [doneErr], rfl⟩
    · have hl : l ≠ [] := by rintro rfl; simp at h
      have HL := Lib.hid hl
      clear hl
      have h' : (0 : Int) < (l.length : Int) := by omega
      go_enter Tryd.func64, Tryd.ntmps64
      go_wp2
      go_ret
      exact ⟨by simp [doneErr, HL.out], rfl⟩
  · go_enter Tryd.func64, Tryd.ntmps64
    go_wp2
    go_ret
    exact ⟨by simp [doneErr], rfl⟩

set_option maxHeartbeats 400000 in
theorem Read_own (A : Option Addr) (l : List UInt8) (n c b : Nat) (w : World) (hs : Bs w b A l) (hn : l.length = n) (hlen : n ≤ 140737488355328) :
    Calls Tryd.prog 59 #[.slice A n c] w fun e w' => ∃ g b', e = .returned (.pointer (some ⟨g, 0, none⟩)) ∧ EyeAt w' g b' l false ∧ w.heap.size ≤ g ∧ w.heap.size ≤ b' ∧ Below w.heap.size w w' ∧ (l ≠ [] → ∃ cur, w'.heap[b']? = some (.cells cur 5 (0, 0))) := by
  go_enter Tryd.func59, Tryd.ntmps59
  go_wp2_with (at_builtin; refine wpList_app w rfl (.const (.slice none 0 0)) (.tmp 3) rfl w.heap.size (.slice none 0 0) [] rfl (Row.nil_ _ _) b A n c l rfl hs hn (by simp; omega) (Nat.le_refl _) ?_; intro v' w1 hrow1 hmod hat; obtain ⟨A', c', b', hv', hlc, hcm, _, hb', hs', _⟩ := hrow1.sl; have hblk := Lib.hid (Row.blk_sl hrow1 hv' hs'); subst hv')
  go_ret
  have hb1 : Below w.heap.size w w1 := hmod.below (Nat.le_refl _) (fun i _ h => by simp [Value.ownBlock] at h)
  have hx : Below w1.heap.size w1 (w1.alloc (.cells #[.slice A' n c', .bool false] 164)) := (Below.refl _ _).alloc (Nat.le_refl _) _
  have hn' : n = l.length := hn.symm
  have hne : b' ≠ w1.heap.size ∨ l = [] := by
    rcases Nat.eq_zero_or_pos l.length with h | h
    · exact .inr (List.eq_nil_of_length_eq_zero h)
    · exact .inl (by have := Sl.lt hs' (by simp only [List.nil_append, ne_eq, bv_nil_iff]; rintro rfl; simp at h); omega)
  simp only [List.nil_append] at hs' hlc
  have hnew : (w1.alloc (.cells #[.slice A' n c', .bool false] 164)).heap[w1.heap.size]? = some (.cells #[.slice A' n c', .bool false] 164 (0, 0)) := heap_alloc_new w1 _
  rw [hn'] at hnew ⊢
  rcases hne with hne | rfl
  · refine ⟨_, b', rfl, ⟨hne, A', c', hnew, hlc, hcm, Sl.alloc hs' _⟩, hb1.size, hb', hb1.alloc hb1.size _, fun hl => ?_⟩
    obtain ⟨cur, hcur⟩ := hblk.out (by simpa using hl)
    exact ⟨cur, (Below.heap_alloc _ _ _ (Array.getElem?_eq_some_iff.1 hcur).1).trans hcur⟩
  · exact ⟨_, w1.heap.size + 1, rfl, ⟨by omega, A', c', hnew, hlc, hcm, Sl.nil_ _ _ _⟩, hb1.size, by have := hb1.size; omega, hb1.alloc hb1.size _, fun hl => absurd rfl hl⟩

theorem Read_calls (A : Option Addr) (l : List UInt8) (n c b : Nat) (w : World) (hs : Bs w b A l) (hn : l.length = n) (hlen : n ≤ 140737488355328) :
    Calls Tryd.prog 59 #[.slice A n c] w fun e w' => ∃ g b', e = .returned (.pointer (some ⟨g, 0, none⟩)) ∧ EyeAt w' g b' l false ∧ w.heap.size ≤ g ∧ w.heap.size ≤ b' ∧ Below w.heap.size w w' :=
  (Read_own A l n c b w hs hn hlen).mono fun _ _ ⟨g, b', h1, h2, h3, h4, h5, _⟩ => ⟨g, b', h1, h2, h3, h4, h5⟩

theorem EyeAt.modne {w w' : World} {g b : Nat} {l : List UInt8} {wr : Bool} (h : EyeAt w g b l wr) {S : Nat → Prop} (hm : Mod S w w') (hg : ¬ S g) (hb : l ≠ [] → ¬ S b) : EyeAt w' g b l wr := by
  obtain ⟨hne, A, c, h1, h2, h3, h4⟩ := h
  exact ⟨hne, A, c, by rw [hm.block g (Array.getElem?_eq_some_iff.1 h1).1 hg]; exact h1, h2, h3, Bs.modne h4 hm hb⟩
end Go.Proofs.YtcgbamkfflcdfaaDoor
