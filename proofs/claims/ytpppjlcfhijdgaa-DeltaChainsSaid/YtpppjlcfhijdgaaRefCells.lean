/- The reference's Sees, View, Put, Same over lists of cells. Conditions: those said. -/
import Derived.Test.YtpppjlcfhijdgaaCells
import Derived.Test.YtpppjlcfhijdgaaGate
namespace Go.Proofs.Ytpppjlcfhijdgaa
open Go.RowKit

theorem sl_cell {w : World} {b off : Nat} {L : List (Int × Nat)} (h : ∀ j u, (cv L)[j]? = some u → w.cell? ⟨b, off + j, none⟩ = some u) {i : Nat} (hi : i < L.length) :
    w.cell? ⟨b, off + i * 2, none⟩ = some (.int .i32 L[i].1) ∧ w.cell? ⟨b, off + i * 2 + 1, none⟩ = some (.int .u32 ((L[i].2 : Nat) : Int)) :=
  ⟨h _ _ (cv_val hi), h _ _ (cv_lab hi)⟩
theorem sl_off {w : World} {b : Nat} {A : Option Addr} {L : List (Int × Nat)} (h : Sl w b A (cv L)) {i : Nat} (hi : i < L.length) :
    ∃ off, A = some ⟨b, off, none⟩ ∧ w.cell? ⟨b, off + i * 2, none⟩ = some (.int .i32 L[i].1) ∧ w.cell? ⟨b, off + i * 2 + 1, none⟩ = some (.int .u32 ((L[i].2 : Nat) : Int)) := by
  obtain ⟨off, e, hc⟩ := h (by intro h0; have := congrArg List.length h0; simp at this; omega)
  exact ⟨off, e, sl_cell hc hi⟩
theorem sees_bit {m k : Nat} (hk : k < 32) : sees m (k : Int) = m.testBit k := by
  unfold sees
  rw [aloneN_nat hk]
  have : m &&& 2 ^ k = if m.testBit k = true then 2 ^ k else 0 := by
    apply Nat.eq_of_testBit_eq
    intro j
    rw [Nat.testBit_and, Nat.testBit_two_pow]
    by_cases h : m.testBit k = true
    · rw [if_pos h, Nat.testBit_two_pow]
      by_cases hij : k = j
      · subst hij; simp [h]
      · simp [hij]
    · rw [if_neg h, Nat.zero_testBit]
      by_cases hij : k = j
      · subst hij; simp [h]
      · simp [hij]
  rw [this]
  cases h : m.testBit k <;> simp
theorem sees_out {m : Nat} {o : Int} (h : ¬(0 ≤ o ∧ o < 32)) : sees m o = false := by
  unfold sees aloneN
  rw [if_neg h]
  simp
/-- Block b is a cell of the reference's. -/
def BoxV (w : World) (b : Nat) (x : Int) (y : Nat) : Prop := w.heap[b]? = some (.cells #[.int .i32 x, .int .u32 (y : Int)] 83 (0, 0))
set_option maxHeartbeats 2000000 in
set_option maxRecDepth 20000 in
theorem RefSees_calls (x : Int) (y : Nat) (o : Int) (w : World) (hy : y < 4294967296) :
    Calls Try.prog 59 #[.agg #[.int .i32 x, .int .u32 (y : Int)], .int .i64 o] w fun e w' => e = .returned (.bool (sees y o)) ∧ Below w.heap.size w w' := by
  have hb := below_alloc1 w (.cells #[.int .i32 x, .int .u32 (y : Int)] 83)
  obtain ⟨r, hr⟩ : ∃ r, r = sees y o := ⟨_, rfl⟩
  rw [← hr]
  have HR := Lib.hid hr
  clear hr
  by_cases h0 : 0 ≤ o
  · by_cases h1 : o < 32
    · obtain ⟨k, rfl⟩ : ∃ k : Nat, o = (k : Int) := ⟨o.toNat, by omega⟩
      have hb2 : ((y : Int) / 2 ^ k).tmod 2 = (((y / 2 ^ k) % 2 : Nat) : Int) := by
        rw [Int.tmod_eq_emod_of_nonneg (Int.ediv_nonneg (by omega) (Int.pow_nonneg (by omega)))]
        simp
      have hb3 : (((y : Int) / 2 ^ k).tmod 2 == 1) = r := by
        rw [HR.out, sees_bit (by omega), hb2, Nat.testBit_eq_decide_div_mod_eq, Bool.eq_iff_iff]
        simp only [beq_iff_eq, decide_eq_true_eq]
        omega
      have e1 : decide ((k : Int) < 32) = true := by simp; omega
      have e0 : decide ((0 : Int) ≤ (k : Int)) = true := by simp
      clear hb2
      go_enter Try.func59, Try.ntmps59
      go_wp2_with fail
      go_ret
      exact ⟨rfl, hb⟩
    · have e1 : decide (o < 32) = false := by simp; omega
      have e0 : decide (0 ≤ o) = true := by simp; omega
      go_enter Try.func59, Try.ntmps59
      go_wp2_with fail
      go_ret
      exact ⟨by rw [HR.out, sees_out (by omega)]; rfl, hb⟩
  · have e0 : decide (0 ≤ o) = false := by simp; omega
    go_enter Try.func59, Try.ntmps59
    go_wp2_with fail
    go_ret
    exact ⟨by rw [HR.out, sees_out (by omega)]; rfl, hb⟩
theorem take_next {α : Type} {L : List α} {k : Nat} (hk : k < L.length) : L.take (k + 1) = L.take k ++ [L[k]] := by
  rw [List.take_succ_eq_append_getElem hk]
set_option maxHeartbeats 4000000 in
set_option maxRecDepth 20000 in
theorem RefView_calls (A : Option Addr) (L : List (Int × Nat)) (n c b : Nat) (o : Int) (w : World) (hs : Sl w b A (cv L)) (hn : L.length = n) (hm : n ≤ 1000000) (hok : okC L) :
    Calls Try.prog 37 #[.slice A n c, .int .i64 o] w fun e w' => ∃ v, e = .returned v ∧ RowC 83 w' w.heap.size v (viewL o L) ∧ Below w.heap.size w w' := by
  subst hn
  have HOK := Lib.hid hok
  clear hok
  go_enter Try.func37, Try.ntmps37
  go_wp2_with fail
  go_loopw [5, 7, 10] (fun out p i wr => ∃ k : Nat, k ≤ L.length ∧ i = .int .i64 k ∧ RowC 83 wr w.heap.size out (viewL o (L.take k)) ∧ Below w.heap.size w wr) (fun _ _ i _ => L.length - (intOf i).toNat)
  case atStart => exact ⟨0, Nat.zero_le _, rfl, RowC.nil_ _ _ _, Below.refl _ _⟩
  case round =>
    obtain ⟨k, hk, rfl, hr, hb⟩ := hrel
    rename_i v0 _ _
    by_cases hlt : k < L.length
    · obtain ⟨off, rfl, h0, h1⟩ := sl_off (Sl.ext hs hb) hlt
      have hy := (okC_get HOK.out hlt).2
      have hvl : viewL o (L.take (k + 1)) = viewL o (L.take k) ++ [seeC o L[k]] := by unfold viewL; rw [take_next hlt, List.map_append]; rfl
      have hlen : (viewL o (L.take k)).length = k := by simp; omega
      have hsc : seeC o L[k] = (if sees L[k].2 o = true then L[k].1 else 0, L[k].2) := by unfold seeC; split <;> rfl
      obtain ⟨x, hx⟩ : ∃ x, x = L[k].1 := ⟨_, rfl⟩
      obtain ⟨y, hy'⟩ : ∃ y, y = L[k].2 := ⟨_, rfl⟩
      rw [← hx, ← hy'] at hsc
      rw [← hx] at h0
      rw [← hy'] at h1 hy
      have hH := fun W => RefSees_calls x y o W hy
      obtain ⟨d, hd⟩ : ∃ d, d = sees y o := ⟨_, rfl⟩
      rw [← hd] at hsc hH
      have HV := Lib.hid hvl
      have HL := Lib.hid hlen
      have ej : (k : Int) < (L.length : Int) := by omega
      have hzb := hb.size
      clear hd hx hy' hvl hlen
      have q0 : BoxV (wr.alloc (.cells #[.int .i32 x, .int .u32 (y : Int)] 83)) wr.heap.size x y := heap_alloc_new wr _
      cases d with
      | true =>
        rw [if_pos rfl] at hsc
        have HS := Lib.hid hsc
        clear hsc
        go_wp2_with fail
        refine (hH _).mono ?_
        rintro e w2 ⟨rfl, hb2⟩
        have q1 : BoxV w2 wr.heap.size x y := (hb2.block _ (by simp)).trans q0
        have c0 := cell_of_row w2 wr.heap.size 0 _ _ _ q1
        have c1 := cell_of_row w2 wr.heap.size 1 _ _ _ q1
        simp only [List.getElem?_toArray, List.getElem?_cons_zero, List.getElem?_cons_succ] at c0 c1
        have hb3 := (hb.alloc hzb (.cells #[.int .i32 x, .int .u32 (y : Int)] 83)).trans (hb2.mono (by simp; omega))
        have hr2 := RowC.ext (World.ownsRow.alloc hr (.cells #[.int .i32 x, .int .u32 (y : Int)] 83)) hb2
        have hz3 := hb3.size
        clear hb2 q0 hH
        go_wp2_with ((with_reducible refine at_ca 22 _ ?_); refine wpList_appC _ Try.underlying42 cellR_info rfl (.tmp 19) (.tmp 21) rfl w.heap.size _ (viewL o (L.take k)) rfl (World.ownsRow.alloc hr2 _) _ (some ⟨_, 0, none⟩) 1 1 [(x, y)] rfl (Sl.cell_new _ (x, y) _) rfl (by rw [HL.out]; omega) (by simp; omega) ?_; intro v' w4 hrow hmod hat)
        have hb4 := (hb3.alloc hz3 _).trans (hmod.below_own (B := w.heap.size) (by simp; omega) (fun i h => (World.ownsRow.lt hr2 i h).1))
        go_roundw
        case rel => exact ⟨k + 1, by omega, by go_num, by rw [HV.out, HS.out]; exact hrow, hb4⟩
        case measure => simp [intOf]; omega
      | false =>
        rw [if_neg (by simp)] at hsc
        have HS := Lib.hid hsc
        clear hsc
        go_wp2_with fail
        refine (hH _).mono ?_
        rintro e w2 ⟨rfl, hb2⟩
        have q1 : BoxV w2 wr.heap.size x y := (hb2.block _ (by simp)).trans q0
        have c0 := cell_of_row w2 wr.heap.size 0 _ _ _ q1
        have c1 := cell_of_row w2 wr.heap.size 1 _ _ _ q1
        have f0 := frozen_of_row w2 wr.heap.size 0 _ _ q1
        simp only [List.getElem?_toArray, List.getElem?_cons_zero, List.getElem?_cons_succ] at c0 c1
        have hb3 := (hb.alloc hzb (.cells #[.int .i32 x, .int .u32 (y : Int)] 83)).trans (hb2.mono (by simp; omega))
        have hr2 := RowC.ext (World.ownsRow.alloc hr (.cells #[.int .i32 x, .int .u32 (y : Int)] 83)) hb2
        have hr3 : RowC 83 (w2.setCell ⟨wr.heap.size, 0, none⟩ (.int .i32 0)) w.heap.size _ (viewL o (L.take k)) := RowC.mod hr2 (Mod.setCell w2 ⟨wr.heap.size, 0, none⟩ (.int .i32 0)) (fun i hi h => by
          have h2 := (World.ownsRow.lt hr i hi).2
          have h3 : i = wr.heap.size := h
          omega)
        have hb3 := hb3.setCell (p := ⟨wr.heap.size, 0, none⟩) (by simp; omega) (.int .i32 0)
        have hz3 := hb3.size
        have hsn := Sl.cell_new (w2.setCell ⟨wr.heap.size, 0, none⟩ (.int .i32 0)) (0, y) 83
        rw [show (w2.setCell ⟨wr.heap.size, 0, none⟩ (.int .i32 0)).heap.size = w2.heap.size by simp [World.setCell]] at hsn
        clear hb2 q0 hH
        go_wp2_with ((with_reducible refine at_ca 22 _ ?_); refine wpList_appC _ Try.underlying42 cellR_info rfl (.tmp 19) (.tmp 21) rfl w.heap.size _ (viewL o (L.take k)) rfl (World.ownsRow.alloc hr3 _) _ (some ⟨_, 0, none⟩) 1 1 [(0, y)] rfl hsn rfl (by rw [HL.out]; omega) (hb3.alloc hz3 _).size ?_; intro v' w4 hrow hmod hat)
        have hb4 := (hb3.alloc hz3 _).trans (hmod.below_own (B := w.heap.size) (hb3.alloc hz3 _).size (fun i h => (World.ownsRow.lt hr3 i h).1))
        go_roundw
        case rel => exact ⟨k + 1, by omega, by go_num, by rw [HV.out, HS.out]; exact hrow, hb4⟩
        case measure => simp [intOf]; omega
    · obtain rfl : k = L.length := by omega
      rw [List.take_length] at hr
      go_wp2_with fail
      go_ret
      exact ⟨_, rfl, hr, hb⟩
end Go.Proofs.Ytpppjlcfhijdgaa
