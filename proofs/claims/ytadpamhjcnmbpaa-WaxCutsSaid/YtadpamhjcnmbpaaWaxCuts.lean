/- WaxCuts: for every text, place and turning the Go text returns true: what is sealed, with a byte of its sum turned, isn't opened. No condition. -/
import Derived.Test.YtadpamhjcnmbpaaWaxPlain
import Derived.Test.YtadpamhjcnmbpaaRefSame
import Derived.Test.YtadpamhjcnmbpaaRefCut
import Derived.Test.YtadpamhjcnmbpaaRowSet
namespace Go.Proofs.Ytadpamhjcnmbpaa
open Go.RowKit

set_option maxHeartbeats 1000000 in
set_option maxRecDepth 20000 in
theorem WaxCuts_walk (A : Option Addr) (l : List UInt8) (n c b : Nat) (k t : Nat) (w : World) (hs : Bs w b A l) (hn : l.length = n) (hnm : n ≤ maxLen) (hk : k ≤ 255) (ht : t ≤ 255) :
    Calls Try.prog 7 #[.slice A n c, .int .u8 k, .int .u8 t] w fun e w' => e = .returned (.bool true) ∧ Below w.heap.size w w' := by
  have HN := Lib.hid hn
  clear hn
  go_enter Try.func7, Try.ntmps7
  go_wp2_with fail
  refine (awake_calls _).mono ?_
  rintro e w1 ⟨rfl, hb1⟩
  have hs1 := Sl.ext hs hb1
  clear hs
  go_wp2_with fail
  refine (Cut_calls A l n c b 100 _ hs1 HN.out hnm (by simp only [List.length_take]; omega)).mono ?_
  rintro e w2 ⟨v2, rfl, hrow2, hb2⟩
  obtain ⟨p, hp⟩ : ∃ p, p = l.take (100 : Int).toNat := ⟨_, rfl⟩
  have hpl : p.length ≤ 100 := by rw [hp]; simp only [List.length_take]; omega
  rw [← hp] at hrow2
  obtain ⟨A2, c2, b2, rfl, hc2, hm2, hn2, hB2, hs2, _⟩ := hrow2.sl
  have hbw2 := hb1.trans (hb2.mono hb1.size)
  clear hrow2 hp hb1 hb2 hs1
  go_wp2_with fail
  refine (Make_calls _).mono ?_
  rintro e w3 ⟨rfl, hb3⟩
  have hs3 := Sl.ext hs2 hb3
  have hbw3 := hbw2.trans (hb3.mono hbw2.size)
  clear hs2 hb3 hbw2
  go_wp2_with fail
  rw [zeroTable]
  simp only [Result.andThen_ok]
  go_wp2_with fail
  have hg3 := heap_alloc_new w3 (.cells (tabTo 0) 28)
  have hst := run_storeCells_from (P := Try.prog) w3.heap.size _ (tabTo 256).toList 0 _ (w3.alloc (.cells (tabTo 0) 28)) hg3 (by simp [tabTo_size]) (fun v hv => (Array.all_eq_true_iff_forall_mem.1 (tabTo_all 256)) v (by simpa using hv))
  rw [List.take_zero, List.nil_append, Array.toArray_toList] at hst
  rw [hst]
  simp only [Result.andThen_ok]
  have hg4 := setRow_heap (w3.alloc (.cells (tabTo 0) 28)) w3.heap.size _ (tabTo 256) _ _ hg3
  have hb4 := below_setRow (below_alloc1 w3 (.cells (tabTo 0) 28)) w3.heap.size (tabTo 256) (Nat.le_refl _)
  obtain ⟨w4, hw4⟩ : ∃ w4, w4 = (w3.alloc (.cells (tabTo 0) 28)).setRow w3.heap.size (tabTo 256) := ⟨_, rfl⟩
  rw [← hw4] at hg4 hb4 ⊢
  have hs4 := Sl.ext hs3 hb4
  have hbw4 := hbw3.trans (hb4.mono hbw3.size)
  have hG := hbw3.size
  obtain ⟨G, hGe⟩ : ∃ G, G = w3.heap.size := ⟨_, rfl⟩
  rw [← hGe] at hg4 hG ⊢
  clear hst hw4 hg3 hs3 hbw3 hb4 hGe
  go_wp2_with fail
  refine wp_load_row 28 _ rfl G rfl _ _ _ _ hg4 table_under rfl (table_size 256) ?_
  go_wp2_with fail
  refine (Seal_calls A2 p p.length c2 b2 _ hs4 rfl (by omega)).mono ?_
  rintro e w5 ⟨v5, rfl, hrow5, hb5⟩
  have hg5 := (hb5.block G (Array.getElem?_eq_some_iff.1 hg4).1).trans hg4
  have hs5 := Sl.ext hs4 hb5
  have hbw5 := hbw4.trans (hb5.mono hbw4.size)
  have hGl := (Array.getElem?_eq_some_iff.1 hg4).1
  have hlt4 : p ≠ [] → b2 < w4.heap.size := Bs.lt hs4
  clear hb5 hs4 hg4
  have hI1 : p.length + 3 - k % 4 < p.length + 4 := by omega
  obtain ⟨g, cap, hv, hBg, hgl, hc, hf, hset⟩ := Row.set_ hrow5 (k := p.length + 3 - k % 4) (by simpa using hI1)
  rw [sealedL_length] at hv
  subst hv
  obtain ⟨x, hx⟩ : ∃ x, x = (sealedL p)[p.length + 3 - k % 4]'(by simpa using hI1) := ⟨_, rfl⟩
  rw [← hx] at hc
  have HX := Lib.hid hx
  have HSet := Lib.hid hset
  have x8 := x.toNat_lt
  have hxo : bits .xor .u8 (x.toNat : Int) (t : Int) = ((x.toNat ^^^ t : Nat) : Int) := u8_xor_nat x.toNat t (by omega) (by omega)
  clear hx hset hrow5
  go_wp2_with fail
  obtain ⟨u, hu⟩ : ∃ u : UInt8, u.toNat = t := ⟨UInt8.ofNat t, by simp; omega⟩
  obtain ⟨W, hW⟩ : ∃ W, W = w5.setCell ⟨g, p.length + 3 - k % 4, none⟩ (.int .u8 ((x.toNat ^^^ t : Nat) : Int)) := ⟨_, rfl⟩
  have hrow6 : Row W w4.heap.size (.slice (some ⟨g, 0, none⟩) (p.length + 4) cap) (turnAt (sealedL p) (p.length + 3 - k % 4) u) := by
    refine (HSet.out (x ^^^ u) (x.toNat ^^^ t) W (by rw [UInt8.toNat_xor, hu]) (by rw [hW])).cast ?_
    unfold turnAt
    rw [HX.out, List.getD_eq_getElem?_getD, List.getElem?_eq_getElem (by simpa using hI1)]
    rfl
  have hg6 : W.heap[G]? = some (.cells (tabTo 256) 28 (0, 0)) := by rw [hW]; exact (heap_setCell_other w5 _ G _ (by simp; omega)).trans hg5
  have hs6 : Bs W b2 A2 p := by rw [hW]; exact Bs.modne hs5 (Mod.setCell w5 _ _) (fun hne h => by have := hlt4 hne; simp at h; omega)
  have hbw6 : Below w.heap.size w W := by rw [hW]; exact hbw5.setCell (Nat.le_trans hbw4.size hBg) _
  rw [← hW]
  obtain ⟨hl6, hnc6, hq6⟩ := Row.bs_ hrow6
  have hoB := opens_turnAt (p := p) (t := u) hI1
  have hm0 : t = 0 → turnAt (sealedL p) (p.length + 3 - k % 4) u = sealedL p := fun h0 => by
    rw [show u = 0 from UInt8.toNat_inj.1 (by rw [hu, h0]; rfl), turnAt_zero]
  have hu0 : (u = 0) ↔ t = 0 := by rw [← UInt8.toNat_inj, hu]; simp
  obtain ⟨m, hm⟩ : ∃ m, m = turnAt (sealedL p) (p.length + 3 - k % 4) u := ⟨_, rfl⟩
  rw [← hm] at hoB hm0 hl6 hq6
  clear HX HSet hW hg5 hs5 hc hf hxo hrow6 hm hu
  refine wp_load_row 28 _ rfl G rfl _ _ _ _ hg6 table_under rfl (table_size 256) ?_
  go_wp2_with fail
  by_cases h0 : t = 0
  · have hm1 := hm0 h0
    have hoT : opensB m p.length = true := by rw [hoB, decide_eq_true_eq]; exact hu0.2 h0
    have ht0 : ((t : Int) == 0) = true := by simp only [beq_iff_eq]; omega
    have htake : m.take p.length = p := by rw [hm1, sealed_take]
    refine (Open_good _ m p.length cap g _ hq6 hl6 hnc6 (by omega) hoT).mono ?_
    rintro e w7 ⟨v7, rfl, hrow7, hb7⟩
    rw [htake] at hrow7
    obtain ⟨A7, c7, b7, rfl, hc7, hm7, _, hB7, hs7, _⟩ := hrow7.sl
    have hs8 := Sl.ext hs6 hb7
    have hbw7 := hbw6.trans (hb7.mono hbw6.size)
    clear hm0 hoB hu0 hrow7 hb7 hs6 hq6 hm1 hoT htake h0 hl6
    go_wp2_with fail
    refine (Same_calls A7 A2 p p p.length p.length c7 c2 b7 b2 _ hs7 hs8 rfl rfl (by simp only [maxLen]; omega) (by simp only [maxLen]; omega)).mono ?_
    rintro e w8 ⟨rfl, kd, rfl⟩
    rw [show decide (p = p) = true by simp]
    go_wp2_with fail
    go_ret
    exact ⟨rfl, below_drewN hbw7 kd⟩
  · have hoT : opensB m p.length = false := by rw [hoB, decide_eq_false_iff_not]; exact fun h => h0 (hu0.1 h)
    have ht0 : ((t : Int) == 0) = false := by simp only [beq_eq_false_iff_ne, ne_eq]; omega
    refine (Open_bad _ m p.length cap g _ hq6 hl6 hnc6 (by omega) hoT).mono ?_
    rintro e w7 ⟨rfl, hb7⟩
    have hbw7 := hbw6.trans (hb7.mono hbw6.size)
    clear hm0 hoB hu0 hb7 hs6 hq6 hoT h0 hl6
    go_wp2_with fail
    go_ret
    exact ⟨rfl, hbw7⟩
end Go.Proofs.Ytadpamhjcnmbpaa
