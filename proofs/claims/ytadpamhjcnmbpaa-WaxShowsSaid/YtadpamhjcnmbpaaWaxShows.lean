/- WaxShows: for every text, place and mask the Go text returns true: what was spoilt, some of 32 bits in a row, is shown. No condition. -/
import Derived.Test.YtadpamhjcnmbpaaWaxPlain
import Derived.Test.YtadpamhjcnmbpaaRefSame
import Derived.Test.YtadpamhjcnmbpaaRefCut
import Derived.Test.YtadpamhjcnmbpaaTurned
namespace Go.Proofs.Ytadpamhjcnmbpaa
open Go.RowKit

set_option maxHeartbeats 1000000 in
set_option maxRecDepth 20000 in
theorem WaxShows_walk (A : Option Addr) (l : List UInt8) (n c b : Nat) (k t : Nat) (w : World) (hs : Bs w b A l) (hn : l.length = n) (hnm : n ≤ maxLen) (hk : k ≤ 65535) (ht : t ≤ 4294967295) :
    Calls Try.prog 5 #[.slice A n c, .int .u16 k, .int .u32 t] w fun e w' => e = .returned (.bool true) ∧ Below w.heap.size w w' := by
  have HN := Lib.hid hn
  clear hn
  go_enter Try.func5, Try.ntmps5
  go_wp2_with fail
  refine (awake_calls _).mono ?_
  rintro e w1 ⟨rfl, hb1⟩
  have hs1 := Sl.ext hs hb1
  clear hs
  go_wp2_with fail
  refine (Cut_calls A l n c b 300 _ hs1 HN.out hnm (by simp only [List.length_take]; omega)).mono ?_
  rintro e w2 ⟨v2, rfl, hrow2, hb2⟩
  obtain ⟨p, hp⟩ : ∃ p, p = l.take (300 : Int).toNat := ⟨_, rfl⟩
  have hpl : p.length ≤ 300 := by rw [hp]; simp only [List.length_take]; omega
  rw [← hp] at hrow2
  obtain ⟨A2, c2, b2, rfl, hc2, hm2, hn2, hB2, hs2, _⟩ := hrow2.sl
  have hbw2 := hb1.trans (hb2.mono hb1.size)
  clear hrow2 hp hb1 hb2 hs1
  go_wp2_with fail
  refine (Make_calls _).mono ?_
  rintro e w3 ⟨rfl, hb3⟩
  have hs3 := Sl.ext hs2 hb3
  have hbw3 := hbw2.trans (hb3.mono hbw2.size)
  clear hs2 hb3 hbw2
  go_wp2_with fail
  rw [zeroTable]
  simp only [Result.andThen_ok]
  go_wp2_with fail
  have hg3 := heap_alloc_new w3 (.cells (tabTo 0) 28)
  have hst := run_storeCells_from (P := Try.prog) w3.heap.size _ (tabTo 256).toList 0 _ (w3.alloc (.cells (tabTo 0) 28)) hg3 (by simp [tabTo_size]) (fun v hv => (Array.all_eq_true_iff_forall_mem.1 (tabTo_all 256)) v (by simpa using hv))
  rw [List.take_zero, List.nil_append, Array.toArray_toList] at hst
  rw [hst]
  simp only [Result.andThen_ok]
  have hg4 := setRow_heap (w3.alloc (.cells (tabTo 0) 28)) w3.heap.size _ (tabTo 256) _ _ hg3
  have hb4 := below_setRow (below_alloc1 w3 (.cells (tabTo 0) 28)) w3.heap.size (tabTo 256) (Nat.le_refl _)
  obtain ⟨w4, hw4⟩ : ∃ w4, w4 = (w3.alloc (.cells (tabTo 0) 28)).setRow w3.heap.size (tabTo 256) := ⟨_, rfl⟩
  rw [← hw4] at hg4 hb4 ⊢
  have hs4 := Sl.ext hs3 hb4
  have hbw4 := hbw3.trans (hb4.mono hbw3.size)
  have hG := hbw3.size
  obtain ⟨G, hGe⟩ : ∃ G, G = w3.heap.size := ⟨_, rfl⟩
  rw [← hGe] at hg4 hG ⊢
  clear hst hw4 hg3 hs3 hbw3 hb4 hGe
  go_wp2_with fail
  refine wp_load_row 28 _ rfl G rfl _ _ _ _ hg4 table_under rfl (table_size 256) ?_
  go_wp2_with fail
  refine (Seal_calls A2 p p.length c2 b2 _ hs4 rfl (by omega)).mono ?_
  rintro e w5 ⟨v5, rfl, hrow5, hb5⟩
  have hg5 := (hb5.block G (Array.getElem?_eq_some_iff.1 hg4).1).trans hg4
  have hbw5 := hbw4.trans (hb5.mono hbw4.size)
  clear hb5 hs4 hg4
  obtain ⟨A5, c5, b5, rfl, hc5, hm5, hn5, hB5, hs5, _⟩ := hrow5.sl
  rw [sealedL_length] at hc5 ⊢
  have hmod : (k : Int) % (8 * ((p.length : Int) + 4)) = ((k % (8 * (p.length + 4)) : Nat) : Int) := by
    rw [show (8 * ((p.length : Int) + 4)) = ((8 * (p.length + 4) : Nat) : Int) by omega]
    rfl
  obtain ⟨J, hJ⟩ : ∃ J, J = k % (8 * (p.length + 4)) := ⟨_, rfl⟩
  have hJl : J < 8 * (p.length + 4) := by rw [hJ]; exact Nat.mod_lt _ (by omega)
  rw [← hJ] at hmod
  clear hJ hrow5
  go_wp2_with fail
  refine (Turned_calls A5 (sealedL p) (p.length + 4) c5 b5 J t _ hs5 (by simp) (by omega) (by omega) (by omega)).mono ?_
  rintro e w6 ⟨v6, rfl, hrow6, hb6⟩
  have hoB := opens_spoilt (p := p) (j := J) (mask := t) (by omega) (by omega)
  obtain ⟨m, hm⟩ : ∃ m, m = turned (sealedL p) J t 32 := ⟨_, rfl⟩
  have hml : m.length = p.length + 4 := by rw [hm]; simp
  rw [← hm] at hrow6 hoB
  obtain ⟨A6, c6, b6, rfl, hc6, hm6, _, hB6, hs6, _⟩ := hrow6.sl
  rw [hml] at hc6 ⊢
  have hg6 := (hb6.block G (Array.getElem?_eq_some_iff.1 hg5).1).trans hg5
  have hq6 := Sl.ext hs5 hb6
  have hbw6 := hbw5.trans (hb6.mono hbw5.size)
  clear hrow6 hb6 hm hg5 hs5 hmod
  go_wp2_with fail
  refine wp_load_row 28 _ rfl G rfl _ _ _ _ hg6 table_under rfl (table_size 256) ?_
  go_wp2_with fail
  by_cases h0 : m = sealedL p
  · have hoT : opensB m p.length = true := by rw [hoB, decide_eq_true_eq]; exact h0
    have heq : decide (sealedL p = m) = true := by rw [decide_eq_true_eq, h0]
    refine (Open_good _ m p.length c6 b6 _ hs6 hml hc6 (by omega) hoT).mono ?_
    rintro e w7 ⟨v7, rfl, hrow7, hb7⟩
    obtain ⟨A7, c7, b7, rfl, _⟩ := hrow7.sl
    have hs7 := Sl.ext hs6 hb7
    have hq7 := Sl.ext hq6 hb7
    have hbw7 := hbw6.trans (hb7.mono hbw6.size)
    clear hoB hrow7 hb7 hs6 hq6 hoT h0
    go_wp2_with fail
    refine (Same_calls A5 A6 (sealedL p) m (p.length + 4) (p.length + 4) c5 c6 b5 b6 _ hq7 hs7 (by simp) hml (by simp only [maxLen]; omega) (by simp only [maxLen]; omega)).mono ?_
    rintro e w8 ⟨rfl, kd, rfl⟩
    rw [heq]
    go_wp2_with fail
    go_ret
    exact ⟨rfl, below_drewN hbw7 kd⟩
  · have hoT : opensB m p.length = false := by rw [hoB, decide_eq_false_iff_not]; exact h0
    have heq : decide (sealedL p = m) = false := by rw [decide_eq_false_iff_not]; exact fun h => h0 h.symm
    refine (Open_bad _ m p.length c6 b6 _ hs6 hml hc6 (by omega) hoT).mono ?_
    rintro e w7 ⟨rfl, hb7⟩
    have hs7 := Sl.ext hs6 hb7
    have hq7 := Sl.ext hq6 hb7
    have hbw7 := hbw6.trans (hb7.mono hbw6.size)
    clear hoB hb7 hs6 hq6 hoT h0
    go_wp2_with fail
    refine (Same_calls A5 A6 (sealedL p) m (p.length + 4) (p.length + 4) c5 c6 b5 b6 _ hq7 hs7 (by simp) hml (by simp only [maxLen]; omega) (by simp only [maxLen]; omega)).mono ?_
    rintro e w8 ⟨rfl, kd, rfl⟩
    rw [heq]
    go_wp2_with fail
    go_ret
    exact ⟨rfl, below_drewN hbw7 kd⟩
end Go.Proofs.Ytadpamhjcnmbpaa
