/- WaxSeals: for every two texts the Go text returns true: what is sealed is opened again; any bytes are opened just if their last four are the sum. No condition. -/
import Derived.Test.YtadpamhjcnmbpaaWaxPlain
import Derived.Test.YtadpamhjcnmbpaaRefSame
import Derived.Test.YtadpamhjcnmbpaaRefCut
namespace Go.Proofs.Ytadpamhjcnmbpaa
open Go.RowKit

set_option maxHeartbeats 4000000 in
set_option maxRecDepth 20000 in
theorem WaxSeals_walk (A : Option Addr) (l : List UInt8) (n c b : Nat) (A' : Option Addr) (l' : List UInt8) (n' c' b' : Nat) (w : World) (hs : Bs w b A l) (hn : l.length = n) (hnm : n ≤ maxLen) (ht : Bs w b' A' l') (hm : l'.length = n') (hmm : n' ≤ maxLen) :
    Calls Try.prog 4 #[.slice A n c, .slice A' n' c'] w fun e w' => e = .returned (.bool true) ∧ Below w.heap.size w w' := by
  have HN := Lib.hid hn
  have HM := Lib.hid hm
  clear hn hm
  go_enter Try.func4, Try.ntmps4
  go_wp2_with fail
  refine (awake_calls _).mono ?_
  rintro e w1 ⟨rfl, hb1⟩
  have hs1 := Sl.ext hs hb1
  have ht1 := Sl.ext ht hb1
  clear hs ht
  go_wp2_with fail
  refine (Cut_calls A l n c b 200 _ hs1 HN.out hnm (by simp only [List.length_take]; omega)).mono ?_
  rintro e w2' ⟨v2, rfl, hrow2, hb2⟩
  have ht2 := Sl.ext ht1 hb2
  have hbw2' := hb1.trans (hb2.mono hb1.size)
  obtain ⟨p, hp⟩ : ∃ p, p = l.take (200 : Int).toNat := ⟨_, rfl⟩
  have hpl : p.length ≤ 200 := by rw [hp]; simp only [List.length_take]; omega
  rw [← hp] at hrow2
  obtain ⟨A2, c2, b2, rfl, hc2, hm2, hn2, hB2, hs2', _⟩ := hrow2.sl
  clear hrow2 hp hb1 hb2 hs1 ht1
  go_wp2_with fail
  refine (Cut_calls A' l' n' c' b' 20 _ ht2 HM.out hmm (by simp only [List.length_take]; omega)).mono ?_
  rintro e w2 ⟨vr, rfl, hrowr, hb2⟩
  have hs2 := Sl.ext hs2' hb2
  have hbw2 := hbw2'.trans (hb2.mono hbw2'.size)
  obtain ⟨r, hr⟩ : ∃ r, r = l'.take (20 : Int).toNat := ⟨_, rfl⟩
  have hrl : r.length ≤ 20 := by rw [hr]; simp only [List.length_take]; omega
  rw [← hr] at hrowr
  obtain ⟨Ar, cr, br, rfl, hcr, hmr, hnr, hBr, hr2, _⟩ := hrowr.sl
  clear hrowr hr hb2 ht2 hs2' hbw2'
  go_wp2_with fail
  refine (Make_calls _).mono ?_
  rintro e w3 ⟨rfl, hb3⟩
  have hs3 := Sl.ext hs2 hb3
  have hr3 := Sl.ext hr2 hb3
  have hbw3 := hbw2.trans (hb3.mono hbw2.size)
  clear hs2 hr2 hb3 hbw2
  go_wp2_with fail
  rw [zeroTable]
  simp only [Result.andThen_ok]
  go_wp2_with fail
  have hg3 := heap_alloc_new w3 (.cells (tabTo 0) 28)
  have hst := run_storeCells_from (P := Try.prog) w3.heap.size _ (tabTo 256).toList 0 _ (w3.alloc (.cells (tabTo 0) 28)) hg3 (by simp [tabTo_size]) (fun v hv => (Array.all_eq_true_iff_forall_mem.1 (tabTo_all 256)) v (by simpa using hv))
  rw [List.take_zero, List.nil_append, Array.toArray_toList] at hst
  rw [hst]
  simp only [Result.andThen_ok]
  have hg4 := setRow_heap (w3.alloc (.cells (tabTo 0) 28)) w3.heap.size _ (tabTo 256) _ _ hg3
  have hb4 := below_setRow (below_alloc1 w3 (.cells (tabTo 0) 28)) w3.heap.size (tabTo 256) (Nat.le_refl _)
  obtain ⟨w4, hw4⟩ : ∃ w4, w4 = (w3.alloc (.cells (tabTo 0) 28)).setRow w3.heap.size (tabTo 256) := ⟨_, rfl⟩
  rw [← hw4] at hg4 hb4 ⊢
  have hs4 := Sl.ext hs3 hb4
  have hr4 := Sl.ext hr3 hb4
  have hbw4 := hbw3.trans (hb4.mono hbw3.size)
  have hG := hbw3.size
  obtain ⟨G, hGe⟩ : ∃ G, G = w3.heap.size := ⟨_, rfl⟩
  rw [← hGe] at hg4 hG ⊢
  clear hst hw4 hg3 hs3 hr3 hbw3 hb4 hGe
  go_wp2_with (refine wpList_load_row rfl 28 (.tmp 5) rfl G rfl _ _ _ _ hg4 table_under rfl (table_size 256) ?_)
  refine (Seal_calls A2 p p.length c2 b2 _ hs4 rfl (by omega)).mono ?_
  rintro e w5 ⟨v5, rfl, hrow5, hb5⟩
  have hg5 := (hb5.block G (Array.getElem?_eq_some_iff.1 hg4).1).trans hg4
  have hbw5 := hbw4.trans (hb5.mono hbw4.size)
  have hs5 := Sl.ext hs4 hb5
  have hr5 := Sl.ext hr4 hb5
  clear hb5 hs4 hr4 hg4
  obtain ⟨A5, c5, b5, rfl, hc5, hm5, hn5, hB5, hq5, _⟩ := hrow5.sl
  rw [sealedL_length] at hc5 ⊢
  clear hrow5
  go_wp2_with (refine wpList_load_row rfl 28 (.tmp 5) rfl G rfl _ _ _ _ hg5 table_under rfl (table_size 256) ?_)
  refine (Open_good A5 (sealedL p) p.length c5 b5 _ hq5 (by simp) hc5 (by omega) (sealed_opens p)).mono ?_
  rintro e w6 ⟨v6, rfl, hrow6, hb6⟩
  rw [sealed_take] at hrow6
  obtain ⟨A6, c6, b6, rfl, hc6, hm6, hn6, hB6, hx6, _⟩ := hrow6.sl
  have hg6 := (hb6.block G (Array.getElem?_eq_some_iff.1 hg5).1).trans hg5
  have hbw6 := hbw5.trans (hb6.mono hbw5.size)
  have hs6 := Sl.ext hs5 hb6
  have hr6 := Sl.ext hr5 hb6
  have hq6 := Sl.ext hq5 hb6
  clear hb6 hs5 hr5 hq5 hg5 hrow6
  go_wp2_with (refine wpList_load_row rfl 28 (.tmp 5) rfl G rfl _ _ _ _ hg6 table_under rfl (table_size 256) ?_)
  rcases Nat.lt_or_ge r.length 4 with h4 | h4
  · refine (Open_short Ar r.length cr _ h4).mono ?_
    rintro e w7 ⟨rfl, hb7⟩
    have hlt : ((r.length : Int) < 4) := by omega
    have hbw7 := hbw6.trans (hb7.mono hbw6.size)
    have hs7 := Sl.ext hs6 hb7
    have hr7 := Sl.ext hr6 hb7
    have hq7 := Sl.ext hq6 hb7
    have hx7 := Sl.ext hx6 hb7
    clear hb7 hs6 hr6 hq6 hx6 hg6
    go_wp2_with fail
    refine (RefSeal_calls A2 p p.length c2 b2 _ hs7 rfl (by omega)).mono ?_
    rintro e w8 ⟨v8, rfl, hrow8, hb8⟩
    obtain ⟨A8, c8, b8, rfl, _, _, _, _, hz8, _⟩ := hrow8.sl
    have hbw8 := hbw7.trans (hb8.mono hbw7.size)
    have hs8 := Sl.ext hs7 hb8
    have hr8 := Sl.ext hr7 hb8
    have hq8 := Sl.ext hq7 hb8
    have hx8 := Sl.ext hx7 hb8
    rw [sealedL_length]
    clear hb8 hs7 hr7 hq7 hx7 hrow8
    go_wp2_with fail
    refine (Same_calls A5 A8 (sealedL p) (sealedL p) (p.length + 4) (p.length + 4) c5 c8 b5 b8 _ hq8 hz8 (by simp) (by simp) (by simp only [maxLen]; omega) (by simp only [maxLen]; omega)).mono ?_
    rintro e w9 ⟨rfl, kd, rfl⟩
    rw [show decide (sealedL p = sealedL p) = true by simp]
    go_wp2_with fail
    refine (Same_calls A6 A2 p p p.length p.length c6 c2 b6 b2 _ (hx8.drewN kd) (hs8.drewN kd) rfl rfl (by simp only [maxLen]; omega) (by simp only [maxLen]; omega)).mono ?_
    rintro e w10 ⟨rfl, ke, rfl⟩
    rw [show decide (p = p) = true by simp]
    go_wp2_with fail
    go_ret
    exact ⟨rfl, below_drewN hbw8 (kd + ke)⟩
  · obtain ⟨k, hk⟩ : ∃ k, r.length = k + 4 := ⟨r.length - 4, by omega⟩
    rw [hk] at hcr hrl ⊢
    clear h4
    rcases hop : opensB r k with _ | _
    · refine (Open_bad Ar r k cr br _ hr6 hk hcr (by omega) hop).mono ?_
      rintro e w7 ⟨rfl, hb7⟩
      have hbw7 := hbw6.trans (hb7.mono hbw6.size)
      have hs7 := Sl.ext hs6 hb7
      have hr7 := Sl.ext hr6 hb7
      have hq7 := Sl.ext hq6 hb7
      have hx7 := Sl.ext hx6 hb7
      clear hb7 hs6 hr6 hq6 hx6 hg6
      go_wp2_with fail
      refine (RefOpen_long Ar r k cr br _ hr7 hk hcr (by omega)).mono ?_
      rintro e w7' ⟨rfl, kk, rfl⟩
      rw [hop]
      have hbw7 := below_drewN hbw7 kk
      have hs7 := hs7.drewN kk
      have hq7 := hq7.drewN kk
      have hx7 := hx7.drewN kk
      have hr7 := hr7.drewN kk
      go_wp2_with fail
      refine (RefSeal_calls A2 p p.length c2 b2 _ hs7 rfl (by omega)).mono ?_
      rintro e w8 ⟨v8, rfl, hrow8, hb8⟩
      obtain ⟨A8, c8, b8, rfl, _, _, _, _, hz8, _⟩ := hrow8.sl
      have hbw8 := hbw7.trans (hb8.mono hbw7.size)
      have hs8 := Sl.ext hs7 hb8
      have hr8 := Sl.ext hr7 hb8
      have hq8 := Sl.ext hq7 hb8
      have hx8 := Sl.ext hx7 hb8
      rw [sealedL_length]
      clear hb8 hs7 hr7 hq7 hx7 hrow8
      go_wp2_with fail
      refine (Same_calls A5 A8 (sealedL p) (sealedL p) (p.length + 4) (p.length + 4) c5 c8 b5 b8 _ hq8 hz8 (by simp) (by simp) (by simp only [maxLen]; omega) (by simp only [maxLen]; omega)).mono ?_
      rintro e w9 ⟨rfl, kd, rfl⟩
      rw [show decide (sealedL p = sealedL p) = true by simp]
      go_wp2_with fail
      refine (Same_calls A6 A2 p p p.length p.length c6 c2 b6 b2 _ (hx8.drewN kd) (hs8.drewN kd) rfl rfl (by simp only [maxLen]; omega) (by simp only [maxLen]; omega)).mono ?_
      rintro e w10 ⟨rfl, ke, rfl⟩
      rw [show decide (p = p) = true by simp]
      go_wp2_with fail
      go_ret
      exact ⟨rfl, below_drewN hbw8 (kd + ke)⟩
    · refine (Open_good Ar r k cr br _ hr6 hk hcr (by omega) hop).mono ?_
      rintro e w7 ⟨v7, rfl, hrow7, hb7⟩
      obtain ⟨A7, c7, b7, rfl, hc7, hm7, hn7, hB7, hy7, _⟩ := hrow7.sl
      have hkl : (r.take k).length = k := by simp; omega
      rw [hkl] at hc7 ⊢
      clear hrow7
      have hbw7 := hbw6.trans (hb7.mono hbw6.size)
      have hs7 := Sl.ext hs6 hb7
      have hr7 := Sl.ext hr6 hb7
      have hq7 := Sl.ext hq6 hb7
      have hx7 := Sl.ext hx6 hb7
      clear hb7 hs6 hr6 hq6 hx6 hg6
      go_wp2_with fail
      refine (RefOpen_long Ar r k cr br _ hr7 hk hcr (by omega)).mono ?_
      rintro e w7' ⟨rfl, kk, rfl⟩
      rw [hop]
      have hbw7 := below_drewN hbw7 kk
      have hs7 := hs7.drewN kk
      have hq7 := hq7.drewN kk
      have hx7 := hx7.drewN kk
      have hr7 := hr7.drewN kk
      have hy7 := hy7.drewN kk
      go_wp2_with fail
      refine (RefSeal_calls A2 p p.length c2 b2 _ hs7 rfl (by omega)).mono ?_
      rintro e w8 ⟨v8, rfl, hrow8, hb8⟩
      obtain ⟨A8, c8, b8, rfl, _, _, _, _, hz8, _⟩ := hrow8.sl
      have hbw8 := hbw7.trans (hb8.mono hbw7.size)
      have hs8 := Sl.ext hs7 hb8
      have hr8 := Sl.ext hr7 hb8
      have hq8 := Sl.ext hq7 hb8
      have hx8 := Sl.ext hx7 hb8
      have hy8 := Sl.ext hy7 hb8
      rw [sealedL_length]
      clear hb8 hs7 hr7 hq7 hx7 hy7 hrow8
      go_wp2_with fail
      refine (Same_calls A5 A8 (sealedL p) (sealedL p) (p.length + 4) (p.length + 4) c5 c8 b5 b8 _ hq8 hz8 (by simp) (by simp) (by simp only [maxLen]; omega) (by simp only [maxLen]; omega)).mono ?_
      rintro e w9 ⟨rfl, kd, rfl⟩
      rw [show decide (sealedL p = sealedL p) = true by simp]
      go_wp2_with fail
      refine (Same_calls A6 A2 p p p.length p.length c6 c2 b6 b2 _ (hx8.drewN kd) (hs8.drewN kd) rfl rfl (by simp only [maxLen]; omega) (by simp only [maxLen]; omega)).mono ?_
      rintro e w10 ⟨rfl, ke, rfl⟩
      rw [show decide (p = p) = true by simp]
      go_wp2_with fail
      have hst : Bs (w8.drewN (kd + ke)) br Ar (r.take k) := by have := Sl.take (hr8.drewN (kd + ke)) k; rw [bv_take] at this; exact this
      refine (Same_calls A7 Ar (r.take k) (r.take k) k k c7 cr b7 br _ (hy8.drewN (kd + ke)) hst hkl hkl (by simp only [maxLen]; omega) (by simp only [maxLen]; omega)).mono ?_
      rintro e w11 ⟨rfl, kf, rfl⟩
      rw [show decide (r.take k = r.take k) = true by simp]
      go_wp2_with fail
      go_ret
      exact ⟨rfl, below_drewN hbw8 (kd + ke + kf)⟩
end Go.Proofs.Ytadpamhjcnmbpaa
