/- MaskTells: the walk. Conditions: the library's table lies as it lays it; the list is no longer than may be. -/
import Derived.Test.YtbbabmiacmmkpaaDoorMRefText
import Derived.Deep.RegionHeld3
namespace Go.Proofs.YtbbabmiacmmkpaaDoor
open Go.RowKit

theorem mem_up' {m i : Nat} (hi : i < 32) : decide ((i : Int) ∈ upTo m 32) = m.testBit i := by
  rw [upTo_all]
  cases h : m.testBit i
  · simp only [decide_eq_false_iff_not, List.mem_map, not_exists, not_and]
    intro k hk e
    have : k = i := by omega
    subst this
    rw [(obs_mem.1 hk).2] at h
    cases h
  · simp only [decide_eq_true_eq, List.mem_map]
    exact ⟨i, obs_mem.2 ⟨hi, h⟩, rfl⟩
theorem take_iz (l : List Int) (M : Nat) : (iz l).take (l.take M).length = iz (l.take M) := by
  rw [List.length_take]
  unfold iz
  rw [← List.map_take, Nat.min_comm, ← List.take_take, List.take_of_length_le (l := l.take M) (by rw [List.length_take]; omega)]
theorem tells_within {m : Nat} (o : Int) : decide (m &&& aloneN o ≠ 0) = decide (o ∈ upTo m 32) := by
  by_cases h : 0 ≤ o ∧ o < 32
  · obtain ⟨k, rfl⟩ : ∃ k : Nat, o = (k : Int) := ⟨o.toNat, by omega⟩
    rw [hasM_bit (by omega), mem_up' (by omega)]
  · have h0 : aloneN o = 0 := by unfold aloneN; rw [if_neg h]
    rw [h0, Nat.and_zero]
    symm
    simp only [ne_eq, not_true_eq_false, decide_false, decide_eq_false_iff_not]
    rw [upTo_all]
    intro hin
    obtain ⟨k, hk, rfl⟩ := List.mem_map.1 hin
    have := (obs_mem.1 hk).1
    omega
theorem cnt_up (m : Nat) : ∀ j, cnt m j = (upTo m j).length := by
  intro j
  induction j with
  | zero => simp [cnt, upTo]
  | succ j ih =>
    unfold cnt
    cases h : m.testBit j
    · rw [upTo_miss h, ih]; simp
    · rw [upTo_hit h, ih, List.length_append]; simp
theorem ints_up (m M : Nat) : ints ((obs m).take M) = iz ((upTo m 32).take M) := by
  rw [upTo_all, ← List.map_take]
  simp [ints, iz, Function.comp_def]
/-- What every step of the last statement keeps. -/
def TSt (w : World) (bf : Nat) (Af : Option Addr) (lf : List Int) (bw : Nat) (Aw : Option Addr) (lw : List Int) (w' : World) : Prop := Sl w' bf Af (iz lf) ∧ Sl w' bw Aw (iz lw) ∧ Tab w' ∧ Below w.heap.size w w'
theorem TSt.ext {w : World} {bf : Nat} {Af : Option Addr} {lf : List Int} {bw : Nat} {Aw : Option Addr} {lw : List Int} {w1 w2 : World} (h : TSt w bf Af lf bw Aw lw w1) (hb : Below w1.heap.size w1 w2) : TSt w bf Af lf bw Aw lw w2 :=
  ⟨Sl.ext h.1 hb, Sl.ext h.2.1 hb, Tab.ext h.2.2.1 hb, h.2.2.2.trans (hb.mono h.2.2.2.size)⟩
set_option maxHeartbeats 8000000 in
set_option maxRecDepth 20000 in
theorem MaskTells_walk (A : Option Addr) (l : List Int) (n cp bl : Nat) (o k : Int) (stp : Nat) (w : World) (hTab : Tab w) (hs : Sl w bl A (iz l)) (hn : l.length = n) (hnc : n ≤ cp) (_hst : stp ≤ 255) :
    Calls Tryd.prog 3 #[.slice A n cp, .int .i64 o, .int .i64 k, .int .u8 stp] w fun e w' => e = .returned (.bool true) ∧ Below w.heap.size w w' := by
  have hF := fun W h => few_calls A l n cp bl W h hn hnc
  obtain ⟨lf, hlf⟩ : ∃ lf, lf = l.take 40 := ⟨_, rfl⟩
  have hlfl : lf.length ≤ 40 := by rw [hlf, List.length_take]; omega
  rw [← hlf] at hF
  obtain ⟨m, hm⟩ : ∃ m, m = withN 0 lf := ⟨_, rfl⟩
  have hml : m < 4294967296 := by rw [hm]; exact withN_lt (by omega) _
  obtain ⟨M, hM⟩ : ∃ M, M = 1 + stp % 4 := ⟨_, rfl⟩
  have hM1 : 0 < M := by omega
  have hMe : 1 + (stp : Int) % 4 = (M : Int) := by omega
  have hLi := fun W => RefList_calls m W hml
  rw [← upTo_all] at hLi
  have hAl := All_calls k
  have hHk := fun W (i : Nat) => MHas_calls (allN k) (i : Int) W (allN_lt k)
  have HHK := Lib.hid (fun W (i : Nat) (hi : i < 32) => show Calls Tryd.prog 13 #[.int .u32 (allN k : Nat), .int .i64 (i : Int)] W fun e w' => e = .returned (.bool (decide ((i : Int) < k))) ∧ w' = W by rw [← allN_bit k i hi, ← hasM_bit hi]; exact hHk W i)
  have hHo := fun W => MHas_calls m o W hml
  rw [tells_within] at hHo
  have hCo := fun W => MCount_calls m W hml
  rw [cnt_up] at hCo
  have hul := upTo_len m 32
  have hT9 := fun W h => told_calls m 99 hml (by omega) W h
  have hTM := fun W h => told_calls m M hml hM1 W h
  rw [ints_up] at hT9 hTM
  rw [List.take_of_length_le (l := upTo m 32) (by omega), show ((obs m).take 99).length = (upTo m 32).length by rw [List.take_of_length_le (by have := obs_length m; omega), upTo_all, List.length_map]] at hT9
  rw [show ((obs m).take M).length = ((upTo m 32).take M).length by rw [upTo_all, ← List.map_take, List.length_map]] at hTM
  obtain ⟨K, hK⟩ : ∃ K, K = ((upTo m 32).take M).length := ⟨_, rfl⟩
  rw [← hK] at hTM
  have HK := Lib.hid hK
  have hKm : K = min M (upTo m 32).length := by rw [hK, List.length_take]
  have HKm := Lib.hid hKm
  clear hK hKm
  have hTx := fun W h => Text_calls m hml W h
  have hRx := fun W => RefText_calls m W hml
  obtain ⟨ak, hak⟩ : ∃ ak, ak = allN k := ⟨_, rfl⟩
  rw [← hak] at hAl HHK
  obtain ⟨tx, htx⟩ : ∃ tx, tx = textN m := ⟨_, rfl⟩
  rw [← htx] at hTx hRx
  obtain ⟨ob, hob⟩ : ∃ ob, ob = decide (o ∈ upTo m 32) := ⟨_, rfl⟩
  rw [← hob] at hHo
  have HOB := Lib.hid hob
  have HM := Lib.hid hm
  clear hn hnc hlf hM hHk hak htx hob hm
  go_enter Tryd.func3, Tryd.ntmps3
  go_wp2_with fail
  refine (awake_calls _ hTab).mono ?_
  rintro e w1 ⟨rfl, hb⟩
  have hs1 := Sl.ext hs hb
  have ht1 := Lib.hid (Tab.ext hTab hb)
  clear hTab hs
  go_wp2_with fail
  refine (hF _ hs1).mono ?_
  rintro e w2 ⟨vf, rfl, hrf, hb2⟩
  have hb := hb.trans (hb2.mono hb.size)
  have ht1 := Lib.hid (Tab.ext ht1.out hb2)
  obtain ⟨Af, cf, bf, rfl, _, _, hsf⟩ := own_sl hrf
  clear hF hs1 hb2 hrf
  have hOf := Of_calls Af lf _ cf bf w2 hsf rfl (by omega)
  rw [← HM.out] at hOf
  go_wp2_with fail
  refine hOf.mono ?_
  rintro e w3 ⟨rfl, rfl⟩
  have hWf := RefWord_calls Af lf _ cf bf w3 hsf rfl (by omega)
  rw [← HM.out] at hWf
  clear hOf
  go_wp2_with fail
  refine hWf.mono ?_
  rintro e w4 ⟨rfl, rfl⟩
  go_wp2_with fail
  refine (hLi _).mono ?_
  rintro e w5 ⟨vw, rfl, hrw, hb2⟩
  have hb := hb.trans (hb2.mono hb.size)
  have ht1 := Lib.hid (Tab.ext ht1.out hb2)
  have hsf := Sl.ext hsf hb2
  obtain ⟨Aw, cw, bw, rfl, hcw, _, hsw⟩ := own_sl hrw
  clear hWf hLi hb2 hrw
  go_wp2_with fail
  refine (hAl _).mono ?_
  rintro e W0 ⟨rfl, rfl⟩
  go_wp2_with fail
  go_loopw [29] (fun i wr => ∃ j : Nat, j ≤ 32 ∧ i = .int .i64 j ∧ wr = W0) (fun i _ => 32 - (intOf i).toNat)
  case atStart => exact ⟨0, Nat.zero_le _, rfl, rfl⟩
  case round =>
    obtain ⟨j, hj, rfl, rfl⟩ := hrel
    by_cases hlt : j < 32
    · have hH := fun W => HHK.out W j hlt
      have ej : (j : Int) < 32 := by omega
      obtain ⟨dd, hdd⟩ : ∃ dd, dd = decide ((j : Int) < k) := ⟨_, rfl⟩
      have hdd2 : decide ((j : Int) < k) = dd := hdd.symm
      rw [hdd2] at hH
      clear hdd
      go_wp2_with fail
      refine (hH _).mono ?_
      rintro e wr ⟨rfl, rfl⟩
      go_wp2_with fail
      go_roundw
      case rel => exact ⟨j + 1, by omega, by go_num, trivial⟩
      case measure => simp [intOf]; omega
    · obtain rfl : j = 32 := by omega
      have hWf := fun W h => RefWord_calls Af lf _ cf bf W h rfl (by omega)
      rw [← HM.out] at hWf
      have hIo := fun W h => RefIn_calls Aw (upTo m 32) _ cw bw o W h rfl (by omega)
      rw [← HOB.out] at hIo
      have hSa := fun (A' : Option Addr) (c' b' : Nat) (W : World) h h' => same_calls (upTo m 32) A' Aw _ c' cw b' bw W h h' rfl (by omega)
      have hSb := fun (A' : Option Addr) (c' b' : Nat) (W : World) h h' => same_calls ((upTo m 32).take M) A' Aw K c' cw b' bw W h h' HK.out.symm (by rw [HKm.out]; omega)
      have hst : TSt w bf Af lf bw Aw (upTo m 32) wr := ⟨hsf, hsw, ht1.out, hb⟩
      have HST := Lib.hid hst
      have hmin : min ((upTo m 32).length : Int) (M : Int) = (K : Int) := by rw [HKm.out]; omega
      have hKc : (K : Int) ≤ (cw : Int) := by rw [HKm.out]; omega
      clear hst hsf hsw ht1 hb HHK hAl
      go_wp2_with fail
      refine wp_region_held_drew (S := TSt w bf Af lf bw Aw (upTo m 32)) (by kernel_rfl) ?_ (fun hHeld => ?_)
      · exact ⟨HST.out.1, HST.out.2.1, HST.out.2.2.1, below_drew HST.out.2.2.2⟩
      refine wpAnyH_take (i := 0) (v := ?v0) (by simp only [List.getElem?_toArray, List.getElem?_cons_zero]; rfl) (by kernel_rfl) (by kernel_rfl) (by kernel_rfl) (by exact fun _ _ _ h => h) (Or.inl ⟨by rfl, ?y0⟩) hHeld ?_
      case y0 => (intro w hSw; clear hSw; go_simp; try (with_reducible rfl))
      try simp only [Act.put, List.setIfInBounds_toArray, List.set_cons_zero, List.set_cons_succ]
      refine wpAnyH_take (i := 1) (v := ?v1) (by simp only [List.getElem?_toArray, List.getElem?_cons_succ, List.getElem?_cons_zero]; rfl) (by kernel_rfl) (by kernel_rfl) (by kernel_rfl) (by exact fun _ _ _ h => h) (Or.inl ⟨by rfl, ?y1⟩) hHeld ?_
      case y1 => (intro w hSw; clear hSw; go_simp; try (with_reducible rfl))
      try simp only [Act.put, List.setIfInBounds_toArray, List.set_cons_zero, List.set_cons_succ]
      refine wpAnyH_ready (rs := [2]) (by kernel_rfl) (by simp) ?_
      refine AllReadyH.cons (by simp only [List.getElem?_toArray, List.getElem?_cons_succ, List.getElem?_cons_zero]; rfl) (fun KK hKK => ?_) AllReadyH.nil
      go_simp
      refine (hWf _ hHeld.1).mono ?_
      rintro e x1 ⟨rfl, rfl⟩
      go_wp2_with fail
      refine hKK.out _ _ ?_ (fun hHeld => ?_)
      · exact hHeld
      clear hKK KK
      try simp only [Act.put, List.setIfInBounds_toArray, List.set_cons_zero, List.set_cons_succ]
      refine wpAnyH_take (i := 3) (v := ?v3) (by simp only [List.getElem?_toArray, List.getElem?_cons_succ, List.getElem?_cons_zero]; rfl) (by kernel_rfl) (by kernel_rfl) (by kernel_rfl) (by exact fun _ _ _ h => h) (Or.inl ⟨by rfl, ?y3⟩) hHeld ?_
      case y3 => (intro w hSw; clear hSw; go_simp; try (with_reducible rfl))
      try simp only [Act.put, List.setIfInBounds_toArray, List.set_cons_zero, List.set_cons_succ]
      refine wpAnyH_take (i := 4) (v := ?v4) (by simp only [List.getElem?_toArray, List.getElem?_cons_succ, List.getElem?_cons_zero]; rfl) (by kernel_rfl) (by kernel_rfl) (by kernel_rfl) (by exact fun _ _ _ h => h) (Or.inl ⟨by rfl, ?y4⟩) hHeld ?_
      case y4 => (intro w hSw; clear hSw; go_simp; try (with_reducible rfl))
      try simp only [Act.put, List.setIfInBounds_toArray, List.set_cons_zero, List.set_cons_succ]
      refine wpAnyH_take (i := 5) (v := ?v5) (by simp only [List.getElem?_toArray, List.getElem?_cons_succ, List.getElem?_cons_zero]; rfl) (by kernel_rfl) (by kernel_rfl) (by kernel_rfl) (by exact fun _ _ _ h => h) (Or.inl ⟨by rfl, ?y5⟩) hHeld ?_
      case y5 => (intro w hSw; clear hSw; go_simp; try (with_reducible rfl))
      try simp only [Act.put, List.setIfInBounds_toArray, List.set_cons_zero, List.set_cons_succ]
      refine wpAnyH_take (i := 6) (v := ?v6) (by simp only [List.getElem?_toArray, List.getElem?_cons_succ, List.getElem?_cons_zero]; rfl) (by kernel_rfl) (by kernel_rfl) (by kernel_rfl) (by exact fun _ _ _ h => h) (Or.inl ⟨by rfl, ?y6⟩) hHeld ?_
      case y6 => (intro w hSw; clear hSw; go_simp; try (with_reducible rfl))
      try simp only [Act.put, List.setIfInBounds_toArray, List.set_cons_zero, List.set_cons_succ]
      refine wpAnyH_take (i := 8) (v := ?v8) (by simp only [List.getElem?_toArray, List.getElem?_cons_succ, List.getElem?_cons_zero]; rfl) (by kernel_rfl) (by kernel_rfl) (by kernel_rfl) (by exact fun _ _ _ h => h) (Or.inl ⟨by rfl, ?y8⟩) hHeld ?_
      case y8 => (intro w hSw; clear hSw; go_simp; try (with_reducible rfl))
      try simp only [Act.put, List.setIfInBounds_toArray, List.set_cons_zero, List.set_cons_succ]
      refine wpAnyH_take (i := 9) (v := ?v9) (by simp only [List.getElem?_toArray, List.getElem?_cons_succ, List.getElem?_cons_zero]; rfl) (by kernel_rfl) (by kernel_rfl) (by kernel_rfl) (by exact fun _ _ _ h => h) (Or.inl ⟨by rfl, ?y9⟩) hHeld ?_
      case y9 => (intro w hSw; clear hSw; go_simp; try (with_reducible rfl))
      try simp only [Act.put, List.setIfInBounds_toArray, List.set_cons_zero, List.set_cons_succ]
      refine wpAnyH_ready (rs := [7]) (by kernel_rfl) (by simp) ?_
      refine AllReadyH.cons (by simp only [List.getElem?_toArray, List.getElem?_cons_succ, List.getElem?_cons_zero]; rfl) (fun KK hKK => ?_) AllReadyH.nil
      go_simp
      refine (hHo _).mono ?_
      rintro e x2 ⟨rfl, rfl⟩
      go_wp2_with fail
      refine hKK.out _ _ ?_ (fun hHeld => ?_)
      · exact hHeld
      clear hKK KK
      try simp only [Act.put, List.setIfInBounds_toArray, List.set_cons_zero, List.set_cons_succ]
      refine wpAnyH_ready (rs := [10]) (by kernel_rfl) (by simp) ?_
      refine AllReadyH.cons (by simp only [List.getElem?_toArray, List.getElem?_cons_succ, List.getElem?_cons_zero]; rfl) (fun KK hKK => ?_) AllReadyH.nil
      go_simp
      refine (hIo _ hHeld.2.1).mono ?_
      rintro e x3 ⟨rfl, rfl⟩
      go_wp2_with fail
      refine hKK.out _ _ ?_ (fun hHeld => ?_)
      · exact hHeld
      clear hKK KK
      try simp only [Act.put, List.setIfInBounds_toArray, List.set_cons_zero, List.set_cons_succ]
      refine wpAnyH_take (i := 11) (v := ?v11) (by simp only [List.getElem?_toArray, List.getElem?_cons_succ, List.getElem?_cons_zero]; rfl) (by kernel_rfl) (by kernel_rfl) (by kernel_rfl) (by exact fun _ _ _ h => h) (Or.inl ⟨by rfl, ?y11⟩) hHeld ?_
      case y11 => (intro w hSw; clear hSw; go_simp; try (with_reducible rfl))
      try simp only [Act.put, List.setIfInBounds_toArray, List.set_cons_zero, List.set_cons_succ]
      refine wpAnyH_take (i := 12) (v := ?v12) (by simp only [List.getElem?_toArray, List.getElem?_cons_succ, List.getElem?_cons_zero]; rfl) (by kernel_rfl) (by kernel_rfl) (by kernel_rfl) (by exact fun _ _ _ h => h) (Or.inl ⟨by rfl, ?y12⟩) hHeld ?_
      case y12 => (intro w hSw; clear hSw; go_simp; try (with_reducible rfl))
      try simp only [Act.put, List.setIfInBounds_toArray, List.set_cons_zero, List.set_cons_succ]
      refine wpAnyH_take (i := 13) (v := ?v13) (by simp only [List.getElem?_toArray, List.getElem?_cons_succ, List.getElem?_cons_zero]; rfl) (by kernel_rfl) (by kernel_rfl) (by kernel_rfl) (by exact fun _ _ _ h => h) (Or.inl ⟨by rfl, ?y13⟩) hHeld ?_
      case y13 => (intro w hSw; clear hSw; go_simp; try (with_reducible rfl))
      try simp only [Act.put, List.setIfInBounds_toArray, List.set_cons_zero, List.set_cons_succ]
      refine wpAnyH_take (i := 14) (v := ?v14) (by simp only [List.getElem?_toArray, List.getElem?_cons_succ, List.getElem?_cons_zero]; rfl) (by kernel_rfl) (by kernel_rfl) (by kernel_rfl) (by exact fun _ _ _ h => h) (Or.inl ⟨by rfl, ?y14⟩) hHeld ?_
      case y14 => (intro w hSw; clear hSw; go_simp; try (with_reducible rfl))
      try simp only [Act.put, List.setIfInBounds_toArray, List.set_cons_zero, List.set_cons_succ]
      refine wpAnyH_take (i := 16) (v := ?v16) (by simp only [List.getElem?_toArray, List.getElem?_cons_succ, List.getElem?_cons_zero]; rfl) (by kernel_rfl) (by kernel_rfl) (by kernel_rfl) (by exact fun _ _ _ h => h) (Or.inl ⟨by rfl, ?y16⟩) hHeld ?_
      case y16 => (intro w hSw; clear hSw; go_simp; try (with_reducible rfl))
      try simp only [Act.put, List.setIfInBounds_toArray, List.set_cons_zero, List.set_cons_succ]
      refine wpAnyH_take (i := 17) (v := ?v17) (by simp only [List.getElem?_toArray, List.getElem?_cons_succ, List.getElem?_cons_zero]; rfl) (by kernel_rfl) (by kernel_rfl) (by kernel_rfl) (by exact fun _ _ _ h => h) (Or.inl ⟨by rfl, ?y17⟩) hHeld ?_
      case y17 => (intro w hSw; clear hSw; go_simp; try (with_reducible rfl))
      try simp only [Act.put, List.setIfInBounds_toArray, List.set_cons_zero, List.set_cons_succ]
      refine wpAnyH_ready (rs := [15]) (by kernel_rfl) (by simp) ?_
      refine AllReadyH.cons (by simp only [List.getElem?_toArray, List.getElem?_cons_succ, List.getElem?_cons_zero]; rfl) (fun KK hKK => ?_) AllReadyH.nil
      go_simp
      refine (hCo _).mono ?_
      rintro e y1 ⟨rfl, hb2⟩
      have hHeld := TSt.ext hHeld hb2
      clear hb2
      go_wp2_with fail
      refine hKK.out _ _ ?_ (fun hHeld => ?_)
      · exact hHeld
      clear hKK KK
      try simp only [Act.put, List.setIfInBounds_toArray, List.set_cons_zero, List.set_cons_succ]
      refine wpAnyH_take (i := 18) (v := ?v18) (by simp only [List.getElem?_toArray, List.getElem?_cons_succ, List.getElem?_cons_zero]; rfl) (by kernel_rfl) (by kernel_rfl) (by kernel_rfl) (by exact fun _ _ _ h => h) (Or.inl ⟨by rfl, ?y18⟩) hHeld ?_
      case y18 => (intro w hSw; clear hSw; go_simp; try (with_reducible rfl))
      try simp only [Act.put, List.setIfInBounds_toArray, List.set_cons_zero, List.set_cons_succ]
      refine wpAnyH_take (i := 19) (v := ?v19) (by simp only [List.getElem?_toArray, List.getElem?_cons_succ, List.getElem?_cons_zero]; rfl) (by kernel_rfl) (by kernel_rfl) (by kernel_rfl) (by exact fun _ _ _ h => h) (Or.inl ⟨by rfl, ?y19⟩) hHeld ?_
      case y19 => (intro w hSw; clear hSw; go_simp; try (with_reducible rfl))
      try simp only [Act.put, List.setIfInBounds_toArray, List.set_cons_zero, List.set_cons_succ]
      refine wpAnyH_take (i := 20) (v := ?v20) (by simp only [List.getElem?_toArray, List.getElem?_cons_succ, List.getElem?_cons_zero]; rfl) (by kernel_rfl) (by kernel_rfl) (by kernel_rfl) (by exact fun _ _ _ h => h) (Or.inl ⟨by rfl, ?y20⟩) hHeld ?_
      case y20 => (intro w hSw; clear hSw; go_simp; try (with_reducible rfl))
      try simp only [Act.put, List.setIfInBounds_toArray, List.set_cons_zero, List.set_cons_succ]
      refine wpAnyH_take (i := 21) (v := ?v21) (by simp only [List.getElem?_toArray, List.getElem?_cons_succ, List.getElem?_cons_zero]; rfl) (by kernel_rfl) (by kernel_rfl) (by kernel_rfl) (by exact fun _ _ _ h => h) (Or.inl ⟨by rfl, ?y21⟩) hHeld ?_
      case y21 => (intro w hSw; clear hSw; go_simp; try (with_reducible rfl))
      try simp only [Act.put, List.setIfInBounds_toArray, List.set_cons_zero, List.set_cons_succ]
      refine wpAnyH_take (i := 23) (v := ?v23) (by simp only [List.getElem?_toArray, List.getElem?_cons_succ, List.getElem?_cons_zero]; rfl) (by kernel_rfl) (by kernel_rfl) (by kernel_rfl) (by exact fun _ _ _ h => h) (Or.inl ⟨by rfl, ?y23⟩) hHeld ?_
      case y23 => (intro w hSw; clear hSw; go_simp; try (with_reducible rfl))
      try simp only [Act.put, List.setIfInBounds_toArray, List.set_cons_zero, List.set_cons_succ]
      refine wpAnyH_ready (rs := [22]) (by kernel_rfl) (by simp) ?_
      refine AllReadyH.cons (by simp only [List.getElem?_toArray, List.getElem?_cons_succ, List.getElem?_cons_zero]; rfl) (fun KK hKK => ?_) AllReadyH.nil
      go_simp
      refine (hT9 _ hHeld.2.2.1).mono ?_
      rintro e y2 ⟨v9, rfl, hr9, hb2⟩
      have hHeld := TSt.ext hHeld hb2
      obtain ⟨A9, c9, b9, rfl, _, _, hs9⟩ := own_sl hr9
      clear hb2 hr9
      go_wp2_with fail
      refine hKK.out _ _ ?_ (fun hHeld => ?_)
      · exact hHeld
      clear hKK KK
      try simp only [Act.put, List.setIfInBounds_toArray, List.set_cons_zero, List.set_cons_succ]
      refine wpAnyH_ready (rs := [24]) (by kernel_rfl) (by simp) ?_
      refine AllReadyH.cons (by simp only [List.getElem?_toArray, List.getElem?_cons_succ, List.getElem?_cons_zero]; rfl) (fun KK hKK => ?_) AllReadyH.nil
      go_simp
      refine (hSa A9 c9 b9 _ hs9 hHeld.2.1).mono ?_
      rintro e y3 ⟨rfl, hb2⟩
      have hHeld := TSt.ext hHeld hb2
      clear hb2
      go_wp2_with fail
      refine hKK.out _ _ ?_ (fun hHeld => ?_)
      · exact hHeld
      clear hKK KK
      try simp only [Act.put, List.setIfInBounds_toArray, List.set_cons_zero, List.set_cons_succ]
      refine wpAnyH_take (i := 25) (v := ?v25) (by simp only [List.getElem?_toArray, List.getElem?_cons_succ, List.getElem?_cons_zero]; rfl) (by kernel_rfl) (by kernel_rfl) (by kernel_rfl) (by exact fun _ _ _ h => h) (Or.inl ⟨by rfl, ?y25⟩) hHeld ?_
      case y25 => (intro w hSw; clear hSw; go_simp; try (with_reducible rfl))
      try simp only [Act.put, List.setIfInBounds_toArray, List.set_cons_zero, List.set_cons_succ]
      refine wpAnyH_take (i := 26) (v := ?v26) (by simp only [List.getElem?_toArray, List.getElem?_cons_succ, List.getElem?_cons_zero]; rfl) (by kernel_rfl) (by kernel_rfl) (by kernel_rfl) (by exact fun _ _ _ h => h) (Or.inl ⟨by rfl, ?y26⟩) hHeld ?_
      case y26 => (intro w hSw; clear hSw; go_simp; try (with_reducible rfl))
      try simp only [Act.put, List.setIfInBounds_toArray, List.set_cons_zero, List.set_cons_succ]
      refine wpAnyH_take (i := 27) (v := ?v27) (by simp only [List.getElem?_toArray, List.getElem?_cons_succ, List.getElem?_cons_zero]; rfl) (by kernel_rfl) (by kernel_rfl) (by kernel_rfl) (by exact fun _ _ _ h => h) (Or.inl ⟨by rfl, ?y27⟩) hHeld ?_
      case y27 => (intro w hSw; clear hSw; go_simp; try (with_reducible rfl))
      try simp only [Act.put, List.setIfInBounds_toArray, List.set_cons_zero, List.set_cons_succ]
      refine wpAnyH_take (i := 28) (v := ?v28) (by simp only [List.getElem?_toArray, List.getElem?_cons_succ, List.getElem?_cons_zero]; rfl) (by kernel_rfl) (by kernel_rfl) (by kernel_rfl) (by exact fun _ _ _ h => h) (Or.inl ⟨by rfl, ?y28⟩) hHeld ?_
      case y28 => (intro w hSw; clear hSw; go_simp; try (with_reducible rfl))
      try simp only [Act.put, List.setIfInBounds_toArray, List.set_cons_zero, List.set_cons_succ]
      refine wpAnyH_take (i := 30) (v := ?v30) (by simp only [List.getElem?_toArray, List.getElem?_cons_succ, List.getElem?_cons_zero]; rfl) (by kernel_rfl) (by kernel_rfl) (by kernel_rfl) (by exact fun _ _ _ h => h) (Or.inl ⟨by rfl, ?y30⟩) hHeld ?_
      case y30 => (intro w hSw; clear hSw; go_simp; try (with_reducible rfl))
      try simp only [Act.put, List.setIfInBounds_toArray, List.set_cons_zero, List.set_cons_succ]
      refine wpAnyH_take (i := 31) (v := ?v31) (by simp only [List.getElem?_toArray, List.getElem?_cons_succ, List.getElem?_cons_zero]; rfl) (by kernel_rfl) (by kernel_rfl) (by kernel_rfl) (by exact fun _ _ _ h => h) (Or.inl ⟨by rfl, ?y31⟩) hHeld ?_
      case y31 => (intro w hSw; clear hSw; go_simp; try (with_reducible rfl))
      try simp only [Act.put, List.setIfInBounds_toArray, List.set_cons_zero, List.set_cons_succ]
      refine wpAnyH_take (i := 32) (v := ?v32) (by simp only [List.getElem?_toArray, List.getElem?_cons_succ, List.getElem?_cons_zero]; rfl) (by kernel_rfl) (by kernel_rfl) (by kernel_rfl) (by exact fun _ _ _ h => h) (Or.inl ⟨by rfl, ?y32⟩) hHeld ?_
      case y32 => (intro w hSw; clear hSw; go_simp; try (with_reducible rfl))
      try simp only [Act.put, List.setIfInBounds_toArray, List.set_cons_zero, List.set_cons_succ]
      refine wpAnyH_take (i := 33) (v := ?v33) (by simp only [List.getElem?_toArray, List.getElem?_cons_succ, List.getElem?_cons_zero]; rfl) (by kernel_rfl) (by kernel_rfl) (by kernel_rfl) (by exact fun _ _ _ h => h) (Or.inl ⟨by rfl, ?y33⟩) hHeld ?_
      case y33 => (intro w hSw; clear hSw; go_simp; try (with_reducible rfl))
      try simp only [Act.put, List.setIfInBounds_toArray, List.set_cons_zero, List.set_cons_succ]
      refine wpAnyH_take (i := 34) (v := ?v34) (by simp only [List.getElem?_toArray, List.getElem?_cons_succ, List.getElem?_cons_zero]; rfl) (by kernel_rfl) (by kernel_rfl) (by kernel_rfl) (by exact fun _ _ _ h => h) (Or.inl ⟨by rfl, ?y34⟩) hHeld ?_
      case y34 => (intro w hSw; clear hSw; go_simp; try (with_reducible rfl))
      try simp only [Act.put, List.setIfInBounds_toArray, List.set_cons_zero, List.set_cons_succ]
      refine wpAnyH_take (i := 35) (v := ?v35) (by simp only [List.getElem?_toArray, List.getElem?_cons_succ, List.getElem?_cons_zero]; rfl) (by kernel_rfl) (by kernel_rfl) (by kernel_rfl) (by exact fun _ _ _ h => h) (Or.inl ⟨by rfl, ?y35⟩) hHeld ?_
      case y35 => (intro w hSw; clear hSw; go_simp; try (with_reducible rfl))
      try simp only [Act.put, List.setIfInBounds_toArray, List.set_cons_zero, List.set_cons_succ]
      refine wpAnyH_ready (rs := [29]) (by kernel_rfl) (by simp) ?_
      refine AllReadyH.cons (by simp only [List.getElem?_toArray, List.getElem?_cons_succ, List.getElem?_cons_zero]; rfl) (fun KK hKK => ?_) AllReadyH.nil
      go_simp
      refine (hTM _ hHeld.2.2.1).mono ?_
      rintro e y4 ⟨v10, rfl, hr9, hb2⟩
      have hHeld := TSt.ext hHeld hb2
      obtain ⟨A10, c10, b10, rfl, _, _, hs10⟩ := own_sl hr9
      clear hb2 hr9
      go_wp2_with fail
      refine hKK.out _ _ ?_ (fun hHeld => ?_)
      · exact hHeld
      clear hKK KK
      try simp only [Act.put, List.setIfInBounds_toArray, List.set_cons_zero, List.set_cons_succ]
      refine wpAnyH_ready (rs := [36]) (by kernel_rfl) (by simp) ?_
      refine AllReadyH.cons (by simp only [List.getElem?_toArray, List.getElem?_cons_succ, List.getElem?_cons_zero]; rfl) (fun KK hKK => ?_) AllReadyH.nil
      go_simp
      refine (hSb A10 c10 b10 _ hs10 (by have := Sl.take hHeld.2.1 K; rwa [HK.out, take_iz] at this)).mono ?_
      rintro e y5 ⟨rfl, hb2⟩
      have hHeld := TSt.ext hHeld hb2
      clear hb2
      go_wp2_with fail
      refine hKK.out _ _ ?_ (fun hHeld => ?_)
      · exact hHeld
      clear hKK KK
      try simp only [Act.put, List.setIfInBounds_toArray, List.set_cons_zero, List.set_cons_succ]
      refine wpAnyH_take (i := 37) (v := ?v37) (by simp only [List.getElem?_toArray, List.getElem?_cons_succ, List.getElem?_cons_zero]; rfl) (by kernel_rfl) (by kernel_rfl) (by kernel_rfl) (by exact fun _ _ _ h => h) (Or.inl ⟨by rfl, ?y37⟩) hHeld ?_
      case y37 => (intro w hSw; clear hSw; go_simp; try (with_reducible rfl))
      try simp only [Act.put, List.setIfInBounds_toArray, List.set_cons_zero, List.set_cons_succ]
      refine wpAnyH_take (i := 38) (v := ?v38) (by simp only [List.getElem?_toArray, List.getElem?_cons_succ, List.getElem?_cons_zero]; rfl) (by kernel_rfl) (by kernel_rfl) (by kernel_rfl) (by exact fun _ _ _ h => h) (Or.inl ⟨by rfl, ?y38⟩) hHeld ?_
      case y38 => (intro w hSw; clear hSw; go_simp; try (with_reducible rfl))
      try simp only [Act.put, List.setIfInBounds_toArray, List.set_cons_zero, List.set_cons_succ]
      refine wpAnyH_take (i := 39) (v := ?v39) (by simp only [List.getElem?_toArray, List.getElem?_cons_succ, List.getElem?_cons_zero]; rfl) (by kernel_rfl) (by kernel_rfl) (by kernel_rfl) (by exact fun _ _ _ h => h) (Or.inl ⟨by rfl, ?y39⟩) hHeld ?_
      case y39 => (intro w hSw; clear hSw; go_simp; try (with_reducible rfl))
      try simp only [Act.put, List.setIfInBounds_toArray, List.set_cons_zero, List.set_cons_succ]
      refine wpAnyH_take (i := 41) (v := ?v41) (by simp only [List.getElem?_toArray, List.getElem?_cons_succ, List.getElem?_cons_zero]; rfl) (by kernel_rfl) (by kernel_rfl) (by kernel_rfl) (by exact fun _ _ _ h => h) (Or.inl ⟨by rfl, ?y41⟩) hHeld ?_
      case y41 => (intro w hSw; clear hSw; go_simp; try (with_reducible rfl))
      try simp only [Act.put, List.setIfInBounds_toArray, List.set_cons_zero, List.set_cons_succ]
      refine wpAnyH_ready (rs := [40]) (by kernel_rfl) (by simp) ?_
      refine AllReadyH.cons (by simp only [List.getElem?_toArray, List.getElem?_cons_succ, List.getElem?_cons_zero]; rfl) (fun KK hKK => ?_) AllReadyH.nil
      go_simp
      refine (hTx _ hHeld.2.2.1).mono ?_
      rintro e y6 ⟨rfl, hb2⟩
      have hHeld := TSt.ext hHeld hb2
      clear hb2
      go_wp2_with fail
      refine hKK.out _ _ ?_ (fun hHeld => ?_)
      · exact hHeld
      clear hKK KK
      try simp only [Act.put, List.setIfInBounds_toArray, List.set_cons_zero, List.set_cons_succ]
      refine wpAnyH_ready (rs := [42]) (by kernel_rfl) (by simp) ?_
      refine AllReadyH.cons (by simp only [List.getElem?_toArray, List.getElem?_cons_succ, List.getElem?_cons_zero]; rfl) (fun KK hKK => ?_) AllReadyH.nil
      go_simp
      refine (hRx _).mono ?_
      rintro e y7 ⟨rfl, hb2⟩
      have hHeld := TSt.ext hHeld hb2
      clear hb2
      go_wp2_with fail
      refine hKK.out _ _ ?_ (fun hHeld => ?_)
      · exact hHeld
      clear hKK KK
      try simp only [Act.put, List.setIfInBounds_toArray, List.set_cons_zero, List.set_cons_succ]
      refine wpAnyH_take (i := 43) (v := ?v43) (by simp only [List.getElem?_toArray, List.getElem?_cons_succ, List.getElem?_cons_zero]; rfl) (by kernel_rfl) (by kernel_rfl) (by kernel_rfl) (by exact fun _ _ _ h => h) (Or.inl ⟨by rfl, ?y43⟩) hHeld ?_
      case y43 => (intro w hSw; clear hSw; go_simp; try (with_reducible rfl))
      try simp only [Act.put, List.setIfInBounds_toArray, List.set_cons_zero, List.set_cons_succ]
      refine wpAnyH_take (i := 44) (v := ?v44) (by simp only [List.getElem?_toArray, List.getElem?_cons_succ, List.getElem?_cons_zero]; rfl) (by kernel_rfl) (by kernel_rfl) (by kernel_rfl) (by exact fun _ _ _ h => h) (Or.inl ⟨by rfl, ?y44⟩) hHeld ?_
      case y44 => (intro w hSw; clear hSw; go_simp; try (with_reducible rfl))
      try simp only [Act.put, List.setIfInBounds_toArray, List.set_cons_zero, List.set_cons_succ]
      refine wpAnyH_take (i := 45) (v := ?v45) (by simp only [List.getElem?_toArray, List.getElem?_cons_succ, List.getElem?_cons_zero]; rfl) (by kernel_rfl) (by kernel_rfl) (by kernel_rfl) (by exact fun _ _ _ h => h) (Or.inl ⟨by rfl, ?y45⟩) hHeld ?_
      case y45 => (intro w hSw; clear hSw; go_simp; try (with_reducible rfl))
      try simp only [Act.put, List.setIfInBounds_toArray, List.set_cons_zero, List.set_cons_succ]
      refine wpAnyH_done (by kernel_rfl) ?_ _
      go_wp2_with fail
      go_ret
      exact ⟨rfl, hHeld.2.2.2⟩
end Go.Proofs.YtbbabmiacmmkpaaDoor
