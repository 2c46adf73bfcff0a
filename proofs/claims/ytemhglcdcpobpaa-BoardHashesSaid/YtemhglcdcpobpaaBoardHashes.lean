/- BoardHashes: the walk. Conditions: the list is no longer than may be; the cells fit. -/
import Derived.Test.YtemhglcdcpobpaaBAwake
import Derived.Test.YtemhglcdcpobpaaFewC
import Derived.Test.YtemhglcdcpobpaaBoardRefH
import Derived.Test.YtemhglcdcpobpaaHashN
import Derived.Deep.DeepCutAuto
namespace Go.Proofs.Ytemhglcdcpobpaa
open Go.RowKit

theorem wp_al {o : Oper} {a : Act} {w : World} {K : Act → World → Prop} {Q : Exit → Act → World → Prop} (ho : o.op = .alloc 31) (h : K (a.put o.dst (.pointer (some ⟨w.heap.size, 0, none⟩))) (w.alloc (.cells (bdL []) 31))) : o.wp Try.prog a w K Q := by
  unfold Oper.wp execOp
  simp only [ho, Instr.alloc, newVar, newRow, run_newObj_alloc, Sem.run_bind, Sem.run_pure, Result.andThen_ok, bd_zero, Value.cells]
  exact h
theorem sl_at {w : World} {b off : Nat} {L : List (Int × Nat)} (h : Sl w b (some ⟨b, off, none⟩) (cv L)) {i : Nat} (hi : i < L.length) :
    w.cell? ⟨b, off + i * 2, none⟩ = some (.int .i32 L[i].1) ∧ w.cell? ⟨b, off + i * 2 + 1, none⟩ = some (.int .u32 ((L[i].2 : Nat) : Int)) := by
  obtain ⟨off', e, h1⟩ := sl_off h hi
  injection e with e
  injection e with _ e _
  subst e
  exact h1
theorem sl_row {w : World} {b g : Nat} {A : Option Addr} {xs : List Value} (h : Sl w b A xs) (hne : b ≠ g) (cs : Array Value) : Sl (w.setRow g cs) b A xs := h.keep fun _ => setRow_other w g b cs hne
theorem sl_lt {w : World} {b : Nat} {A : Option Addr} {L : List (Int × Nat)} (h : Sl w b A (cv L)) {i : Nat} (hi : i < L.length) : b < w.heap.size :=
  Sl.lt h (by intro h0; have := congrArg List.length h0; simp at this; omega)
set_option maxHeartbeats 16000000 in
set_option maxRecDepth 40000 in
theorem BoardHashes_none (A : Option Addr) (L : List (Int × Nat)) (n c b : Nat) (i : Nat) (v : Int) (m : Nat) (w : World) (hs : Sl w b A (cv L)) (hn : L.length = n) (hnc : n ≤ c) (hok : okC L) (h0 : (L.take 48).length = 0) :
    Calls Try.prog 7 #[.slice A n c, .int .u8 i, .int .i32 v, .int .u32 m] w fun e w' => e = .returned (.bool true) ∧ Below w.heap.size w w' := by
  have hF := fun W h => FewC_calls A L n c b W h hn hnc
  obtain ⟨M, hM⟩ : ∃ M, M = L.take 48 := ⟨_, rfl⟩
  have hML : M.length ≤ 48 := by rw [hM, List.length_take]; omega
  have hMo : okC M := by rw [hM]; exact okC_take hok 48
  rw [← hM] at hF h0
  clear hM hok hn
  go_enter Try.func7, Try.ntmps7
  go_wp2_with fail
  have hs0 := hs
  refine (Awake_calls _).mono ?_
  rintro e w1 ⟨rfl, hb1⟩
  have hs := Sl.ext hs hb1
  have hb := hb1
  clear hb1
  go_wp2_with fail
  refine (hF _ hs).mono ?_
  rintro e w2 ⟨v, rfl, hrow, hb2⟩
  have hs := Sl.ext hs hb2
  have hb := hb.trans (hb2.mono hb.size)
  clear hb2
  clear hs
  clear hF hs0
  obtain ⟨A2, c2, b2, rfl, hlc, hcm, hA2, hbb, hs2, hbk⟩ := hrow.sl
  clear hrow hA2 hbb hbk
  rw [h0]
  go_wp2_with fail
  go_ret
  exact ⟨rfl, hb⟩
set_option maxHeartbeats 16000000 in
set_option maxRecDepth 40000 in
theorem BoardHashes_some (A : Option Addr) (L : List (Int × Nat)) (n c b : Nat) (i k : Nat) (v : Int) (m : Nat) (w : World) (hs : Sl w b A (cv L)) (hn : L.length = n) (hnc : n ≤ c) (hok : okC L) (hk : k < (L.take 48).length) (hik : i % (L.take 48).length = k) (hi8 : i ≤ 255) (hv : -2147483648 ≤ v ∧ v ≤ 2147483647) (hm : m < 4294967296) :
    Calls Try.prog 7 #[.slice A n c, .int .u8 i, .int .i32 v, .int .u32 m] w fun e w' => e = .returned (.bool true) ∧ Below w.heap.size w w' := by
  have hF := fun W h => FewC_calls A L n c b W h hn hnc
  obtain ⟨M, hM⟩ : ∃ M, M = L.take 48 := ⟨_, rfl⟩
  have hML : M.length ≤ 48 := by rw [hM, List.length_take]; omega
  have hMo : okC M := by rw [hM]; exact okC_take hok 48
  rw [← hM] at hF hk hik
  clear hM hok hn
  have hN := fun W A c b h => New_in A M M.length c b W h rfl hML
  have hP := fun W => Put_in M k v M[k].2 W hML hk
  have hQ := fun W => Put_in M k M[k].1 m W hML hk
  have hHM := fun W => Hash_calls M W hML hMo
  have hHP := fun W => Hash_calls (M.set k (v, M[k].2)) W (by simp; omega) (okC_set hMo k ⟨hv, (okC_get hMo hk).2⟩)
  have hHS := fun W => Hash_calls (M.set k (M[k].1, m)) W (by simp; omega) (okC_set hMo k ⟨(okC_get hMo hk).1, hm⟩)
  have hLM := fun W => Labels_calls M W hML hMo
  have hLP := fun W => Labels_calls (M.set k (v, M[k].2)) W (by simp; omega) (okC_set hMo k ⟨hv, (okC_get hMo hk).2⟩)
  have hLS := fun W => Labels_calls (M.set k (M[k].1, m)) W (by simp; omega) (okC_set hMo k ⟨(okC_get hMo hk).1, hm⟩)
  rw [labs_val hk] at hLP
  have hd1 := hash_val hk hMo hv
  have hd3 := hash_lab hk hMo hm
  have hd5 := labs_lab hk hMo hm
  obtain ⟨X, hX⟩ : ∃ X, X = M[k].1 := ⟨_, rfl⟩
  obtain ⟨Y, hY⟩ : ∃ Y, Y = M[k].2 := ⟨_, rfl⟩
  have HX := Lib.hid hX
  have HY := Lib.hid hY
  rw [← hY] at hP hHP hd1 hd3 hd5 hLP
  rw [← hX] at hQ hHS hLS hd1 hd3 hd5
  obtain ⟨P1, hP1⟩ : ∃ P1, P1 = M.set k (v, Y) := ⟨_, rfl⟩
  obtain ⟨S1, hS1⟩ : ∃ S1, S1 = M.set k (X, m) := ⟨_, rfl⟩
  rw [← hP1] at hP hHP hd1 hLP
  rw [← hS1] at hQ hHS hLS hd3 hd5
  obtain ⟨nM, hnM⟩ : ∃ nM, nM = hashL M := ⟨_, rfl⟩
  obtain ⟨nP, hnP⟩ : ∃ nP, nP = hashL P1 := ⟨_, rfl⟩
  obtain ⟨nS, hnS⟩ : ∃ nS, nS = hashL S1 := ⟨_, rfl⟩
  obtain ⟨lM, hlM⟩ : ∃ lM, lM = labsL M := ⟨_, rfl⟩
  obtain ⟨lS, hlS⟩ : ∃ lS, lS = labsL S1 := ⟨_, rfl⟩
  rw [← hnM] at hHM hd1 hd3
  rw [← hnP] at hHP hd1
  rw [← hnS] at hHS hd3
  rw [← hlM] at hLM hLP hd5
  rw [← hlS] at hLS hd5
  obtain ⟨dv, hdv⟩ : ∃ dv, dv = (v == X) := ⟨_, rfl⟩
  obtain ⟨ds, hds⟩ : ∃ ds, ds = ((m : Int) == (Y : Int)) := ⟨_, rfl⟩
  have f1 : ((nM : Int) == (nP : Int)) = dv := by
    rw [hdv, Bool.eq_iff_iff, beq_iff_eq, beq_iff_eq, ← hd1]
    omega
  have f3 : ((nM : Int) == (nS : Int)) = ds := by
    rw [hds, Bool.eq_iff_iff, beq_iff_eq, beq_iff_eq]
    omega
  have f5 : ((lM : Int) == (lS : Int)) = ds := by
    rw [hds, Bool.eq_iff_iff, beq_iff_eq, beq_iff_eq]
    omega
  have f2 := hdv.symm
  have f4 := hds.symm
  have hMp : 0 < M.length := by omega
  have e0 : ((M.length : Int) == 0) = false := by rw [beq_eq_false_iff_ne]; omega
  have hK := Lib.hid hik
  have hr1 : (i : Int).tmod (M.length : Int) = (k : Int) := by rw [Int.tmod_eq_emod_of_nonneg (by omega), ← hik]; rfl
  have hr2 : (i : Int) % (M.length : Int) = (k : Int) := by rw [← hik]; rfl
  have ek : (k : Int) < (M.length : Int) := by omega
  clear hX hY hP1 hS1 hnM hnP hnS hlM hlS hd1 hd3 hd5 hdv hds hik
  go_enter Try.func7, Try.ntmps7
  go_wp2_with fail
  have hs0 := hs
  refine (Awake_calls _).mono ?_
  rintro e w1 ⟨rfl, hb1⟩
  have hs := Sl.ext hs hb1
  have hb := hb1
  clear hb1
  go_wp2_with fail
  refine (hF _ hs).mono ?_
  rintro e w2 ⟨v, rfl, hrow, hb2⟩
  have hs := Sl.ext hs hb2
  have hb := hb.trans (hb2.mono hb.size)
  clear hb2
  clear hs
  clear hF hs0
  obtain ⟨A2, c2, b2, rfl, hlc, hcm, hA2, hbb, hs2, hbk⟩ := hrow.sl
  clear hrow hA2 hbb hbk
  obtain ⟨off, rfl, _, _⟩ := sl_off hs2 hk
  go_wp2_with fail
  refine (hN _ (some ⟨b2, off, none⟩) c2 b2 hs2).mono ?_
  rintro e w3 ⟨rfl, hb3⟩
  have hs2 := Sl.ext hs2 hb3
  have hb := hb.trans (hb3.mono hb.size)
  clear hb3
  clear hN
  have hs2 := Sl.alloc hs2 (.cells (bdL M) 31)
  have hb := hb.alloc hb.size (.cells (bdL M) 31)
  have q9 := BoxL.new_ w3 M
  go_upto_region 8 with (first | ((with_reducible refine at_al 31 9 ?_); refine wpList_al rfl rfl (some 9) rfl w3.heap.size rfl ?_) | ((with_reducible refine at_st 31 9 26 ?_); refine wpList_put rfl (.tmp 9) (.tmp 26) rfl rfl M rfl rfl ?_) | ((with_reducible refine at_ld 31 9 ?_); refine wpList_ld rfl (.tmp 9) rfl w3.heap.size rfl M q9 ?_))
  obtain ⟨wprev, hwp⟩ : ∃ wprev, wprev = w3.alloc (.cells (bdL M) 31) := ⟨_, rfl⟩
  rw [← hwp] at hb q9 hs2 ⊢
  clear hwp
  go_cut [12, 13] (fun s12 s13 wx => ∃ (G : Nat) (wz : World), wz = wx ∧ s12 = .pointer (some ⟨G, 0, none⟩) ∧ s13 = .int .i64 0 ∧ BoxL wz G P1 ∧ Sl wz b2 (some ⟨b2, off, none⟩) (cv M) ∧ BoxL wz w3.heap.size M ∧ Below w.heap.size w wz)
  case first =>
    refine wp_region_held_drew (S := fun w' => BoxL w' w3.heap.size M ∧ Sl w' b2 (some ⟨b2, off, none⟩) (cv M)) (by kernel_rfl) ?_ (fun hHeld => ?_)
    · exact ⟨q9, hs2⟩
    refine wpAnyH_take (i := 0) (by simp only [List.getElem?_toArray, List.getElem?_cons_zero]; rfl) (by kernel_rfl) (by kernel_rfl) (by kernel_rfl) (by exact fun _ _ _ h => h) (by exact yieldsIf_ld (by rfl) (.tmp 9) rfl w3.heap.size rfl M (fun w h => h.1)) hHeld ?_
    try simp only [Act.put, List.setIfInBounds_toArray, List.set_cons_zero, List.set_cons_succ]
    refine wpAnyH_take (i := 1) (v := ?pv1) (by simp only [List.getElem?_toArray, List.getElem?_cons_succ, List.getElem?_cons_zero]; rfl) (by kernel_rfl) (by kernel_rfl) (by kernel_rfl) (by exact fun _ _ _ h => h) (Or.inl ⟨by rfl, ?py1⟩) hHeld ?_
    case py1 => (intro w hSw; (try dsimp only at hSw); have hz1 := (sl_at hSw.2 hk).1; have hz2 := (sl_at hSw.2 hk).2; rw [← HX.out] at hz1; rw [← HY.out] at hz2; clear hSw; go_simp; try (with_reducible rfl))
    try simp only [Act.put, List.setIfInBounds_toArray, List.set_cons_zero, List.set_cons_succ]
    refine wpAnyH_take (i := 2) (v := ?pv2) (by simp only [List.getElem?_toArray, List.getElem?_cons_succ, List.getElem?_cons_zero]; rfl) (by kernel_rfl) (by kernel_rfl) (by kernel_rfl) (by exact fun _ _ _ h => h) (Or.inl ⟨by rfl, ?py2⟩) hHeld ?_
    case py2 => (intro w hSw; (try dsimp only at hSw); have hz1 := (sl_at hSw.2 hk).1; have hz2 := (sl_at hSw.2 hk).2; rw [← HX.out] at hz1; rw [← HY.out] at hz2; clear hSw; go_simp; try (with_reducible rfl))
    try simp only [Act.put, List.setIfInBounds_toArray, List.set_cons_zero, List.set_cons_succ]
    refine wpAnyH_take (i := 3) (v := ?pv3) (by simp only [List.getElem?_toArray, List.getElem?_cons_succ, List.getElem?_cons_zero]; rfl) (by kernel_rfl) (by kernel_rfl) (by kernel_rfl) (by exact fun _ _ _ h => h) (Or.inl ⟨by rfl, ?py3⟩) hHeld ?_
    case py3 => (intro w hSw; (try dsimp only at hSw); have hz1 := (sl_at hSw.2 hk).1; have hz2 := (sl_at hSw.2 hk).2; rw [← HX.out] at hz1; rw [← HY.out] at hz2; clear hSw; go_simp; try (with_reducible rfl))
    try simp only [Act.put, List.setIfInBounds_toArray, List.set_cons_zero, List.set_cons_succ]
    refine wpAnyH_take (i := 4) (v := ?pv4) (by simp only [List.getElem?_toArray, List.getElem?_cons_succ, List.getElem?_cons_zero]; rfl) (by kernel_rfl) (by kernel_rfl) (by kernel_rfl) (by exact fun _ _ _ h => h) (Or.inl ⟨by rfl, ?py4⟩) hHeld ?_
    case py4 => (intro w hSw; (try dsimp only at hSw); have hz1 := (sl_at hSw.2 hk).1; have hz2 := (sl_at hSw.2 hk).2; rw [← HX.out] at hz1; rw [← HY.out] at hz2; clear hSw; go_simp; try (with_reducible rfl))
    try simp only [Act.put, List.setIfInBounds_toArray, List.set_cons_zero, List.set_cons_succ]
    refine wpAnyH_take (i := 5) (v := ?pv5) (by simp only [List.getElem?_toArray, List.getElem?_cons_succ, List.getElem?_cons_zero]; rfl) (by kernel_rfl) (by kernel_rfl) (by kernel_rfl) (by exact fun _ _ _ h => h) (Or.inl ⟨by rfl, ?py5⟩) hHeld ?_
    case py5 => (intro w hSw; (try dsimp only at hSw); have hz1 := (sl_at hSw.2 hk).1; have hz2 := (sl_at hSw.2 hk).2; rw [← HX.out] at hz1; rw [← HY.out] at hz2; clear hSw; go_simp; try (with_reducible rfl))
    try simp only [Act.put, List.setIfInBounds_toArray, List.set_cons_zero, List.set_cons_succ]
    refine wpAnyH_take (i := 6) (v := ?pv6) (by simp only [List.getElem?_toArray, List.getElem?_cons_succ, List.getElem?_cons_zero]; rfl) (by kernel_rfl) (by kernel_rfl) (by kernel_rfl) (by exact fun _ _ _ h => h) (Or.inl ⟨by rfl, ?py6⟩) hHeld ?_
    case py6 => (intro w hSw; (try dsimp only at hSw); have hz1 := (sl_at hSw.2 hk).1; have hz2 := (sl_at hSw.2 hk).2; rw [← HX.out] at hz1; rw [← HY.out] at hz2; clear hSw; go_simp; try (with_reducible rfl))
    try simp only [Act.put, List.setIfInBounds_toArray, List.set_cons_zero, List.set_cons_succ]
    refine wpAnyH_take (i := 7) (v := ?pv7) (by simp only [List.getElem?_toArray, List.getElem?_cons_succ, List.getElem?_cons_zero]; rfl) (by kernel_rfl) (by kernel_rfl) (by kernel_rfl) (by exact fun _ _ _ h => h) (Or.inl ⟨by rfl, ?py7⟩) hHeld ?_
    case py7 => (intro w hSw; (try dsimp only at hSw); have hz1 := (sl_at hSw.2 hk).1; have hz2 := (sl_at hSw.2 hk).2; rw [← HX.out] at hz1; rw [← HY.out] at hz2; clear hSw; go_simp; try (with_reducible rfl))
    try simp only [Act.put, List.setIfInBounds_toArray, List.set_cons_zero, List.set_cons_succ]
    refine wpAnyH_take (i := 8) (v := ?pv8) (by simp only [List.getElem?_toArray, List.getElem?_cons_succ, List.getElem?_cons_zero]; rfl) (by kernel_rfl) (by kernel_rfl) (by kernel_rfl) (by exact fun _ _ _ h => h) (Or.inl ⟨by rfl, ?py8⟩) hHeld ?_
    case py8 => (intro w hSw; (try dsimp only at hSw); have hz1 := (sl_at hSw.2 hk).1; have hz2 := (sl_at hSw.2 hk).2; rw [← HX.out] at hz1; rw [← HY.out] at hz2; clear hSw; go_simp; try (with_reducible rfl))
    try simp only [Act.put, List.setIfInBounds_toArray, List.set_cons_zero, List.set_cons_succ]
    refine wpAnyH_ready (rs := [9, 13]) (by kernel_rfl) (by simp) ?_
    refine AllReadyH.cons (by simp only [List.getElem?_toArray, List.getElem?_cons_succ, List.getElem?_cons_zero]; rfl) (fun KK hKK => ?_) (AllReadyH.cons (by simp only [List.getElem?_toArray, List.getElem?_cons_succ, List.getElem?_cons_zero]; rfl) (fun KK hKK => ?_) AllReadyH.nil)
    · skip
      go_simp
      refine (hP _).mono ?_
      rintro e wa ⟨rfl, h9⟩
      have h9 := below_undrew2 h9
      have hs2 := Sl.ext hs2 h9
      have q9 := q9.ext h9
      have hb := hb.trans (h9.mono hb.size)
      clear h9
      go_wp2_with fail
      refine hKK.out _ _ ?_ (fun hHeld => ?_)
      · exact ⟨q9, hs2⟩
      clear hKK KK
      try simp only [Act.put, List.setIfInBounds_toArray, List.set_cons_zero, List.set_cons_succ]
      refine wpAnyH_take (i := 10) (v := ?pav10) (by simp only [List.getElem?_toArray, List.getElem?_cons_succ, List.getElem?_cons_zero]; rfl) (by kernel_rfl) (by kernel_rfl) (by kernel_rfl) (by exact fun _ _ _ h => h) (Or.inl ⟨by rfl, ?pay10⟩) hHeld ?_
      case pay10 => (intro w hSw; (try dsimp only at hSw); have hz1 := (sl_at hSw.2 hk).1; have hz2 := (sl_at hSw.2 hk).2; rw [← HX.out] at hz1; rw [← HY.out] at hz2; clear hSw; go_simp; try (with_reducible rfl))
      try simp only [Act.put, List.setIfInBounds_toArray, List.set_cons_zero, List.set_cons_succ]
      refine wpAnyH_take (i := 11) (v := ?pav11) (by simp only [List.getElem?_toArray, List.getElem?_cons_succ, List.getElem?_cons_zero]; rfl) (by kernel_rfl) (by kernel_rfl) (by kernel_rfl) (by exact fun _ _ _ h => h) (Or.inl ⟨by rfl, ?pay11⟩) hHeld ?_
      case pay11 => (intro w hSw; (try dsimp only at hSw); have hz1 := (sl_at hSw.2 hk).1; have hz2 := (sl_at hSw.2 hk).2; rw [← HX.out] at hz1; rw [← HY.out] at hz2; clear hSw; go_simp; try (with_reducible rfl))
      try simp only [Act.put, List.setIfInBounds_toArray, List.set_cons_zero, List.set_cons_succ]
      refine wpAnyH_take (i := 12) (v := ?pav12) (by simp only [List.getElem?_toArray, List.getElem?_cons_succ, List.getElem?_cons_zero]; rfl) (by kernel_rfl) (by kernel_rfl) (by kernel_rfl) (by exact fun _ _ _ h => h) (Or.inl ⟨by rfl, ?pay12⟩) hHeld ?_
      case pay12 => (intro w hSw; (try dsimp only at hSw); have hz1 := (sl_at hSw.2 hk).1; have hz2 := (sl_at hSw.2 hk).2; rw [← HX.out] at hz1; rw [← HY.out] at hz2; clear hSw; go_simp; try (with_reducible rfl))
      try simp only [Act.put, List.setIfInBounds_toArray, List.set_cons_zero, List.set_cons_succ]
      have hza := hb.size
      have hlb := sl_lt hs2 hk
      have hl_q9 := q9.lt
      refine wpAnyH_ready (rs := [13]) (by kernel_rfl) (by simp) ?_
      refine AllReadyH.cons (by simp only [List.getElem?_toArray, List.getElem?_cons_succ, List.getElem?_cons_zero]; rfl) (fun KK hKK => ?_) AllReadyH.nil
      rw [if_pos (by rfl)]
      refine wp_al rfl ?_
      have h9 := below_alloc1 wa (.cells (bdL []) 31)
      have qn := BoxL.new_ wa []
      have hs2 := Sl.ext hs2 h9
      have q9 := q9.ext h9
      have hb := hb.trans (h9.mono hb.size)
      clear h9
      refine hKK.out _ _ ?_ (fun hHeld => ?_)
      · exact ⟨q9, hs2⟩
      clear hKK KK
      try simp only [Act.put, List.setIfInBounds_toArray, List.set_cons_zero, List.set_cons_succ]
      refine wpAnyH_ready (rs := [14]) (by kernel_rfl) (by simp) ?_
      refine AllReadyH.cons (by simp only [List.getElem?_toArray, List.getElem?_cons_succ, List.getElem?_cons_zero]; rfl) (fun KK hKK => ?_) AllReadyH.nil
      rw [if_pos (by rfl)]
      refine wp_store_row 31 (.tmp 12) (.tmp 44) rfl wa.heap.size (bdL P1) rfl rfl _ _ qn (bd_size _ _ _) (by rw [bdL_size, bdL_size]) (bdA_all _ _ _) ?_
      have qn := qn.row_ P1
      have q9 := q9.orow (Nat.ne_of_lt hl_q9) (bdL P1)
      have hs2 := sl_row hs2 (Nat.ne_of_lt hlb) (bdL P1)
      have hb := below_setRow hb wa.heap.size (bdL P1) hza
      refine hKK.out _ _ ?_ (fun hHeld => ?_)
      · exact ⟨q9, hs2⟩
      clear hKK KK
      try simp only [Act.put]
      refine wpAnyH_take (i := 15) (v := ?pav15) (by simp only [List.getElem?_toArray, List.getElem?_cons_succ, List.getElem?_cons_zero]; rfl) (by kernel_rfl) (by kernel_rfl) (by kernel_rfl) (by exact fun _ _ _ h => h) (Or.inl ⟨by rfl, ?pay15⟩) hHeld ?_
      case pay15 => (intro w hSw; (try dsimp only at hSw); have hz1 := (sl_at hSw.2 hk).1; have hz2 := (sl_at hSw.2 hk).2; rw [← HX.out] at hz1; rw [← HY.out] at hz2; clear hSw; go_simp; try (with_reducible rfl))
      try simp only [Act.put, List.setIfInBounds_toArray, List.set_cons_zero, List.set_cons_succ]
      refine wpAnyH_done (by kernel_rfl) ?_ _
      go_wp2_with fail
      go_meet
      exact ⟨_, _, rfl, rfl, rfl, qn, hs2, q9, hb⟩
    · skip
      rw [if_pos (by rfl)]
      refine wp_al rfl ?_
      have hza := hb.size
      have hlb := sl_lt hs2 hk
      have hl_q9 := q9.lt
      have h9 : Below wprev.heap.size wprev (wprev.drew.alloc (.cells (bdL []) 31)) := below_undrew2 (below_alloc1 wprev.drew (.cells (bdL []) 31))
      have qn : BoxL (wprev.drew.alloc (.cells (bdL []) 31)) wprev.heap.size [] := BoxL.new_ wprev.drew []
      have hs2 := Sl.ext hs2 h9
      have q9 := q9.ext h9
      have hb := hb.trans (h9.mono hb.size)
      clear h9
      refine hKK.out _ _ ?_ (fun hHeld => ?_)
      · exact ⟨q9, hs2⟩
      clear hKK KK
      try simp only [Act.put, List.setIfInBounds_toArray, List.set_cons_zero, List.set_cons_succ]
      refine wpAnyH_ready (rs := [9]) (by kernel_rfl) (by simp) ?_
      refine AllReadyH.cons (by simp only [List.getElem?_toArray, List.getElem?_cons_succ, List.getElem?_cons_zero]; rfl) (fun KK hKK => ?_) AllReadyH.nil
      go_simp
      refine (hP _).mono ?_
      rintro e wa ⟨rfl, h9⟩
      have qn := qn.ext h9
      have hs2 := Sl.ext hs2 h9
      have q9 := q9.ext h9
      have hb := hb.trans (h9.mono hb.size)
      clear h9
      go_wp2_with fail
      refine hKK.out _ _ ?_ (fun hHeld => ?_)
      · exact ⟨q9, hs2⟩
      clear hKK KK
      try simp only [Act.put, List.setIfInBounds_toArray, List.set_cons_zero, List.set_cons_succ]
      refine wpAnyH_take (i := 10) (v := ?pbv10) (by simp only [List.getElem?_toArray, List.getElem?_cons_succ, List.getElem?_cons_zero]; rfl) (by kernel_rfl) (by kernel_rfl) (by kernel_rfl) (by exact fun _ _ _ h => h) (Or.inl ⟨by rfl, ?pby10⟩) hHeld ?_
      case pby10 => (intro w hSw; (try dsimp only at hSw); have hz1 := (sl_at hSw.2 hk).1; have hz2 := (sl_at hSw.2 hk).2; rw [← HX.out] at hz1; rw [← HY.out] at hz2; clear hSw; go_simp; try (with_reducible rfl))
      try simp only [Act.put, List.setIfInBounds_toArray, List.set_cons_zero, List.set_cons_succ]
      refine wpAnyH_take (i := 11) (v := ?pbv11) (by simp only [List.getElem?_toArray, List.getElem?_cons_succ, List.getElem?_cons_zero]; rfl) (by kernel_rfl) (by kernel_rfl) (by kernel_rfl) (by exact fun _ _ _ h => h) (Or.inl ⟨by rfl, ?pby11⟩) hHeld ?_
      case pby11 => (intro w hSw; (try dsimp only at hSw); have hz1 := (sl_at hSw.2 hk).1; have hz2 := (sl_at hSw.2 hk).2; rw [← HX.out] at hz1; rw [← HY.out] at hz2; clear hSw; go_simp; try (with_reducible rfl))
      try simp only [Act.put, List.setIfInBounds_toArray, List.set_cons_zero, List.set_cons_succ]
      refine wpAnyH_take (i := 12) (v := ?pbv12) (by simp only [List.getElem?_toArray, List.getElem?_cons_succ, List.getElem?_cons_zero]; rfl) (by kernel_rfl) (by kernel_rfl) (by kernel_rfl) (by exact fun _ _ _ h => h) (Or.inl ⟨by rfl, ?pby12⟩) hHeld ?_
      case pby12 => (intro w hSw; (try dsimp only at hSw); have hz1 := (sl_at hSw.2 hk).1; have hz2 := (sl_at hSw.2 hk).2; rw [← HX.out] at hz1; rw [← HY.out] at hz2; clear hSw; go_simp; try (with_reducible rfl))
      try simp only [Act.put, List.setIfInBounds_toArray, List.set_cons_zero, List.set_cons_succ]
      refine wpAnyH_ready (rs := [14]) (by kernel_rfl) (by simp) ?_
      refine AllReadyH.cons (by simp only [List.getElem?_toArray, List.getElem?_cons_succ, List.getElem?_cons_zero]; rfl) (fun KK hKK => ?_) AllReadyH.nil
      rw [if_pos (by rfl)]
      refine wp_store_row 31 (.tmp 12) (.tmp 44) rfl wprev.heap.size (bdL P1) rfl rfl _ _ qn (bd_size _ _ _) (by rw [bdL_size, bdL_size]) (bdA_all _ _ _) ?_
      have qn := qn.row_ P1
      have q9 := q9.orow (Nat.ne_of_lt hl_q9) (bdL P1)
      have hs2 := sl_row hs2 (Nat.ne_of_lt hlb) (bdL P1)
      have hb := below_setRow hb wprev.heap.size (bdL P1) hza
      refine hKK.out _ _ ?_ (fun hHeld => ?_)
      · exact ⟨q9, hs2⟩
      clear hKK KK
      try simp only [Act.put]
      refine wpAnyH_take (i := 15) (v := ?pbv15) (by simp only [List.getElem?_toArray, List.getElem?_cons_succ, List.getElem?_cons_zero]; rfl) (by kernel_rfl) (by kernel_rfl) (by kernel_rfl) (by exact fun _ _ _ h => h) (Or.inl ⟨by rfl, ?pby15⟩) hHeld ?_
      case pby15 => (intro w hSw; (try dsimp only at hSw); have hz1 := (sl_at hSw.2 hk).1; have hz2 := (sl_at hSw.2 hk).2; rw [← HX.out] at hz1; rw [← HY.out] at hz2; clear hSw; go_simp; try (with_reducible rfl))
      try simp only [Act.put, List.setIfInBounds_toArray, List.set_cons_zero, List.set_cons_succ]
      refine wpAnyH_done (by kernel_rfl) ?_ _
      go_wp2_with fail
      go_meet
      exact ⟨_, _, rfl, rfl, rfl, qn, hs2, q9, hb⟩
  case rest =>
    clear hs2 q9 hb hP
    obtain ⟨G12, wz, rfl, rfl, rfl, q12, hs2, q9, hb⟩ := hcut
    go_upto_region 9 with fail
    go_cut [14, 15] (fun s14 s15 wx => ∃ (G : Nat) (wy : World), wy = wx ∧ s14 = .pointer (some ⟨G, 0, none⟩) ∧ s15 = .int .i64 0 ∧ BoxL wy G S1 ∧ Sl wy b2 (some ⟨b2, off, none⟩) (cv M) ∧ BoxL wy w3.heap.size M ∧ BoxL wy G12 P1 ∧ Below w.heap.size w wy)
    case first =>
      refine wp_region_held_drew (S := fun w' => BoxL w' w3.heap.size M ∧ Sl w' b2 (some ⟨b2, off, none⟩) (cv M)) (by kernel_rfl) ?_ (fun hHeld => ?_)
      · exact ⟨q9, hs2⟩
      refine wpAnyH_take (i := 0) (by simp only [List.getElem?_toArray, List.getElem?_cons_zero]; rfl) (by kernel_rfl) (by kernel_rfl) (by kernel_rfl) (by exact fun _ _ _ h => h) (by exact yieldsIf_ld (by rfl) (.tmp 9) rfl w3.heap.size rfl M (fun w h => h.1)) hHeld ?_
      try simp only [Act.put, List.setIfInBounds_toArray, List.set_cons_zero, List.set_cons_succ]
      refine wpAnyH_take (i := 1) (v := ?sv1) (by simp only [List.getElem?_toArray, List.getElem?_cons_succ, List.getElem?_cons_zero]; rfl) (by kernel_rfl) (by kernel_rfl) (by kernel_rfl) (by exact fun _ _ _ h => h) (Or.inl ⟨by rfl, ?sy1⟩) hHeld ?_
      case sy1 => (intro w hSw; (try dsimp only at hSw); have hz1 := (sl_at hSw.2 hk).1; have hz2 := (sl_at hSw.2 hk).2; rw [← HX.out] at hz1; rw [← HY.out] at hz2; clear hSw; go_simp; try (with_reducible rfl))
      try simp only [Act.put, List.setIfInBounds_toArray, List.set_cons_zero, List.set_cons_succ]
      refine wpAnyH_take (i := 2) (v := ?sv2) (by simp only [List.getElem?_toArray, List.getElem?_cons_succ, List.getElem?_cons_zero]; rfl) (by kernel_rfl) (by kernel_rfl) (by kernel_rfl) (by exact fun _ _ _ h => h) (Or.inl ⟨by rfl, ?sy2⟩) hHeld ?_
      case sy2 => (intro w hSw; (try dsimp only at hSw); have hz1 := (sl_at hSw.2 hk).1; have hz2 := (sl_at hSw.2 hk).2; rw [← HX.out] at hz1; rw [← HY.out] at hz2; clear hSw; go_simp; try (with_reducible rfl))
      try simp only [Act.put, List.setIfInBounds_toArray, List.set_cons_zero, List.set_cons_succ]
      refine wpAnyH_take (i := 3) (v := ?sv3) (by simp only [List.getElem?_toArray, List.getElem?_cons_succ, List.getElem?_cons_zero]; rfl) (by kernel_rfl) (by kernel_rfl) (by kernel_rfl) (by exact fun _ _ _ h => h) (Or.inl ⟨by rfl, ?sy3⟩) hHeld ?_
      case sy3 => (intro w hSw; (try dsimp only at hSw); have hz1 := (sl_at hSw.2 hk).1; have hz2 := (sl_at hSw.2 hk).2; rw [← HX.out] at hz1; rw [← HY.out] at hz2; clear hSw; go_simp; try (with_reducible rfl))
      try simp only [Act.put, List.setIfInBounds_toArray, List.set_cons_zero, List.set_cons_succ]
      refine wpAnyH_take (i := 4) (v := ?sv4) (by simp only [List.getElem?_toArray, List.getElem?_cons_succ, List.getElem?_cons_zero]; rfl) (by kernel_rfl) (by kernel_rfl) (by kernel_rfl) (by exact fun _ _ _ h => h) (Or.inl ⟨by rfl, ?sy4⟩) hHeld ?_
      case sy4 => (intro w hSw; (try dsimp only at hSw); have hz1 := (sl_at hSw.2 hk).1; have hz2 := (sl_at hSw.2 hk).2; rw [← HX.out] at hz1; rw [← HY.out] at hz2; clear hSw; go_simp; try (with_reducible rfl))
      try simp only [Act.put, List.setIfInBounds_toArray, List.set_cons_zero, List.set_cons_succ]
      refine wpAnyH_take (i := 5) (v := ?sv5) (by simp only [List.getElem?_toArray, List.getElem?_cons_succ, List.getElem?_cons_zero]; rfl) (by kernel_rfl) (by kernel_rfl) (by kernel_rfl) (by exact fun _ _ _ h => h) (Or.inl ⟨by rfl, ?sy5⟩) hHeld ?_
      case sy5 => (intro w hSw; (try dsimp only at hSw); have hz1 := (sl_at hSw.2 hk).1; have hz2 := (sl_at hSw.2 hk).2; rw [← HX.out] at hz1; rw [← HY.out] at hz2; clear hSw; go_simp; try (with_reducible rfl))
      try simp only [Act.put, List.setIfInBounds_toArray, List.set_cons_zero, List.set_cons_succ]
      refine wpAnyH_take (i := 6) (v := ?sv6) (by simp only [List.getElem?_toArray, List.getElem?_cons_succ, List.getElem?_cons_zero]; rfl) (by kernel_rfl) (by kernel_rfl) (by kernel_rfl) (by exact fun _ _ _ h => h) (Or.inl ⟨by rfl, ?sy6⟩) hHeld ?_
      case sy6 => (intro w hSw; (try dsimp only at hSw); have hz1 := (sl_at hSw.2 hk).1; have hz2 := (sl_at hSw.2 hk).2; rw [← HX.out] at hz1; rw [← HY.out] at hz2; clear hSw; go_simp; try (with_reducible rfl))
      try simp only [Act.put, List.setIfInBounds_toArray, List.set_cons_zero, List.set_cons_succ]
      refine wpAnyH_take (i := 7) (v := ?sv7) (by simp only [List.getElem?_toArray, List.getElem?_cons_succ, List.getElem?_cons_zero]; rfl) (by kernel_rfl) (by kernel_rfl) (by kernel_rfl) (by exact fun _ _ _ h => h) (Or.inl ⟨by rfl, ?sy7⟩) hHeld ?_
      case sy7 => (intro w hSw; (try dsimp only at hSw); have hz1 := (sl_at hSw.2 hk).1; have hz2 := (sl_at hSw.2 hk).2; rw [← HX.out] at hz1; rw [← HY.out] at hz2; clear hSw; go_simp; try (with_reducible rfl))
      try simp only [Act.put, List.setIfInBounds_toArray, List.set_cons_zero, List.set_cons_succ]
      refine wpAnyH_take (i := 8) (v := ?sv8) (by simp only [List.getElem?_toArray, List.getElem?_cons_succ, List.getElem?_cons_zero]; rfl) (by kernel_rfl) (by kernel_rfl) (by kernel_rfl) (by exact fun _ _ _ h => h) (Or.inl ⟨by rfl, ?sy8⟩) hHeld ?_
      case sy8 => (intro w hSw; (try dsimp only at hSw); have hz1 := (sl_at hSw.2 hk).1; have hz2 := (sl_at hSw.2 hk).2; rw [← HX.out] at hz1; rw [← HY.out] at hz2; clear hSw; go_simp; try (with_reducible rfl))
      try simp only [Act.put, List.setIfInBounds_toArray, List.set_cons_zero, List.set_cons_succ]
      refine wpAnyH_ready (rs := [9, 13]) (by kernel_rfl) (by simp) ?_
      refine AllReadyH.cons (by simp only [List.getElem?_toArray, List.getElem?_cons_succ, List.getElem?_cons_zero]; rfl) (fun KK hKK => ?_) (AllReadyH.cons (by simp only [List.getElem?_toArray, List.getElem?_cons_succ, List.getElem?_cons_zero]; rfl) (fun KK hKK => ?_) AllReadyH.nil)
      · skip
        go_simp
        refine (hQ _).mono ?_
        rintro e wa ⟨rfl, h9⟩
        have h9 := below_undrew2 h9
        have hs2 := Sl.ext hs2 h9
        have q9 := q9.ext h9
        have q12 := q12.ext h9
        have hb := hb.trans (h9.mono hb.size)
        clear h9
        go_wp2_with fail
        refine hKK.out _ _ ?_ (fun hHeld => ?_)
        · exact ⟨q9, hs2⟩
        clear hKK KK
        try simp only [Act.put, List.setIfInBounds_toArray, List.set_cons_zero, List.set_cons_succ]
        refine wpAnyH_take (i := 10) (v := ?sav10) (by simp only [List.getElem?_toArray, List.getElem?_cons_succ, List.getElem?_cons_zero]; rfl) (by kernel_rfl) (by kernel_rfl) (by kernel_rfl) (by exact fun _ _ _ h => h) (Or.inl ⟨by rfl, ?say10⟩) hHeld ?_
        case say10 => (intro w hSw; (try dsimp only at hSw); have hz1 := (sl_at hSw.2 hk).1; have hz2 := (sl_at hSw.2 hk).2; rw [← HX.out] at hz1; rw [← HY.out] at hz2; clear hSw; go_simp; try (with_reducible rfl))
        try simp only [Act.put, List.setIfInBounds_toArray, List.set_cons_zero, List.set_cons_succ]
        refine wpAnyH_take (i := 11) (v := ?sav11) (by simp only [List.getElem?_toArray, List.getElem?_cons_succ, List.getElem?_cons_zero]; rfl) (by kernel_rfl) (by kernel_rfl) (by kernel_rfl) (by exact fun _ _ _ h => h) (Or.inl ⟨by rfl, ?say11⟩) hHeld ?_
        case say11 => (intro w hSw; (try dsimp only at hSw); have hz1 := (sl_at hSw.2 hk).1; have hz2 := (sl_at hSw.2 hk).2; rw [← HX.out] at hz1; rw [← HY.out] at hz2; clear hSw; go_simp; try (with_reducible rfl))
        try simp only [Act.put, List.setIfInBounds_toArray, List.set_cons_zero, List.set_cons_succ]
        refine wpAnyH_take (i := 12) (v := ?sav12) (by simp only [List.getElem?_toArray, List.getElem?_cons_succ, List.getElem?_cons_zero]; rfl) (by kernel_rfl) (by kernel_rfl) (by kernel_rfl) (by exact fun _ _ _ h => h) (Or.inl ⟨by rfl, ?say12⟩) hHeld ?_
        case say12 => (intro w hSw; (try dsimp only at hSw); have hz1 := (sl_at hSw.2 hk).1; have hz2 := (sl_at hSw.2 hk).2; rw [← HX.out] at hz1; rw [← HY.out] at hz2; clear hSw; go_simp; try (with_reducible rfl))
        try simp only [Act.put, List.setIfInBounds_toArray, List.set_cons_zero, List.set_cons_succ]
        have hza := hb.size
        have hlb := sl_lt hs2 hk
        have hl_q9 := q9.lt
        have hl_q12 := q12.lt
        refine wpAnyH_ready (rs := [13]) (by kernel_rfl) (by simp) ?_
        refine AllReadyH.cons (by simp only [List.getElem?_toArray, List.getElem?_cons_succ, List.getElem?_cons_zero]; rfl) (fun KK hKK => ?_) AllReadyH.nil
        rw [if_pos (by rfl)]
        refine wp_al rfl ?_
        have h9 := below_alloc1 wa (.cells (bdL []) 31)
        have qn := BoxL.new_ wa []
        have hs2 := Sl.ext hs2 h9
        have q9 := q9.ext h9
        have q12 := q12.ext h9
        have hb := hb.trans (h9.mono hb.size)
        clear h9
        refine hKK.out _ _ ?_ (fun hHeld => ?_)
        · exact ⟨q9, hs2⟩
        clear hKK KK
        try simp only [Act.put, List.setIfInBounds_toArray, List.set_cons_zero, List.set_cons_succ]
        refine wpAnyH_ready (rs := [14]) (by kernel_rfl) (by simp) ?_
        refine AllReadyH.cons (by simp only [List.getElem?_toArray, List.getElem?_cons_succ, List.getElem?_cons_zero]; rfl) (fun KK hKK => ?_) AllReadyH.nil
        rw [if_pos (by rfl)]
        refine wp_store_row 31 (.tmp 14) (.tmp 57) rfl wa.heap.size (bdL S1) rfl rfl _ _ qn (bd_size _ _ _) (by rw [bdL_size, bdL_size]) (bdA_all _ _ _) ?_
        have qn := qn.row_ S1
        have q9 := q9.orow (Nat.ne_of_lt hl_q9) (bdL S1)
        have q12 := q12.orow (Nat.ne_of_lt hl_q12) (bdL S1)
        have hs2 := sl_row hs2 (Nat.ne_of_lt hlb) (bdL S1)
        have hb := below_setRow hb wa.heap.size (bdL S1) hza
        refine hKK.out _ _ ?_ (fun hHeld => ?_)
        · exact ⟨q9, hs2⟩
        clear hKK KK
        try simp only [Act.put]
        refine wpAnyH_take (i := 15) (v := ?sav15) (by simp only [List.getElem?_toArray, List.getElem?_cons_succ, List.getElem?_cons_zero]; rfl) (by kernel_rfl) (by kernel_rfl) (by kernel_rfl) (by exact fun _ _ _ h => h) (Or.inl ⟨by rfl, ?say15⟩) hHeld ?_
        case say15 => (intro w hSw; (try dsimp only at hSw); have hz1 := (sl_at hSw.2 hk).1; have hz2 := (sl_at hSw.2 hk).2; rw [← HX.out] at hz1; rw [← HY.out] at hz2; clear hSw; go_simp; try (with_reducible rfl))
        try simp only [Act.put, List.setIfInBounds_toArray, List.set_cons_zero, List.set_cons_succ]
        refine wpAnyH_done (by kernel_rfl) ?_ _
        go_wp2_with fail
        go_meet
        exact ⟨_, _, rfl, rfl, rfl, qn, hs2, q9, q12, hb⟩
      · skip
        rw [if_pos (by rfl)]
        refine wp_al rfl ?_
        have hza := hb.size
        have hlb := sl_lt hs2 hk
        have hl_q9 := q9.lt
        have hl_q12 := q12.lt
        have h9 : Below wz.heap.size wz (wz.drew.alloc (.cells (bdL []) 31)) := below_undrew2 (below_alloc1 wz.drew (.cells (bdL []) 31))
        have qn : BoxL (wz.drew.alloc (.cells (bdL []) 31)) wz.heap.size [] := BoxL.new_ wz.drew []
        have hs2 := Sl.ext hs2 h9
        have q9 := q9.ext h9
        have q12 := q12.ext h9
        have hb := hb.trans (h9.mono hb.size)
        clear h9
        refine hKK.out _ _ ?_ (fun hHeld => ?_)
        · exact ⟨q9, hs2⟩
        clear hKK KK
        try simp only [Act.put, List.setIfInBounds_toArray, List.set_cons_zero, List.set_cons_succ]
        refine wpAnyH_ready (rs := [9]) (by kernel_rfl) (by simp) ?_
        refine AllReadyH.cons (by simp only [List.getElem?_toArray, List.getElem?_cons_succ, List.getElem?_cons_zero]; rfl) (fun KK hKK => ?_) AllReadyH.nil
        go_simp
        refine (hQ _).mono ?_
        rintro e wa ⟨rfl, h9⟩
        have qn := qn.ext h9
        have hs2 := Sl.ext hs2 h9
        have q9 := q9.ext h9
        have q12 := q12.ext h9
        have hb := hb.trans (h9.mono hb.size)
        clear h9
        go_wp2_with fail
        refine hKK.out _ _ ?_ (fun hHeld => ?_)
        · exact ⟨q9, hs2⟩
        clear hKK KK
        try simp only [Act.put, List.setIfInBounds_toArray, List.set_cons_zero, List.set_cons_succ]
        refine wpAnyH_take (i := 10) (v := ?sbv10) (by simp only [List.getElem?_toArray, List.getElem?_cons_succ, List.getElem?_cons_zero]; rfl) (by kernel_rfl) (by kernel_rfl) (by kernel_rfl) (by exact fun _ _ _ h => h) (Or.inl ⟨by rfl, ?sby10⟩) hHeld ?_
        case sby10 => (intro w hSw; (try dsimp only at hSw); have hz1 := (sl_at hSw.2 hk).1; have hz2 := (sl_at hSw.2 hk).2; rw [← HX.out] at hz1; rw [← HY.out] at hz2; clear hSw; go_simp; try (with_reducible rfl))
        try simp only [Act.put, List.setIfInBounds_toArray, List.set_cons_zero, List.set_cons_succ]
        refine wpAnyH_take (i := 11) (v := ?sbv11) (by simp only [List.getElem?_toArray, List.getElem?_cons_succ, List.getElem?_cons_zero]; rfl) (by kernel_rfl) (by kernel_rfl) (by kernel_rfl) (by exact fun _ _ _ h => h) (Or.inl ⟨by rfl, ?sby11⟩) hHeld ?_
        case sby11 => (intro w hSw; (try dsimp only at hSw); have hz1 := (sl_at hSw.2 hk).1; have hz2 := (sl_at hSw.2 hk).2; rw [← HX.out] at hz1; rw [← HY.out] at hz2; clear hSw; go_simp; try (with_reducible rfl))
        try simp only [Act.put, List.setIfInBounds_toArray, List.set_cons_zero, List.set_cons_succ]
        refine wpAnyH_take (i := 12) (v := ?sbv12) (by simp only [List.getElem?_toArray, List.getElem?_cons_succ, List.getElem?_cons_zero]; rfl) (by kernel_rfl) (by kernel_rfl) (by kernel_rfl) (by exact fun _ _ _ h => h) (Or.inl ⟨by rfl, ?sby12⟩) hHeld ?_
        case sby12 => (intro w hSw; (try dsimp only at hSw); have hz1 := (sl_at hSw.2 hk).1; have hz2 := (sl_at hSw.2 hk).2; rw [← HX.out] at hz1; rw [← HY.out] at hz2; clear hSw; go_simp; try (with_reducible rfl))
        try simp only [Act.put, List.setIfInBounds_toArray, List.set_cons_zero, List.set_cons_succ]
        refine wpAnyH_ready (rs := [14]) (by kernel_rfl) (by simp) ?_
        refine AllReadyH.cons (by simp only [List.getElem?_toArray, List.getElem?_cons_succ, List.getElem?_cons_zero]; rfl) (fun KK hKK => ?_) AllReadyH.nil
        rw [if_pos (by rfl)]
        refine wp_store_row 31 (.tmp 14) (.tmp 57) rfl wz.heap.size (bdL S1) rfl rfl _ _ qn (bd_size _ _ _) (by rw [bdL_size, bdL_size]) (bdA_all _ _ _) ?_
        have qn := qn.row_ S1
        have q9 := q9.orow (Nat.ne_of_lt hl_q9) (bdL S1)
        have q12 := q12.orow (Nat.ne_of_lt hl_q12) (bdL S1)
        have hs2 := sl_row hs2 (Nat.ne_of_lt hlb) (bdL S1)
        have hb := below_setRow hb wz.heap.size (bdL S1) hza
        refine hKK.out _ _ ?_ (fun hHeld => ?_)
        · exact ⟨q9, hs2⟩
        clear hKK KK
        try simp only [Act.put]
        refine wpAnyH_take (i := 15) (v := ?sbv15) (by simp only [List.getElem?_toArray, List.getElem?_cons_succ, List.getElem?_cons_zero]; rfl) (by kernel_rfl) (by kernel_rfl) (by kernel_rfl) (by exact fun _ _ _ h => h) (Or.inl ⟨by rfl, ?sby15⟩) hHeld ?_
        case sby15 => (intro w hSw; (try dsimp only at hSw); have hz1 := (sl_at hSw.2 hk).1; have hz2 := (sl_at hSw.2 hk).2; rw [← HX.out] at hz1; rw [← HY.out] at hz2; clear hSw; go_simp; try (with_reducible rfl))
        try simp only [Act.put, List.setIfInBounds_toArray, List.set_cons_zero, List.set_cons_succ]
        refine wpAnyH_done (by kernel_rfl) ?_ _
        go_wp2_with fail
        go_meet
        exact ⟨_, _, rfl, rfl, rfl, qn, hs2, q9, q12, hb⟩
    case rest =>
      clear hs2 q9 q12 hb hQ
      obtain ⟨G14, wy, rfl, rfl, rfl, q14, hs2, q9, q12, hb⟩ := hcut
      go_wp2_with fail
      refine wp_region_held_drew (S := fun w' => BoxL w' w3.heap.size M ∧ BoxL w' G12 P1 ∧ BoxL w' G14 S1 ∧ Sl w' b2 (some ⟨b2, off, none⟩) (cv M)) (by kernel_rfl) ?_ (fun hHeld => ?_)
      · exact ⟨q9, q12, q14, hs2⟩
      refine wpAnyH_take (i := 0) (by simp only [List.getElem?_toArray, List.getElem?_cons_zero]; rfl) (by kernel_rfl) (by kernel_rfl) (by kernel_rfl) (by exact fun _ _ _ h => h) (by exact yieldsIf_ld (by rfl) (.tmp 9) rfl w3.heap.size rfl M (fun w h => h.1)) hHeld ?_
      try simp only [Act.put, List.setIfInBounds_toArray, List.set_cons_zero, List.set_cons_succ]
      refine wpAnyH_take (i := 2) (by simp only [List.getElem?_toArray, List.getElem?_cons_succ, List.getElem?_cons_zero]; rfl) (by kernel_rfl) (by kernel_rfl) (by kernel_rfl) (by exact fun _ _ _ h => h) (by exact yieldsIf_ld (by rfl) (.tmp 12) rfl G12 rfl P1 (fun w h => h.2.1)) hHeld ?_
      try simp only [Act.put, List.setIfInBounds_toArray, List.set_cons_zero, List.set_cons_succ]
      refine wpAnyH_take (i := 5) (v := ?zv5) (by simp only [List.getElem?_toArray, List.getElem?_cons_succ, List.getElem?_cons_zero]; rfl) (by kernel_rfl) (by kernel_rfl) (by kernel_rfl) (by exact fun _ _ _ h => h) (Or.inl ⟨by rfl, ?zy5⟩) hHeld ?_
      case zy5 => (intro w hSw; (try dsimp only at hSw); have hz1 := (sl_at hSw.2.2.2 hk).1; have hz2 := (sl_at hSw.2.2.2 hk).2; rw [← HX.out] at hz1; rw [← HY.out] at hz2; clear hSw; go_simp; try (with_reducible rfl))
      try simp only [Act.put, List.setIfInBounds_toArray, List.set_cons_zero, List.set_cons_succ]
      refine wpAnyH_take (i := 6) (v := ?zv6) (by simp only [List.getElem?_toArray, List.getElem?_cons_succ, List.getElem?_cons_zero]; rfl) (by kernel_rfl) (by kernel_rfl) (by kernel_rfl) (by exact fun _ _ _ h => h) (Or.inl ⟨by rfl, ?zy6⟩) hHeld ?_
      case zy6 => (intro w hSw; (try dsimp only at hSw); have hz1 := (sl_at hSw.2.2.2 hk).1; have hz2 := (sl_at hSw.2.2.2 hk).2; rw [← HX.out] at hz1; rw [← HY.out] at hz2; clear hSw; go_simp; try (with_reducible rfl))
      try simp only [Act.put, List.setIfInBounds_toArray, List.set_cons_zero, List.set_cons_succ]
      refine wpAnyH_take (i := 7) (v := ?zv7) (by simp only [List.getElem?_toArray, List.getElem?_cons_succ, List.getElem?_cons_zero]; rfl) (by kernel_rfl) (by kernel_rfl) (by kernel_rfl) (by exact fun _ _ _ h => h) (Or.inl ⟨by rfl, ?zy7⟩) hHeld ?_
      case zy7 => (intro w hSw; (try dsimp only at hSw); have hz1 := (sl_at hSw.2.2.2 hk).1; have hz2 := (sl_at hSw.2.2.2 hk).2; rw [← HX.out] at hz1; rw [← HY.out] at hz2; clear hSw; go_simp; try (with_reducible rfl))
      try simp only [Act.put, List.setIfInBounds_toArray, List.set_cons_zero, List.set_cons_succ]
      refine wpAnyH_take (i := 8) (v := ?zv8) (by simp only [List.getElem?_toArray, List.getElem?_cons_succ, List.getElem?_cons_zero]; rfl) (by kernel_rfl) (by kernel_rfl) (by kernel_rfl) (by exact fun _ _ _ h => h) (Or.inl ⟨by rfl, ?zy8⟩) hHeld ?_
      case zy8 => (intro w hSw; (try dsimp only at hSw); have hz1 := (sl_at hSw.2.2.2 hk).1; have hz2 := (sl_at hSw.2.2.2 hk).2; rw [← HX.out] at hz1; rw [← HY.out] at hz2; clear hSw; go_simp; try (with_reducible rfl))
      try simp only [Act.put, List.setIfInBounds_toArray, List.set_cons_zero, List.set_cons_succ]
      refine wpAnyH_take (i := 9) (v := ?zv9) (by simp only [List.getElem?_toArray, List.getElem?_cons_succ, List.getElem?_cons_zero]; rfl) (by kernel_rfl) (by kernel_rfl) (by kernel_rfl) (by exact fun _ _ _ h => h) (Or.inl ⟨by rfl, ?zy9⟩) hHeld ?_
      case zy9 => (intro w hSw; (try dsimp only at hSw); have hz1 := (sl_at hSw.2.2.2 hk).1; have hz2 := (sl_at hSw.2.2.2 hk).2; rw [← HX.out] at hz1; rw [← HY.out] at hz2; clear hSw; go_simp; try (with_reducible rfl))
      try simp only [Act.put, List.setIfInBounds_toArray, List.set_cons_zero, List.set_cons_succ]
      refine wpAnyH_take (i := 10) (v := ?zv10) (by simp only [List.getElem?_toArray, List.getElem?_cons_succ, List.getElem?_cons_zero]; rfl) (by kernel_rfl) (by kernel_rfl) (by kernel_rfl) (by exact fun _ _ _ h => h) (Or.inl ⟨by rfl, ?zy10⟩) hHeld ?_
      case zy10 => (intro w hSw; (try dsimp only at hSw); have hz1 := (sl_at hSw.2.2.2 hk).1; have hz2 := (sl_at hSw.2.2.2 hk).2; rw [← HX.out] at hz1; rw [← HY.out] at hz2; clear hSw; go_simp; try (with_reducible rfl))
      try simp only [Act.put, List.setIfInBounds_toArray, List.set_cons_zero, List.set_cons_succ]
      refine wpAnyH_take (i := 11) (v := ?zv11) (by simp only [List.getElem?_toArray, List.getElem?_cons_succ, List.getElem?_cons_zero]; rfl) (by kernel_rfl) (by kernel_rfl) (by kernel_rfl) (by exact fun _ _ _ h => h) (Or.inl ⟨by rfl, ?zy11⟩) hHeld ?_
      case zy11 => (intro w hSw; (try dsimp only at hSw); have hz1 := (sl_at hSw.2.2.2 hk).1; have hz2 := (sl_at hSw.2.2.2 hk).2; rw [← HX.out] at hz1; rw [← HY.out] at hz2; clear hSw; go_simp; try (with_reducible rfl))
      try simp only [Act.put, List.setIfInBounds_toArray, List.set_cons_zero, List.set_cons_succ]
      refine wpAnyH_ready (rs := [1]) (by kernel_rfl) (by simp) ?_
      refine AllReadyH.cons (by simp only [List.getElem?_toArray, List.getElem?_cons_succ, List.getElem?_cons_zero]; rfl) (fun KK hKK => ?_) AllReadyH.nil
      go_simp
      refine (hHM _).mono ?_
      rintro e wc1 ⟨rfl, g1⟩
      have g1 := below_undrew2 g1
      have q9 := q9.ext g1
      have q12 := q12.ext g1
      have q14 := q14.ext g1
      have hs2 := Sl.ext hs2 g1
      have hb := hb.trans (g1.mono hb.size)
      clear g1
      go_wp2_with fail
      refine hKK.out _ _ ?_ (fun hHeld => ?_)
      · exact ⟨q9, q12, q14, hs2⟩
      clear hKK KK
      try simp only [Act.put, List.setIfInBounds_toArray, List.set_cons_zero, List.set_cons_succ]
      refine wpAnyH_ready (rs := [3]) (by kernel_rfl) (by simp) ?_
      refine AllReadyH.cons (by simp only [List.getElem?_toArray, List.getElem?_cons_succ, List.getElem?_cons_zero]; rfl) (fun KK hKK => ?_) AllReadyH.nil
      go_simp
      refine (hHP _).mono ?_
      rintro e wc2 ⟨rfl, g2⟩
      have q9 := q9.ext g2
      have q12 := q12.ext g2
      have q14 := q14.ext g2
      have hs2 := Sl.ext hs2 g2
      have hb := hb.trans (g2.mono hb.size)
      clear g2
      go_wp2_with fail
      refine hKK.out _ _ ?_ (fun hHeld => ?_)
      · exact ⟨q9, q12, q14, hs2⟩
      clear hKK KK
      try simp only [Act.put, List.setIfInBounds_toArray, List.set_cons_zero, List.set_cons_succ]
      refine wpAnyH_take (i := 4) (v := ?zv4) (by simp only [List.getElem?_toArray, List.getElem?_cons_succ, List.getElem?_cons_zero]; rfl) (by kernel_rfl) (by kernel_rfl) (by kernel_rfl) (by exact fun _ _ _ h => h) (Or.inl ⟨by rfl, ?zy4⟩) hHeld ?_
      case zy4 => (intro w hSw; (try dsimp only at hSw); have hz1 := (sl_at hSw.2.2.2 hk).1; have hz2 := (sl_at hSw.2.2.2 hk).2; rw [← HX.out] at hz1; rw [← HY.out] at hz2; clear hSw; go_simp; try (with_reducible rfl))
      try simp only [Act.put, List.setIfInBounds_toArray, List.set_cons_zero, List.set_cons_succ]
      refine wpAnyH_take (i := 12) (v := ?zv12) (by simp only [List.getElem?_toArray, List.getElem?_cons_succ, List.getElem?_cons_zero]; rfl) (by kernel_rfl) (by kernel_rfl) (by kernel_rfl) (by exact fun _ _ _ h => h) (Or.inl ⟨by rfl, ?zy12⟩) hHeld ?_
      case zy12 => (intro w hSw; (try dsimp only at hSw); have hz1 := (sl_at hSw.2.2.2 hk).1; have hz2 := (sl_at hSw.2.2.2 hk).2; rw [← HX.out] at hz1; rw [← HY.out] at hz2; clear hSw; go_simp; try (with_reducible rfl))
      try simp only [Act.put, List.setIfInBounds_toArray, List.set_cons_zero, List.set_cons_succ]
      refine wpAnyH_take (i := 13) (v := ?zv13) (by simp only [List.getElem?_toArray, List.getElem?_cons_succ, List.getElem?_cons_zero]; rfl) (by kernel_rfl) (by kernel_rfl) (by kernel_rfl) (by exact fun _ _ _ h => h) (Or.inl ⟨by rfl, ?zy13⟩) hHeld ?_
      case zy13 => (intro w hSw; (try dsimp only at hSw); have hz1 := (sl_at hSw.2.2.2 hk).1; have hz2 := (sl_at hSw.2.2.2 hk).2; rw [← HX.out] at hz1; rw [← HY.out] at hz2; clear hSw; go_simp; try (with_reducible rfl))
      try simp only [Act.put, List.setIfInBounds_toArray, List.set_cons_zero, List.set_cons_succ]
      refine wpAnyH_take (i := 14) (by simp only [List.getElem?_toArray, List.getElem?_cons_succ, List.getElem?_cons_zero]; rfl) (by kernel_rfl) (by kernel_rfl) (by kernel_rfl) (by exact fun _ _ _ h => h) (by exact yieldsIf_ld (by rfl) (.tmp 9) rfl w3.heap.size rfl M (fun w h => h.1)) hHeld ?_
      try simp only [Act.put, List.setIfInBounds_toArray, List.set_cons_zero, List.set_cons_succ]
      refine wpAnyH_take (i := 16) (by simp only [List.getElem?_toArray, List.getElem?_cons_succ, List.getElem?_cons_zero]; rfl) (by kernel_rfl) (by kernel_rfl) (by kernel_rfl) (by exact fun _ _ _ h => h) (by exact yieldsIf_ld (by rfl) (.tmp 14) rfl G14 rfl S1 (fun w h => h.2.2.1)) hHeld ?_
      try simp only [Act.put, List.setIfInBounds_toArray, List.set_cons_zero, List.set_cons_succ]
      refine wpAnyH_take (i := 19) (v := ?zv19) (by simp only [List.getElem?_toArray, List.getElem?_cons_succ, List.getElem?_cons_zero]; rfl) (by kernel_rfl) (by kernel_rfl) (by kernel_rfl) (by exact fun _ _ _ h => h) (Or.inl ⟨by rfl, ?zy19⟩) hHeld ?_
      case zy19 => (intro w hSw; (try dsimp only at hSw); have hz1 := (sl_at hSw.2.2.2 hk).1; have hz2 := (sl_at hSw.2.2.2 hk).2; rw [← HX.out] at hz1; rw [← HY.out] at hz2; clear hSw; go_simp; try (with_reducible rfl))
      try simp only [Act.put, List.setIfInBounds_toArray, List.set_cons_zero, List.set_cons_succ]
      refine wpAnyH_take (i := 20) (v := ?zv20) (by simp only [List.getElem?_toArray, List.getElem?_cons_succ, List.getElem?_cons_zero]; rfl) (by kernel_rfl) (by kernel_rfl) (by kernel_rfl) (by exact fun _ _ _ h => h) (Or.inl ⟨by rfl, ?zy20⟩) hHeld ?_
      case zy20 => (intro w hSw; (try dsimp only at hSw); have hz1 := (sl_at hSw.2.2.2 hk).1; have hz2 := (sl_at hSw.2.2.2 hk).2; rw [← HX.out] at hz1; rw [← HY.out] at hz2; clear hSw; go_simp; try (with_reducible rfl))
      try simp only [Act.put, List.setIfInBounds_toArray, List.set_cons_zero, List.set_cons_succ]
      refine wpAnyH_take (i := 21) (v := ?zv21) (by simp only [List.getElem?_toArray, List.getElem?_cons_succ, List.getElem?_cons_zero]; rfl) (by kernel_rfl) (by kernel_rfl) (by kernel_rfl) (by exact fun _ _ _ h => h) (Or.inl ⟨by rfl, ?zy21⟩) hHeld ?_
      case zy21 => (intro w hSw; (try dsimp only at hSw); have hz1 := (sl_at hSw.2.2.2 hk).1; have hz2 := (sl_at hSw.2.2.2 hk).2; rw [← HX.out] at hz1; rw [← HY.out] at hz2; clear hSw; go_simp; try (with_reducible rfl))
      try simp only [Act.put, List.setIfInBounds_toArray, List.set_cons_zero, List.set_cons_succ]
      refine wpAnyH_take (i := 22) (v := ?zv22) (by simp only [List.getElem?_toArray, List.getElem?_cons_succ, List.getElem?_cons_zero]; rfl) (by kernel_rfl) (by kernel_rfl) (by kernel_rfl) (by exact fun _ _ _ h => h) (Or.inl ⟨by rfl, ?zy22⟩) hHeld ?_
      case zy22 => (intro w hSw; (try dsimp only at hSw); have hz1 := (sl_at hSw.2.2.2 hk).1; have hz2 := (sl_at hSw.2.2.2 hk).2; rw [← HX.out] at hz1; rw [← HY.out] at hz2; clear hSw; go_simp; try (with_reducible rfl))
      try simp only [Act.put, List.setIfInBounds_toArray, List.set_cons_zero, List.set_cons_succ]
      refine wpAnyH_take (i := 23) (v := ?zv23) (by simp only [List.getElem?_toArray, List.getElem?_cons_succ, List.getElem?_cons_zero]; rfl) (by kernel_rfl) (by kernel_rfl) (by kernel_rfl) (by exact fun _ _ _ h => h) (Or.inl ⟨by rfl, ?zy23⟩) hHeld ?_
      case zy23 => (intro w hSw; (try dsimp only at hSw); have hz1 := (sl_at hSw.2.2.2 hk).1; have hz2 := (sl_at hSw.2.2.2 hk).2; rw [← HX.out] at hz1; rw [← HY.out] at hz2; clear hSw; go_simp; try (with_reducible rfl))
      try simp only [Act.put, List.setIfInBounds_toArray, List.set_cons_zero, List.set_cons_succ]
      refine wpAnyH_take (i := 24) (v := ?zv24) (by simp only [List.getElem?_toArray, List.getElem?_cons_succ, List.getElem?_cons_zero]; rfl) (by kernel_rfl) (by kernel_rfl) (by kernel_rfl) (by exact fun _ _ _ h => h) (Or.inl ⟨by rfl, ?zy24⟩) hHeld ?_
      case zy24 => (intro w hSw; (try dsimp only at hSw); have hz1 := (sl_at hSw.2.2.2 hk).1; have hz2 := (sl_at hSw.2.2.2 hk).2; rw [← HX.out] at hz1; rw [← HY.out] at hz2; clear hSw; go_simp; try (with_reducible rfl))
      try simp only [Act.put, List.setIfInBounds_toArray, List.set_cons_zero, List.set_cons_succ]
      refine wpAnyH_take (i := 25) (v := ?zv25) (by simp only [List.getElem?_toArray, List.getElem?_cons_succ, List.getElem?_cons_zero]; rfl) (by kernel_rfl) (by kernel_rfl) (by kernel_rfl) (by exact fun _ _ _ h => h) (Or.inl ⟨by rfl, ?zy25⟩) hHeld ?_
      case zy25 => (intro w hSw; (try dsimp only at hSw); have hz1 := (sl_at hSw.2.2.2 hk).1; have hz2 := (sl_at hSw.2.2.2 hk).2; rw [← HX.out] at hz1; rw [← HY.out] at hz2; clear hSw; go_simp; try (with_reducible rfl))
      try simp only [Act.put, List.setIfInBounds_toArray, List.set_cons_zero, List.set_cons_succ]
      refine wpAnyH_ready (rs := [15]) (by kernel_rfl) (by simp) ?_
      refine AllReadyH.cons (by simp only [List.getElem?_toArray, List.getElem?_cons_succ, List.getElem?_cons_zero]; rfl) (fun KK hKK => ?_) AllReadyH.nil
      go_simp
      refine (hHM _).mono ?_
      rintro e wc3 ⟨rfl, g3⟩
      have q9 := q9.ext g3
      have q12 := q12.ext g3
      have q14 := q14.ext g3
      have hs2 := Sl.ext hs2 g3
      have hb := hb.trans (g3.mono hb.size)
      clear g3
      go_wp2_with fail
      refine hKK.out _ _ ?_ (fun hHeld => ?_)
      · exact ⟨q9, q12, q14, hs2⟩
      clear hKK KK
      try simp only [Act.put, List.setIfInBounds_toArray, List.set_cons_zero, List.set_cons_succ]
      refine wpAnyH_ready (rs := [17]) (by kernel_rfl) (by simp) ?_
      refine AllReadyH.cons (by simp only [List.getElem?_toArray, List.getElem?_cons_succ, List.getElem?_cons_zero]; rfl) (fun KK hKK => ?_) AllReadyH.nil
      go_simp
      refine (hHS _).mono ?_
      rintro e wc4 ⟨rfl, g4⟩
      have q9 := q9.ext g4
      have q12 := q12.ext g4
      have q14 := q14.ext g4
      have hs2 := Sl.ext hs2 g4
      have hb := hb.trans (g4.mono hb.size)
      clear g4
      go_wp2_with fail
      refine hKK.out _ _ ?_ (fun hHeld => ?_)
      · exact ⟨q9, q12, q14, hs2⟩
      clear hKK KK
      try simp only [Act.put, List.setIfInBounds_toArray, List.set_cons_zero, List.set_cons_succ]
      refine wpAnyH_take (i := 18) (v := ?zv18) (by simp only [List.getElem?_toArray, List.getElem?_cons_succ, List.getElem?_cons_zero]; rfl) (by kernel_rfl) (by kernel_rfl) (by kernel_rfl) (by exact fun _ _ _ h => h) (Or.inl ⟨by rfl, ?zy18⟩) hHeld ?_
      case zy18 => (intro w hSw; (try dsimp only at hSw); have hz1 := (sl_at hSw.2.2.2 hk).1; have hz2 := (sl_at hSw.2.2.2 hk).2; rw [← HX.out] at hz1; rw [← HY.out] at hz2; clear hSw; go_simp; try (with_reducible rfl))
      try simp only [Act.put, List.setIfInBounds_toArray, List.set_cons_zero, List.set_cons_succ]
      refine wpAnyH_take (i := 26) (v := ?zv26) (by simp only [List.getElem?_toArray, List.getElem?_cons_succ, List.getElem?_cons_zero]; rfl) (by kernel_rfl) (by kernel_rfl) (by kernel_rfl) (by exact fun _ _ _ h => h) (Or.inl ⟨by rfl, ?zy26⟩) hHeld ?_
      case zy26 => (intro w hSw; (try dsimp only at hSw); have hz1 := (sl_at hSw.2.2.2 hk).1; have hz2 := (sl_at hSw.2.2.2 hk).2; rw [← HX.out] at hz1; rw [← HY.out] at hz2; clear hSw; go_simp; try (with_reducible rfl))
      try simp only [Act.put, List.setIfInBounds_toArray, List.set_cons_zero, List.set_cons_succ]
      refine wpAnyH_take (i := 27) (v := ?zv27) (by simp only [List.getElem?_toArray, List.getElem?_cons_succ, List.getElem?_cons_zero]; rfl) (by kernel_rfl) (by kernel_rfl) (by kernel_rfl) (by exact fun _ _ _ h => h) (Or.inl ⟨by rfl, ?zy27⟩) hHeld ?_
      case zy27 => (intro w hSw; (try dsimp only at hSw); have hz1 := (sl_at hSw.2.2.2 hk).1; have hz2 := (sl_at hSw.2.2.2 hk).2; rw [← HX.out] at hz1; rw [← HY.out] at hz2; clear hSw; go_simp; try (with_reducible rfl))
      try simp only [Act.put, List.setIfInBounds_toArray, List.set_cons_zero, List.set_cons_succ]
      refine wpAnyH_take (i := 28) (v := ?zv28) (by simp only [List.getElem?_toArray, List.getElem?_cons_succ, List.getElem?_cons_zero]; rfl) (by kernel_rfl) (by kernel_rfl) (by kernel_rfl) (by exact fun _ _ _ h => h) (Or.inl ⟨by rfl, ?zy28⟩) hHeld ?_
      case zy28 => (intro w hSw; (try dsimp only at hSw); have hz1 := (sl_at hSw.2.2.2 hk).1; have hz2 := (sl_at hSw.2.2.2 hk).2; rw [← HX.out] at hz1; rw [← HY.out] at hz2; clear hSw; go_simp; try (with_reducible rfl))
      try simp only [Act.put, List.setIfInBounds_toArray, List.set_cons_zero, List.set_cons_succ]
      refine wpAnyH_take (i := 29) (by simp only [List.getElem?_toArray, List.getElem?_cons_succ, List.getElem?_cons_zero]; rfl) (by kernel_rfl) (by kernel_rfl) (by kernel_rfl) (by exact fun _ _ _ h => h) (by exact yieldsIf_ld (by rfl) (.tmp 9) rfl w3.heap.size rfl M (fun w h => h.1)) hHeld ?_
      try simp only [Act.put, List.setIfInBounds_toArray, List.set_cons_zero, List.set_cons_succ]
      refine wpAnyH_take (i := 31) (by simp only [List.getElem?_toArray, List.getElem?_cons_succ, List.getElem?_cons_zero]; rfl) (by kernel_rfl) (by kernel_rfl) (by kernel_rfl) (by exact fun _ _ _ h => h) (by exact yieldsIf_ld (by rfl) (.tmp 12) rfl G12 rfl P1 (fun w h => h.2.1)) hHeld ?_
      try simp only [Act.put, List.setIfInBounds_toArray, List.set_cons_zero, List.set_cons_succ]
      refine wpAnyH_ready (rs := [30]) (by kernel_rfl) (by simp) ?_
      refine AllReadyH.cons (by simp only [List.getElem?_toArray, List.getElem?_cons_succ, List.getElem?_cons_zero]; rfl) (fun KK hKK => ?_) AllReadyH.nil
      go_simp
      refine (hLM _).mono ?_
      rintro e wc5 ⟨rfl, g5⟩
      have q9 := q9.ext g5
      have q12 := q12.ext g5
      have q14 := q14.ext g5
      have hs2 := Sl.ext hs2 g5
      have hb := hb.trans (g5.mono hb.size)
      clear g5
      go_wp2_with fail
      refine hKK.out _ _ ?_ (fun hHeld => ?_)
      · exact ⟨q9, q12, q14, hs2⟩
      clear hKK KK
      try simp only [Act.put, List.setIfInBounds_toArray, List.set_cons_zero, List.set_cons_succ]
      refine wpAnyH_ready (rs := [32]) (by kernel_rfl) (by simp) ?_
      refine AllReadyH.cons (by simp only [List.getElem?_toArray, List.getElem?_cons_succ, List.getElem?_cons_zero]; rfl) (fun KK hKK => ?_) AllReadyH.nil
      go_simp
      refine (hLP _).mono ?_
      rintro e wc6 ⟨rfl, g6⟩
      have q9 := q9.ext g6
      have q12 := q12.ext g6
      have q14 := q14.ext g6
      have hs2 := Sl.ext hs2 g6
      have hb := hb.trans (g6.mono hb.size)
      clear g6
      go_wp2_with fail
      refine hKK.out _ _ ?_ (fun hHeld => ?_)
      · exact ⟨q9, q12, q14, hs2⟩
      clear hKK KK
      try simp only [Act.put, List.setIfInBounds_toArray, List.set_cons_zero, List.set_cons_succ]
      refine wpAnyH_take (i := 33) (v := ?zv33) (by simp only [List.getElem?_toArray, List.getElem?_cons_succ, List.getElem?_cons_zero]; rfl) (by kernel_rfl) (by kernel_rfl) (by kernel_rfl) (by exact fun _ _ _ h => h) (Or.inl ⟨by rfl, ?zy33⟩) hHeld ?_
      case zy33 => (intro w hSw; (try dsimp only at hSw); have hz1 := (sl_at hSw.2.2.2 hk).1; have hz2 := (sl_at hSw.2.2.2 hk).2; rw [← HX.out] at hz1; rw [← HY.out] at hz2; clear hSw; go_simp; try (with_reducible rfl))
      try simp only [Act.put, List.setIfInBounds_toArray, List.set_cons_zero, List.set_cons_succ]
      refine wpAnyH_take (i := 34) (v := ?zv34) (by simp only [List.getElem?_toArray, List.getElem?_cons_succ, List.getElem?_cons_zero]; rfl) (by kernel_rfl) (by kernel_rfl) (by kernel_rfl) (by exact fun _ _ _ h => h) (Or.inl ⟨by rfl, ?zy34⟩) hHeld ?_
      case zy34 => (intro w hSw; (try dsimp only at hSw); have hz1 := (sl_at hSw.2.2.2 hk).1; have hz2 := (sl_at hSw.2.2.2 hk).2; rw [← HX.out] at hz1; rw [← HY.out] at hz2; clear hSw; go_simp; try (with_reducible rfl))
      try simp only [Act.put, List.setIfInBounds_toArray, List.set_cons_zero, List.set_cons_succ]
      refine wpAnyH_take (i := 35) (v := ?zv35) (by simp only [List.getElem?_toArray, List.getElem?_cons_succ, List.getElem?_cons_zero]; rfl) (by kernel_rfl) (by kernel_rfl) (by kernel_rfl) (by exact fun _ _ _ h => h) (Or.inl ⟨by rfl, ?zy35⟩) hHeld ?_
      case zy35 => (intro w hSw; (try dsimp only at hSw); have hz1 := (sl_at hSw.2.2.2 hk).1; have hz2 := (sl_at hSw.2.2.2 hk).2; rw [← HX.out] at hz1; rw [← HY.out] at hz2; clear hSw; go_simp; try (with_reducible rfl))
      try simp only [Act.put, List.setIfInBounds_toArray, List.set_cons_zero, List.set_cons_succ]
      refine wpAnyH_take (i := 36) (by simp only [List.getElem?_toArray, List.getElem?_cons_succ, List.getElem?_cons_zero]; rfl) (by kernel_rfl) (by kernel_rfl) (by kernel_rfl) (by exact fun _ _ _ h => h) (by exact yieldsIf_ld (by rfl) (.tmp 9) rfl w3.heap.size rfl M (fun w h => h.1)) hHeld ?_
      try simp only [Act.put, List.setIfInBounds_toArray, List.set_cons_zero, List.set_cons_succ]
      refine wpAnyH_take (i := 38) (by simp only [List.getElem?_toArray, List.getElem?_cons_succ, List.getElem?_cons_zero]; rfl) (by kernel_rfl) (by kernel_rfl) (by kernel_rfl) (by exact fun _ _ _ h => h) (by exact yieldsIf_ld (by rfl) (.tmp 14) rfl G14 rfl S1 (fun w h => h.2.2.1)) hHeld ?_
      try simp only [Act.put, List.setIfInBounds_toArray, List.set_cons_zero, List.set_cons_succ]
      refine wpAnyH_take (i := 41) (v := ?zv41) (by simp only [List.getElem?_toArray, List.getElem?_cons_succ, List.getElem?_cons_zero]; rfl) (by kernel_rfl) (by kernel_rfl) (by kernel_rfl) (by exact fun _ _ _ h => h) (Or.inl ⟨by rfl, ?zy41⟩) hHeld ?_
      case zy41 => (intro w hSw; (try dsimp only at hSw); have hz1 := (sl_at hSw.2.2.2 hk).1; have hz2 := (sl_at hSw.2.2.2 hk).2; rw [← HX.out] at hz1; rw [← HY.out] at hz2; clear hSw; go_simp; try (with_reducible rfl))
      try simp only [Act.put, List.setIfInBounds_toArray, List.set_cons_zero, List.set_cons_succ]
      refine wpAnyH_take (i := 42) (v := ?zv42) (by simp only [List.getElem?_toArray, List.getElem?_cons_succ, List.getElem?_cons_zero]; rfl) (by kernel_rfl) (by kernel_rfl) (by kernel_rfl) (by exact fun _ _ _ h => h) (Or.inl ⟨by rfl, ?zy42⟩) hHeld ?_
      case zy42 => (intro w hSw; (try dsimp only at hSw); have hz1 := (sl_at hSw.2.2.2 hk).1; have hz2 := (sl_at hSw.2.2.2 hk).2; rw [← HX.out] at hz1; rw [← HY.out] at hz2; clear hSw; go_simp; try (with_reducible rfl))
      try simp only [Act.put, List.setIfInBounds_toArray, List.set_cons_zero, List.set_cons_succ]
      refine wpAnyH_take (i := 43) (v := ?zv43) (by simp only [List.getElem?_toArray, List.getElem?_cons_succ, List.getElem?_cons_zero]; rfl) (by kernel_rfl) (by kernel_rfl) (by kernel_rfl) (by exact fun _ _ _ h => h) (Or.inl ⟨by rfl, ?zy43⟩) hHeld ?_
      case zy43 => (intro w hSw; (try dsimp only at hSw); have hz1 := (sl_at hSw.2.2.2 hk).1; have hz2 := (sl_at hSw.2.2.2 hk).2; rw [← HX.out] at hz1; rw [← HY.out] at hz2; clear hSw; go_simp; try (with_reducible rfl))
      try simp only [Act.put, List.setIfInBounds_toArray, List.set_cons_zero, List.set_cons_succ]
      refine wpAnyH_take (i := 44) (v := ?zv44) (by simp only [List.getElem?_toArray, List.getElem?_cons_succ, List.getElem?_cons_zero]; rfl) (by kernel_rfl) (by kernel_rfl) (by kernel_rfl) (by exact fun _ _ _ h => h) (Or.inl ⟨by rfl, ?zy44⟩) hHeld ?_
      case zy44 => (intro w hSw; (try dsimp only at hSw); have hz1 := (sl_at hSw.2.2.2 hk).1; have hz2 := (sl_at hSw.2.2.2 hk).2; rw [← HX.out] at hz1; rw [← HY.out] at hz2; clear hSw; go_simp; try (with_reducible rfl))
      try simp only [Act.put, List.setIfInBounds_toArray, List.set_cons_zero, List.set_cons_succ]
      refine wpAnyH_take (i := 45) (v := ?zv45) (by simp only [List.getElem?_toArray, List.getElem?_cons_succ, List.getElem?_cons_zero]; rfl) (by kernel_rfl) (by kernel_rfl) (by kernel_rfl) (by exact fun _ _ _ h => h) (Or.inl ⟨by rfl, ?zy45⟩) hHeld ?_
      case zy45 => (intro w hSw; (try dsimp only at hSw); have hz1 := (sl_at hSw.2.2.2 hk).1; have hz2 := (sl_at hSw.2.2.2 hk).2; rw [← HX.out] at hz1; rw [← HY.out] at hz2; clear hSw; go_simp; try (with_reducible rfl))
      try simp only [Act.put, List.setIfInBounds_toArray, List.set_cons_zero, List.set_cons_succ]
      refine wpAnyH_take (i := 46) (v := ?zv46) (by simp only [List.getElem?_toArray, List.getElem?_cons_succ, List.getElem?_cons_zero]; rfl) (by kernel_rfl) (by kernel_rfl) (by kernel_rfl) (by exact fun _ _ _ h => h) (Or.inl ⟨by rfl, ?zy46⟩) hHeld ?_
      case zy46 => (intro w hSw; (try dsimp only at hSw); have hz1 := (sl_at hSw.2.2.2 hk).1; have hz2 := (sl_at hSw.2.2.2 hk).2; rw [← HX.out] at hz1; rw [← HY.out] at hz2; clear hSw; go_simp; try (with_reducible rfl))
      try simp only [Act.put, List.setIfInBounds_toArray, List.set_cons_zero, List.set_cons_succ]
      refine wpAnyH_take (i := 47) (v := ?zv47) (by simp only [List.getElem?_toArray, List.getElem?_cons_succ, List.getElem?_cons_zero]; rfl) (by kernel_rfl) (by kernel_rfl) (by kernel_rfl) (by exact fun _ _ _ h => h) (Or.inl ⟨by rfl, ?zy47⟩) hHeld ?_
      case zy47 => (intro w hSw; (try dsimp only at hSw); have hz1 := (sl_at hSw.2.2.2 hk).1; have hz2 := (sl_at hSw.2.2.2 hk).2; rw [← HX.out] at hz1; rw [← HY.out] at hz2; clear hSw; go_simp; try (with_reducible rfl))
      try simp only [Act.put, List.setIfInBounds_toArray, List.set_cons_zero, List.set_cons_succ]
      refine wpAnyH_ready (rs := [37]) (by kernel_rfl) (by simp) ?_
      refine AllReadyH.cons (by simp only [List.getElem?_toArray, List.getElem?_cons_succ, List.getElem?_cons_zero]; rfl) (fun KK hKK => ?_) AllReadyH.nil
      go_simp
      refine (hLM _).mono ?_
      rintro e wc7 ⟨rfl, g7⟩
      have q9 := q9.ext g7
      have q12 := q12.ext g7
      have q14 := q14.ext g7
      have hs2 := Sl.ext hs2 g7
      have hb := hb.trans (g7.mono hb.size)
      clear g7
      go_wp2_with fail
      refine hKK.out _ _ ?_ (fun hHeld => ?_)
      · exact ⟨q9, q12, q14, hs2⟩
      clear hKK KK
      try simp only [Act.put, List.setIfInBounds_toArray, List.set_cons_zero, List.set_cons_succ]
      refine wpAnyH_ready (rs := [39]) (by kernel_rfl) (by simp) ?_
      refine AllReadyH.cons (by simp only [List.getElem?_toArray, List.getElem?_cons_succ, List.getElem?_cons_zero]; rfl) (fun KK hKK => ?_) AllReadyH.nil
      go_simp
      refine (hLS _).mono ?_
      rintro e wc8 ⟨rfl, g8⟩
      have q9 := q9.ext g8
      have q12 := q12.ext g8
      have q14 := q14.ext g8
      have hs2 := Sl.ext hs2 g8
      have hb := hb.trans (g8.mono hb.size)
      clear g8
      go_wp2_with fail
      refine hKK.out _ _ ?_ (fun hHeld => ?_)
      · exact ⟨q9, q12, q14, hs2⟩
      clear hKK KK
      try simp only [Act.put, List.setIfInBounds_toArray, List.set_cons_zero, List.set_cons_succ]
      refine wpAnyH_take (i := 40) (v := ?zv40) (by simp only [List.getElem?_toArray, List.getElem?_cons_succ, List.getElem?_cons_zero]; rfl) (by kernel_rfl) (by kernel_rfl) (by kernel_rfl) (by exact fun _ _ _ h => h) (Or.inl ⟨by rfl, ?zy40⟩) hHeld ?_
      case zy40 => (intro w hSw; (try dsimp only at hSw); have hz1 := (sl_at hSw.2.2.2 hk).1; have hz2 := (sl_at hSw.2.2.2 hk).2; rw [← HX.out] at hz1; rw [← HY.out] at hz2; clear hSw; go_simp; try (with_reducible rfl))
      try simp only [Act.put, List.setIfInBounds_toArray, List.set_cons_zero, List.set_cons_succ]
      refine wpAnyH_take (i := 48) (v := ?zv48) (by simp only [List.getElem?_toArray, List.getElem?_cons_succ, List.getElem?_cons_zero]; rfl) (by kernel_rfl) (by kernel_rfl) (by kernel_rfl) (by exact fun _ _ _ h => h) (Or.inl ⟨by rfl, ?zy48⟩) hHeld ?_
      case zy48 => (intro w hSw; (try dsimp only at hSw); have hz1 := (sl_at hSw.2.2.2 hk).1; have hz2 := (sl_at hSw.2.2.2 hk).2; rw [← HX.out] at hz1; rw [← HY.out] at hz2; clear hSw; go_simp; try (with_reducible rfl))
      try simp only [Act.put, List.setIfInBounds_toArray, List.set_cons_zero, List.set_cons_succ]
      refine wpAnyH_take (i := 49) (v := ?zv49) (by simp only [List.getElem?_toArray, List.getElem?_cons_succ, List.getElem?_cons_zero]; rfl) (by kernel_rfl) (by kernel_rfl) (by kernel_rfl) (by exact fun _ _ _ h => h) (Or.inl ⟨by rfl, ?zy49⟩) hHeld ?_
      case zy49 => (intro w hSw; (try dsimp only at hSw); have hz1 := (sl_at hSw.2.2.2 hk).1; have hz2 := (sl_at hSw.2.2.2 hk).2; rw [← HX.out] at hz1; rw [← HY.out] at hz2; clear hSw; go_simp; try (with_reducible rfl))
      try simp only [Act.put, List.setIfInBounds_toArray, List.set_cons_zero, List.set_cons_succ]
      refine wpAnyH_take (i := 50) (v := ?zv50) (by simp only [List.getElem?_toArray, List.getElem?_cons_succ, List.getElem?_cons_zero]; rfl) (by kernel_rfl) (by kernel_rfl) (by kernel_rfl) (by exact fun _ _ _ h => h) (Or.inl ⟨by rfl, ?zy50⟩) hHeld ?_
      case zy50 => (intro w hSw; (try dsimp only at hSw); have hz1 := (sl_at hSw.2.2.2 hk).1; have hz2 := (sl_at hSw.2.2.2 hk).2; rw [← HX.out] at hz1; rw [← HY.out] at hz2; clear hSw; go_simp; try (with_reducible rfl))
      try simp only [Act.put, List.setIfInBounds_toArray, List.set_cons_zero, List.set_cons_succ]
      refine wpAnyH_done (by kernel_rfl) ?_ _
      go_wp2_with fail
      go_ret
      exact ⟨rfl, hb⟩
theorem BoardHashes_walk (A : Option Addr) (L : List (Int × Nat)) (n c b : Nat) (i : Nat) (v : Int) (m : Nat) (w : World) (hs : Sl w b A (cv L)) (hn : L.length = n) (_hm : n ≤ maxLen) (hnc : n ≤ c) (hok : okC L) (hi : i ≤ 255) (hv1 : -2147483648 ≤ v) (hv2 : v ≤ 2147483647) (hm : m ≤ 4294967295) :
    Calls Try.prog 7 #[.slice A n c, .int .u8 i, .int .i32 v, .int .u32 m] w fun e w' => e = .returned (.bool true) ∧ Below w.heap.size w w' := by
  by_cases h0 : (L.take 48).length = 0
  · exact BoardHashes_none A L n c b i v m w hs hn hnc hok h0
  · exact BoardHashes_some A L n c b i (i % (L.take 48).length) v m w hs hn hnc hok (Nat.mod_lt _ (by omega)) rfl hi ⟨hv1, hv2⟩ (by omega)
end Go.Proofs.Ytemhglcdcpobpaa
