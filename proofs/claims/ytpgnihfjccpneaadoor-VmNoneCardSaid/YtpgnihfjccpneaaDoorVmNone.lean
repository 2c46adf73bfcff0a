/- VmNone: the walk. Conditions: the numbers fit; the table lies. -/
import Derived.Test.YtpgnihfjccpneaaDoorCodeKV
namespace Go.Proofs.YtpgnihfjccpneaaDoor
open Go.RowKit

theorem follow_e (comp : Nat → Int → Int → Int) (P : VP) (s : VS) (c : Cd) (h : s.e ≠ 2) : (followV comp P s c).e ≠ 2 := by
  have hp : ∀ c : Cd, (s.place P.al c).1 ≠ 2 := fun c => by
    unfold VS.place
    by_cases h1 : VS.clr P.al (s.rg c.b) = true
    · rw [if_pos h1]
      by_cases h2 : 0 ≤ c.n + (s.rg c.b).1 ∧ c.n + (s.rg c.b).1 < (s.L.length : Int)
      · rw [if_pos h2]; show (0 : Nat) ≠ 2; decide
      · rw [if_neg h2]; show (7 : Nat) ≠ 2; decide
    · rw [if_neg h1]; show (8 : Nat) ≠ 2; decide
  refine follow_elim comp P (C := fun z => z.e ≠ 2) s c (fun _ => h) (fun _ => h) (fun _ => h) (fun _ => h) (fun _ => h) (fun _ _ => h) (fun _ _ => h) (fun _ _ => hp c) (fun _ => h) (fun _ _ _ => h) (fun _ _ _ => h) (fun _ _ => by show (8 : Nat) ≠ 2; decide) (fun _ => h) (fun _ => h) (fun _ _ => h) (fun _ => h) (fun _ => ?_) (fun _ => h)
  unfold shufV
  rw [(puts_u _ _ _).2.2]
  exact h
theorem run_e (comp : Nat → Int → Int → Int) (P : VP) : ∀ (k : Nat) (s : VS), s.e ≠ 2 → (runV comp P k s).e ≠ 2
  | 0, _, h => h
  | k + 1, s, h => by
    unfold runV
    by_cases h1 : s.nx < P.code.length ∧ s.e = 0
    · rw [if_pos h1]
      by_cases h2 : s.u = 400
      · rw [if_pos h2]; show (9 : Nat) ≠ 2; decide
      · rw [if_neg h2]
        exact run_e comp P k _ (follow_e comp P _ _ h)
    · rw [if_neg h1]; exact h
theorem whole_good {comp : Nat → Int → Int → Int} {P : VP} {L : List (Int × Nat)} {d : Nat} (h : (checkV P.code L.length P.mv.length).2 = true) : (wholeV comp P L d).e ≠ 2 := by
  unfold wholeV
  rw [if_pos h]
  have h1 := run_e comp P 402 (startV P L d) (by show (0 : Nat) ≠ 2; decide)
  unfold endV
  by_cases h2 : (runV comp P 402 (startV P L d)).e = 0
  · rw [if_pos h2]; exact h1
  · rw [if_neg h2]; exact h1
theorem whole_bad {comp : Nat → Int → Int → Int} {P : VP} {L : List (Int × Nat)} {d : Nat} (h : (checkV P.code L.length P.mv.length).2 = false) : wholeV comp P L d = { startV P L d with e := 2 } := by
  unfold wholeV
  rw [if_neg (by rw [h]; decide)]
set_option maxHeartbeats 16000000 in
set_option maxRecDepth 20000 in
theorem VmNone_walk (A : Option Addr) (K : List Cd) (n c b : Nat) (A2 : Option Addr) (L : List (Int × Nat)) (n2 c2 b2 : Nat) (d : Nat) (w : World) (hT : CTab w) (hs : Sl w b A (kv K)) (hn : K.length = n) (_hm : n ≤ maxLen) (hnc : n ≤ c) (hok : okK K)
    (hs2 : Sl w b2 A2 (cv L)) (hn2 : L.length = n2) (_hm2 : n2 ≤ maxLen) (hnc2 : n2 ≤ c2) (hok2 : okC L) (_hd : d < 18446744073709551616) :
    Calls Tryd.prog 7 #[.slice A n c, .slice A2 n2 c2, .agg #[.int .u64 (d : Int)]] w fun e w' => e = .returned (.bool true) ∧ Below w.heap.size w w' := by
  have hok := fun x hx => hok x (List.mem_of_mem_take (i := 96) hx)
  have hok2 := fun x hx => hok2 x (List.mem_of_mem_take (i := 48) hx)
  have hFw := fun W h => FewC_calls A2 L n2 c2 b2 W h hn2 hnc2
  have hCd := fun W h => Codes_calls A K n c b W h hn hnc
  obtain ⟨M, hM⟩ : ∃ M, M = L.take 48 := ⟨_, rfl⟩
  obtain ⟨J, hJ⟩ : ∃ J, J = K.take 96 := ⟨_, rfl⟩
  simp only [← hM] at hFw hok2
  simp only [← hJ] at hCd hok
  have lM : M.length ≤ 48 := by rw [hM, List.length_take]; omega
  have lJ : J.length ≤ 96 := by rw [hJ, List.length_take]; omega
  have oM : okC M := hok2
  have oJ : okK J := hok
  have kd := heap_alloc_new w (.cells #[.int .u64 (d : Int)] 27)
  have hb0 := below_alloc1 w (.cells #[.int .u64 (d : Int)] 27)
  have hT0 := hT.ext hb0
  have hs := Sl.ext hs hb0
  have hs2 := Sl.ext hs2 hb0
  have kd : Box (w.alloc (.cells #[.int .u64 (d : Int)] 27)) w.heap.size (.int .u64 (d : Int)) 27 := kd
  obtain ⟨wd, hwd⟩ : ∃ wd, wd = w.alloc (.cells #[.int .u64 (d : Int)] 27) := ⟨_, rfl⟩
  clear hM hJ hok hok2 hn hn2 hnc hnc2 hT
  go_enter Tryd.func7, Tryd.ntmps7
  go_wp2_with fail
  rw [← hwd] at kd hb0 hT0 hs hs2 ⊢
  clear hwd
  refine (Awake_calls _ hT0).mono ?_
  rintro e w1 ⟨rfl, h1⟩
  have kd := kd.ext h1
  have hT1 := hT0.ext h1
  have hs := Sl.ext hs h1
  have hs2 := Sl.ext hs2 h1
  have hb1 := hb0.trans (h1.mono hb0.size)
  clear hT0 hb0 h1
  go_wp2_with fail
  refine (hFw w1 hs2).mono ?_
  rintro e w2 ⟨v, rfl, hv, h2⟩
  have kd := kd.ext h2
  have hT2 := hT1.ext h2
  have hs := Sl.ext hs h2
  have hb2 := hb1.trans (h2.mono hb1.size)
  obtain ⟨A3, c3, b3, rfl, hc3, hm3, -, hB3, hsl3, -⟩ := hv.sl
  clear hFw hs2 hT1 hb1 h2 hv
  go_wp2_with fail
  refine (hCd w2 hs).mono ?_
  rintro e w3 ⟨v, u, rfl, hv, hu, h3⟩
  have kd := kd.ext h3
  have hT3 := hT2.ext h3
  have hb3 := hb2.trans (h3.mono hb2.size)
  have hsl3 := Sl.ext hsl3 h3
  obtain ⟨A4, c4, b4, rfl, hc4, hm4, -, hB4, hsl4, -⟩ := hv.sl
  obtain ⟨A5, c5, b5, rfl, hc5, hm5, -, hB5, hsl5, -⟩ := hu.sl
  obtain ⟨bc, hbc, hsl4⟩ : ∃ bc, bc < w3.heap.size ∧ Sl w3 bc A4 (kv J) := by
    by_cases hJe : J = []
    · exact ⟨w.heap.size, kd.lt, by rw [hJe]; exact Sl.nil_ _ _ _⟩
    · exact ⟨b4, Sl.lt hsl4 (by intro h; have h5 := congrArg List.length h; rw [kv_length] at h5; exact hJe (List.eq_nil_of_length_eq_zero (by simp at h5; omega))), hsl4⟩
  obtain ⟨mJ, hmJ⟩ : ∃ mJ, mJ = J.length := ⟨_, rfl⟩
  obtain ⟨mM, hmM⟩ : ∃ mM, mM = M.length := ⟨_, rfl⟩
  rw [← hmJ, ← hmM]
  have HmJ := Lib.hid hmJ
  have HmM := Lib.hid hmM
  clear hCd hs hT2 hb2 h3 hv hu hmJ hmM
  go_wp2_with fail
  have hN := New_in A3 M mM c3 b3 w3 hsl3 HmM.out.symm (by rw [HmM.out]; exact lM)
  refine hN.mono ?_
  rintro e w4 ⟨rfl, h4⟩
  have kd := (kd.ext h4).alloc (.cells (bdL M) 44)
  have l4 := BoxL.new_ w4 M
  have hT4 := (hT3.ext h4).ext (below_alloc1 w4 (.cells (bdL M) 44))
  have hb4 := hb3.trans (h4.mono hb3.size)
  have hb4 := hb4.alloc hb4.size (.cells (bdL M) 44)
  have hsl4 := Sl.ext (Sl.ext hsl4 h4) (below_alloc1 w4 (.cells (bdL M) 44))
  have hsl5 := Sl.ext (Sl.ext hsl5 h4) (below_alloc1 w4 (.cells (bdL M) 44))
  obtain ⟨G, hG⟩ : ∃ G, G = w4.heap.size := ⟨_, rfl⟩
  have hGs : w3.heap.size ≤ G := by rw [hG]; exact h4.size
  have z4 : (w4.alloc (.cells (bdL M) 44)).heap.size = G + 1 := by rw [hG]; simp
  rw [← hG] at l4
  have HG := Lib.hid hG.symm
  have dc := kd.cell
  clear hN hT3 hb3 h4 hG hsl3
  go_wp2_with (first | ((with_reducible refine at_al 44 8 ?_); refine wpList_al rfl rfl (some 8) rfl G HG.out ?_) | ((with_reducible refine at_st 44 8 23 ?_); refine wpList_put rfl (.tmp 8) (.tmp 23) rfl HG.out M rfl rfl ?_) | ((with_reducible refine at_ld 44 8 ?_); refine wpList_ld (by first | rfl | simp [Region.wanted, yielded]) (.tmp 8) rfl G rfl M l4 ?_))
  have hsm : Is (w4.alloc (.cells (bdL M) 44)) w.heap.size none [] := Sl.nil_ _ _ _
  have hR := Run_calls compN comp_ok comp_fit ⟨J, [], 0, 1⟩ A4 c4 bc none 0 w.heap.size M d _ ⟨hsl4, hsm, oJ, by simp only [maxLen]; show J.length ≤ _; omega, by show 0 ≤ 100; decide, fun x hx => (by cases hx), lM, oM, by show 1 < 4294967296; decide, hT4, by rw [z4]; omega, by rw [z4]; have := kd.lt; omega⟩
  have hR : Calls Tryd.prog 21 #[.slice A4 mJ c4, .agg (bdL M), .agg #[.int .u64 (d : Int)], .slice none 0 0, .int .u32 0, .int .u32 1] (w4.alloc (.cells (bdL M) 44)) fun e w' => ∃ sh, e = .returned (.agg (resA sh (wholeV compN ⟨J, [], 0, 1⟩ M d))) ∧ RowS w' (w4.alloc (.cells (bdL M) 44)).heap.size sh (wholeV compN ⟨J, [], 0, 1⟩ M d).sh ∧ Below (w4.alloc (.cells (bdL M) 44)).heap.size (w4.alloc (.cells (bdL M) 44)) w' := by rw [HmJ.out]; exact hR
  have hgood := whole_good (comp := compN) (P := ⟨J, [], 0, 1⟩) (L := M) (d := d)
  have hbad := whole_bad (comp := compN) (P := ⟨J, [], 0, 1⟩) (L := M) (d := d)
  obtain ⟨F, hF⟩ : ∃ F, F = wholeV compN ⟨J, [], 0, 1⟩ M d := ⟨_, rfl⟩
  rw [← hF] at hR hgood hbad
  have HGOOD := Lib.hid hgood
  have HBAD := Lib.hid hbad
  clear hF hgood hbad
  refine hR.mono ?_
  rintro e w5 ⟨sh, rfl, hSh, h5⟩
  have hone := rowS_one hSh
  have r1 := BoxR.new_ w5 sh F
  have l5 := (l4.ext h5).alloc (.cells (resA sh F) 50)
  have kd := (kd.ext h5).alloc (.cells (resA sh F) 50)
  have hb5 := hb4.trans (h5.mono hb4.size)
  have hb5 := hb5.alloc hb5.size (.cells (resA sh F) 50)
  have hsl5 := Sl.ext (Sl.ext hsl5 h5) (below_alloc1 w5 (.cells (resA sh F) 50))
  obtain ⟨K1, hK1⟩ : ∃ K1, K1 = w5.heap.size := ⟨_, rfl⟩
  rw [← hK1] at r1
  have HK1 := Lib.hid hK1.symm
  have hCk := fun W h => RCheck_calls A5 J mJ c5 b5 mM 0 W h HmJ.out.symm (by rw [HmJ.out]; simp only [maxLen]; omega) oJ (by omega) (by rw [HmM.out]; omega)
  obtain ⟨V, hV⟩ : ∃ V, V = checkV J mM 0 := ⟨_, rfl⟩
  rw [HmM.out] at hV
  have hV2 : V = checkV J M.length ([] : List Int).length := hV
  have HV := Lib.hid hV2
  have hCk : ∀ W, Sl W b5 A5 (kv J) → Calls Tryd.prog 18 #[.slice A5 mJ c5, .int .i64 (mM : Int), .int .i64 0] W fun e w' => e = .returned (.int .i64 (if V.2 = true then -1 else ((V.1 : Nat) : Int))) ∧ Below W.heap.size W w' := fun W h => by rw [hV, ← HmM.out]; exact hCk W h
  clear hR hT4 hb4 h5 l4 hSh hsl4 hK1 dc hV hV2 z4 hsm
  obtain ⟨vb, vi⟩ : ∃ q : Nat × Bool, q = V := ⟨V, rfl⟩
  cases hv2 : V.2 with
  | true =>
    have fe := HGOOD.out (by rw [← HV.out]; exact hv2)
    rw [hv2] at hCk
    have hCk : ∀ W, Sl W b5 A5 (kv J) → Calls Tryd.prog 18 #[.slice A5 mJ c5, .int .i64 (mM : Int), .int .i64 0] W fun e w' => e = .returned (.int .i64 (-1)) ∧ Below W.heap.size W w' := hCk
    have ee : ((F.e : Int) != 2) = true := by simp; omega
    clear fe hv2
    go_wp2_with (first | ((with_reducible refine at_al 50 10 ?_); refine wpList_alR rfl rfl (some 10) rfl K1 HK1.out ?_) | ((with_reducible refine at_st 50 10 28 ?_); refine wpList_putR rfl (.tmp 10) (.tmp 28) rfl HK1.out sh F hone rfl rfl ?_))
    refine (hCk _ hsl5).mono ?_
    rintro e w6 ⟨rfl, h6⟩
    have r6 := r1.ext h6
    have ce := r6.cE
    have hb6 := hb5.trans (h6.mono hb5.size)
    clear hCk hsl5 r1 h6 hb5
    go_wp2_with fail
    go_ret
    exact ⟨rfl, hb6⟩
  | false =>
    have hFe := HBAD.out (by rw [← HV.out]; exact hv2)
    rw [hv2] at hCk
    have hCk : ∀ W, Sl W b5 A5 (kv J) → Calls Tryd.prog 18 #[.slice A5 mJ c5, .int .i64 (mM : Int), .int .i64 0] W fun e w' => e = .returned (.int .i64 ((V.1 : Nat) : Int)) ∧ Below W.heap.size W w' := hCk
    have f1 : F.e = 2 := by rw [hFe]
    have f2 : F.u = 0 := by rw [hFe]; rfl
    have f3 : F.L = M := by rw [hFe]; rfl
    have f4 : F.d = d := by rw [hFe]; rfl
    have fl : F.L.length ≤ 48 := by rw [f3]; exact lM
    have F3 := Lib.hid f3
    obtain ⟨vn, hvn⟩ : ∃ vn, vn = V.1 := ⟨_, rfl⟩
    rw [← hvn] at hCk
    clear hFe hv2 hvn
    go_wp2_with (first | ((with_reducible refine at_al 50 10 ?_); refine wpList_alR rfl rfl (some 10) rfl K1 HK1.out ?_) | ((with_reducible refine at_st 50 10 28 ?_); refine wpList_putR rfl (.tmp 10) (.tmp 28) rfl HK1.out sh F hone rfl rfl ?_))
    refine (hCk _ hsl5).mono ?_
    rintro e w6 ⟨rfl, h6⟩
    have r6 := r1.ext h6
    have l6 := l5.ext h6
    have kd := kd.ext h6
    have dc := kd.cell
    have ce := r6.cE
    have cu := r6.cU
    have cd := r6.cD
    rw [f1] at ce
    rw [f2] at cu
    rw [f4] at cd
    have hb6 := hb5.trans (h6.mono hb5.size)
    clear hCk hsl5 r1 h6 hb5 f1 f2 f3 f4 l5
    go_wp2_with (first | ((with_reducible refine at_ld 44 8 ?_); refine wpList_ld (by first | rfl | simp [Region.wanted, yielded]) (.tmp 8) rfl G rfl M l6 ?_) | ((with_reducible refine at_ld 44 38 ?_); refine wpList_ldRBw (by first | rfl | simp [Region.wanted, yielded]) (.tmp 38) rfl K1 rfl r6 ?_) | ((with_reducible refine at_bi 41 .eql 44 44 _ _ ?_); refine wpList_eql_bd (by first | rfl | simp [Region.wanted, yielded]) (.tmp 39) (.tmp 40) rfl F.L M rfl rfl fl true (by rw [F3.out]; simp) ?_))
    go_ret
    exact ⟨rfl, hb6⟩
end Go.Proofs.YtpgnihfjccpneaaDoor
