/- TrailRolls: the walk. Conditions: the numbers fit; the table lies. -/
import Derived.Test.YtnbbglhpjpebhaaDoorZTrBase11
import Derived.Test.YtnbbglhpjpebhaaDoorZOpenCT
namespace Go.Proofs.YtnbbglhpjpebhaaDoor
open Go.RowKit
set_option linter.unusedVariables false
theorem Put0_calls (L : List (Int × Nat)) (x : Int) (y : Nat) (w : World) (hL : L.length ≤ 48) :
    Calls Tryd.prog 27 #[.agg (bdL L), .int .i64 0, .agg #[.int .i32 x, .int .u32 (y : Int)]] w fun e w' => ∃ E : Int, e = .returned (.tuple #[.agg (bdL (L.set 0 (x, y))), .int .i64 E]) ∧ Below w.heap.size w w' := by
  by_cases h : 0 < L.length
  · exact (Put_in L 0 x y w hL h).mono fun e w' hh => ⟨0, hh⟩
  · have h0 : L = [] := List.eq_nil_of_length_eq_zero (by omega)
    subst h0
    exact (Put_out [] 0 x y w (by simp)).mono fun e w' hh => ⟨7, hh⟩
theorem wpList_stSB {ops : Array Oper} {rest : List Oper} {o : Oper} {a : Act} {w : World} {Q : Exit → Act → World → Prop} {s : St} (hg : o.guard = none) (x y : Operand) (ho : o.op = .store 36 x y) (g : Nat) (M : List (Int × Nat)) (hx : a.eval x = .pointer (some ⟨g, 0, none⟩)) (hy : a.eval y = .agg (bdL M)) (h : BoxS w g s)
    (k : wpList Tryd.prog ops Q rest (a.put o.dst undef) (w.setCells g 0 (bdL M).toList)) : wpList Tryd.prog ops Q (o :: rest) a w :=
  wpList_store_mid hg _ x y ho g 0 (bdL M) hx hy (by rw [bdL_size]; exact h.there) (by rw [bdL_size]; kernel_rfl) (bdL_all M) k
theorem mod_setCells0 (w : World) (b o : Nat) (vs : List Value) : Mod (fun i => i = b) w (w.setCells b o vs) := mod_setCells w b o vs
set_option maxHeartbeats 16000000 in
set_option maxRecDepth 20000 in
theorem TrailRolls_walk (g0 : Gm) (s0 : Gs) (sd n : Nat) (x : Int) (y : Nat) (w : World) (hT : CTab w) (hr0 : GRaw g0 s0) (hi0 : GIn w g0 s0) (hsd : sd ≤ 18446744073709551615) (hn : n ≤ 255) (hcx : -2147483648 ≤ x ∧ x ≤ 2147483647) (hcy : y < 4294967296) :
    Calls Tryd.prog 6 #[.agg (gmA g0 s0), .int .u64 (sd : Int), .int .u8 (n : Int), .agg #[.int .i32 x, .int .u32 (y : Int)]] w fun e w' => e = .returned (.bool true) ∧ Below w.heap.size w w' := by
  have hb := below_alloc2 w (.cells (gmA g0 s0) 26) (.cells #[.int .i32 x, .int .u32 (y : Int)] 33)
  have hG := (GBox.new_ w g0 s0).ext (below_alloc1 (w.alloc (.cells (gmA g0 s0) 26)) (.cells #[.int .i32 x, .int .u32 (y : Int)] 33))
  have hcb : ((w.alloc (.cells (gmA g0 s0) 26)).alloc (.cells #[.int .i32 x, .int .u32 (y : Int)] 33)).heap[w.heap.size + 1]? = some (.cells #[.int .i32 x, .int .u32 (y : Int)] 33 (0, 0)) := by
    have h := heap_alloc_new (w.alloc (.cells (gmA g0 s0) 26)) (.cells #[.int .i32 x, .int .u32 (y : Int)] 33)
    rw [World.size_alloc] at h
    exact h

  have hi := hi0.ext hb
  have hA := awakeT_calls _ (hT.ext hb)
  clear hi0
  go_enter Tryd.func6, Tryd.ntmps6
  go_wp2_with fail
  refine hA.mono ?_
  rintro e w1 ⟨rfl, h1⟩
  replace hG := hG.ext h1
  replace hi := hi.ext h1
  replace hb := hb.trans (h1.mono hb.size)
  replace hcb := dbox_extR hcb h1
  have hw1s : w.heap.size < w1.heap.size := hG.lt
  clear hA h1
  have hF := FewG_calls g0 s0 w1 hi hr0
  have z0 := hG.c0
  have z1 := hG.c1
  have z2 := hG.c2
  have z3 := hG.c3
  have z4 := hG.c4
  have z5 := hG.c5
  go_wp2_with fail
  refine hF.mono ?_
  rintro e w2 ⟨s, rfl, hi2, hok, hsb, h1⟩
  obtain ⟨g, hg⟩ : ∃ g, g = fewG g0 := ⟨_, rfl⟩
  rw [← hg] at hi2 hok ⊢
  replace hG := hG.ext h1
  replace hb := hb.trans (h1.mono hb.size)
  replace hcb := dbox_extR hcb h1
  clear hF h1 hg hi z0 z1 z2 z3 z4 z5
  have z0 := hG.c0
  have z1 := hG.c1
  have z2 := hG.c2
  have z3 := hG.c3
  have z4 := hG.c4
  have z5 := hG.c5
  have hfz := hG.free
  go_upto_region 4 with fail
  obtain ⟨h9, m9⟩ := six_set6 (.int .i64 g.ob) (.int .i64 g.pl) (.int .u32 (g.mv : Int)) (.int .u32 (g.df : Int)) (.slice s.A g.L.length s.c) (.slice s.A' g.K.length s.c') hG
  obtain ⟨w3, hw3⟩ : ∃ w3, w3 = ((((((w2.setCell ⟨w.heap.size, 0, none⟩ (.int .i64 g.ob)).setCell ⟨w.heap.size, 1, none⟩ (.int .i64 g.pl)).setCell ⟨w.heap.size, 2, none⟩ (.int .u32 (g.mv : Int))).setCell ⟨w.heap.size, 3, none⟩ (.int .u32 (g.df : Int))).setCell ⟨w.heap.size, 4, none⟩ (.slice s.A g.L.length s.c)).setCell ⟨w.heap.size, 5, none⟩ (.slice s.A' g.K.length s.c')) := ⟨_, rfl⟩
  rw [← hw3] at h9 m9 ⊢
  have hb3 : Below w.heap.size w w3 := hb.trans (m9.below hb.size (fun i hi e => by have e : i = w.heap.size := e; omega))
  replace hcb := (m9.block (w.heap.size + 1) (Array.getElem?_eq_some_iff.1 hcb).1 (by show ¬ w.heap.size + 1 = w.heap.size; omega)).trans hcb
  replace hi2 : GIn w3 g s := gin_mod1 hi2 m9 hsb.1 hsb.2 hw1s
  have hG : GBox w3 w.heap.size g s := h9
  clear hw3 h9 m9 hb hfz z0 z1 z2 z3 z4 z5
  obtain ⟨R, hRr⟩ : ∃ R, R = rightB g := ⟨_, rfl⟩
  have HR := Lib.hid hRr
  have hRt := GRight_calls g s w3 hi2 hok (hT.ext hb3)
  rw [← hRr] at hRt
  have z0 := hG.c0
  have z1 := hG.c1
  have z2 := hG.c2
  have z3 := hG.c3
  have z4 := hG.c4
  have z5 := hG.c5
  go_wp2_with fail
  refine hRt.mono ?_
  rintro e w4 ⟨rfl, h1⟩
  replace hG := hG.ext h1
  replace hi2 := hi2.ext h1
  replace hb3 := hb3.trans (h1.mono hb3.size)
  replace hcb := dbox_extR hcb h1
  clear hRt h1 z0 z1 z2 z3 z4 z5
  cases R with
  | false =>
    clear hRr
    go_wp2_with fail
    go_ret
    exact ⟨rfl, hb3⟩
  | true =>
    have h48 := right48 hRr.symm
    clear hRr
    have z0 := hG.c0
    have z1 := hG.c1
    have z2 := hG.c2
    have z3 := hG.c3
    have z4 := hG.c4
    have z5 := hG.c5
    have hS := Start_good g s sd [] none 0 w4 hi2 hok (hT.ext hb3) 0 (Sl.nil_ _ _ _) (by simp [maxLen]) (fun x hx => by cases hx) HR.out.symm
    obtain ⟨C, hC⟩ : ∃ C, C = startC g [] := ⟨_, rfl⟩
    rw [← hC] at hS
    have HC := Lib.hid hC
    clear hC
    go_wp2_with fail
    refine hS.mono ?_
    rintro e w5 ⟨rfl, h1⟩
    replace hG := hG.ext h1
    replace hcb := dbox_extR hcb h1
    replace hi2 := hi2.ext h1
    replace hb3 := hb3.trans (h1.mono hb3.size)
    clear hS h1 z0 z1 z2 z3 z4 z5
    go_upto_region 7 with (first | ((with_reducible refine at_al 40 9 ?_); refine wpList_alS rfl rfl (some 9) rfl w5.heap.size rfl ?_) | ((with_reducible refine at_st 40 9 28 ?_); refine wpList_stS rfl (.tmp 9) (.tmp 28) rfl w5.heap.size ⟨C, sd, 0⟩ rfl rfl zSt (BoxS.new_ _ _) ?_))
    rw [made_row]
    have h1 := below_alloc1 w5 (.cells (stA ⟨C, sd, 0⟩) 40)
    have hx := BoxS.new_ w5 ⟨C, sd, 0⟩
    obtain ⟨Y, hY⟩ : ∃ Y, Y = w5.heap.size := ⟨_, rfl⟩
    obtain ⟨w6, hw5⟩ : ∃ w6, w6 = w5.alloc (.cells (stA ⟨C, sd, 0⟩) 40) := ⟨_, rfl⟩
    rw [← hw5] at h1 hx ⊢
    rw [← hY] at hx ⊢
    have HY := Lib.hid hY
    clear hw5 hY
    replace hG := hG.ext h1
    replace hi2 := hi2.ext h1
    replace hb3 := hb3.trans (h1.mono hb3.size)
    replace hcb := dbox_extR hcb h1
    have hG6 := Lib.hid (show w.heap.size + 1 < w6.heap.size from (Array.getElem?_eq_some_iff.1 hcb).1)
    clear h1
    have oC : okC C := by rw [HC.out]; exact stK_ok _ hok.oL (fun x hx => by cases hx)
    have lC : C.length ≤ 48 := by rw [HC.out]; simp [startC]; exact h48
    have hN := New_calls g s 0 w6 hi2 hok
    have z0 := hG.c0
    have z1 := hG.c1
    have z2 := hG.c2
    have z3 := hG.c3
    have z4 := hG.c4
    have z5 := hG.c5
    go_wp2_with fail
    refine hN.mono ?_
    rintro e w7 ⟨b, bm, s', rfl, hB, hok', l1, l2, l3, l4, h1⟩
    have hY6 : Y < w6.heap.size := hx.lt
    replace hG := hG.ext h1
    replace hi2 := hi2.ext h1
    replace hb3 := hb3.trans (h1.mono hb3.size)
    replace hx := hx.ext h1
    replace hcb := dbox_extR hcb h1
    have h79' := h1.size
    clear hN h1 z0 z1 z2 z3 z4 z5
    have hV := StView_calls ⟨C, sd, 0⟩ 0 w7 lC oC
    go_wp2_with ((with_reducible refine at_ld 40 9 ?_); refine wpList_ldS rfl (.tmp 9) rfl Y rfl hx ?_)
    refine hV.mono ?_
    rintro e w8 ⟨rfl, h1⟩
    replace hG := hG.ext h1
    replace hi2 := hi2.ext h1
    replace hb3 := hb3.trans (h1.mono hb3.size)
    replace hx := hx.ext h1
    replace hcb := dbox_extR hcb h1
    replace hB := hB.ext h1
    have h79 := h1.size
    clear hV h1
    have hR := Reset_calls b bm _ ⟨viewL 0 C, 0, 0⟩ w8 hB
    go_wp2_with fail
    refine hR.mono ?_
    rintro e w9 ⟨rfl, hBt, m9⟩
    replace hx := hx.mod m9 (by show ¬ (Y = b ∨ Y = bm); omega)
    have hg9 : w.heap.size < w6.heap.size := by have := hG6.out; omega
    replace hG := (m9.block w.heap.size hG.lt (by show ¬ (w.heap.size = b ∨ w.heap.size = bm); omega)).trans hG
    replace hcb := (m9.block (w.heap.size + 1) (Array.getElem?_eq_some_iff.1 hcb).1 (by show ¬ (w.heap.size + 1 = b ∨ w.heap.size + 1 = bm); have := hG6.out; omega)).trans hcb
    replace hb3 := hb3.trans (m9.below hb3.size (fun i hi e => by have e : i = b ∨ i = bm := e; omega))
    obtain ⟨T, hT0⟩ : ∃ T, T = resT ⟨g, s', 0, zSt, 0, 0, fun _ => none⟩ ⟨viewL 0 C, 0, 0⟩ := ⟨_, rfl⟩
    rw [← hT0] at hBt
    have ok0 : TrOk T := by
      rw [hT0]
      exact ⟨hok', (by show (-9223372036854775808 : Int) ≤ 0 ∧ 0 ≤ 9223372036854775807; omega), by simp only [resT, viewL_length]; exact lC, okC_view oC 0, (by simp [resT]), (by simp [resT]), (fun u v h => by cases h)⟩
    have eg : T.g = g := by rw [hT0]; rfl
    have es : T.s = s' := by rw [hT0]; rfl
    have eo : T.o = 0 := by rw [hT0]; rfl
    have ek : T.k = ⟨viewL 0 C, 0, 0⟩ := by rw [hT0]; rfl
    have ef : T.f = fun _ => none := by rw [hT0]; rfl
    have er : T.r = 0 := by rw [hT0]; rfl
    have en : T.n = 0 := by rw [hT0]; rfl
    have hP : PredIs T.g T.s T.o := by
      rw [eg, es, eo]
      exact pred_right hok' (by show (-9223372036854775808 : Int) ≤ 0 ∧ 0 ≤ 9223372036854775807; omega) HR.out.symm
    have HOK := Lib.hid (And.intro ok0 hP)
    have hTsb : T.s.b < w9.heap.size ∧ T.s.b' < w9.heap.size := by
      rw [es]
      have := m9.size
      have := h79
      omega
    have HEQ := Lib.hid (And.intro eg (And.intro eo (And.intro ek (And.intro ef (And.intro er en)))))
    have HCC := Lib.hid (And.intro oC lC)
    clear hR hB m9 hT0 ok0 eg es eo ek ef er en hP oC lC
    have qK := hx.cK
    obtain ⟨q, hq⟩ : ∃ q, q = n % 20 := ⟨_, rfl⟩
    obtain ⟨A, hA9⟩ : ∃ A, A = 1 + q := ⟨_, rfl⟩
    have hA20 : A ≤ 20 := by omega
    have hA1 : 1 ≤ A := by omega
    have e1 : (n : Int) % 20 = (q : Int) := by omega
    have e2 : (1 : Int) + (q : Int) = (A : Int) := by omega
    have e3 : IntKind.u32.wrap (q : Int) = (q : Int) := by rw [IntKind.wrap_u32]; omega
    have e4 : IntKind.u32.wrap ((1 : Int) + (q : Int)) = (A : Int) := by rw [IntKind.wrap_u32]; omega
    have HA9 := Lib.hid (And.intro hA9 hq)
    have HTS := Lib.hid hTsb
    have HYK := Lib.hid (show Y < w9.heap.size from hx.lt)
    have hTC2 := hT
    have HBT := Lib.hid hBt
    have HTC := Lib.hid (hT.ext hb3)
    clear hA9 hq hT hTsb
    have hS := Shown_calls b bm T A w9 HBT.out HOK.out.1 HTC.out HOK.out.2 (by omega)
    obtain ⟨X, hX⟩ : ∃ X, X = shown T A := ⟨_, rfl⟩
    rw [← hX] at hS
    have hXok : StOk X := by rw [hX]; exact shown_ok HOK.out.1 A
    have HXE := Lib.hid hX
    clear hX
    go_wp2_with fail
    refine hS.mono ?_
    rintro e wa ⟨rfl, hB1, h1⟩
    have hsz9 := h1.size
    replace hb3 := hb3.trans (h1.mono hb3.size)
    replace hx := hx.ext h1
    replace hcb := dbox_extR hcb h1
    clear hS h1 qK HBT e1 e2 e3 e4
    go_upto_region 11 with (first | ((with_reducible refine at_al 40 13 ?_); refine wpList_alS rfl rfl (some 13) rfl wa.heap.size rfl ?_) | ((with_reducible refine at_st 40 13 45 ?_); refine wpList_stS rfl (.tmp 13) (.tmp 45) rfl wa.heap.size X rfl rfl zSt (BoxS.new_ _ _) ?_))
    rw [made_row]
    have hKb : w.heap.size + 1 < wa.heap.size := (Array.getElem?_eq_some_iff.1 hcb).1
    have h1 := below_alloc1 wa (.cells (stA X) 40)
    have x13 := BoxS.new_ wa X
    have hszc : w9.heap.size ≤ (wa.alloc (.cells (stA X) 40)).heap.size := by rw [World.size_alloc]; omega
    obtain ⟨K13, hK13⟩ : ∃ K, K = wa.heap.size := ⟨_, rfl⟩
    obtain ⟨wc, hwc⟩ : ∃ wc, wc = wa.alloc (.cells (stA X) 40) := ⟨_, rfl⟩
    rw [← hwc] at h1 x13 hszc ⊢
    rw [← hK13] at x13 hKb ⊢
    replace hB1 := hB1.ext h1
    replace hb3 := hb3.trans (h1.mono hb3.size)
    replace hx := hx.ext h1
    replace hcb := dbox_extR hcb h1
    clear hwc h1 hK13
    go_frame
    go_upto_region 12 with (first | ((with_reducible refine at_ld 40 13 ?_); refine wpList_ldS rfl (.tmp 13) rfl K13 rfl x13 ?_) | ((with_reducible refine at_al 40 14 ?_); refine wpList_alS rfl rfl (some 14) rfl wc.heap.size rfl ?_) | ((with_reducible refine at_st 40 14 46 ?_); refine wpList_stS rfl (.tmp 14) (.tmp 46) rfl wc.heap.size X rfl rfl zSt (BoxS.new_ _ _) ?_))
    rw [made_row]
    have hK34 : K13 < wc.heap.size := x13.lt
    have h1 := below_alloc1 wc (.cells (stA X) 40)
    have x14 := BoxS.new_ wc X
    obtain ⟨K14, hK14⟩ : ∃ K, K = wc.heap.size := ⟨_, rfl⟩
    obtain ⟨wd, hwd⟩ : ∃ wd, wd = wc.alloc (.cells (stA X) 40) := ⟨_, rfl⟩
    rw [← hwd] at h1 x14 ⊢
    rw [← hK14] at x14 hK34 ⊢
    have hBb : b < K14 ∧ bm < K14 := by rw [hK14]; exact ⟨hB1.lt, hB1.ltm⟩
    have hTs : T.s.b < K14 ∧ T.s.b' < K14 := by
      rw [hK14]
      have h := HTS.out
      have h2 := hszc
      exact ⟨by omega, by omega⟩
    replace hB1 := hB1.ext h1
    replace x13 := x13.ext h1
    replace hb3 := hb3.trans (h1.mono hb3.size)
    replace hx := hx.ext h1
    replace hcb := dbox_extR hcb h1
    clear hwd h1 hK14
    go_frame
    have qc := x14.cK
    have qf := x14.free 98
    have x15 := x14.sK A
    have m15 := Mod.setCell wd ⟨K14, 98, none⟩ (.int .u32 (A : Int))
    go_upto_region 13 with fail
    obtain ⟨we, hwe⟩ : ∃ we, we = wd.setCell ⟨K14, 98, none⟩ (.int .u32 (A : Int)) := ⟨_, rfl⟩
    rw [← hwe] at x15 m15 ⊢
    have hYK : Y < K14 := by have := HYK.out; omega
    replace hB1 := hB1.mod m15 (by show ¬ b = K14; omega) (by show ¬ bm = K14; omega) (by show ¬ T.s.b = K14; omega) (by show ¬ T.s.b' = K14; omega)
    replace x13 := x13.mod m15 (by show ¬ K13 = K14; omega)
    replace hx := hx.mod m15 (by show ¬ Y = K14; omega)
    replace hcb := (m15.block (w.heap.size + 1) (Array.getElem?_eq_some_iff.1 hcb).1 (by show ¬ w.heap.size + 1 = K14; omega)).trans hcb
    replace hb3 := hb3.trans (m15.below hb3.size (fun i hi e => by have e : i = K14 := e; omega))
    clear hwe m15 x14 qc qf
    have l15 : X.L.length ≤ 48 := hXok.l
    have hPut := Put0_calls X.L x y we l15
    have c0 : we.cell? ⟨w.heap.size + 1, 0, none⟩ = some (.int .i32 x) := by rw [cell_of_row we _ 0 _ _ _ hcb]; rfl
    have c1 : we.cell? ⟨w.heap.size + 1, 1, none⟩ = some (.int .u32 (y : Int)) := by rw [cell_of_row we _ 1 _ _ _ hcb]; rfl
    go_wp2_with ((with_reducible refine at_ld 36 50 ?_); refine wpList_ldSB (by first | rfl | simp [Region.wanted, yielded]) (.tmp 50) rfl K14 rfl x15 ?_)
    refine hPut.mono ?_
    rintro e wf ⟨E, rfl, h1⟩
    replace hB1 := hB1.ext h1
    replace x13 := x13.ext h1
    replace x15 := x15.ext h1
    replace hb3 := hb3.trans (h1.mono hb3.size)
    replace hx := hx.ext h1
    clear hPut c0 c1 h1 hcb
    go_upto_region 14 with ((with_reducible refine at_st 36 56 54 ?_); refine wpList_stSB rfl (.tmp 56) (.tmp 54) rfl K14 (X.L.set 0 (x, y)) rfl rfl x15 ?_)
    have x16 := x15.sL (X.L.set 0 (x, y))
    have m16 := mod_setCells wf K14 0 (bdL (X.L.set 0 (x, y))).toList
    obtain ⟨O, hO⟩ : ∃ O : St, O = ⟨X.L.set 0 (x, y), X.d, A⟩ := ⟨_, rfl⟩
    have x16 : BoxS (wf.setCells K14 0 (bdL (X.L.set 0 (x, y))).toList) K14 O := by rw [hO]; exact x16
    obtain ⟨wg, hwg⟩ : ∃ wg, wg = wf.setCells K14 0 (bdL (X.L.set 0 (x, y))).toList := ⟨_, rfl⟩
    rw [← hwg] at x16 m16 ⊢
    replace hB1 := hB1.mod m16 (by show ¬ b = K14; omega) (by show ¬ bm = K14; omega) (by show ¬ T.s.b = K14; omega) (by show ¬ T.s.b' = K14; omega)
    replace x13 := x13.mod m16 (by show ¬ K13 = K14; omega)
    replace hx := hx.mod m16 (by show ¬ Y = K14; omega)
    replace hb3 := hb3.trans (m16.below hb3.size (fun i hi e => by have e : i = K14 := e; omega))
    clear hwg m16 x15
    have hOk : StOk O := by
      rw [hO]
      exact ⟨by simp only [List.length_set]; exact l15, okC_set hXok.o 0 ⟨hcx, hcy⟩, by show A ≤ 4294967295; omega⟩
    have hOt : O.tk = A := by rw [hO]
    have hOlt : ¬ O.tk ≤ T.k.tk := by rw [hOt, HEQ.out.2.2.1]; show ¬ A ≤ 0; omega
    have hCf := Confirm_new b bm T O wg hB1 HOK.out.1 (hTC2.ext hb3) HOK.out.2 hOk hOlt
    obtain ⟨S, hS9⟩ : ∃ S, S = eqS O X := ⟨_, rfl⟩
    have hS9' := hS9.symm
    have hW : wrongT T O = (decide (A ≤ 16) && !S) := by
      unfold wrongT
      rw [hOt, HEQ.out.2.2.1, ← HXE.out, ← hS9]
      rfl
    have HW := Lib.hid hW
    have HOt := Lib.hid (And.intro hOt hOlt)
    clear hW hOlt hOt hO hS9
    have l48 := hOk.l
    go_wp2_with (first | ((with_reducible refine at_ld 40 14 ?_); refine wpList_ldS rfl (.tmp 14) rfl K14 rfl x16 ?_) | ((with_reducible refine at_ld 40 13 ?_); refine wpList_ldS rfl (.tmp 13) rfl K13 rfl x13 ?_) | ((with_reducible refine at_bi 59 _ _ _ _ _ ?_); refine wpList_eqS (by first | rfl | simp [Region.wanted, yielded]) (.tmp 57) (.tmp 58) rfl O X rfl rfl l48 S hS9' ?_))
    refine hCf.mono ?_
    rintro e wh ⟨rfl, hB2, mh⟩
    have x17 := x16.mod mh (by show ¬ (K14 = b ∨ K14 = bm); omega)
    replace hx := hx.mod mh (by show ¬ (Y = b ∨ Y = bm); omega)
    replace hb3 := hb3.trans (mh.below hb3.size (fun i hi e => by have e : i = b ∨ i = bm := e; have := hG6.out; omega))
    have qK := hx.cK
    clear hCf hB1 mh x13 x16 hS9'
    cases S with
    | true =>
      have hr : (confT T O).r = 0 := by
        show T.r + (wrongT T O).toNat = 0
        rw [HW.out, HEQ.out.2.2.2.2.1]
        simp
      obtain ⟨T2, hT2⟩ : ∃ T2, T2 = confT T O := ⟨_, rfl⟩
      have hk2 : T2.k = O := by rw [hT2]; rfl
      rw [← hT2] at hr hB2
      have hRl := fun W (h : TBox W b bm T2) => Rolls_calls b bm T2 W h
      rw [hr] at hRl
      have hKn := fun W (h : TBox W b bm T2) => Known_calls b bm T2 W h
      rw [hk2] at hKn
      have hCo := fun W (h : TBox W b bm T2) => Confirm_old b bm T2 O W h (by rw [hk2]; exact Nat.le_refl _)
      clear hT2 hk2 hr

      go_upto_region 20 with fail
      obtain ⟨wz, hwz⟩ : ∃ wz, wz = wh := ⟨_, rfl⟩
      rw [← hwz] at hB2 x17 hb3 ⊢
      clear hwz
      refine wp_region_held_drew (S := fun w' => Below wz.heap.size wz w') (by kernel_rfl) ?_ (fun hHeld => ?_)
      · exact below_drew (Below.refl _ _)
      refine wpAnyH_take (i := 0) (by simp only [List.getElem?_toArray]; rfl) (by kernel_rfl) (by kernel_rfl) (by kernel_rfl) (by exact fun _ _ _ h => h) (by exact yk (.pointer (some ⟨b, 0, none⟩)) (by kernel_rfl) (fun _ => by kernel_rfl)) hHeld ?_
      refine wpAnyH_take (i := 2) (by simp only [List.getElem?_toArray]; rfl) (by kernel_rfl) (by kernel_rfl) (by kernel_rfl) (by exact fun _ _ _ h => h) (by exact yk (.int .i64 0) (by kernel_rfl) (fun _ => by kernel_rfl)) hHeld ?_
      try simp only [Act.put, List.setIfInBounds_toArray, List.set_cons_zero, List.set_cons_succ]
      refine wpAnyH_ready (rs := [1]) (by kernel_rfl) (by simp) ?_
      refine AllReadyH.cons (by simp only [List.getElem?_toArray]; rfl) (fun KK hKK => ?_) AllReadyH.nil
      rw [if_pos (by kernel_rfl)]
      refine wp_callF 21 #[.pointer (some ⟨b, 0, none⟩)] (by kernel_rfl) ?_
      refine (hRl _ (hB2.ext (below_drew (Below.refl _ _)))).mono ?_
      rintro e wa1 ⟨rfl, hwa⟩
      have hbr : Below wz.heap.size wz wa1 := by rw [hwa]; exact below_drew (Below.refl _ _)
      clear hwa
      refine ⟨_, rfl, ?_⟩
      refine hKK.out _ _ ?_ (fun hHeld => ?_)
      · exact hbr
      clear hKK KK
      refine wpAnyH_take (i := 3) (by simp only [List.getElem?_toArray]; rfl) (by kernel_rfl) (by kernel_rfl) (by kernel_rfl) (by exact fun _ _ _ h => h) (by exact yk_eq (by kernel_rfl) .i64 3 (.tmp 74) (.tmp 75) _ rfl (((0 : Nat) : Int)) (0) (by kernel_rfl) (by kernel_rfl) true (by rfl)) hHeld ?_
      refine wpAnyH_take (i := 4) (by simp only [List.getElem?_toArray]; rfl) (by kernel_rfl) (by kernel_rfl) (by kernel_rfl) (by exact fun _ _ _ h => h) (by exact yk (.bool true) (by kernel_rfl) (fun _ => by kernel_rfl)) hHeld ?_
      refine wpAnyH_take (i := 5) (by simp only [List.getElem?_toArray]; rfl) (by kernel_rfl) (by kernel_rfl) (by kernel_rfl) (by exact fun _ _ _ h => h) (by exact yk (.pointer (some ⟨b, 0, none⟩)) (by kernel_rfl) (fun _ => by kernel_rfl)) hHeld ?_
      refine wpAnyH_take (i := 7) (by simp only [List.getElem?_toArray]; rfl) (by kernel_rfl) (by kernel_rfl) (by kernel_rfl) (by exact fun _ _ _ h => h) (by exact yieldsIf_ldS (by kernel_rfl) (.tmp 14) rfl (K14) (by kernel_rfl) (fun _ h => x17.ext h)) hHeld ?_
      try simp only [Act.put, List.setIfInBounds_toArray, List.set_cons_zero, List.set_cons_succ]
      refine wpAnyH_ready (rs := [6]) (by kernel_rfl) (by simp) ?_
      refine AllReadyH.cons (by simp only [List.getElem?_toArray]; rfl) (fun KK hKK => ?_) AllReadyH.nil
      rw [if_pos (by kernel_rfl)]
      refine wp_callF 26 #[.pointer (some ⟨b, 0, none⟩)] (by kernel_rfl) ?_
      refine (hKn _ (hB2.ext hbr)).mono ?_
      rintro e wa2 ⟨rfl, ha⟩
      have hbr := hbr.trans (ha.mono hbr.size)
      refine ⟨_, rfl, ?_⟩
      refine hKK.out _ _ ?_ (fun hHeld => ?_)
      · exact hbr
      clear hKK KK
      refine wpAnyH_take (i := 8) (by simp only [List.getElem?_toArray]; rfl) (by kernel_rfl) (by kernel_rfl) (by kernel_rfl) (by exact fun _ _ _ h => h) (by exact yk_eqS2 (by kernel_rfl) (.tmp 79) (.tmp 80) rfl O O (by kernel_rfl) (by kernel_rfl) l48 true (eqS_self O)) hHeld ?_
      refine wpAnyH_take (i := 9) (by simp only [List.getElem?_toArray]; rfl) (by kernel_rfl) (by kernel_rfl) (by kernel_rfl) (by exact fun _ _ _ h => h) (by exact yk (.bool true) (by kernel_rfl) (fun _ => by kernel_rfl)) hHeld ?_
      refine wpAnyH_take (i := 10) (by simp only [List.getElem?_toArray]; rfl) (by kernel_rfl) (by kernel_rfl) (by kernel_rfl) (by exact fun _ _ _ h => h) (by exact yk (.bool true) (by kernel_rfl) (fun _ => by kernel_rfl)) hHeld ?_
      refine wpAnyH_take (i := 11) (by simp only [List.getElem?_toArray]; rfl) (by kernel_rfl) (by kernel_rfl) (by kernel_rfl) (by exact fun _ _ _ h => h) (by exact yk (.pointer (some ⟨b, 0, none⟩)) (by kernel_rfl) (fun _ => by kernel_rfl)) hHeld ?_
      refine wpAnyH_take (i := 12) (by simp only [List.getElem?_toArray]; rfl) (by kernel_rfl) (by kernel_rfl) (by kernel_rfl) (by exact fun _ _ _ h => h) (by exact yieldsIf_ldS (by kernel_rfl) (.tmp 14) rfl (K14) (by kernel_rfl) (fun _ h => x17.ext h)) hHeld ?_
      try simp only [Act.put, List.setIfInBounds_toArray, List.set_cons_zero, List.set_cons_succ]
      refine wpAnyH_ready (rs := [13]) (by kernel_rfl) (by simp) ?_
      refine AllReadyH.cons (by simp only [List.getElem?_toArray]; rfl) (fun KK hKK => ?_) AllReadyH.nil
      rw [if_pos (by kernel_rfl)]
      refine wp_callF 20 #[.pointer (some ⟨b, 0, none⟩), .agg (stA O)] (by kernel_rfl) ?_
      refine (hCo _ (hB2.ext hbr)).mono ?_
      rintro e wa3 ⟨rfl, hB3, ha⟩
      have hbr := hbr.trans (ha.mono hbr.size)
      refine ⟨_, rfl, ?_⟩
      refine hKK.out _ _ ?_ (fun hHeld => ?_)
      · exact hbr
      clear hKK KK
      refine wpAnyH_take (i := 14) (by simp only [List.getElem?_toArray]; rfl) (by kernel_rfl) (by kernel_rfl) (by kernel_rfl) (by exact fun _ _ _ h => h) (by exact yk_eq (by kernel_rfl) .i64 41 (.tmp 86) (.const (.int .i64 10)) _ rfl (10) (10) (by kernel_rfl) (by kernel_rfl) true (by rfl)) hHeld ?_
      refine wpAnyH_take (i := 15) (by simp only [List.getElem?_toArray]; rfl) (by kernel_rfl) (by kernel_rfl) (by kernel_rfl) (by exact fun _ _ _ h => h) (by exact yk (.bool true) (by kernel_rfl) (fun _ => by kernel_rfl)) hHeld ?_
      refine wpAnyH_take (i := 16) (by simp only [List.getElem?_toArray]; rfl) (by kernel_rfl) (by kernel_rfl) (by kernel_rfl) (by exact fun _ _ _ h => h) (by exact yk (.bool true) (by kernel_rfl) (fun _ => by kernel_rfl)) hHeld ?_
      refine wpAnyH_take (i := 17) (by simp only [List.getElem?_toArray]; rfl) (by kernel_rfl) (by kernel_rfl) (by kernel_rfl) (by exact fun _ _ _ h => h) (by exact yk (.pointer (some ⟨b, 0, none⟩)) (by kernel_rfl) (fun _ => by kernel_rfl)) hHeld ?_
      refine wpAnyH_take (i := 19) (by simp only [List.getElem?_toArray]; rfl) (by kernel_rfl) (by kernel_rfl) (by kernel_rfl) (by exact fun _ _ _ h => h) (by exact yk (.int .i64 0) (by kernel_rfl) (fun _ => by kernel_rfl)) hHeld ?_
      try simp only [Act.put, List.setIfInBounds_toArray, List.set_cons_zero, List.set_cons_succ]
      refine wpAnyH_ready (rs := [18]) (by kernel_rfl) (by simp) ?_
      refine AllReadyH.cons (by simp only [List.getElem?_toArray]; rfl) (fun KK hKK => ?_) AllReadyH.nil
      rw [if_pos (by kernel_rfl)]
      refine wp_callF 21 #[.pointer (some ⟨b, 0, none⟩)] (by kernel_rfl) ?_
      refine (hRl _ hB3).mono ?_
      rintro e wa4 ⟨rfl, hwa⟩
      have hbr : Below wz.heap.size wz wa4 := by rw [hwa]; exact hbr
      clear hwa
      refine ⟨_, rfl, ?_⟩
      refine hKK.out _ _ ?_ (fun hHeld => ?_)
      · exact hbr
      clear hKK KK
      refine wpAnyH_take (i := 20) (by simp only [List.getElem?_toArray]; rfl) (by kernel_rfl) (by kernel_rfl) (by kernel_rfl) (by exact fun _ _ _ h => h) (by exact yk_eq (by kernel_rfl) .i64 3 (.tmp 91) (.tmp 92) _ rfl (((0 : Nat) : Int)) (0) (by kernel_rfl) (by kernel_rfl) true (by rfl)) hHeld ?_
      refine wpAnyH_take (i := 21) (by simp only [List.getElem?_toArray]; rfl) (by kernel_rfl) (by kernel_rfl) (by kernel_rfl) (by exact fun _ _ _ h => h) (by exact yk (.bool true) (by kernel_rfl) (fun _ => by kernel_rfl)) hHeld ?_
      refine wpAnyH_take (i := 22) (by simp only [List.getElem?_toArray]; rfl) (by kernel_rfl) (by kernel_rfl) (by kernel_rfl) (by exact fun _ _ _ h => h) (by exact yk (.bool true) (by kernel_rfl) (fun _ => by kernel_rfl)) hHeld ?_
      refine wpAnyH_done (by kernel_rfl) ?_ _
      try simp only [Act.put, List.setIfInBounds_toArray, List.set_cons_zero, List.set_cons_succ]
      go_wp2_with fail
      go_ret
      exact ⟨rfl, hb3.trans (hbr.mono hb3.size)⟩
    | false =>
      by_cases h16 : A ≤ 16
      · have e5 : (A : Int) ≤ 16 := by omega
        have hr : (confT T O).r = 1 := by
          show T.r + (wrongT T O).toNat = 1
          rw [HW.out, HEQ.out.2.2.2.2.1]
          simp [h16]
        obtain ⟨T2, hT2⟩ : ∃ T2, T2 = confT T O := ⟨_, rfl⟩
        have hk2 : T2.k = O := by rw [hT2]; rfl
        rw [← hT2] at hr hB2
        have hRl := fun W (h : TBox W b bm T2) => Rolls_calls b bm T2 W h
        rw [hr] at hRl
        have hKn := fun W (h : TBox W b bm T2) => Known_calls b bm T2 W h
        rw [hk2] at hKn
        have hCo := fun W (h : TBox W b bm T2) => Confirm_old b bm T2 O W h (by rw [hk2]; exact Nat.le_refl _)
        clear hT2 hk2 hr
        clear h16
        go_upto_region 20 with fail
        obtain ⟨wz, hwz⟩ : ∃ wz, wz = wh := ⟨_, rfl⟩
        rw [← hwz] at hB2 x17 hb3 ⊢
        clear hwz
        refine wp_region_held_drew (S := fun w' => Below wz.heap.size wz w') (by kernel_rfl) ?_ (fun hHeld => ?_)
        · exact below_drew (Below.refl _ _)
        refine wpAnyH_take (i := 0) (by simp only [List.getElem?_toArray]; rfl) (by kernel_rfl) (by kernel_rfl) (by kernel_rfl) (by exact fun _ _ _ h => h) (by exact yk (.pointer (some ⟨b, 0, none⟩)) (by kernel_rfl) (fun _ => by kernel_rfl)) hHeld ?_
        refine wpAnyH_take (i := 2) (by simp only [List.getElem?_toArray]; rfl) (by kernel_rfl) (by kernel_rfl) (by kernel_rfl) (by exact fun _ _ _ h => h) (by exact yk (.int .i64 1) (by kernel_rfl) (fun _ => by kernel_rfl)) hHeld ?_
        try simp only [Act.put, List.setIfInBounds_toArray, List.set_cons_zero, List.set_cons_succ]
        refine wpAnyH_ready (rs := [1]) (by kernel_rfl) (by simp) ?_
        refine AllReadyH.cons (by simp only [List.getElem?_toArray]; rfl) (fun KK hKK => ?_) AllReadyH.nil
        rw [if_pos (by kernel_rfl)]
        refine wp_callF 21 #[.pointer (some ⟨b, 0, none⟩)] (by kernel_rfl) ?_
        refine (hRl _ (hB2.ext (below_drew (Below.refl _ _)))).mono ?_
        rintro e wa1 ⟨rfl, hwa⟩
        have hbr : Below wz.heap.size wz wa1 := by rw [hwa]; exact below_drew (Below.refl _ _)
        clear hwa
        refine ⟨_, rfl, ?_⟩
        refine hKK.out _ _ ?_ (fun hHeld => ?_)
        · exact hbr
        clear hKK KK
        refine wpAnyH_take (i := 3) (by simp only [List.getElem?_toArray]; rfl) (by kernel_rfl) (by kernel_rfl) (by kernel_rfl) (by exact fun _ _ _ h => h) (by exact yk_eq (by kernel_rfl) .i64 3 (.tmp 74) (.tmp 75) _ rfl (((1 : Nat) : Int)) (1) (by kernel_rfl) (by kernel_rfl) true (by rfl)) hHeld ?_
        refine wpAnyH_take (i := 4) (by simp only [List.getElem?_toArray]; rfl) (by kernel_rfl) (by kernel_rfl) (by kernel_rfl) (by exact fun _ _ _ h => h) (by exact yk (.bool true) (by kernel_rfl) (fun _ => by kernel_rfl)) hHeld ?_
        refine wpAnyH_take (i := 5) (by simp only [List.getElem?_toArray]; rfl) (by kernel_rfl) (by kernel_rfl) (by kernel_rfl) (by exact fun _ _ _ h => h) (by exact yk (.pointer (some ⟨b, 0, none⟩)) (by kernel_rfl) (fun _ => by kernel_rfl)) hHeld ?_
        refine wpAnyH_take (i := 7) (by simp only [List.getElem?_toArray]; rfl) (by kernel_rfl) (by kernel_rfl) (by kernel_rfl) (by exact fun _ _ _ h => h) (by exact yieldsIf_ldS (by kernel_rfl) (.tmp 14) rfl (K14) (by kernel_rfl) (fun _ h => x17.ext h)) hHeld ?_
        try simp only [Act.put, List.setIfInBounds_toArray, List.set_cons_zero, List.set_cons_succ]
        refine wpAnyH_ready (rs := [6]) (by kernel_rfl) (by simp) ?_
        refine AllReadyH.cons (by simp only [List.getElem?_toArray]; rfl) (fun KK hKK => ?_) AllReadyH.nil
        rw [if_pos (by kernel_rfl)]
        refine wp_callF 26 #[.pointer (some ⟨b, 0, none⟩)] (by kernel_rfl) ?_
        refine (hKn _ (hB2.ext hbr)).mono ?_
        rintro e wa2 ⟨rfl, ha⟩
        have hbr := hbr.trans (ha.mono hbr.size)
        refine ⟨_, rfl, ?_⟩
        refine hKK.out _ _ ?_ (fun hHeld => ?_)
        · exact hbr
        clear hKK KK
        refine wpAnyH_take (i := 8) (by simp only [List.getElem?_toArray]; rfl) (by kernel_rfl) (by kernel_rfl) (by kernel_rfl) (by exact fun _ _ _ h => h) (by exact yk_eqS2 (by kernel_rfl) (.tmp 79) (.tmp 80) rfl O O (by kernel_rfl) (by kernel_rfl) l48 true (eqS_self O)) hHeld ?_
        refine wpAnyH_take (i := 9) (by simp only [List.getElem?_toArray]; rfl) (by kernel_rfl) (by kernel_rfl) (by kernel_rfl) (by exact fun _ _ _ h => h) (by exact yk (.bool true) (by kernel_rfl) (fun _ => by kernel_rfl)) hHeld ?_
        refine wpAnyH_take (i := 10) (by simp only [List.getElem?_toArray]; rfl) (by kernel_rfl) (by kernel_rfl) (by kernel_rfl) (by exact fun _ _ _ h => h) (by exact yk (.bool true) (by kernel_rfl) (fun _ => by kernel_rfl)) hHeld ?_
        refine wpAnyH_take (i := 11) (by simp only [List.getElem?_toArray]; rfl) (by kernel_rfl) (by kernel_rfl) (by kernel_rfl) (by exact fun _ _ _ h => h) (by exact yk (.pointer (some ⟨b, 0, none⟩)) (by kernel_rfl) (fun _ => by kernel_rfl)) hHeld ?_
        refine wpAnyH_take (i := 12) (by simp only [List.getElem?_toArray]; rfl) (by kernel_rfl) (by kernel_rfl) (by kernel_rfl) (by exact fun _ _ _ h => h) (by exact yieldsIf_ldS (by kernel_rfl) (.tmp 14) rfl (K14) (by kernel_rfl) (fun _ h => x17.ext h)) hHeld ?_
        try simp only [Act.put, List.setIfInBounds_toArray, List.set_cons_zero, List.set_cons_succ]
        refine wpAnyH_ready (rs := [13]) (by kernel_rfl) (by simp) ?_
        refine AllReadyH.cons (by simp only [List.getElem?_toArray]; rfl) (fun KK hKK => ?_) AllReadyH.nil
        rw [if_pos (by kernel_rfl)]
        refine wp_callF 20 #[.pointer (some ⟨b, 0, none⟩), .agg (stA O)] (by kernel_rfl) ?_
        refine (hCo _ (hB2.ext hbr)).mono ?_
        rintro e wa3 ⟨rfl, hB3, ha⟩
        have hbr := hbr.trans (ha.mono hbr.size)
        refine ⟨_, rfl, ?_⟩
        refine hKK.out _ _ ?_ (fun hHeld => ?_)
        · exact hbr
        clear hKK KK
        refine wpAnyH_take (i := 14) (by simp only [List.getElem?_toArray]; rfl) (by kernel_rfl) (by kernel_rfl) (by kernel_rfl) (by exact fun _ _ _ h => h) (by exact yk_eq (by kernel_rfl) .i64 41 (.tmp 86) (.const (.int .i64 10)) _ rfl (10) (10) (by kernel_rfl) (by kernel_rfl) true (by rfl)) hHeld ?_
        refine wpAnyH_take (i := 15) (by simp only [List.getElem?_toArray]; rfl) (by kernel_rfl) (by kernel_rfl) (by kernel_rfl) (by exact fun _ _ _ h => h) (by exact yk (.bool true) (by kernel_rfl) (fun _ => by kernel_rfl)) hHeld ?_
        refine wpAnyH_take (i := 16) (by simp only [List.getElem?_toArray]; rfl) (by kernel_rfl) (by kernel_rfl) (by kernel_rfl) (by exact fun _ _ _ h => h) (by exact yk (.bool true) (by kernel_rfl) (fun _ => by kernel_rfl)) hHeld ?_
        refine wpAnyH_take (i := 17) (by simp only [List.getElem?_toArray]; rfl) (by kernel_rfl) (by kernel_rfl) (by kernel_rfl) (by exact fun _ _ _ h => h) (by exact yk (.pointer (some ⟨b, 0, none⟩)) (by kernel_rfl) (fun _ => by kernel_rfl)) hHeld ?_
        refine wpAnyH_take (i := 19) (by simp only [List.getElem?_toArray]; rfl) (by kernel_rfl) (by kernel_rfl) (by kernel_rfl) (by exact fun _ _ _ h => h) (by exact yk (.int .i64 1) (by kernel_rfl) (fun _ => by kernel_rfl)) hHeld ?_
        try simp only [Act.put, List.setIfInBounds_toArray, List.set_cons_zero, List.set_cons_succ]
        refine wpAnyH_ready (rs := [18]) (by kernel_rfl) (by simp) ?_
        refine AllReadyH.cons (by simp only [List.getElem?_toArray]; rfl) (fun KK hKK => ?_) AllReadyH.nil
        rw [if_pos (by kernel_rfl)]
        refine wp_callF 21 #[.pointer (some ⟨b, 0, none⟩)] (by kernel_rfl) ?_
        refine (hRl _ hB3).mono ?_
        rintro e wa4 ⟨rfl, hwa⟩
        have hbr : Below wz.heap.size wz wa4 := by rw [hwa]; exact hbr
        clear hwa
        refine ⟨_, rfl, ?_⟩
        refine hKK.out _ _ ?_ (fun hHeld => ?_)
        · exact hbr
        clear hKK KK
        refine wpAnyH_take (i := 20) (by simp only [List.getElem?_toArray]; rfl) (by kernel_rfl) (by kernel_rfl) (by kernel_rfl) (by exact fun _ _ _ h => h) (by exact yk_eq (by kernel_rfl) .i64 3 (.tmp 91) (.tmp 92) _ rfl (((1 : Nat) : Int)) (1) (by kernel_rfl) (by kernel_rfl) true (by rfl)) hHeld ?_
        refine wpAnyH_take (i := 21) (by simp only [List.getElem?_toArray]; rfl) (by kernel_rfl) (by kernel_rfl) (by kernel_rfl) (by exact fun _ _ _ h => h) (by exact yk (.bool true) (by kernel_rfl) (fun _ => by kernel_rfl)) hHeld ?_
        refine wpAnyH_take (i := 22) (by simp only [List.getElem?_toArray]; rfl) (by kernel_rfl) (by kernel_rfl) (by kernel_rfl) (by exact fun _ _ _ h => h) (by exact yk (.bool true) (by kernel_rfl) (fun _ => by kernel_rfl)) hHeld ?_
        refine wpAnyH_done (by kernel_rfl) ?_ _
        try simp only [Act.put, List.setIfInBounds_toArray, List.set_cons_zero, List.set_cons_succ]
        go_wp2_with fail
        go_ret
        exact ⟨rfl, hb3.trans (hbr.mono hb3.size)⟩
      · have e5 : decide ((A : Int) ≤ 16) = false := by simp; omega
        have hr : (confT T O).r = 0 := by
          show T.r + (wrongT T O).toNat = 0
          rw [HW.out, HEQ.out.2.2.2.2.1]
          simp [h16]
        obtain ⟨T2, hT2⟩ : ∃ T2, T2 = confT T O := ⟨_, rfl⟩
        have hk2 : T2.k = O := by rw [hT2]; rfl
        rw [← hT2] at hr hB2
        have hRl := fun W (h : TBox W b bm T2) => Rolls_calls b bm T2 W h
        rw [hr] at hRl
        have hKn := fun W (h : TBox W b bm T2) => Known_calls b bm T2 W h
        rw [hk2] at hKn
        have hCo := fun W (h : TBox W b bm T2) => Confirm_old b bm T2 O W h (by rw [hk2]; exact Nat.le_refl _)
        clear hT2 hk2 hr
        clear h16
        go_upto_region 20 with fail
        obtain ⟨wz, hwz⟩ : ∃ wz, wz = wh := ⟨_, rfl⟩
        rw [← hwz] at hB2 x17 hb3 ⊢
        clear hwz
        refine wp_region_held_drew (S := fun w' => Below wz.heap.size wz w') (by kernel_rfl) ?_ (fun hHeld => ?_)
        · exact below_drew (Below.refl _ _)
        refine wpAnyH_take (i := 0) (by simp only [List.getElem?_toArray]; rfl) (by kernel_rfl) (by kernel_rfl) (by kernel_rfl) (by exact fun _ _ _ h => h) (by exact yk (.pointer (some ⟨b, 0, none⟩)) (by kernel_rfl) (fun _ => by kernel_rfl)) hHeld ?_
        refine wpAnyH_take (i := 2) (by simp only [List.getElem?_toArray]; rfl) (by kernel_rfl) (by kernel_rfl) (by kernel_rfl) (by exact fun _ _ _ h => h) (by exact yk (.int .i64 0) (by kernel_rfl) (fun _ => by kernel_rfl)) hHeld ?_
        try simp only [Act.put, List.setIfInBounds_toArray, List.set_cons_zero, List.set_cons_succ]
        refine wpAnyH_ready (rs := [1]) (by kernel_rfl) (by simp) ?_
        refine AllReadyH.cons (by simp only [List.getElem?_toArray]; rfl) (fun KK hKK => ?_) AllReadyH.nil
        rw [if_pos (by kernel_rfl)]
        refine wp_callF 21 #[.pointer (some ⟨b, 0, none⟩)] (by kernel_rfl) ?_
        refine (hRl _ (hB2.ext (below_drew (Below.refl _ _)))).mono ?_
        rintro e wa1 ⟨rfl, hwa⟩
        have hbr : Below wz.heap.size wz wa1 := by rw [hwa]; exact below_drew (Below.refl _ _)
        clear hwa
        refine ⟨_, rfl, ?_⟩
        refine hKK.out _ _ ?_ (fun hHeld => ?_)
        · exact hbr
        clear hKK KK
        refine wpAnyH_take (i := 3) (by simp only [List.getElem?_toArray]; rfl) (by kernel_rfl) (by kernel_rfl) (by kernel_rfl) (by exact fun _ _ _ h => h) (by exact yk_eq (by kernel_rfl) .i64 3 (.tmp 74) (.tmp 75) _ rfl (((0 : Nat) : Int)) (0) (by kernel_rfl) (by kernel_rfl) true (by rfl)) hHeld ?_
        refine wpAnyH_take (i := 4) (by simp only [List.getElem?_toArray]; rfl) (by kernel_rfl) (by kernel_rfl) (by kernel_rfl) (by exact fun _ _ _ h => h) (by exact yk (.bool true) (by kernel_rfl) (fun _ => by kernel_rfl)) hHeld ?_
        refine wpAnyH_take (i := 5) (by simp only [List.getElem?_toArray]; rfl) (by kernel_rfl) (by kernel_rfl) (by kernel_rfl) (by exact fun _ _ _ h => h) (by exact yk (.pointer (some ⟨b, 0, none⟩)) (by kernel_rfl) (fun _ => by kernel_rfl)) hHeld ?_
        refine wpAnyH_take (i := 7) (by simp only [List.getElem?_toArray]; rfl) (by kernel_rfl) (by kernel_rfl) (by kernel_rfl) (by exact fun _ _ _ h => h) (by exact yieldsIf_ldS (by kernel_rfl) (.tmp 14) rfl (K14) (by kernel_rfl) (fun _ h => x17.ext h)) hHeld ?_
        try simp only [Act.put, List.setIfInBounds_toArray, List.set_cons_zero, List.set_cons_succ]
        refine wpAnyH_ready (rs := [6]) (by kernel_rfl) (by simp) ?_
        refine AllReadyH.cons (by simp only [List.getElem?_toArray]; rfl) (fun KK hKK => ?_) AllReadyH.nil
        rw [if_pos (by kernel_rfl)]
        refine wp_callF 26 #[.pointer (some ⟨b, 0, none⟩)] (by kernel_rfl) ?_
        refine (hKn _ (hB2.ext hbr)).mono ?_
        rintro e wa2 ⟨rfl, ha⟩
        have hbr := hbr.trans (ha.mono hbr.size)
        refine ⟨_, rfl, ?_⟩
        refine hKK.out _ _ ?_ (fun hHeld => ?_)
        · exact hbr
        clear hKK KK
        refine wpAnyH_take (i := 8) (by simp only [List.getElem?_toArray]; rfl) (by kernel_rfl) (by kernel_rfl) (by kernel_rfl) (by exact fun _ _ _ h => h) (by exact yk_eqS2 (by kernel_rfl) (.tmp 79) (.tmp 80) rfl O O (by kernel_rfl) (by kernel_rfl) l48 true (eqS_self O)) hHeld ?_
        refine wpAnyH_take (i := 9) (by simp only [List.getElem?_toArray]; rfl) (by kernel_rfl) (by kernel_rfl) (by kernel_rfl) (by exact fun _ _ _ h => h) (by exact yk (.bool true) (by kernel_rfl) (fun _ => by kernel_rfl)) hHeld ?_
        refine wpAnyH_take (i := 10) (by simp only [List.getElem?_toArray]; rfl) (by kernel_rfl) (by kernel_rfl) (by kernel_rfl) (by exact fun _ _ _ h => h) (by exact yk (.bool true) (by kernel_rfl) (fun _ => by kernel_rfl)) hHeld ?_
        refine wpAnyH_take (i := 11) (by simp only [List.getElem?_toArray]; rfl) (by kernel_rfl) (by kernel_rfl) (by kernel_rfl) (by exact fun _ _ _ h => h) (by exact yk (.pointer (some ⟨b, 0, none⟩)) (by kernel_rfl) (fun _ => by kernel_rfl)) hHeld ?_
        refine wpAnyH_take (i := 12) (by simp only [List.getElem?_toArray]; rfl) (by kernel_rfl) (by kernel_rfl) (by kernel_rfl) (by exact fun _ _ _ h => h) (by exact yieldsIf_ldS (by kernel_rfl) (.tmp 14) rfl (K14) (by kernel_rfl) (fun _ h => x17.ext h)) hHeld ?_
        try simp only [Act.put, List.setIfInBounds_toArray, List.set_cons_zero, List.set_cons_succ]
        refine wpAnyH_ready (rs := [13]) (by kernel_rfl) (by simp) ?_
        refine AllReadyH.cons (by simp only [List.getElem?_toArray]; rfl) (fun KK hKK => ?_) AllReadyH.nil
        rw [if_pos (by kernel_rfl)]
        refine wp_callF 20 #[.pointer (some ⟨b, 0, none⟩), .agg (stA O)] (by kernel_rfl) ?_
        refine (hCo _ (hB2.ext hbr)).mono ?_
        rintro e wa3 ⟨rfl, hB3, ha⟩
        have hbr := hbr.trans (ha.mono hbr.size)
        refine ⟨_, rfl, ?_⟩
        refine hKK.out _ _ ?_ (fun hHeld => ?_)
        · exact hbr
        clear hKK KK
        refine wpAnyH_take (i := 14) (by simp only [List.getElem?_toArray]; rfl) (by kernel_rfl) (by kernel_rfl) (by kernel_rfl) (by exact fun _ _ _ h => h) (by exact yk_eq (by kernel_rfl) .i64 41 (.tmp 86) (.const (.int .i64 10)) _ rfl (10) (10) (by kernel_rfl) (by kernel_rfl) true (by rfl)) hHeld ?_
        refine wpAnyH_take (i := 15) (by simp only [List.getElem?_toArray]; rfl) (by kernel_rfl) (by kernel_rfl) (by kernel_rfl) (by exact fun _ _ _ h => h) (by exact yk (.bool true) (by kernel_rfl) (fun _ => by kernel_rfl)) hHeld ?_
        refine wpAnyH_take (i := 16) (by simp only [List.getElem?_toArray]; rfl) (by kernel_rfl) (by kernel_rfl) (by kernel_rfl) (by exact fun _ _ _ h => h) (by exact yk (.bool true) (by kernel_rfl) (fun _ => by kernel_rfl)) hHeld ?_
        refine wpAnyH_take (i := 17) (by simp only [List.getElem?_toArray]; rfl) (by kernel_rfl) (by kernel_rfl) (by kernel_rfl) (by exact fun _ _ _ h => h) (by exact yk (.pointer (some ⟨b, 0, none⟩)) (by kernel_rfl) (fun _ => by kernel_rfl)) hHeld ?_
        refine wpAnyH_take (i := 19) (by simp only [List.getElem?_toArray]; rfl) (by kernel_rfl) (by kernel_rfl) (by kernel_rfl) (by exact fun _ _ _ h => h) (by exact yk (.int .i64 0) (by kernel_rfl) (fun _ => by kernel_rfl)) hHeld ?_
        try simp only [Act.put, List.setIfInBounds_toArray, List.set_cons_zero, List.set_cons_succ]
        refine wpAnyH_ready (rs := [18]) (by kernel_rfl) (by simp) ?_
        refine AllReadyH.cons (by simp only [List.getElem?_toArray]; rfl) (fun KK hKK => ?_) AllReadyH.nil
        rw [if_pos (by kernel_rfl)]
        refine wp_callF 21 #[.pointer (some ⟨b, 0, none⟩)] (by kernel_rfl) ?_
        refine (hRl _ hB3).mono ?_
        rintro e wa4 ⟨rfl, hwa⟩
        have hbr : Below wz.heap.size wz wa4 := by rw [hwa]; exact hbr
        clear hwa
        refine ⟨_, rfl, ?_⟩
        refine hKK.out _ _ ?_ (fun hHeld => ?_)
        · exact hbr
        clear hKK KK
        refine wpAnyH_take (i := 20) (by simp only [List.getElem?_toArray]; rfl) (by kernel_rfl) (by kernel_rfl) (by kernel_rfl) (by exact fun _ _ _ h => h) (by exact yk_eq (by kernel_rfl) .i64 3 (.tmp 91) (.tmp 92) _ rfl (((0 : Nat) : Int)) (0) (by kernel_rfl) (by kernel_rfl) true (by rfl)) hHeld ?_
        refine wpAnyH_take (i := 21) (by simp only [List.getElem?_toArray]; rfl) (by kernel_rfl) (by kernel_rfl) (by kernel_rfl) (by exact fun _ _ _ h => h) (by exact yk (.bool true) (by kernel_rfl) (fun _ => by kernel_rfl)) hHeld ?_
        refine wpAnyH_take (i := 22) (by simp only [List.getElem?_toArray]; rfl) (by kernel_rfl) (by kernel_rfl) (by kernel_rfl) (by exact fun _ _ _ h => h) (by exact yk (.bool true) (by kernel_rfl) (fun _ => by kernel_rfl)) hHeld ?_
        refine wpAnyH_done (by kernel_rfl) ?_ _
        try simp only [Act.put, List.setIfInBounds_toArray, List.set_cons_zero, List.set_cons_succ]
        go_wp2_with fail
        go_ret
        exact ⟨rfl, hb3.trans (hbr.mono hb3.size)⟩

end Go.Proofs.YtnbbglhpjpebhaaDoor
