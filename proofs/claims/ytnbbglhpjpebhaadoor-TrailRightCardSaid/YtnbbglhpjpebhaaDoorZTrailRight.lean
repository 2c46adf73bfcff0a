/- TrailRight: the walk. Conditions: the numbers fit; the table lies. -/
import Derived.Test.YtnbbglhpjpebhaaDoorZTrBase11
namespace Go.Proofs.YtnbbglhpjpebhaaDoor
open Go.RowKit
set_option linter.unusedVariables false
/-- A show in a variable. -/
def WBox (w : World) (g : Nat) (x y : Nat) (z : Int) : Prop := w.heap[g]? = some (.cells #[.int .i64 (x : Int), .int .u32 (y : Int), .int .i32 z] 56 (0, 0))
theorem WBox.new_ (w : World) (x y : Nat) (z : Int) : WBox (w.alloc (.cells #[.int .i64 (x : Int), .int .u32 (y : Int), .int .i32 z] 56)) w.heap.size x y z := heap_alloc_new w _
theorem WBox.c1 {w : World} {g x y : Nat} {z : Int} (h : WBox w g x y z) : w.cell? ⟨g, 1, none⟩ = some (.int .u32 (y : Int)) := by rw [cell_of_row w g _ _ _ _ h]; rfl
theorem cntL_pred {g : Gm} {p m : Nat} {L : List Nat} (h6 : g.pl.toNat ≤ 6) (hl : L.length = g.pl.toNat) (hv : ∀ i (h : i < L.length), L[i] = if i = p then m else g.df) : cntL g L = cntL g (predM g (p : Int) m) := by
  unfold cntL
  apply List.map_congr_left
  intro i hi
  have hi : i < g.pl.toNat := List.mem_range.1 hi
  have h1 : L.getD i 0 = if i = p then m else g.df := by rw [← hv i (by omega)]; simp [List.getD, hl, hi]
  have h2 : (predM g (p : Int) m).getD i 0 = if i = p then m else g.df := by
    unfold predM
    by_cases hp : (0 : Int) ≤ (p : Int) ∧ (p : Int) < 6
    · rw [if_pos hp]
      have hi6 : i < 6 := by omega
      by_cases e : i = p
      · subst e
        rw [if_pos rfl, List.getD_eq_getElem?_getD, Int.toNat_natCast, List.getElem?_set_self (by simp; omega)]
        rfl
      · rw [if_neg e, List.getD_eq_getElem?_getD, Int.toNat_natCast, List.getElem?_set_ne (fun h => e h.symm), List.getElem?_replicate, if_pos hi6]
        rfl
    · rw [if_neg hp]
      have hi6 : i < 6 := by omega
      rw [if_neg (by omega), List.getD_eq_getElem?_getD, List.getElem?_replicate, if_pos hi6]
      rfl
  have h3 : mvAt g L i = mvAt g (predM g (p : Int) m) i := by
    unfold mvAt
    rw [h1, h2, predM_len, hl]
    have a : i < 6 := by omega
    simp only [hi, a, true_and]
  rw [h3]
theorem GBox.s1 {w : World} {k : Nat} {g : Gm} {s : Gs} (h : GBox w k g s) (n : Int) : GBox (w.setCell ⟨k, 1, none⟩ (.int .i64 n)) k { g with pl := n } s := by
  unfold GBox
  rw [heap_setCell_same w k 1 _ _ _ h]
  rfl
theorem narrow1 {g : Gm} {s : Gs} (hok : GOk g s) (hr : rightB g = true) (hpl : g.pl = 1) (st : St) (oL : okC st.L) (m : Nat) {F G : VS} (hF : F = wholeV compN (stepP g st [m]) st.L st.d) (hG : G = wholeV compN (stepP g ⟨viewL 0 st.L, 0, st.tk⟩ (predM g 0 m)) (viewL 0 st.L) 0) :
    (∃ x ∈ F.sh, x.2.1.testBit 0 = true) ∨ viewL 0 G.L = viewL 0 F.L := by
  obtain ⟨hp1, hp2, hdf, -, -⟩ := right_parts hr
  have hp32 : (0 : Nat) < 32 := by omega
  have alb : (allN g.ob).testBit 0 = true := by rw [allN_bit _ _ hp32]; simp; omega
  have all32 := allN_lt g.ob
  have hcnt : cntL g [m] = cntL g (predM g ((0 : Nat) : Int) m) := cntL_pred (by rw [hpl]; decide) (by rw [hpl]; rfl) (fun i h => by
    have : i = 0 := by simpa using h
    subst this
    rfl)
  have hrw := whole_rel (comp := compN) (code := g.K) (mv := cntL g [m]) (mw := cntL g [m]) (tk := (st.tk + 1) % 4294967296) (al := allN g.ob) (L := st.L) (M := viewL 0 st.L) (vis_bit hp32 alb) (.inl ⟨0, hp32, rfl⟩) comp_fit all32 (cntL_fit g [m]) hok.oK (fun _ _ _ _ => rfl) rfl oL (view_map_vw (p := 0) hp32 st.L).symm st.d 0
  rw [show (⟨g.K, cntL g [m], (st.tk + 1) % 4294967296, allN g.ob⟩ : VP) = stepP g st [m] from rfl, ← hF, show stepP g st [m] = stepP g ⟨viewL 0 st.L, 0, st.tk⟩ (predM g 0 m) by simp only [stepP, hcnt]; rfl, ← hG] at hrw
  rcases hrw with h3 | ⟨a, x, y, hx, hy, e1, e2, e3, e4, e5⟩
  · right
    show viewL ((0 : Nat) : Int) G.L = viewL ((0 : Nat) : Int) F.L
    rw [view_vw hp32, view_vw hp32, h3.L]
  · left
    obtain ⟨hk1, rfl⟩ := List.getElem?_eq_some_iff.1 hx
    exact ⟨_, List.getElem_mem hk1, e3⟩
theorem addE_ok {T : Tr} {t x : Nat} (h1 : x < T.g.mv) (h2 : T.k.tk < t) (h3 : t ≤ endT T.k.tk) (h4 : T.f t = none) : addE T t x = 0 := by
  unfold addE
  rw [if_neg (fun h => h h1), if_neg (by omega), if_neg (by omega), h4]
  rfl
theorem endT_20 {k : Nat} (h : k ≤ 1000) : endT k = k + 16 := by unfold endT; omega
theorem shown_next {T : Tr} {t : Nat} (ht : t = T.k.tk + 1) (h : T.k.tk ≤ 1000) : shown T t = predS T.g T.o ((T.f t).getD T.g.df) T.k := by
  unfold shown
  have e : min t (endT T.k.tk) - T.k.tk = 1 := by rw [endT_20 h]; omega
  rw [e]
  show predS T.g T.o ((T.f (T.k.tk + 0 + 1)).getD T.g.df) T.k = _
  rw [Nat.add_zero, ← ht]
theorem conf_none {T : Tr} {v : St} {k m : Nat} (h : ∀ u, ¬ u = k + 1 → T.f u = none) (hv : v.tk = k + 1) : (confT T v).f = fun _ => none := by
  funext u
  show delU T.f v.tk u = none
  unfold delU
  split
  · rfl
  · exact h u (by omega)
set_option maxHeartbeats 16000000 in
set_option maxRecDepth 20000 in
theorem TrailRight_walk (g0 : Gm) (s0 : Gs) (sd : Nat) (NA : Option Addr) (N : List Nat) (nn nc nb : Nat) (w : World) (hT : CTab w) (hr0 : GRaw g0 s0) (hi0 : GIn w g0 s0) (hsd : sd ≤ 18446744073709551615) (hN0 : Sl w nb NA (ms N)) (hnl : N.length = nn) (hnm : nn ≤ maxLen) (hnc : nn ≤ nc) (hfN : ∀ x ∈ N, x ≤ 4294967295) :
    Calls Tryd.prog 3 #[.agg (gmA g0 s0), .int .u64 (sd : Int), .slice NA nn nc] w fun e w' => e = .returned (.bool true) ∧ Below w.heap.size w w' := by
  have hb := below_alloc1 w (.cells (gmA g0 s0) 26)
  have hG := GBox.new_ w g0 s0

  have hi := hi0.ext hb
  have hA := awakeT_calls _ (hT.ext hb)
  clear hi0
  go_enter Tryd.func3, Tryd.ntmps3
  go_wp2_with fail
  refine hA.mono ?_
  rintro e w1 ⟨rfl, h1⟩
  replace hG := hG.ext h1
  replace hi := hi.ext h1
  replace hb := hb.trans (h1.mono hb.size)
  have hw1s : w.heap.size < w1.heap.size := hG.lt
  clear hA h1
  have hF := FewG_calls g0 s0 w1 hi hr0
  have z0 := hG.c0
  have z1 := hG.c1
  have z2 := hG.c2
  have z3 := hG.c3
  have z4 := hG.c4
  have z5 := hG.c5
  go_wp2_with fail
  refine hF.mono ?_
  rintro e w2 ⟨s, rfl, hi2, hok, hsb, h1⟩
  obtain ⟨g, hg⟩ : ∃ g, g = fewG g0 := ⟨_, rfl⟩
  rw [← hg] at hi2 hok ⊢
  replace hG := hG.ext h1
  replace hb := hb.trans (h1.mono hb.size)
  clear hF h1 hg hi z0 z1 z2 z3 z4 z5
  have z0 := hG.c0
  have z1 := hG.c1
  have z2 := hG.c2
  have z3 := hG.c3
  have z4 := hG.c4
  have z5 := hG.c5
  have hfz := hG.free
  go_upto_region 4 with fail
  obtain ⟨h9, m9⟩ := six_set6 (.int .i64 g.ob) (.int .i64 g.pl) (.int .u32 (g.mv : Int)) (.int .u32 (g.df : Int)) (.slice s.A g.L.length s.c) (.slice s.A' g.K.length s.c') hG
  obtain ⟨w3, hw3⟩ : ∃ w3, w3 = ((((((w2.setCell ⟨w.heap.size, 0, none⟩ (.int .i64 g.ob)).setCell ⟨w.heap.size, 1, none⟩ (.int .i64 g.pl)).setCell ⟨w.heap.size, 2, none⟩ (.int .u32 (g.mv : Int))).setCell ⟨w.heap.size, 3, none⟩ (.int .u32 (g.df : Int))).setCell ⟨w.heap.size, 4, none⟩ (.slice s.A g.L.length s.c)).setCell ⟨w.heap.size, 5, none⟩ (.slice s.A' g.K.length s.c')) := ⟨_, rfl⟩
  rw [← hw3] at h9 m9 ⊢
  have hb3 : Below w.heap.size w w3 := hb.trans (m9.below hb.size (fun i hi e => by have e : i = w.heap.size := e; omega))

  replace hi2 : GIn w3 g s := gin_mod1 hi2 m9 hsb.1 hsb.2 hw1s
  have hG : GBox w3 w.heap.size g s := h9
  clear hw3 h9 m9 hb hfz z0 z1 z2 z3 z4 z5
  have z1 := hG.c1
  have zf := hG.free 1
  go_upto_region 5 with fail
  have h9 := hG.s1 1
  have m9 := Mod.setCell w3 ⟨w.heap.size, 1, none⟩ (.int .i64 1)
  obtain ⟨wp, hwp⟩ : ∃ wp, wp = w3.setCell ⟨w.heap.size, 1, none⟩ (.int .i64 1) := ⟨_, rfl⟩
  rw [← hwp] at h9 m9 ⊢
  replace hb3 : Below w.heap.size w wp := hb3.trans (m9.below hb3.size (fun i hi e => by have e : i = w.heap.size := e; omega))
  replace hi2 : GIn wp g s := gin_mod1 hi2 m9 hsb.1 hsb.2 hw1s
  clear hwp z1 zf hG m9
  obtain ⟨g1, hg1⟩ : ∃ g1, g1 = { g with pl := 1 } := ⟨_, rfl⟩
  have hG : GBox wp w.heap.size g1 s := by rw [hg1]; exact h9
  replace hi2 : GIn wp g1 s := by rw [hg1]; exact ⟨hi2.sc, hi2.sk⟩
  replace hok : GOk g1 s := by rw [hg1]; exact ⟨hok.o0, hok.o1, by show (-9223372036854775808 : Int) ≤ 1; omega, by show (1 : Int) ≤ 9223372036854775807; omega, hok.m1, hok.d1, hok.lL, hok.lK, hok.hL, hok.hK, hok.oL, hok.oK⟩
  have HPN := Lib.hid (show g1.pl = 1 by rw [hg1])
  clear h9 hg1
  obtain ⟨g, hgg⟩ : ∃ g, g = g1 := ⟨_, rfl⟩
  rw [← hgg] at hG hi2 hok HPN
  clear hgg
  obtain ⟨R, hRr⟩ : ∃ R, R = rightB g := ⟨_, rfl⟩
  have HR := Lib.hid hRr
  have hRt := GRight_calls g s wp hi2 hok (hT.ext hb3)
  rw [← hRr] at hRt
  have z0 := hG.c0
  have z1 := hG.c1
  have z2 := hG.c2
  have z3 := hG.c3
  have z4 := hG.c4
  have z5 := hG.c5
  go_wp2_with fail
  refine hRt.mono ?_
  rintro e w4 ⟨rfl, h1⟩
  replace hG := hG.ext h1
  replace hi2 := hi2.ext h1
  replace hb3 := hb3.trans (h1.mono hb3.size)
  clear hRt h1 z0 z1 z2 z3 z4 z5
  cases R with
  | false =>
    clear hRr
    go_wp2_with fail
    go_ret
    exact ⟨rfl, hb3⟩
  | true =>
    have h48 := right48 hRr.symm
    clear hRr
    have z0 := hG.c0
    have z1 := hG.c1
    have z2 := hG.c2
    have z3 := hG.c3
    have z4 := hG.c4
    have z5 := hG.c5
    have hS := Start_good g s sd [] none 0 w4 hi2 hok (hT.ext hb3) 0 (Sl.nil_ _ _ _) (by simp [maxLen]) (fun x hx => by cases hx) HR.out.symm
    obtain ⟨C, hC⟩ : ∃ C, C = startC g [] := ⟨_, rfl⟩
    rw [← hC] at hS
    have HC := Lib.hid hC
    clear hC
    go_wp2_with fail
    refine hS.mono ?_
    rintro e w5 ⟨rfl, h1⟩
    replace hG := hG.ext h1
    replace hi2 := hi2.ext h1
    replace hb3 := hb3.trans (h1.mono hb3.size)
    clear hS h1 z0 z1 z2 z3 z4 z5
    go_upto_region 8 with (first | ((with_reducible refine at_al 40 7 ?_); refine wpList_alS rfl rfl (some 7) rfl w5.heap.size rfl ?_) | ((with_reducible refine at_st 40 7 28 ?_); refine wpList_stS rfl (.tmp 7) (.tmp 28) rfl w5.heap.size ⟨C, sd, 0⟩ rfl rfl zSt (BoxS.new_ _ _) ?_))
    rw [made_row]
    have h1 := below_alloc1 w5 (.cells (stA ⟨C, sd, 0⟩) 40)
    have hx := BoxS.new_ w5 ⟨C, sd, 0⟩
    obtain ⟨Y, hY⟩ : ∃ Y, Y = w5.heap.size := ⟨_, rfl⟩
    obtain ⟨w6, hw5⟩ : ∃ w6, w6 = w5.alloc (.cells (stA ⟨C, sd, 0⟩) 40) := ⟨_, rfl⟩
    rw [← hw5] at h1 hx ⊢
    rw [← hY] at hx ⊢
    have HY := Lib.hid hY
    clear hw5 hY
    have hi5 := hi2
    have hG5 := hG
    have hb5 := hb3
    have hbe := h1
    have h56 := h1.size
    replace hG := hG.ext h1
    replace hi2 := hi2.ext h1
    replace hb3 := hb3.trans (h1.mono hb3.size)
    have hG6 := Lib.hid (show w.heap.size + 0 < w6.heap.size from hG.lt)
    clear h1
    have oC : okC C := by rw [HC.out]; exact stK_ok _ hok.oL (fun x hx => by cases hx)
    have lC : C.length ≤ 48 := by rw [HC.out]; simp [startC]; exact h48
    have hN := New_calls g s 0 w6 hi2 hok
    have z0 := hG.c0
    have z1 := hG.c1
    have z2 := hG.c2
    have z3 := hG.c3
    have z4 := hG.c4
    have z5 := hG.c5
    go_wp2_with fail
    refine hN.mono ?_
    rintro e w7 ⟨b, bm, s', rfl, hB, hok', l1, l2, l3, l4, h1⟩
    have hY6 : Y < w6.heap.size := hx.lt
    replace hG := hG.ext h1
    replace hi2 := hi2.ext h1
    replace hb3 := hb3.trans (h1.mono hb3.size)
    replace hx := hx.ext h1
    replace hbe := hbe.trans (h1.mono hbe.size)
    have h79' := h1.size
    clear hN h1 z0 z1 z2 z3 z4 z5
    have hV := StView_calls ⟨C, sd, 0⟩ 0 w7 lC oC
    go_wp2_with ((with_reducible refine at_ld 40 7 ?_); refine wpList_ldS rfl (.tmp 7) rfl Y rfl hx ?_)
    refine hV.mono ?_
    rintro e w8 ⟨rfl, h1⟩
    replace hG := hG.ext h1
    replace hi2 := hi2.ext h1
    replace hb3 := hb3.trans (h1.mono hb3.size)
    replace hx := hx.ext h1
    replace hbe := hbe.trans (h1.mono hbe.size)
    replace hB := hB.ext h1
    have h79 := h1.size
    clear hV h1
    have hR := Reset_calls b bm _ ⟨viewL 0 C, 0, 0⟩ w8 hB
    go_wp2_with fail
    refine hR.mono ?_
    rintro e w9 ⟨rfl, hBt, m9⟩
    replace hx := hx.mod m9 (by show ¬ (Y = b ∨ Y = bm); omega)
    have hg9 : w.heap.size < w6.heap.size := by have := hG6.out; omega
    replace hG := (m9.block w.heap.size hG.lt (by show ¬ (w.heap.size = b ∨ w.heap.size = bm); omega)).trans hG

    replace hb3 := hb3.trans (m9.below hb3.size (fun i hi e => by have e : i = b ∨ i = bm := e; omega))
    replace hbe := hbe.trans (m9.below hbe.size (fun i hi e => by have e : i = b ∨ i = bm := e; omega))
    obtain ⟨T, hT0⟩ : ∃ T, T = resT ⟨g, s', 0, zSt, 0, 0, fun _ => none⟩ ⟨viewL 0 C, 0, 0⟩ := ⟨_, rfl⟩
    rw [← hT0] at hBt
    have ok0 : TrOk T := by
      rw [hT0]
      exact ⟨hok', (by show (-9223372036854775808 : Int) ≤ 0 ∧ 0 ≤ 9223372036854775807; omega), by simp only [resT, viewL_length]; exact lC, okC_view oC 0, (by simp [resT]), (by simp [resT]), (fun u v h => by cases h)⟩
    have eg : T.g = g := by rw [hT0]; rfl
    have es : T.s = s' := by rw [hT0]; rfl
    have eo : T.o = 0 := by rw [hT0]; rfl
    have ek : T.k = ⟨viewL 0 C, 0, 0⟩ := by rw [hT0]; rfl
    have ef : T.f = fun _ => none := by rw [hT0]; rfl
    have er : T.r = 0 := by rw [hT0]; rfl
    have en : T.n = 0 := by rw [hT0]; rfl
    have hP : PredIs T.g T.s T.o := by
      rw [eg, es, eo]
      exact pred_right hok' (by show (-9223372036854775808 : Int) ≤ 0 ∧ 0 ≤ 9223372036854775807; omega) HR.out.symm
    have HOK := Lib.hid (And.intro ok0 hP)
    have hTsb : T.s.b < w9.heap.size ∧ T.s.b' < w9.heap.size := by
      rw [es]
      have := m9.size
      have := h79
      omega
    have HES := Lib.hid es
    have HEQ := Lib.hid (And.intro eg (And.intro eo (And.intro ek (And.intro ef (And.intro er en)))))
    have HCC := Lib.hid (And.intro oC lC)
    clear hR hB m9 hT0 ok0 eg es eo ek ef er en hP oC lC
    have HTS := Lib.hid (And.intro HES.out (And.intro l3.1 l4.1))
    obtain ⟨NL, hCN⟩ : ∃ NL, C.length = NL := ⟨_, rfl⟩
    have hN48 : NL ≤ 48 := by rw [← hCN]; exact HCC.out.2
    have HNL := Lib.hid hnl
    have hb3' := hb3
    have HY5 := HY
    have hYb : Y < w6.heap.size := hY6
    clear hnl h48 HC hi2 hG hg9 h79 h79' hTsb
    go_wp2_with fail
    go_loopw [36] (fun i wr => ∃ (k : Nat) (st : St) (T : Tr), k ≤ 20 ∧ i = .int .i64 k ∧ st.tk = k ∧ st.L.length = NL ∧ okC st.L ∧ BoxS wr Y st ∧ TBox wr b bm T ∧ TrOk T ∧ Hid (PredIs T.g T.s T.o) ∧ Hid (T.k = ⟨viewL 0 st.L, 0, k⟩ ∧ T.r = 0 ∧ (T.f = fun _ => none) ∧ T.n ≤ k ∧ T.g = g ∧ T.o = 0 ∧ T.s = s') ∧ Below w5.heap.size w5 wr) (fun i _ => 20 - (intOf i).toNat)
    case atStart => exact ⟨0, ⟨C, sd, 0⟩, T, by omega, rfl, rfl, hCN, HCC.out.1, hx, hBt, HOK.out.1, Lib.hid HOK.out.2, Lib.hid ⟨HEQ.out.2.2.1, HEQ.out.2.2.2.2.1, HEQ.out.2.2.2.1, by rw [HEQ.out.2.2.2.2.2]; exact Nat.le_refl _, HEQ.out.1, HEQ.out.2.1, HES.out⟩, hbe⟩
    case round =>
      clear hx hBt hCN hbe
      obtain ⟨k, st, T, hk, rfl, htk, hLN, oL, hx, hB, hTO, hPI, hTI, hbe⟩ := hrel
      have HTK := Lib.hid htk
      have HLN := Lib.hid hLN
      clear htk hLN
      have hbw : Below w.heap.size w wr := hb5.trans (hbe.mono hb5.size)
      by_cases hlt : k < 20
      · have ej : (k : Int) < 20 := by omega
        have hG9 := hG5.ext hbe
        have z3 := hG9.c3
        have qK : wr.cell? ⟨Y, 98, none⟩ = some (.int .u32 (k : Int)) := by have h := hx.cK; rw [HTK.out] at h; exact h
        obtain ⟨T1k, hT1k⟩ : ∃ v : Nat, v = k + 1 := ⟨_, rfl⟩
        have eK : IntKind.u32.wrap ((k : Int) + 1) = (T1k : Int) := by rw [IntKind.wrap_u32]; omega
        have HKV := Lib.hid hT1k
        clear hT1k
        go_upto_region 14 with fail
        by_cases hkn : k < N.length
        · have ekd : decide ((k : Int) < (nn : Int)) = true := decide_eq_true (by rw [← HNL.out]; omega)
          have ekn : (k : Int) < (nn : Int) := by rw [← HNL.out]; omega
          obtain ⟨off, hof, hce⟩ := (Sl.ext hN0 hbw) (by intro h0; have h5 := congrArg List.length h0; rw [ms_length, List.length_nil] at h5; omega)
          have hn0 := hce k _ (ms_get? (List.getElem?_eq_getElem hkn))
          obtain ⟨x, hxe⟩ : ∃ x, x = N[k] := ⟨_, rfl⟩
          have hfx : x ≤ 4294967295 := by rw [hxe]; exact hfN _ (List.getElem_mem hkn)
          rw [← hxe] at hn0
          subst hof
          have hLg := fun W => Legal_calls g s x W hfx hok.m1
          obtain ⟨D, hD⟩ : ∃ D, D = decide (x < g.mv) := ⟨_, rfl⟩
          simp only [← hD] at hLg
          clear hxe hce hkn
          refine wp_region_held_drew (S := fun w' => Below wr.heap.size wr w') (by kernel_rfl) ?_ (fun hHeld => ?_)
          · exact below_drew (Below.refl _ _)
          refine wpAnyH_take (i := 0) (by simp only [List.getElem?_toArray]; rfl) (by kernel_rfl) (by kernel_rfl) (by kernel_rfl) (by exact fun _ _ _ h => h) (by exact yk (.int .i64 (k : Int)) (by kernel_rfl) (fun _ => by kernel_rfl)) hHeld ?_
          refine wpAnyH_take (i := 1) (by simp only [List.getElem?_toArray]; rfl) (by kernel_rfl) (by kernel_rfl) (by kernel_rfl) (by exact fun _ _ _ h => h) (by exact yk (.slice (some ⟨nb, off, none⟩) nn nc) (by kernel_rfl) (fun _ => by kernel_rfl)) hHeld ?_
          refine wpAnyH_take (i := 2) (by simp only [List.getElem?_toArray]; rfl) (by kernel_rfl) (by kernel_rfl) (by kernel_rfl) (by exact fun _ _ _ h => h) (by exact yk (.int .i64 (nn : Int)) (by kernel_rfl) (fun _ => by kernel_rfl)) hHeld ?_
          refine wpAnyH_take (i := 3) (by simp only [List.getElem?_toArray]; rfl) (by kernel_rfl) (by kernel_rfl) (by kernel_rfl) (by exact fun _ _ _ h => h) (by exact yk_lss (by kernel_rfl) (.tmp 41) (.tmp 43) rfl (k : Int) (nn : Int) (by kernel_rfl) (by kernel_rfl) true ekd) hHeld ?_
          refine wpAnyH_take (i := 4) (by simp only [List.getElem?_toArray]; rfl) (by kernel_rfl) (by kernel_rfl) (by kernel_rfl) (by exact fun _ _ _ h => h) (by exact yk (.bool true) (by kernel_rfl) (fun _ => by kernel_rfl)) hHeld ?_
          refine wpAnyH_take (i := 5) (by simp only [List.getElem?_toArray]; rfl) (by kernel_rfl) (by kernel_rfl) (by kernel_rfl) (by exact fun _ _ _ h => h) (by exact yk_ldG (by kernel_rfl) (.tmp 3) rfl w.heap.size g s (by kernel_rfl) (fun _ h => hG9.ext h)) hHeld ?_
          refine wpAnyH_take (i := 6) (by simp only [List.getElem?_toArray]; rfl) (by kernel_rfl) (by kernel_rfl) (by kernel_rfl) (by exact fun _ _ _ h => h) (by exact yk (.slice (some ⟨nb, off, none⟩) nn nc) (by kernel_rfl) (fun _ => by kernel_rfl)) hHeld ?_
          refine wpAnyH_take (i := 7) (by simp only [List.getElem?_toArray]; rfl) (by kernel_rfl) (by kernel_rfl) (by kernel_rfl) (by exact fun _ _ _ h => h) (by exact yk (.int .i64 (k : Int)) (by kernel_rfl) (fun _ => by kernel_rfl)) hHeld ?_
          refine wpAnyH_take (i := 8) (by simp only [List.getElem?_toArray]; rfl) (by kernel_rfl) (by kernel_rfl) (by kernel_rfl) (by exact fun _ _ _ h => h) (by exact yk_ixU (by kernel_rfl) (.tmp 47) (.tmp 48) rfl nb off nn nc k (by kernel_rfl) (by kernel_rfl) ekn) hHeld ?_
          refine wpAnyH_take (i := 9) (by simp only [List.getElem?_toArray]; rfl) (by kernel_rfl) (by kernel_rfl) (by kernel_rfl) (by exact fun _ _ _ h => h) (by exact yk_ldW (by kernel_rfl) (.tmp 49) rfl ⟨nb, off + k, none⟩ (.int .u32 (x : Int)) (by kernel_rfl) (fun _ h => sl_same h hn0)) hHeld ?_
          try simp only [Act.put, List.setIfInBounds_toArray, List.set_cons_zero, List.set_cons_succ]
          refine wpAnyH_ready (rs := [10]) (by kernel_rfl) (by simp) ?_
          refine AllReadyH.cons (by simp only [List.getElem?_toArray]; rfl) (fun KK hKK => ?_) AllReadyH.nil
          rw [if_pos (by kernel_rfl)]
          refine wp_callF 15 #[.agg (gmA g s), .int .u32 (x : Int)] (by kernel_rfl) ?_
          refine (hLg _).mono ?_
          rintro e we1 ⟨rfl, ha⟩
          have hbr := below_undrew2 ha
          clear ha
          refine ⟨_, rfl, ?_⟩
          refine hKK.out _ _ ?_ (fun hHeld => ?_)
          · exact hbr
          clear hKK KK
          refine wpAnyH_take (i := 11) (by simp only [List.getElem?_toArray]; rfl) (by kernel_rfl) (by kernel_rfl) (by kernel_rfl) (by exact fun _ _ _ h => h) (by exact yk (.bool D) (by kernel_rfl) (fun _ => by kernel_rfl)) hHeld ?_
          refine wpAnyH_done (by kernel_rfl) ?_ _
          try simp only [Act.put, List.setIfInBounds_toArray, List.set_cons_zero, List.set_cons_succ]
          have hx := hx.ext hbr
          have hB := hB.ext hbr
          have hn0 := sl_same hbr hn0
          have qK := sl_same hbr qK
          have hbe := hbe.trans (hbr.mono hbe.size)
          have hbw := hbw.trans (hbr.mono hbw.size)
          have hG9 := hG9.ext hbr
          obtain ⟨wz, hwz⟩ : ∃ wz, wz = we1 := ⟨_, rfl⟩
          rw [← hwz] at hx hB hn0 qK hbe hbw hG9 ⊢
          clear hwz hbr hLg z3
          cases D with
          | true =>
            have hxm : x < g.mv := of_decide_eq_true hD.symm
            have eTk : T.k.tk = k := by rw [hTI.out.1]
            have eA : addE T T1k x = 0 := addE_ok (by rw [hTI.out.2.2.2.2.1]; exact hxm) (by rw [eTk]; have := HKV.out; omega) (by rw [eTk, endT_20 (by omega)]; have := HKV.out; omega) (by rw [hTI.out.2.2.1])
            have hAd := Add_calls b bm T T1k x wz hB hTO hfx (by have := HKV.out; omega) (by have := hTI.out.2.2.2.1; omega)
            rw [eA] at hAd
            have eT : addT T T1k x = { T with n := T.n + 1, f := updU T.f T1k (some x) } := by unfold addT; rw [if_pos eA]
            rw [eT, show (((0 : Nat) : Int)) = 0 from rfl] at hAd
            obtain ⟨T1, hT1⟩ : ∃ T1 : Tr, T1 = { T with n := T.n + 1, f := updU T.f T1k (some x) } := ⟨_, rfl⟩
            rw [← hT1] at hAd
            have hTO1 : TrOk T1 := by
              rw [hT1]
              exact ⟨hTO.g, hTO.o, hTO.l48, hTO.oL, hTO.tk, hTO.r, fun u v h => by
                rw [hTI.out.2.2.1] at h
                simp only [updU] at h
                split at h
                · injection h with h
                  omega
                · cases h⟩
            have hTI1 := Lib.hid (show T1.k = ⟨viewL 0 st.L, 0, k⟩ ∧ T1.r = 0 ∧ (T1.f T1k).getD g.df = x ∧ (∀ u, ¬ u = k + 1 → T1.f u = none) ∧ T1.n ≤ k + 1 ∧ T1.g = g ∧ T1.o = 0 ∧ T1.s = s' from by
              rw [hT1]
              refine ⟨hTI.out.1, hTI.out.2.1, ?_, ?_, by show T.n + 1 ≤ k + 1; have := hTI.out.2.2.2.1; omega, hTI.out.2.2.2.2.1, hTI.out.2.2.2.2.2.1, hTI.out.2.2.2.2.2.2⟩
              · show (updU T.f T1k (some x) T1k).getD g.df = x
                unfold updU
                rw [if_pos rfl]
                rfl
              · intro u hu
                show updU T.f T1k (some x) u = none
                unfold updU
                rw [if_neg (by have := HKV.out; omega), hTI.out.2.2.1])
            have hPI1 : Hid (PredIs T1.g T1.s T1.o) := by rw [hT1]; exact hPI
            clear hT1 eT eA eTk hxm hD hTO hPI hTI
            go_wp2_with fail
            refine hAd.mono ?_
            rintro e wy ⟨rfl, hB, mA⟩
            replace hx := hx.mod mA (by show ¬ Y = bm; omega)
            replace hbe := hbe.trans (mA.below hbe.size (fun i hi e => by have e : i = bm := e; omega))
            have hbw := hb5.trans (hbe.mono hb5.size)
            replace hG9 := hG5.ext hbe
            clear hAd mA hn0 qK
            obtain ⟨m, hm⟩ : ∃ m, m = x := ⟨_, rfl⟩
            rw [← hm] at hTI1 hfx ⊢
            clear hm
            have hTO := hTO1
            have hTI := hTI1
            have hPI := hPI1
            clear hTO1 hTI1 hPI1
            obtain ⟨T, hTT⟩ : ∃ T, T = T1 := ⟨_, rfl⟩
            rw [← hTT] at hB hTO hTI hPI
            clear hTT
            go_upto_region 18 with fail
            obtain ⟨wz, hwz⟩ : ∃ wz, wz = wy := ⟨_, rfl⟩
            rw [← hwz] at hx hB hbe hbw hG9 ⊢
            clear hwz
            obtain ⟨F, hF⟩ : ∃ F, F = wholeV compN (stepP g st [m]) st.L st.d := ⟨_, rfl⟩
            obtain ⟨G, hG2⟩ : ∃ G, G = wholeV compN (stepP g ⟨viewL 0 st.L, 0, st.tk⟩ (predM g 0 m)) (viewL 0 st.L) 0 := ⟨_, rfl⟩
            have HREL := Lib.hid (narrow1 hok HR.out.symm HPN.out st oL m hF hG2)
            have all32 := allN_lt g.ob
            have hsok := whole_shok compN (stepP g st [m]) all32 st.L st.d
            have hwl := whole_len (P := stepP g st [m]) (L := st.L) (d := st.d) all32 (cntL_fit g [m]) hok.oK oL
            rw [← hF] at hsok hwl
            have HSOK := Lib.hid hsok
            obtain ⟨S1, hS1⟩ : ∃ S1 : St, S1 = ⟨F.L, F.d, (st.tk + 1) % 4294967296⟩ := ⟨_, rfl⟩
            have HE1 := Lib.hid (show S1.L = F.L ∧ S1.tk = k + 1 ∧ S1.L.length = NL ∧ okC S1.L from ⟨by rw [hS1], by rw [hS1]; show (st.tk + 1) % 4294967296 = k + 1; rw [HTK.out]; omega, by rw [hS1]; exact hwl.1.trans HLN.out, by rw [hS1]; exact hwl.2⟩)
            have h1 := below_alloc1 wz (.cells #[.int .u32 (m : Int)] 22)
            have hPm : Sl (wz.alloc (.cells #[.int .u32 (m : Int)] 22)) wz.heap.size (some ⟨wz.heap.size, 0, none⟩) (ms [m]) := Sl.one_new wz (.int .u32 (m : Int)) 22
            have hP := Step_good g s st [m] (some ⟨wz.heap.size, 0, none⟩) 1 wz.heap.size (wz.alloc (.cells #[.int .u32 (m : Int)] 22)) ((hi5.ext hbe).ext h1) hok ((hT.ext hbw).ext h1) hPm HR.out.symm (fun y hy => by have h5 : y = m := (by simpa using hy); omega) (by simp [maxLen]) (by rw [HLN.out]; exact hN48) oL (by rw [HTK.out]; omega) hF
            rw [← hS1, show [m].length = 1 from rfl] at hP
            have hV2 := fun W => StView_calls S1 0 W (by rw [HE1.out.2.2.1]; exact hN48) HE1.out.2.2.2
            obtain ⟨VW, hVW⟩ : ∃ VW : St, VW = ⟨viewL 0 S1.L, 0, S1.tk⟩ := ⟨_, rfl⟩
            rw [← hVW] at hV2
            have HVW := Lib.hid (show VW.tk = k + 1 ∧ VW = ⟨viewL 0 S1.L, 0, k + 1⟩ ∧ StOk VW ∧ (viewL 0 G.L = viewL 0 F.L → shown T T1k = VW) from by
              have e1 := HE1.out.2.1
              refine ⟨by rw [hVW]; exact e1, by rw [hVW, e1], by rw [hVW]; exact ⟨by simp only [viewL_length]; rw [HE1.out.2.2.1]; exact hN48, okC_view HE1.out.2.2.2 0, by show S1.tk ≤ 4294967295; rw [e1]; omega⟩, fun h => ?_⟩
              have eTk : T.k.tk = k := by rw [hTI.out.1]
              rw [shown_next (by rw [eTk]; exact HKV.out) (by omega), hTI.out.2.2.2.2.2.1, hTI.out.2.2.2.2.2.2.1, hTI.out.2.2.1, hTI.out.1]
              unfold predS
              rw [if_pos HR.out.symm]
              rw [HTK.out] at hG2
              rw [← hG2, h, hVW, HE1.out.1, HE1.out.2.1]
              simp only [St.mk.injEq, true_and]
              omega)
            have HV2 := Lib.hid hV2
            have z0 := hG9.c0
            have z1 := hG9.c1
            have z2 := hG9.c2
            have z3 := hG9.c3
            have z4 := hG9.c4
            have z5 := hG9.c5
            clear hF hG2 hsok hwl hS1 hPm hV2 hVW
            go_wp2_with ((with_reducible refine at_ld 40 7 ?_); refine wpList_ldS rfl (.tmp 7) rfl Y rfl hx ?_)
            refine hP.mono ?_
            rintro e wa ⟨sh, rfl, hsh, h2⟩
            replace h1 := h1.trans (h2.mono h1.size)
            replace hx := hx.ext h1
            replace hB := hB.ext h1
            replace hbe := hbe.trans (h1.mono hbe.size)
            replace hbw := hbw.trans (h1.mono hbw.size)
            clear hP h1 h2 z0 z1 z2 z3 z4 z5
            have hLKa := show b < wa.heap.size ∧ bm < wa.heap.size from ⟨hB.lt, hB.ltm⟩
            have hs1 : sh.oneCell' = true := by
              rcases hsh.2 with ⟨rfl, -⟩ | ⟨_, _, _, rfl, -⟩ <;> rfl
            have h5 := below_alloc1 (wa.alloc (.cells (stA zSt) 40)) (.cells #[.int .u64 0, .slice none 0 0, .int .i64 0] 52)
            have y4 := (BoxS.new_ wa zSt).ext h5
            have y5 : OBox ((wa.alloc (.cells (stA zSt) 40)).alloc (.cells #[.int .u64 0, .slice none 0 0, .int .i64 0] 52)) (wa.heap.size + 1) 0 (.slice none 0 0) 0 := by
              have h := OBox.new_ (wa.alloc (.cells (stA zSt) 40)) 0 (.slice none 0 0) 0
              rw [World.size_alloc] at h
              exact h
            clear h5
            have hsh := Lib.hid hsh
            go_upto_region 19 with (first | ((with_reducible refine at_al 40 12 ?_); refine wpList_alS rfl rfl (some 12) rfl wa.heap.size rfl ?_) | ((with_reducible refine at_st 40 12 70 ?_); refine wpList_stS rfl (.tmp 12) (.tmp 70) rfl wa.heap.size S1 rfl rfl zSt y4 ?_) | ((with_reducible refine at_st 52 13 71 ?_); refine wpList_stO rfl (.tmp 13) (.tmp 71) rfl (wa.heap.size + 1) F.t sh F.e rfl rfl hs1 (y5.mod (mod_setRow _ wa.heap.size _) (by show ¬ wa.heap.size + 1 = wa.heap.size; omega)) ?_))
            have r4 := (y4.row_ S1).mod (mod_setRow (((wa.alloc (.cells (stA zSt) 40)).alloc (.cells #[.int .u64 0, .slice none 0 0, .int .i64 0] 52)).setRow wa.heap.size (stA S1)) (wa.heap.size + 1) (otA F.t sh F.e)) (by show ¬ wa.heap.size = wa.heap.size + 1; omega)
            have r5 := (y5.mod (mod_setRow ((wa.alloc (.cells (stA zSt) 40)).alloc (.cells #[.int .u64 0, .slice none 0 0, .int .i64 0] 52)) wa.heap.size (stA S1)) (by show ¬ wa.heap.size + 1 = wa.heap.size; omega)).row_ F.t sh F.e
            have hbo : Below wa.heap.size wa _ := below_setRow (below_setRow (below_alloc2 wa (.cells (stA zSt) 40) (.cells #[.int .u64 0, .slice none 0 0, .int .i64 0] 52)) wa.heap.size (stA S1) (Nat.le_refl _)) (wa.heap.size + 1) (otA F.t sh F.e) (Nat.le_succ _)
            obtain ⟨wb, hWo⟩ : ∃ wb, wb = ((((wa.alloc (.cells (stA zSt) 40)).alloc (.cells #[.int .u64 0, .slice none 0 0, .int .i64 0] 52)).setRow wa.heap.size (stA S1)).setRow (wa.heap.size + 1) (otA F.t sh F.e)) := ⟨_, rfl⟩
            rw [← hWo] at r4 r5 hbo
            go_frame
            rw [← hWo]
            clear hWo y4 y5 hs1
            have hsh := rows_ext hsh.out hbo
            replace hx := hx.ext hbo
            replace hB := hB.ext hbo
            replace hbe := hbe.trans (hbo.mono hbe.size)
            replace hbw := hbw.trans (hbo.mono hbw.size)
            obtain ⟨K1, hK⟩ : ∃ K1, K1 = wa.heap.size := ⟨_, rfl⟩
            rw [← hK] at r4 r5 hLKa ⊢
            clear hK
            have HLK := Lib.hid hLKa
            clear hLKa
            obtain ⟨A8, c8, b8, rfl, hc8, hm8, hs8⟩ := rowS_sl hsh
            obtain ⟨nS, hnS⟩ : ∃ nS, nS = F.sh.length := ⟨_, rfl⟩
            rw [← hnS] at r5
            rw [← hnS]
            have HNS := Lib.hid hnS
            have a1 := ob_s r5
            have hm64 : nS ≤ 9223372036854775807 := by omega
            clear hsh hnS hc8 hm8 hbo
            go_wp2_with fail
            clear a1
            go_loopw [75] (fun i wr => ∃ j : Nat, j ≤ nS ∧ i = .int .i64 j ∧ (∀ i (h : i < F.sh.length), i < j → F.sh[i].2.1.testBit 0 = false) ∧ Below wb.heap.size wb wr) (fun i _ => nS - (intOf i).toNat)
            case atStart => exact ⟨0, Nat.zero_le _, rfl, fun i h h2 => by omega, Below.refl _ _⟩
            case round =>
              obtain ⟨j, hj, rfl, hall, hbk⟩ := hrel
              have HALL := Lib.hid hall
              clear hall
              by_cases hlj : j < nS
              · have ejj : (j : Int) < (nS : Int) := by omega
                have hkS : j < F.sh.length := by rw [← HNS.out]; exact hlj
                obtain ⟨off8, rfl, hc⟩ := (Sl.ext hs8 hbk) (by intro h0; have h5 := congrArg List.length h0; rw [sv_length, List.length_nil] at h5; omega)
                obtain ⟨g0', g1', g2'⟩ := sv_get hkS
                have c0 := hc _ _ g0'
                have c1 := hc _ _ g1'
                have c2 := hc _ _ g2'
                rw [← Nat.add_assoc] at c1 c2
                have hml := HSOK.out _ (List.getElem_mem hkS)
                have HNX := Lib.hid (show F.sh[j].2.1.testBit 0 = false → ∀ i (h : i < F.sh.length), i < j + 1 → F.sh[i].2.1.testBit 0 = false from fun h i h1 h2 => by
                  by_cases e : i = j
                  · subst e; exact h
                  · exact HALL.out i h1 (by omega))
                obtain ⟨⟨x1, x2, x3⟩, hxq⟩ : ∃ q, q = F.sh[j] := ⟨_, rfl⟩
                rw [← hxq] at c0 c1 c2 hml HNX
                simp only at c0 c1 c2 hml
                have hHo := fun W => MHas_calls x2 ((0 : Nat) : Int) W hml
                rw [sees_of x2 (p := 0) (by omega)] at hHo
                rw [show (((0 : Nat) : Int)) = 0 from rfl] at hHo
                obtain ⟨tb, htb⟩ : ∃ tb, tb = x2.testBit 0 := ⟨_, rfl⟩
                have htb2 : (x1, x2, x3).2.1.testBit 0 = tb := htb.symm
                rw [htb2] at HNX
                rw [← htb] at hHo
                clear hxq htb htb2 hc g0' g1' g2' hkS
                have h1 := below_alloc1 wr (.cells #[.int .i64 (x1 : Int), .int .u32 (x2 : Int), .int .i32 x3] 56)
                have qW := (WBox.new_ wr x1 x2 x3).c1
                go_upto_region 22 with fail
                replace hbk := hbk.trans (h1.mono hbk.size)
                obtain ⟨B1, hB1⟩ : ∃ B1, B1 = wr.heap.size := ⟨_, rfl⟩
                obtain ⟨wA, hwA⟩ : ∃ wA, wA = wr.alloc (.cells #[.int .i64 (x1 : Int), .int .u32 (x2 : Int), .int .i32 x3] 56) := ⟨_, rfl⟩
                rw [← hwA] at hbk qW ⊢
                rw [← hB1] at qW ⊢
                clear hwA hB1 h1 c0 c1 c2
                cases tb with
                | true =>
                  go_wp2_with fail
                  refine (hHo _).mono ?_
                  rintro e wx ⟨rfl, hwx⟩
                  have hwx := hwx.symm
                  subst hwx
                  have hbq := hbw.trans (hbk.mono hbw.size)
                  go_wp2_with fail
                  go_ret
                  exact ⟨rfl, hbq⟩
                | false =>
                  go_wp2_with fail
                  refine (hHo _).mono ?_
                  rintro e wx ⟨rfl, hwx⟩
                  have hwx := hwx.symm
                  subst hwx
                  go_wp2_with fail
                  go_roundw
                  case rel => exact ⟨j + 1, by omega, by go_num, HNX.out (by trivial), hbk⟩
                  case measure => simp [intOf]; omega
              · obtain rfl : nS = j := by omega
                have HSH := HVW.out.2.2.2 (by
                  rcases HREL.out with ⟨x, hx, hb⟩ | h
                  · obtain ⟨i, hi, rfl⟩ := List.getElem_of_mem hx
                    rw [HALL.out i hi (by rw [HNS.out]; exact hi)] at hb
                    cases hb
                  · exact h)
                have hV2 := HV2.out
                have hx := hx.ext hbk
                have hB := hB.ext hbk
                have r4 := r4.ext hbk
                have hbe := hbe.trans (hbk.mono hbe.size)
                have hbw := hbw.trans (hbk.mono hbw.size)
                have hT9 := hT.ext hbw
                obtain ⟨wq, hwq⟩ : ∃ wq, wq = wr := ⟨_, rfl⟩
                have hShow := fun W (hw : TBox W b bm T) (hc : CTab W) => Shown_calls b bm T T1k W hw hTO hc hPI.out (by have := HKV.out; omega)
                rw [HSH] at hShow
                have hConf := fun W (hw : TBox W b bm T) (hc : CTab W) => Confirm_new b bm T VW W hw hTO hc hPI.out HVW.out.2.2.1 (by rw [HVW.out.1, hTI.out.1]; show ¬ k + 1 ≤ k; omega)
                obtain ⟨T2, hT2⟩ : ∃ T2, T2 = confT T VW := ⟨_, rfl⟩
                have hwr : wrongT T VW = false := by
                  unfold wrongT
                  rw [HVW.out.1, ← HKV.out, HSH, eqS_self]
                  simp
                have HT2 := Lib.hid (show T2.k = ⟨viewL 0 S1.L, 0, k + 1⟩ ∧ T2.r = 0 ∧ (T2.f = fun _ => none) ∧ T2.n ≤ k + 1 ∧ T2.g = g ∧ T2.o = 0 ∧ T2.s = s' from by
                  refine ⟨by rw [hT2]; exact HVW.out.2.1, by rw [hT2]; show T.r + (wrongT T VW).toNat = 0; rw [hwr, hTI.out.2.1]; rfl, by rw [hT2]; exact conf_none (m := m) hTI.out.2.2.2.1 HVW.out.1, by rw [hT2]; exact hTI.out.2.2.2.2.1, by rw [hT2]; exact hTI.out.2.2.2.2.2.1, by rw [hT2]; exact hTI.out.2.2.2.2.2.2.1, by rw [hT2]; exact hTI.out.2.2.2.2.2.2.2⟩)
                have hTO2 : TrOk T2 := ⟨by rw [hT2]; exact hTO.g, by rw [hT2]; exact hTO.o, by rw [hT2]; exact HVW.out.2.2.1.l, by rw [hT2]; exact HVW.out.2.2.1.o, by rw [hT2]; exact HVW.out.2.2.1.t, by rw [HT2.out.2.1]; omega, fun u v h => by rw [HT2.out.2.2.1] at h; cases h⟩
                have hPI2 : Hid (PredIs T2.g T2.s T2.o) := by rw [hT2]; exact hPI
                rw [← hT2] at hConf
                have hRl := fun W (h : TBox W b bm T2) => Rolls_calls b bm T2 W h
                rw [HT2.out.2.1, show (((0 : Nat) : Int)) = 0 from rfl] at hRl
                have hYB : ¬ Y = b ∧ ¬ Y = bm := ⟨by omega, by omega⟩
                have hKB : ¬ K1 = b ∧ ¬ K1 = bm := ⟨fun e => by have := HLK.out; omega, fun e => by have := HLK.out; omega⟩
                have eKs : IntKind.u32.wrap ((st.tk : Int) + 1) = (T1k : Int) := by rw [HTK.out]; exact eK
                have HSHW := Lib.hid HSH
                clear HSH hT2 hwr hlj hj r5 hs8 hwq
                go_wp2_with fail
                refine wp_region_held_drew (S := fun w' => BoxS w' Y st ∧ BoxS w' K1 S1) (by kernel_rfl) ?_ (fun hHeld => ?_)
                · exact ⟨hx, r4⟩
                refine wpAnyH_take (i := 0) (by simp only [List.getElem?_toArray]; rfl) (by kernel_rfl) (by kernel_rfl) (by kernel_rfl) (by exact fun _ _ _ h => h) (by exact yk (.pointer (some ⟨b, 0, none⟩)) (by kernel_rfl) (fun _ => by kernel_rfl)) hHeld ?_
                refine wpAnyH_take (i := 1) (by simp only [List.getElem?_toArray]; rfl) (by kernel_rfl) (by kernel_rfl) (by kernel_rfl) (by exact fun _ _ _ h => h) (by exact yk (.pointer (some ⟨Y, 98, none⟩)) (by kernel_rfl) (fun _ => by kernel_rfl)) hHeld ?_
                refine wpAnyH_take (i := 2) (by simp only [List.getElem?_toArray]; rfl) (by kernel_rfl) (by kernel_rfl) (by kernel_rfl) (by exact fun _ _ _ h => h) (by exact yk_ldW (by kernel_rfl) (.tmp 84) rfl ⟨Y, 98, none⟩ (.int .u32 (st.tk : Int)) (by kernel_rfl) (fun _ h => h.1.cK)) hHeld ?_
                refine wpAnyH_take (i := 3) (by simp only [List.getElem?_toArray]; rfl) (by kernel_rfl) (by kernel_rfl) (by kernel_rfl) (by exact fun _ _ _ h => h) (by exact yk_addW (by kernel_rfl) (.tmp 85) (.const (.int .u32 1)) rfl (st.tk : Int) 1 (T1k : Int) (by kernel_rfl) (by kernel_rfl) eKs) hHeld ?_
                refine wpAnyH_take (i := 5) (by simp only [List.getElem?_toArray]; rfl) (by kernel_rfl) (by kernel_rfl) (by kernel_rfl) (by exact fun _ _ _ h => h) (by exact yieldsIf_ldS (by kernel_rfl) (.tmp 12) rfl K1 (by kernel_rfl) (fun _ h => h.2)) hHeld ?_
                try simp only [Act.put, List.setIfInBounds_toArray, List.set_cons_zero, List.set_cons_succ]
                refine wpAnyH_ready (rs := [4]) (by kernel_rfl) (by simp) ?_
                refine AllReadyH.cons (by simp only [List.getElem?_toArray]; rfl) (fun KK hKK => ?_) AllReadyH.nil
                rw [if_pos (by kernel_rfl)]
                refine wp_callF 19 #[.pointer (some ⟨b, 0, none⟩), .int .u32 (T1k : Int)] (by kernel_rfl) ?_
                have hd0 : Below wr.heap.size wr wr.drew := below_drew (Below.refl _ _)
                refine (hShow _ (hB.ext hd0) (hT9.ext hd0)).mono ?_
                rintro e wf1 ⟨rfl, hBa, ha⟩
                have hbr := hd0.trans (ha.mono hd0.size)
                clear ha hd0
                refine ⟨_, rfl, ?_⟩
                refine hKK.out _ _ ?_ (fun hHeld => ?_)
                · exact ⟨hx.ext hbr, r4.ext hbr⟩
                clear hKK KK
                try simp only [Act.put, List.setIfInBounds_toArray, List.set_cons_zero, List.set_cons_succ]
                refine wpAnyH_ready (rs := [6]) (by kernel_rfl) (by simp) ?_
                refine AllReadyH.cons (by simp only [List.getElem?_toArray]; rfl) (fun KK hKK => ?_) AllReadyH.nil
                rw [if_pos (by kernel_rfl)]
                refine wp_callF 14 #[.agg (stA S1), .int .i64 0] (by kernel_rfl) ?_
                refine (hV2 _).mono ?_
                rintro e wf2 ⟨rfl, ha⟩
                have hBa := hBa.ext ha
                have hbr := hbr.trans (ha.mono hbr.size)
                clear ha
                refine ⟨_, rfl, ?_⟩
                refine hKK.out _ _ ?_ (fun hHeld => ?_)
                · exact ⟨hx.ext hbr, r4.ext hbr⟩
                clear hKK KK
                refine wpAnyH_take (i := 7) (by simp only [List.getElem?_toArray]; rfl) (by kernel_rfl) (by kernel_rfl) (by kernel_rfl) (by exact fun _ _ _ h => h) (by exact yk_neSt (by kernel_rfl) (.tmp 87) (.tmp 89) rfl VW (by kernel_rfl) (by kernel_rfl)) hHeld ?_
                refine wpAnyH_take (i := 8) (by simp only [List.getElem?_toArray]; rfl) (by kernel_rfl) (by kernel_rfl) (by kernel_rfl) (by exact fun _ _ _ h => h) (by exact yk (.bool false) (by kernel_rfl) (fun _ => by kernel_rfl)) hHeld ?_
                refine wpAnyH_take (i := 9) (by simp only [List.getElem?_toArray]; rfl) (by kernel_rfl) (by kernel_rfl) (by kernel_rfl) (by exact fun _ _ _ h => h) (by exact yk (.pointer (some ⟨b, 0, none⟩)) (by kernel_rfl) (fun _ => by kernel_rfl)) hHeld ?_
                refine wpAnyH_take (i := 10) (by simp only [List.getElem?_toArray]; rfl) (by kernel_rfl) (by kernel_rfl) (by kernel_rfl) (by exact fun _ _ _ h => h) (by exact yieldsIf_ldS (by kernel_rfl) (.tmp 12) rfl K1 (by kernel_rfl) (fun _ h => h.2)) hHeld ?_
                try simp only [Act.put, List.setIfInBounds_toArray, List.set_cons_zero, List.set_cons_succ]
                refine wpAnyH_ready (rs := [11]) (by kernel_rfl) (by simp) ?_
                refine AllReadyH.cons (by simp only [List.getElem?_toArray]; rfl) (fun KK hKK => ?_) AllReadyH.nil
                rw [if_pos (by kernel_rfl)]
                refine wp_callF 14 #[.agg (stA S1), .int .i64 0] (by kernel_rfl) ?_
                refine (hV2 _).mono ?_
                rintro e wf3 ⟨rfl, ha⟩
                have hBa := hBa.ext ha
                have hbr := hbr.trans (ha.mono hbr.size)
                clear ha
                refine ⟨_, rfl, ?_⟩
                refine hKK.out _ _ ?_ (fun hHeld => ?_)
                · exact ⟨hx.ext hbr, r4.ext hbr⟩
                clear hKK KK
                try simp only [Act.put, List.setIfInBounds_toArray, List.set_cons_zero, List.set_cons_succ]
                refine wpAnyH_ready (rs := [12]) (by kernel_rfl) (by simp) ?_
                refine AllReadyH.cons (by simp only [List.getElem?_toArray]; rfl) (fun KK hKK => ?_) AllReadyH.nil
                rw [if_pos (by kernel_rfl)]
                refine wp_callF 20 #[.pointer (some ⟨b, 0, none⟩), .agg (stA VW)] (by kernel_rfl) ?_
                refine (hConf _ hBa (hT9.ext hbr)).mono ?_
                rintro e wf4 ⟨rfl, hBc, hmc⟩
                have hxF := (hx.ext hbr).mod hmc (fun e => by rcases e with e | e; exact hYB.1 e; exact hYB.2 e)
                have r4F := (r4.ext hbr).mod hmc (fun e => by rcases e with e | e; exact hKB.1 e; exact hKB.2 e)
                have hMF := (mod_ext (S := fun i => i = b ∨ i = bm) hbr).trans hmc (fun _ _ e => e) (fun _ _ e => e)
                clear hmc hBa
                refine ⟨_, rfl, ?_⟩
                refine hKK.out _ _ ?_ (fun hHeld => ?_)
                · exact ⟨hxF, r4F⟩
                clear hKK KK
                refine wpAnyH_take (i := 13) (by simp only [List.getElem?_toArray]; rfl) (by kernel_rfl) (by kernel_rfl) (by kernel_rfl) (by exact fun _ _ _ h => h) (by exact yk_ne (by kernel_rfl) .i64 41 (.tmp 95) (.const (.int .i64 0)) _ rfl (0) (0) (by kernel_rfl) (by kernel_rfl) false (by rfl)) hHeld ?_
                refine wpAnyH_take (i := 14) (by simp only [List.getElem?_toArray]; rfl) (by kernel_rfl) (by kernel_rfl) (by kernel_rfl) (by exact fun _ _ _ h => h) (by exact yk (.bool false) (by kernel_rfl) (fun _ => by kernel_rfl)) hHeld ?_
                refine wpAnyH_take (i := 15) (by simp only [List.getElem?_toArray]; rfl) (by kernel_rfl) (by kernel_rfl) (by kernel_rfl) (by exact fun _ _ _ h => h) (by exact yk (.bool false) (by kernel_rfl) (fun _ => by kernel_rfl)) hHeld ?_
                refine wpAnyH_take (i := 16) (by simp only [List.getElem?_toArray]; rfl) (by kernel_rfl) (by kernel_rfl) (by kernel_rfl) (by exact fun _ _ _ h => h) (by exact yk (.pointer (some ⟨b, 0, none⟩)) (by kernel_rfl) (fun _ => by kernel_rfl)) hHeld ?_
                try simp only [Act.put, List.setIfInBounds_toArray, List.set_cons_zero, List.set_cons_succ]
                refine wpAnyH_ready (rs := [17]) (by kernel_rfl) (by simp) ?_
                refine AllReadyH.cons (by simp only [List.getElem?_toArray]; rfl) (fun KK hKK => ?_) AllReadyH.nil
                rw [if_pos (by kernel_rfl)]
                refine wp_callF 21 #[.pointer (some ⟨b, 0, none⟩)] (by kernel_rfl) ?_
                refine (hRl _ hBc).mono ?_
                rintro e wf5 ⟨rfl, hwf⟩
                have hBF : TBox wf5 b bm T2 := by rw [hwf]; exact hBc
                have hxF : BoxS wf5 Y st := by rw [hwf]; exact hxF
                have r4F : BoxS wf5 K1 S1 := by rw [hwf]; exact r4F
                have hMF : Mod (fun i => i = b ∨ i = bm) wr wf5 := by rw [hwf]; exact hMF
                clear hwf hBc
                refine ⟨_, rfl, ?_⟩
                refine hKK.out _ _ ?_ (fun hHeld => ?_)
                · exact ⟨hxF, r4F⟩
                clear hKK KK
                refine wpAnyH_take (i := 18) (by simp only [List.getElem?_toArray]; rfl) (by kernel_rfl) (by kernel_rfl) (by kernel_rfl) (by exact fun _ _ _ h => h) (by exact yk_ne (by kernel_rfl) .i64 3 (.tmp 100) (.const (.int .i64 0)) _ rfl (0) (0) (by kernel_rfl) (by kernel_rfl) false (by rfl)) hHeld ?_
                refine wpAnyH_take (i := 19) (by simp only [List.getElem?_toArray]; rfl) (by kernel_rfl) (by kernel_rfl) (by kernel_rfl) (by exact fun _ _ _ h => h) (by exact yk (.bool false) (by kernel_rfl) (fun _ => by kernel_rfl)) hHeld ?_
                refine wpAnyH_done (by kernel_rfl) ?_ _
                try simp only [Act.put, List.setIfInBounds_toArray, List.set_cons_zero, List.set_cons_succ]
                replace hx := hxF
                replace r4 := r4F
                replace hbe := hbe.trans (hMF.below hbe.size (fun i hi e => by have e : i = b ∨ i = bm := e; omega))
                go_wp2_with (first | ((with_reducible refine at_ld 40 12 ?_); refine wpList_ldS rfl (.tmp 12) rfl K1 rfl r4 ?_) | ((with_reducible refine at_st 40 7 103 ?_); refine wpList_stS rfl (.tmp 7) (.tmp 103) rfl Y S1 rfl rfl st hx ?_))
                have hTs2 := HT2.out.2.2.2.2.2.2
                have mS := mod_setRow wf5 Y (stA S1)
                go_roundw
                case rel => exact ⟨k + 1, S1, T2, by omega, by go_num, HE1.out.2.1, HE1.out.2.2.1, HE1.out.2.2.2, hx.row_ S1, hBF.mod mS (fun e => hYB.1 e.symm) (fun e => hYB.2 e.symm) (by rw [hTs2]; show ¬ s'.b = Y; omega) (by rw [hTs2]; show ¬ s'.b' = Y; omega), hTO2, hPI2, HT2, below_setRow hbe _ _ (by have := HY.out; omega)⟩
                case measure => simp [intOf]; omega
          | false =>
            have hfx : g.df ≤ 4294967295 := hok.d1
            have hTI := Lib.hid (show T.k = ⟨viewL 0 st.L, 0, k⟩ ∧ T.r = 0 ∧ (T.f T1k).getD g.df = g.df ∧ (∀ u, ¬ u = k + 1 → T.f u = none) ∧ T.n ≤ k + 1 ∧ T.g = g ∧ T.o = 0 ∧ T.s = s' from ⟨hTI.out.1, hTI.out.2.1, by rw [hTI.out.2.2.1]; rfl, fun u _ => by rw [hTI.out.2.2.1], by have := hTI.out.2.2.2.1; omega, hTI.out.2.2.2.2.1, hTI.out.2.2.2.2.2.1, hTI.out.2.2.2.2.2.2⟩)
            clear hD hn0 qK
            go_upto_region 18 with fail
            obtain ⟨F, hF⟩ : ∃ F, F = wholeV compN (stepP g st [g.df]) st.L st.d := ⟨_, rfl⟩
            obtain ⟨G, hG2⟩ : ∃ G, G = wholeV compN (stepP g ⟨viewL 0 st.L, 0, st.tk⟩ (predM g 0 g.df)) (viewL 0 st.L) 0 := ⟨_, rfl⟩
            have HREL := Lib.hid (narrow1 hok HR.out.symm HPN.out st oL g.df hF hG2)
            have all32 := allN_lt g.ob
            have hsok := whole_shok compN (stepP g st [g.df]) all32 st.L st.d
            have hwl := whole_len (P := stepP g st [g.df]) (L := st.L) (d := st.d) all32 (cntL_fit g [g.df]) hok.oK oL
            rw [← hF] at hsok hwl
            have HSOK := Lib.hid hsok
            obtain ⟨S1, hS1⟩ : ∃ S1 : St, S1 = ⟨F.L, F.d, (st.tk + 1) % 4294967296⟩ := ⟨_, rfl⟩
            have HE1 := Lib.hid (show S1.L = F.L ∧ S1.tk = k + 1 ∧ S1.L.length = NL ∧ okC S1.L from ⟨by rw [hS1], by rw [hS1]; show (st.tk + 1) % 4294967296 = k + 1; rw [HTK.out]; omega, by rw [hS1]; exact hwl.1.trans HLN.out, by rw [hS1]; exact hwl.2⟩)
            have h1 := below_alloc1 wz (.cells #[.int .u32 (g.df : Int)] 22)
            have hPm : Sl (wz.alloc (.cells #[.int .u32 (g.df : Int)] 22)) wz.heap.size (some ⟨wz.heap.size, 0, none⟩) (ms [g.df]) := Sl.one_new wz (.int .u32 (g.df : Int)) 22
            have hP := Step_good g s st [g.df] (some ⟨wz.heap.size, 0, none⟩) 1 wz.heap.size (wz.alloc (.cells #[.int .u32 (g.df : Int)] 22)) ((hi5.ext hbe).ext h1) hok ((hT.ext hbw).ext h1) hPm HR.out.symm (fun y hy => by have h5 : y = g.df := (by simpa using hy); omega) (by simp [maxLen]) (by rw [HLN.out]; exact hN48) oL (by rw [HTK.out]; omega) hF
            rw [← hS1, show [g.df].length = 1 from rfl] at hP
            have hV2 := fun W => StView_calls S1 0 W (by rw [HE1.out.2.2.1]; exact hN48) HE1.out.2.2.2
            obtain ⟨VW, hVW⟩ : ∃ VW : St, VW = ⟨viewL 0 S1.L, 0, S1.tk⟩ := ⟨_, rfl⟩
            rw [← hVW] at hV2
            have HVW := Lib.hid (show VW.tk = k + 1 ∧ VW = ⟨viewL 0 S1.L, 0, k + 1⟩ ∧ StOk VW ∧ (viewL 0 G.L = viewL 0 F.L → shown T T1k = VW) from by
              have e1 := HE1.out.2.1
              refine ⟨by rw [hVW]; exact e1, by rw [hVW, e1], by rw [hVW]; exact ⟨by simp only [viewL_length]; rw [HE1.out.2.2.1]; exact hN48, okC_view HE1.out.2.2.2 0, by show S1.tk ≤ 4294967295; rw [e1]; omega⟩, fun h => ?_⟩
              have eTk : T.k.tk = k := by rw [hTI.out.1]
              rw [shown_next (by rw [eTk]; exact HKV.out) (by omega), hTI.out.2.2.2.2.2.1, hTI.out.2.2.2.2.2.2.1, hTI.out.2.2.1, hTI.out.1]
              unfold predS
              rw [if_pos HR.out.symm]
              rw [HTK.out] at hG2
              rw [← hG2, h, hVW, HE1.out.1, HE1.out.2.1]
              simp only [St.mk.injEq, true_and]
              omega)
            have HV2 := Lib.hid hV2
            have z0 := hG9.c0
            have z1 := hG9.c1
            have z2 := hG9.c2
            have z3 := hG9.c3
            have z4 := hG9.c4
            have z5 := hG9.c5
            clear hF hG2 hsok hwl hS1 hPm hV2 hVW
            go_wp2_with ((with_reducible refine at_ld 40 7 ?_); refine wpList_ldS rfl (.tmp 7) rfl Y rfl hx ?_)
            refine hP.mono ?_
            rintro e wa ⟨sh, rfl, hsh, h2⟩
            replace h1 := h1.trans (h2.mono h1.size)
            replace hx := hx.ext h1
            replace hB := hB.ext h1
            replace hbe := hbe.trans (h1.mono hbe.size)
            replace hbw := hbw.trans (h1.mono hbw.size)
            clear hP h1 h2 z0 z1 z2 z3 z4 z5
            have hLKa := show b < wa.heap.size ∧ bm < wa.heap.size from ⟨hB.lt, hB.ltm⟩
            have hs1 : sh.oneCell' = true := by
              rcases hsh.2 with ⟨rfl, -⟩ | ⟨_, _, _, rfl, -⟩ <;> rfl
            have h5 := below_alloc1 (wa.alloc (.cells (stA zSt) 40)) (.cells #[.int .u64 0, .slice none 0 0, .int .i64 0] 52)
            have y4 := (BoxS.new_ wa zSt).ext h5
            have y5 : OBox ((wa.alloc (.cells (stA zSt) 40)).alloc (.cells #[.int .u64 0, .slice none 0 0, .int .i64 0] 52)) (wa.heap.size + 1) 0 (.slice none 0 0) 0 := by
              have h := OBox.new_ (wa.alloc (.cells (stA zSt) 40)) 0 (.slice none 0 0) 0
              rw [World.size_alloc] at h
              exact h
            clear h5
            have hsh := Lib.hid hsh
            go_upto_region 19 with (first | ((with_reducible refine at_al 40 12 ?_); refine wpList_alS rfl rfl (some 12) rfl wa.heap.size rfl ?_) | ((with_reducible refine at_st 40 12 70 ?_); refine wpList_stS rfl (.tmp 12) (.tmp 70) rfl wa.heap.size S1 rfl rfl zSt y4 ?_) | ((with_reducible refine at_st 52 13 71 ?_); refine wpList_stO rfl (.tmp 13) (.tmp 71) rfl (wa.heap.size + 1) F.t sh F.e rfl rfl hs1 (y5.mod (mod_setRow _ wa.heap.size _) (by show ¬ wa.heap.size + 1 = wa.heap.size; omega)) ?_))
            have r4 := (y4.row_ S1).mod (mod_setRow (((wa.alloc (.cells (stA zSt) 40)).alloc (.cells #[.int .u64 0, .slice none 0 0, .int .i64 0] 52)).setRow wa.heap.size (stA S1)) (wa.heap.size + 1) (otA F.t sh F.e)) (by show ¬ wa.heap.size = wa.heap.size + 1; omega)
            have r5 := (y5.mod (mod_setRow ((wa.alloc (.cells (stA zSt) 40)).alloc (.cells #[.int .u64 0, .slice none 0 0, .int .i64 0] 52)) wa.heap.size (stA S1)) (by show ¬ wa.heap.size + 1 = wa.heap.size; omega)).row_ F.t sh F.e
            have hbo : Below wa.heap.size wa _ := below_setRow (below_setRow (below_alloc2 wa (.cells (stA zSt) 40) (.cells #[.int .u64 0, .slice none 0 0, .int .i64 0] 52)) wa.heap.size (stA S1) (Nat.le_refl _)) (wa.heap.size + 1) (otA F.t sh F.e) (Nat.le_succ _)
            obtain ⟨wb, hWo⟩ : ∃ wb, wb = ((((wa.alloc (.cells (stA zSt) 40)).alloc (.cells #[.int .u64 0, .slice none 0 0, .int .i64 0] 52)).setRow wa.heap.size (stA S1)).setRow (wa.heap.size + 1) (otA F.t sh F.e)) := ⟨_, rfl⟩
            rw [← hWo] at r4 r5 hbo
            go_frame
            rw [← hWo]
            clear hWo y4 y5 hs1
            have hsh := rows_ext hsh.out hbo
            replace hx := hx.ext hbo
            replace hB := hB.ext hbo
            replace hbe := hbe.trans (hbo.mono hbe.size)
            replace hbw := hbw.trans (hbo.mono hbw.size)
            obtain ⟨K1, hK⟩ : ∃ K1, K1 = wa.heap.size := ⟨_, rfl⟩
            rw [← hK] at r4 r5 hLKa ⊢
            clear hK
            have HLK := Lib.hid hLKa
            clear hLKa
            obtain ⟨A8, c8, b8, rfl, hc8, hm8, hs8⟩ := rowS_sl hsh
            obtain ⟨nS, hnS⟩ : ∃ nS, nS = F.sh.length := ⟨_, rfl⟩
            rw [← hnS] at r5
            rw [← hnS]
            have HNS := Lib.hid hnS
            have a1 := ob_s r5
            have hm64 : nS ≤ 9223372036854775807 := by omega
            clear hsh hnS hc8 hm8 hbo
            go_wp2_with fail
            clear a1
            go_loopw [75] (fun i wr => ∃ j : Nat, j ≤ nS ∧ i = .int .i64 j ∧ (∀ i (h : i < F.sh.length), i < j → F.sh[i].2.1.testBit 0 = false) ∧ Below wb.heap.size wb wr) (fun i _ => nS - (intOf i).toNat)
            case atStart => exact ⟨0, Nat.zero_le _, rfl, fun i h h2 => by omega, Below.refl _ _⟩
            case round =>
              obtain ⟨j, hj, rfl, hall, hbk⟩ := hrel
              have HALL := Lib.hid hall
              clear hall
              by_cases hlj : j < nS
              · have ejj : (j : Int) < (nS : Int) := by omega
                have hkS : j < F.sh.length := by rw [← HNS.out]; exact hlj
                obtain ⟨off8, rfl, hc⟩ := (Sl.ext hs8 hbk) (by intro h0; have h5 := congrArg List.length h0; rw [sv_length, List.length_nil] at h5; omega)
                obtain ⟨g0', g1', g2'⟩ := sv_get hkS
                have c0 := hc _ _ g0'
                have c1 := hc _ _ g1'
                have c2 := hc _ _ g2'
                rw [← Nat.add_assoc] at c1 c2
                have hml := HSOK.out _ (List.getElem_mem hkS)
                have HNX := Lib.hid (show F.sh[j].2.1.testBit 0 = false → ∀ i (h : i < F.sh.length), i < j + 1 → F.sh[i].2.1.testBit 0 = false from fun h i h1 h2 => by
                  by_cases e : i = j
                  · subst e; exact h
                  · exact HALL.out i h1 (by omega))
                obtain ⟨⟨x1, x2, x3⟩, hxq⟩ : ∃ q, q = F.sh[j] := ⟨_, rfl⟩
                rw [← hxq] at c0 c1 c2 hml HNX
                simp only at c0 c1 c2 hml
                have hHo := fun W => MHas_calls x2 ((0 : Nat) : Int) W hml
                rw [sees_of x2 (p := 0) (by omega)] at hHo
                rw [show (((0 : Nat) : Int)) = 0 from rfl] at hHo
                obtain ⟨tb, htb⟩ : ∃ tb, tb = x2.testBit 0 := ⟨_, rfl⟩
                have htb2 : (x1, x2, x3).2.1.testBit 0 = tb := htb.symm
                rw [htb2] at HNX
                rw [← htb] at hHo
                clear hxq htb htb2 hc g0' g1' g2' hkS
                have h1 := below_alloc1 wr (.cells #[.int .i64 (x1 : Int), .int .u32 (x2 : Int), .int .i32 x3] 56)
                have qW := (WBox.new_ wr x1 x2 x3).c1
                go_upto_region 22 with fail
                replace hbk := hbk.trans (h1.mono hbk.size)
                obtain ⟨B1, hB1⟩ : ∃ B1, B1 = wr.heap.size := ⟨_, rfl⟩
                obtain ⟨wA, hwA⟩ : ∃ wA, wA = wr.alloc (.cells #[.int .i64 (x1 : Int), .int .u32 (x2 : Int), .int .i32 x3] 56) := ⟨_, rfl⟩
                rw [← hwA] at hbk qW ⊢
                rw [← hB1] at qW ⊢
                clear hwA hB1 h1 c0 c1 c2
                cases tb with
                | true =>
                  go_wp2_with fail
                  refine (hHo _).mono ?_
                  rintro e wx ⟨rfl, hwx⟩
                  have hwx := hwx.symm
                  subst hwx
                  have hbq := hbw.trans (hbk.mono hbw.size)
                  go_wp2_with fail
                  go_ret
                  exact ⟨rfl, hbq⟩
                | false =>
                  go_wp2_with fail
                  refine (hHo _).mono ?_
                  rintro e wx ⟨rfl, hwx⟩
                  have hwx := hwx.symm
                  subst hwx
                  go_wp2_with fail
                  go_roundw
                  case rel => exact ⟨j + 1, by omega, by go_num, HNX.out (by trivial), hbk⟩
                  case measure => simp [intOf]; omega
              · obtain rfl : nS = j := by omega
                have HSH := HVW.out.2.2.2 (by
                  rcases HREL.out with ⟨x, hx, hb⟩ | h
                  · obtain ⟨i, hi, rfl⟩ := List.getElem_of_mem hx
                    rw [HALL.out i hi (by rw [HNS.out]; exact hi)] at hb
                    cases hb
                  · exact h)
                have hV2 := HV2.out
                have hx := hx.ext hbk
                have hB := hB.ext hbk
                have r4 := r4.ext hbk
                have hbe := hbe.trans (hbk.mono hbe.size)
                have hbw := hbw.trans (hbk.mono hbw.size)
                have hT9 := hT.ext hbw
                obtain ⟨wq, hwq⟩ : ∃ wq, wq = wr := ⟨_, rfl⟩
                have hShow := fun W (hw : TBox W b bm T) (hc : CTab W) => Shown_calls b bm T T1k W hw hTO hc hPI.out (by have := HKV.out; omega)
                rw [HSH] at hShow
                have hConf := fun W (hw : TBox W b bm T) (hc : CTab W) => Confirm_new b bm T VW W hw hTO hc hPI.out HVW.out.2.2.1 (by rw [HVW.out.1, hTI.out.1]; show ¬ k + 1 ≤ k; omega)
                obtain ⟨T2, hT2⟩ : ∃ T2, T2 = confT T VW := ⟨_, rfl⟩
                have hwr : wrongT T VW = false := by
                  unfold wrongT
                  rw [HVW.out.1, ← HKV.out, HSH, eqS_self]
                  simp
                have HT2 := Lib.hid (show T2.k = ⟨viewL 0 S1.L, 0, k + 1⟩ ∧ T2.r = 0 ∧ (T2.f = fun _ => none) ∧ T2.n ≤ k + 1 ∧ T2.g = g ∧ T2.o = 0 ∧ T2.s = s' from by
                  refine ⟨by rw [hT2]; exact HVW.out.2.1, by rw [hT2]; show T.r + (wrongT T VW).toNat = 0; rw [hwr, hTI.out.2.1]; rfl, by rw [hT2]; exact conf_none (m := g.df) hTI.out.2.2.2.1 HVW.out.1, by rw [hT2]; exact hTI.out.2.2.2.2.1, by rw [hT2]; exact hTI.out.2.2.2.2.2.1, by rw [hT2]; exact hTI.out.2.2.2.2.2.2.1, by rw [hT2]; exact hTI.out.2.2.2.2.2.2.2⟩)
                have hTO2 : TrOk T2 := ⟨by rw [hT2]; exact hTO.g, by rw [hT2]; exact hTO.o, by rw [hT2]; exact HVW.out.2.2.1.l, by rw [hT2]; exact HVW.out.2.2.1.o, by rw [hT2]; exact HVW.out.2.2.1.t, by rw [HT2.out.2.1]; omega, fun u v h => by rw [HT2.out.2.2.1] at h; cases h⟩
                have hPI2 : Hid (PredIs T2.g T2.s T2.o) := by rw [hT2]; exact hPI
                rw [← hT2] at hConf
                have hRl := fun W (h : TBox W b bm T2) => Rolls_calls b bm T2 W h
                rw [HT2.out.2.1, show (((0 : Nat) : Int)) = 0 from rfl] at hRl
                have hYB : ¬ Y = b ∧ ¬ Y = bm := ⟨by omega, by omega⟩
                have hKB : ¬ K1 = b ∧ ¬ K1 = bm := ⟨fun e => by have := HLK.out; omega, fun e => by have := HLK.out; omega⟩
                have eKs : IntKind.u32.wrap ((st.tk : Int) + 1) = (T1k : Int) := by rw [HTK.out]; exact eK
                have HSHW := Lib.hid HSH
                clear HSH hT2 hwr hlj hj r5 hs8 hwq
                go_wp2_with fail
                refine wp_region_held_drew (S := fun w' => BoxS w' Y st ∧ BoxS w' K1 S1) (by kernel_rfl) ?_ (fun hHeld => ?_)
                · exact ⟨hx, r4⟩
                refine wpAnyH_take (i := 0) (by simp only [List.getElem?_toArray]; rfl) (by kernel_rfl) (by kernel_rfl) (by kernel_rfl) (by exact fun _ _ _ h => h) (by exact yk (.pointer (some ⟨b, 0, none⟩)) (by kernel_rfl) (fun _ => by kernel_rfl)) hHeld ?_
                refine wpAnyH_take (i := 1) (by simp only [List.getElem?_toArray]; rfl) (by kernel_rfl) (by kernel_rfl) (by kernel_rfl) (by exact fun _ _ _ h => h) (by exact yk (.pointer (some ⟨Y, 98, none⟩)) (by kernel_rfl) (fun _ => by kernel_rfl)) hHeld ?_
                refine wpAnyH_take (i := 2) (by simp only [List.getElem?_toArray]; rfl) (by kernel_rfl) (by kernel_rfl) (by kernel_rfl) (by exact fun _ _ _ h => h) (by exact yk_ldW (by kernel_rfl) (.tmp 84) rfl ⟨Y, 98, none⟩ (.int .u32 (st.tk : Int)) (by kernel_rfl) (fun _ h => h.1.cK)) hHeld ?_
                refine wpAnyH_take (i := 3) (by simp only [List.getElem?_toArray]; rfl) (by kernel_rfl) (by kernel_rfl) (by kernel_rfl) (by exact fun _ _ _ h => h) (by exact yk_addW (by kernel_rfl) (.tmp 85) (.const (.int .u32 1)) rfl (st.tk : Int) 1 (T1k : Int) (by kernel_rfl) (by kernel_rfl) eKs) hHeld ?_
                refine wpAnyH_take (i := 5) (by simp only [List.getElem?_toArray]; rfl) (by kernel_rfl) (by kernel_rfl) (by kernel_rfl) (by exact fun _ _ _ h => h) (by exact yieldsIf_ldS (by kernel_rfl) (.tmp 12) rfl K1 (by kernel_rfl) (fun _ h => h.2)) hHeld ?_
                try simp only [Act.put, List.setIfInBounds_toArray, List.set_cons_zero, List.set_cons_succ]
                refine wpAnyH_ready (rs := [4]) (by kernel_rfl) (by simp) ?_
                refine AllReadyH.cons (by simp only [List.getElem?_toArray]; rfl) (fun KK hKK => ?_) AllReadyH.nil
                rw [if_pos (by kernel_rfl)]
                refine wp_callF 19 #[.pointer (some ⟨b, 0, none⟩), .int .u32 (T1k : Int)] (by kernel_rfl) ?_
                have hd0 : Below wr.heap.size wr wr.drew := below_drew (Below.refl _ _)
                refine (hShow _ (hB.ext hd0) (hT9.ext hd0)).mono ?_
                rintro e wf1 ⟨rfl, hBa, ha⟩
                have hbr := hd0.trans (ha.mono hd0.size)
                clear ha hd0
                refine ⟨_, rfl, ?_⟩
                refine hKK.out _ _ ?_ (fun hHeld => ?_)
                · exact ⟨hx.ext hbr, r4.ext hbr⟩
                clear hKK KK
                try simp only [Act.put, List.setIfInBounds_toArray, List.set_cons_zero, List.set_cons_succ]
                refine wpAnyH_ready (rs := [6]) (by kernel_rfl) (by simp) ?_
                refine AllReadyH.cons (by simp only [List.getElem?_toArray]; rfl) (fun KK hKK => ?_) AllReadyH.nil
                rw [if_pos (by kernel_rfl)]
                refine wp_callF 14 #[.agg (stA S1), .int .i64 0] (by kernel_rfl) ?_
                refine (hV2 _).mono ?_
                rintro e wf2 ⟨rfl, ha⟩
                have hBa := hBa.ext ha
                have hbr := hbr.trans (ha.mono hbr.size)
                clear ha
                refine ⟨_, rfl, ?_⟩
                refine hKK.out _ _ ?_ (fun hHeld => ?_)
                · exact ⟨hx.ext hbr, r4.ext hbr⟩
                clear hKK KK
                refine wpAnyH_take (i := 7) (by simp only [List.getElem?_toArray]; rfl) (by kernel_rfl) (by kernel_rfl) (by kernel_rfl) (by exact fun _ _ _ h => h) (by exact yk_neSt (by kernel_rfl) (.tmp 87) (.tmp 89) rfl VW (by kernel_rfl) (by kernel_rfl)) hHeld ?_
                refine wpAnyH_take (i := 8) (by simp only [List.getElem?_toArray]; rfl) (by kernel_rfl) (by kernel_rfl) (by kernel_rfl) (by exact fun _ _ _ h => h) (by exact yk (.bool false) (by kernel_rfl) (fun _ => by kernel_rfl)) hHeld ?_
                refine wpAnyH_take (i := 9) (by simp only [List.getElem?_toArray]; rfl) (by kernel_rfl) (by kernel_rfl) (by kernel_rfl) (by exact fun _ _ _ h => h) (by exact yk (.pointer (some ⟨b, 0, none⟩)) (by kernel_rfl) (fun _ => by kernel_rfl)) hHeld ?_
                refine wpAnyH_take (i := 10) (by simp only [List.getElem?_toArray]; rfl) (by kernel_rfl) (by kernel_rfl) (by kernel_rfl) (by exact fun _ _ _ h => h) (by exact yieldsIf_ldS (by kernel_rfl) (.tmp 12) rfl K1 (by kernel_rfl) (fun _ h => h.2)) hHeld ?_
                try simp only [Act.put, List.setIfInBounds_toArray, List.set_cons_zero, List.set_cons_succ]
                refine wpAnyH_ready (rs := [11]) (by kernel_rfl) (by simp) ?_
                refine AllReadyH.cons (by simp only [List.getElem?_toArray]; rfl) (fun KK hKK => ?_) AllReadyH.nil
                rw [if_pos (by kernel_rfl)]
                refine wp_callF 14 #[.agg (stA S1), .int .i64 0] (by kernel_rfl) ?_
                refine (hV2 _).mono ?_
                rintro e wf3 ⟨rfl, ha⟩
                have hBa := hBa.ext ha
                have hbr := hbr.trans (ha.mono hbr.size)
                clear ha
                refine ⟨_, rfl, ?_⟩
                refine hKK.out _ _ ?_ (fun hHeld => ?_)
                · exact ⟨hx.ext hbr, r4.ext hbr⟩
                clear hKK KK
                try simp only [Act.put, List.setIfInBounds_toArray, List.set_cons_zero, List.set_cons_succ]
                refine wpAnyH_ready (rs := [12]) (by kernel_rfl) (by simp) ?_
                refine AllReadyH.cons (by simp only [List.getElem?_toArray]; rfl) (fun KK hKK => ?_) AllReadyH.nil
                rw [if_pos (by kernel_rfl)]
                refine wp_callF 20 #[.pointer (some ⟨b, 0, none⟩), .agg (stA VW)] (by kernel_rfl) ?_
                refine (hConf _ hBa (hT9.ext hbr)).mono ?_
                rintro e wf4 ⟨rfl, hBc, hmc⟩
                have hxF := (hx.ext hbr).mod hmc (fun e => by rcases e with e | e; exact hYB.1 e; exact hYB.2 e)
                have r4F := (r4.ext hbr).mod hmc (fun e => by rcases e with e | e; exact hKB.1 e; exact hKB.2 e)
                have hMF := (mod_ext (S := fun i => i = b ∨ i = bm) hbr).trans hmc (fun _ _ e => e) (fun _ _ e => e)
                clear hmc hBa
                refine ⟨_, rfl, ?_⟩
                refine hKK.out _ _ ?_ (fun hHeld => ?_)
                · exact ⟨hxF, r4F⟩
                clear hKK KK
                refine wpAnyH_take (i := 13) (by simp only [List.getElem?_toArray]; rfl) (by kernel_rfl) (by kernel_rfl) (by kernel_rfl) (by exact fun _ _ _ h => h) (by exact yk_ne (by kernel_rfl) .i64 41 (.tmp 95) (.const (.int .i64 0)) _ rfl (0) (0) (by kernel_rfl) (by kernel_rfl) false (by rfl)) hHeld ?_
                refine wpAnyH_take (i := 14) (by simp only [List.getElem?_toArray]; rfl) (by kernel_rfl) (by kernel_rfl) (by kernel_rfl) (by exact fun _ _ _ h => h) (by exact yk (.bool false) (by kernel_rfl) (fun _ => by kernel_rfl)) hHeld ?_
                refine wpAnyH_take (i := 15) (by simp only [List.getElem?_toArray]; rfl) (by kernel_rfl) (by kernel_rfl) (by kernel_rfl) (by exact fun _ _ _ h => h) (by exact yk (.bool false) (by kernel_rfl) (fun _ => by kernel_rfl)) hHeld ?_
                refine wpAnyH_take (i := 16) (by simp only [List.getElem?_toArray]; rfl) (by kernel_rfl) (by kernel_rfl) (by kernel_rfl) (by exact fun _ _ _ h => h) (by exact yk (.pointer (some ⟨b, 0, none⟩)) (by kernel_rfl) (fun _ => by kernel_rfl)) hHeld ?_
                try simp only [Act.put, List.setIfInBounds_toArray, List.set_cons_zero, List.set_cons_succ]
                refine wpAnyH_ready (rs := [17]) (by kernel_rfl) (by simp) ?_
                refine AllReadyH.cons (by simp only [List.getElem?_toArray]; rfl) (fun KK hKK => ?_) AllReadyH.nil
                rw [if_pos (by kernel_rfl)]
                refine wp_callF 21 #[.pointer (some ⟨b, 0, none⟩)] (by kernel_rfl) ?_
                refine (hRl _ hBc).mono ?_
                rintro e wf5 ⟨rfl, hwf⟩
                have hBF : TBox wf5 b bm T2 := by rw [hwf]; exact hBc
                have hxF : BoxS wf5 Y st := by rw [hwf]; exact hxF
                have r4F : BoxS wf5 K1 S1 := by rw [hwf]; exact r4F
                have hMF : Mod (fun i => i = b ∨ i = bm) wr wf5 := by rw [hwf]; exact hMF
                clear hwf hBc
                refine ⟨_, rfl, ?_⟩
                refine hKK.out _ _ ?_ (fun hHeld => ?_)
                · exact ⟨hxF, r4F⟩
                clear hKK KK
                refine wpAnyH_take (i := 18) (by simp only [List.getElem?_toArray]; rfl) (by kernel_rfl) (by kernel_rfl) (by kernel_rfl) (by exact fun _ _ _ h => h) (by exact yk_ne (by kernel_rfl) .i64 3 (.tmp 100) (.const (.int .i64 0)) _ rfl (0) (0) (by kernel_rfl) (by kernel_rfl) false (by rfl)) hHeld ?_
                refine wpAnyH_take (i := 19) (by simp only [List.getElem?_toArray]; rfl) (by kernel_rfl) (by kernel_rfl) (by kernel_rfl) (by exact fun _ _ _ h => h) (by exact yk (.bool false) (by kernel_rfl) (fun _ => by kernel_rfl)) hHeld ?_
                refine wpAnyH_done (by kernel_rfl) ?_ _
                try simp only [Act.put, List.setIfInBounds_toArray, List.set_cons_zero, List.set_cons_succ]
                replace hx := hxF
                replace r4 := r4F
                replace hbe := hbe.trans (hMF.below hbe.size (fun i hi e => by have e : i = b ∨ i = bm := e; omega))
                go_wp2_with (first | ((with_reducible refine at_ld 40 12 ?_); refine wpList_ldS rfl (.tmp 12) rfl K1 rfl r4 ?_) | ((with_reducible refine at_st 40 7 103 ?_); refine wpList_stS rfl (.tmp 7) (.tmp 103) rfl Y S1 rfl rfl st hx ?_))
                have hTs2 := HT2.out.2.2.2.2.2.2
                have mS := mod_setRow wf5 Y (stA S1)
                go_roundw
                case rel => exact ⟨k + 1, S1, T2, by omega, by go_num, HE1.out.2.1, HE1.out.2.2.1, HE1.out.2.2.2, hx.row_ S1, hBF.mod mS (fun e => hYB.1 e.symm) (fun e => hYB.2 e.symm) (by rw [hTs2]; show ¬ s'.b = Y; omega) (by rw [hTs2]; show ¬ s'.b' = Y; omega), hTO2, hPI2, HT2, below_setRow hbe _ _ (by have := HY.out; omega)⟩
                case measure => simp [intOf]; omega
        · have ekd : decide ((k : Int) < (nn : Int)) = false := decide_eq_false (by rw [← HNL.out]; omega)
          refine wp_region_held_drew (S := fun w' => Below wr.heap.size wr w') (by kernel_rfl) ?_ (fun hHeld => ?_)
          · exact below_drew (Below.refl _ _)
          refine wpAnyH_take (i := 0) (by simp only [List.getElem?_toArray]; rfl) (by kernel_rfl) (by kernel_rfl) (by kernel_rfl) (by exact fun _ _ _ h => h) (by exact yk (.int .i64 (k : Int)) (by kernel_rfl) (fun _ => by kernel_rfl)) hHeld ?_
          refine wpAnyH_take (i := 1) (by simp only [List.getElem?_toArray]; rfl) (by kernel_rfl) (by kernel_rfl) (by kernel_rfl) (by exact fun _ _ _ h => h) (by exact yk (.slice NA nn nc) (by kernel_rfl) (fun _ => by kernel_rfl)) hHeld ?_
          refine wpAnyH_take (i := 2) (by simp only [List.getElem?_toArray]; rfl) (by kernel_rfl) (by kernel_rfl) (by kernel_rfl) (by exact fun _ _ _ h => h) (by exact yk (.int .i64 (nn : Int)) (by kernel_rfl) (fun _ => by kernel_rfl)) hHeld ?_
          refine wpAnyH_take (i := 3) (by simp only [List.getElem?_toArray]; rfl) (by kernel_rfl) (by kernel_rfl) (by kernel_rfl) (by exact fun _ _ _ h => h) (by exact yk_lss (by kernel_rfl) (.tmp 41) (.tmp 43) rfl (k : Int) (nn : Int) (by kernel_rfl) (by kernel_rfl) false ekd) hHeld ?_
          refine wpAnyH_take (i := 4) (by simp only [List.getElem?_toArray]; rfl) (by kernel_rfl) (by kernel_rfl) (by kernel_rfl) (by exact fun _ _ _ h => h) (by exact yk (.bool false) (by kernel_rfl) (fun _ => by kernel_rfl)) hHeld ?_
          refine wpAnyH_take (i := 5) (by simp only [List.getElem?_toArray]; rfl) (by kernel_rfl) (by kernel_rfl) (by kernel_rfl) (by exact fun _ _ _ h => h) (by exact yk_no (by kernel_rfl)) hHeld ?_
          refine wpAnyH_take (i := 6) (by simp only [List.getElem?_toArray]; rfl) (by kernel_rfl) (by kernel_rfl) (by kernel_rfl) (by exact fun _ _ _ h => h) (by exact yk_no (by kernel_rfl)) hHeld ?_
          refine wpAnyH_take (i := 7) (by simp only [List.getElem?_toArray]; rfl) (by kernel_rfl) (by kernel_rfl) (by kernel_rfl) (by exact fun _ _ _ h => h) (by exact yk_no (by kernel_rfl)) hHeld ?_
          refine wpAnyH_take (i := 8) (by simp only [List.getElem?_toArray]; rfl) (by kernel_rfl) (by kernel_rfl) (by kernel_rfl) (by exact fun _ _ _ h => h) (by exact yk_no (by kernel_rfl)) hHeld ?_
          refine wpAnyH_take (i := 9) (by simp only [List.getElem?_toArray]; rfl) (by kernel_rfl) (by kernel_rfl) (by kernel_rfl) (by exact fun _ _ _ h => h) (by exact yk_no (by kernel_rfl)) hHeld ?_
          refine wpAnyH_take (i := 10) (by simp only [List.getElem?_toArray]; rfl) (by kernel_rfl) (by kernel_rfl) (by kernel_rfl) (by exact fun _ _ _ h => h) (by exact yk_no (by kernel_rfl)) hHeld ?_
          refine wpAnyH_take (i := 11) (by simp only [List.getElem?_toArray]; rfl) (by kernel_rfl) (by kernel_rfl) (by kernel_rfl) (by exact fun _ _ _ h => h) (by exact yk (.bool false) (by kernel_rfl) (fun _ => by kernel_rfl)) hHeld ?_
          refine wpAnyH_done (by kernel_rfl) ?_ _
          try simp only [Act.put, List.setIfInBounds_toArray, List.set_cons_zero, List.set_cons_succ]
          have hbr : Below wr.heap.size wr wr.drew := below_drew (Below.refl _ _)
          have hx := hx.ext hbr
          have hB := hB.ext hbr
          have hbe := hbe.trans (hbr.mono hbe.size)
          have hbw := hbw.trans (hbr.mono hbw.size)
          have hG9 := hG9.ext hbr
          obtain ⟨wz, hwz⟩ : ∃ wz, wz = wr.drew := ⟨_, rfl⟩
          rw [← hwz] at hx hB hbe hbw hG9 ⊢
          clear hwz hbr z3 qK
          have hfx : g.df ≤ 4294967295 := hok.d1
          have hTI := Lib.hid (show T.k = ⟨viewL 0 st.L, 0, k⟩ ∧ T.r = 0 ∧ (T.f T1k).getD g.df = g.df ∧ (∀ u, ¬ u = k + 1 → T.f u = none) ∧ T.n ≤ k + 1 ∧ T.g = g ∧ T.o = 0 ∧ T.s = s' from ⟨hTI.out.1, hTI.out.2.1, by rw [hTI.out.2.2.1]; rfl, fun u _ => by rw [hTI.out.2.2.1], by have := hTI.out.2.2.2.1; omega, hTI.out.2.2.2.2.1, hTI.out.2.2.2.2.2.1, hTI.out.2.2.2.2.2.2⟩)
          clear ekd
          go_upto_region 18 with fail
          obtain ⟨F, hF⟩ : ∃ F, F = wholeV compN (stepP g st [g.df]) st.L st.d := ⟨_, rfl⟩
          obtain ⟨G, hG2⟩ : ∃ G, G = wholeV compN (stepP g ⟨viewL 0 st.L, 0, st.tk⟩ (predM g 0 g.df)) (viewL 0 st.L) 0 := ⟨_, rfl⟩
          have HREL := Lib.hid (narrow1 hok HR.out.symm HPN.out st oL g.df hF hG2)
          have all32 := allN_lt g.ob
          have hsok := whole_shok compN (stepP g st [g.df]) all32 st.L st.d
          have hwl := whole_len (P := stepP g st [g.df]) (L := st.L) (d := st.d) all32 (cntL_fit g [g.df]) hok.oK oL
          rw [← hF] at hsok hwl
          have HSOK := Lib.hid hsok
          obtain ⟨S1, hS1⟩ : ∃ S1 : St, S1 = ⟨F.L, F.d, (st.tk + 1) % 4294967296⟩ := ⟨_, rfl⟩
          have HE1 := Lib.hid (show S1.L = F.L ∧ S1.tk = k + 1 ∧ S1.L.length = NL ∧ okC S1.L from ⟨by rw [hS1], by rw [hS1]; show (st.tk + 1) % 4294967296 = k + 1; rw [HTK.out]; omega, by rw [hS1]; exact hwl.1.trans HLN.out, by rw [hS1]; exact hwl.2⟩)
          have h1 := below_alloc1 wz (.cells #[.int .u32 (g.df : Int)] 22)
          have hPm : Sl (wz.alloc (.cells #[.int .u32 (g.df : Int)] 22)) wz.heap.size (some ⟨wz.heap.size, 0, none⟩) (ms [g.df]) := Sl.one_new wz (.int .u32 (g.df : Int)) 22
          have hP := Step_good g s st [g.df] (some ⟨wz.heap.size, 0, none⟩) 1 wz.heap.size (wz.alloc (.cells #[.int .u32 (g.df : Int)] 22)) ((hi5.ext hbe).ext h1) hok ((hT.ext hbw).ext h1) hPm HR.out.symm (fun y hy => by have h5 : y = g.df := (by simpa using hy); omega) (by simp [maxLen]) (by rw [HLN.out]; exact hN48) oL (by rw [HTK.out]; omega) hF
          rw [← hS1, show [g.df].length = 1 from rfl] at hP
          have hV2 := fun W => StView_calls S1 0 W (by rw [HE1.out.2.2.1]; exact hN48) HE1.out.2.2.2
          obtain ⟨VW, hVW⟩ : ∃ VW : St, VW = ⟨viewL 0 S1.L, 0, S1.tk⟩ := ⟨_, rfl⟩
          rw [← hVW] at hV2
          have HVW := Lib.hid (show VW.tk = k + 1 ∧ VW = ⟨viewL 0 S1.L, 0, k + 1⟩ ∧ StOk VW ∧ (viewL 0 G.L = viewL 0 F.L → shown T T1k = VW) from by
            have e1 := HE1.out.2.1
            refine ⟨by rw [hVW]; exact e1, by rw [hVW, e1], by rw [hVW]; exact ⟨by simp only [viewL_length]; rw [HE1.out.2.2.1]; exact hN48, okC_view HE1.out.2.2.2 0, by show S1.tk ≤ 4294967295; rw [e1]; omega⟩, fun h => ?_⟩
            have eTk : T.k.tk = k := by rw [hTI.out.1]
            rw [shown_next (by rw [eTk]; exact HKV.out) (by omega), hTI.out.2.2.2.2.2.1, hTI.out.2.2.2.2.2.2.1, hTI.out.2.2.1, hTI.out.1]
            unfold predS
            rw [if_pos HR.out.symm]
            rw [HTK.out] at hG2
            rw [← hG2, h, hVW, HE1.out.1, HE1.out.2.1]
            simp only [St.mk.injEq, true_and]
            omega)
          have HV2 := Lib.hid hV2
          have z0 := hG9.c0
          have z1 := hG9.c1
          have z2 := hG9.c2
          have z3 := hG9.c3
          have z4 := hG9.c4
          have z5 := hG9.c5
          clear hF hG2 hsok hwl hS1 hPm hV2 hVW
          go_wp2_with ((with_reducible refine at_ld 40 7 ?_); refine wpList_ldS rfl (.tmp 7) rfl Y rfl hx ?_)
          refine hP.mono ?_
          rintro e wa ⟨sh, rfl, hsh, h2⟩
          replace h1 := h1.trans (h2.mono h1.size)
          replace hx := hx.ext h1
          replace hB := hB.ext h1
          replace hbe := hbe.trans (h1.mono hbe.size)
          replace hbw := hbw.trans (h1.mono hbw.size)
          clear hP h1 h2 z0 z1 z2 z3 z4 z5
          have hLKa := show b < wa.heap.size ∧ bm < wa.heap.size from ⟨hB.lt, hB.ltm⟩
          have hs1 : sh.oneCell' = true := by
            rcases hsh.2 with ⟨rfl, -⟩ | ⟨_, _, _, rfl, -⟩ <;> rfl
          have h5 := below_alloc1 (wa.alloc (.cells (stA zSt) 40)) (.cells #[.int .u64 0, .slice none 0 0, .int .i64 0] 52)
          have y4 := (BoxS.new_ wa zSt).ext h5
          have y5 : OBox ((wa.alloc (.cells (stA zSt) 40)).alloc (.cells #[.int .u64 0, .slice none 0 0, .int .i64 0] 52)) (wa.heap.size + 1) 0 (.slice none 0 0) 0 := by
            have h := OBox.new_ (wa.alloc (.cells (stA zSt) 40)) 0 (.slice none 0 0) 0
            rw [World.size_alloc] at h
            exact h
          clear h5
          have hsh := Lib.hid hsh
          go_upto_region 19 with (first | ((with_reducible refine at_al 40 12 ?_); refine wpList_alS rfl rfl (some 12) rfl wa.heap.size rfl ?_) | ((with_reducible refine at_st 40 12 70 ?_); refine wpList_stS rfl (.tmp 12) (.tmp 70) rfl wa.heap.size S1 rfl rfl zSt y4 ?_) | ((with_reducible refine at_st 52 13 71 ?_); refine wpList_stO rfl (.tmp 13) (.tmp 71) rfl (wa.heap.size + 1) F.t sh F.e rfl rfl hs1 (y5.mod (mod_setRow _ wa.heap.size _) (by show ¬ wa.heap.size + 1 = wa.heap.size; omega)) ?_))
          have r4 := (y4.row_ S1).mod (mod_setRow (((wa.alloc (.cells (stA zSt) 40)).alloc (.cells #[.int .u64 0, .slice none 0 0, .int .i64 0] 52)).setRow wa.heap.size (stA S1)) (wa.heap.size + 1) (otA F.t sh F.e)) (by show ¬ wa.heap.size = wa.heap.size + 1; omega)
          have r5 := (y5.mod (mod_setRow ((wa.alloc (.cells (stA zSt) 40)).alloc (.cells #[.int .u64 0, .slice none 0 0, .int .i64 0] 52)) wa.heap.size (stA S1)) (by show ¬ wa.heap.size + 1 = wa.heap.size; omega)).row_ F.t sh F.e
          have hbo : Below wa.heap.size wa _ := below_setRow (below_setRow (below_alloc2 wa (.cells (stA zSt) 40) (.cells #[.int .u64 0, .slice none 0 0, .int .i64 0] 52)) wa.heap.size (stA S1) (Nat.le_refl _)) (wa.heap.size + 1) (otA F.t sh F.e) (Nat.le_succ _)
          obtain ⟨wb, hWo⟩ : ∃ wb, wb = ((((wa.alloc (.cells (stA zSt) 40)).alloc (.cells #[.int .u64 0, .slice none 0 0, .int .i64 0] 52)).setRow wa.heap.size (stA S1)).setRow (wa.heap.size + 1) (otA F.t sh F.e)) := ⟨_, rfl⟩
          rw [← hWo] at r4 r5 hbo
          go_frame
          rw [← hWo]
          clear hWo y4 y5 hs1
          have hsh := rows_ext hsh.out hbo
          replace hx := hx.ext hbo
          replace hB := hB.ext hbo
          replace hbe := hbe.trans (hbo.mono hbe.size)
          replace hbw := hbw.trans (hbo.mono hbw.size)
          obtain ⟨K1, hK⟩ : ∃ K1, K1 = wa.heap.size := ⟨_, rfl⟩
          rw [← hK] at r4 r5 hLKa ⊢
          clear hK
          have HLK := Lib.hid hLKa
          clear hLKa
          obtain ⟨A8, c8, b8, rfl, hc8, hm8, hs8⟩ := rowS_sl hsh
          obtain ⟨nS, hnS⟩ : ∃ nS, nS = F.sh.length := ⟨_, rfl⟩
          rw [← hnS] at r5
          rw [← hnS]
          have HNS := Lib.hid hnS
          have a1 := ob_s r5
          have hm64 : nS ≤ 9223372036854775807 := by omega
          clear hsh hnS hc8 hm8 hbo
          go_wp2_with fail
          clear a1
          go_loopw [75] (fun i wr => ∃ j : Nat, j ≤ nS ∧ i = .int .i64 j ∧ (∀ i (h : i < F.sh.length), i < j → F.sh[i].2.1.testBit 0 = false) ∧ Below wb.heap.size wb wr) (fun i _ => nS - (intOf i).toNat)
          case atStart => exact ⟨0, Nat.zero_le _, rfl, fun i h h2 => by omega, Below.refl _ _⟩
          case round =>
            obtain ⟨j, hj, rfl, hall, hbk⟩ := hrel
            have HALL := Lib.hid hall
            clear hall
            by_cases hlj : j < nS
            · have ejj : (j : Int) < (nS : Int) := by omega
              have hkS : j < F.sh.length := by rw [← HNS.out]; exact hlj
              obtain ⟨off8, rfl, hc⟩ := (Sl.ext hs8 hbk) (by intro h0; have h5 := congrArg List.length h0; rw [sv_length, List.length_nil] at h5; omega)
              obtain ⟨g0', g1', g2'⟩ := sv_get hkS
              have c0 := hc _ _ g0'
              have c1 := hc _ _ g1'
              have c2 := hc _ _ g2'
              rw [← Nat.add_assoc] at c1 c2
              have hml := HSOK.out _ (List.getElem_mem hkS)
              have HNX := Lib.hid (show F.sh[j].2.1.testBit 0 = false → ∀ i (h : i < F.sh.length), i < j + 1 → F.sh[i].2.1.testBit 0 = false from fun h i h1 h2 => by
                by_cases e : i = j
                · subst e; exact h
                · exact HALL.out i h1 (by omega))
              obtain ⟨⟨x1, x2, x3⟩, hxq⟩ : ∃ q, q = F.sh[j] := ⟨_, rfl⟩
              rw [← hxq] at c0 c1 c2 hml HNX
              simp only at c0 c1 c2 hml
              have hHo := fun W => MHas_calls x2 ((0 : Nat) : Int) W hml
              rw [sees_of x2 (p := 0) (by omega)] at hHo
              rw [show (((0 : Nat) : Int)) = 0 from rfl] at hHo
              obtain ⟨tb, htb⟩ : ∃ tb, tb = x2.testBit 0 := ⟨_, rfl⟩
              have htb2 : (x1, x2, x3).2.1.testBit 0 = tb := htb.symm
              rw [htb2] at HNX
              rw [← htb] at hHo
              clear hxq htb htb2 hc g0' g1' g2' hkS
              have h1 := below_alloc1 wr (.cells #[.int .i64 (x1 : Int), .int .u32 (x2 : Int), .int .i32 x3] 56)
              have qW := (WBox.new_ wr x1 x2 x3).c1
              go_upto_region 22 with fail
              replace hbk := hbk.trans (h1.mono hbk.size)
              obtain ⟨B1, hB1⟩ : ∃ B1, B1 = wr.heap.size := ⟨_, rfl⟩
              obtain ⟨wA, hwA⟩ : ∃ wA, wA = wr.alloc (.cells #[.int .i64 (x1 : Int), .int .u32 (x2 : Int), .int .i32 x3] 56) := ⟨_, rfl⟩
              rw [← hwA] at hbk qW ⊢
              rw [← hB1] at qW ⊢
              clear hwA hB1 h1 c0 c1 c2
              cases tb with
              | true =>
                go_wp2_with fail
                refine (hHo _).mono ?_
                rintro e wx ⟨rfl, hwx⟩
                have hwx := hwx.symm
                subst hwx
                have hbq := hbw.trans (hbk.mono hbw.size)
                go_wp2_with fail
                go_ret
                exact ⟨rfl, hbq⟩
              | false =>
                go_wp2_with fail
                refine (hHo _).mono ?_
                rintro e wx ⟨rfl, hwx⟩
                have hwx := hwx.symm
                subst hwx
                go_wp2_with fail
                go_roundw
                case rel => exact ⟨j + 1, by omega, by go_num, HNX.out (by trivial), hbk⟩
                case measure => simp [intOf]; omega
            · obtain rfl : nS = j := by omega
              have HSH := HVW.out.2.2.2 (by
                rcases HREL.out with ⟨x, hx, hb⟩ | h
                · obtain ⟨i, hi, rfl⟩ := List.getElem_of_mem hx
                  rw [HALL.out i hi (by rw [HNS.out]; exact hi)] at hb
                  cases hb
                · exact h)
              have hV2 := HV2.out
              have hx := hx.ext hbk
              have hB := hB.ext hbk
              have r4 := r4.ext hbk
              have hbe := hbe.trans (hbk.mono hbe.size)
              have hbw := hbw.trans (hbk.mono hbw.size)
              have hT9 := hT.ext hbw
              obtain ⟨wq, hwq⟩ : ∃ wq, wq = wr := ⟨_, rfl⟩
              have hShow := fun W (hw : TBox W b bm T) (hc : CTab W) => Shown_calls b bm T T1k W hw hTO hc hPI.out (by have := HKV.out; omega)
              rw [HSH] at hShow
              have hConf := fun W (hw : TBox W b bm T) (hc : CTab W) => Confirm_new b bm T VW W hw hTO hc hPI.out HVW.out.2.2.1 (by rw [HVW.out.1, hTI.out.1]; show ¬ k + 1 ≤ k; omega)
              obtain ⟨T2, hT2⟩ : ∃ T2, T2 = confT T VW := ⟨_, rfl⟩
              have hwr : wrongT T VW = false := by
                unfold wrongT
                rw [HVW.out.1, ← HKV.out, HSH, eqS_self]
                simp
              have HT2 := Lib.hid (show T2.k = ⟨viewL 0 S1.L, 0, k + 1⟩ ∧ T2.r = 0 ∧ (T2.f = fun _ => none) ∧ T2.n ≤ k + 1 ∧ T2.g = g ∧ T2.o = 0 ∧ T2.s = s' from by
                refine ⟨by rw [hT2]; exact HVW.out.2.1, by rw [hT2]; show T.r + (wrongT T VW).toNat = 0; rw [hwr, hTI.out.2.1]; rfl, by rw [hT2]; exact conf_none (m := g.df) hTI.out.2.2.2.1 HVW.out.1, by rw [hT2]; exact hTI.out.2.2.2.2.1, by rw [hT2]; exact hTI.out.2.2.2.2.2.1, by rw [hT2]; exact hTI.out.2.2.2.2.2.2.1, by rw [hT2]; exact hTI.out.2.2.2.2.2.2.2⟩)
              have hTO2 : TrOk T2 := ⟨by rw [hT2]; exact hTO.g, by rw [hT2]; exact hTO.o, by rw [hT2]; exact HVW.out.2.2.1.l, by rw [hT2]; exact HVW.out.2.2.1.o, by rw [hT2]; exact HVW.out.2.2.1.t, by rw [HT2.out.2.1]; omega, fun u v h => by rw [HT2.out.2.2.1] at h; cases h⟩
              have hPI2 : Hid (PredIs T2.g T2.s T2.o) := by rw [hT2]; exact hPI
              rw [← hT2] at hConf
              have hRl := fun W (h : TBox W b bm T2) => Rolls_calls b bm T2 W h
              rw [HT2.out.2.1, show (((0 : Nat) : Int)) = 0 from rfl] at hRl
              have hYB : ¬ Y = b ∧ ¬ Y = bm := ⟨by omega, by omega⟩
              have hKB : ¬ K1 = b ∧ ¬ K1 = bm := ⟨fun e => by have := HLK.out; omega, fun e => by have := HLK.out; omega⟩
              have eKs : IntKind.u32.wrap ((st.tk : Int) + 1) = (T1k : Int) := by rw [HTK.out]; exact eK
              have HSHW := Lib.hid HSH
              clear HSH hT2 hwr hlj hj r5 hs8 hwq
              go_wp2_with fail
              refine wp_region_held_drew (S := fun w' => BoxS w' Y st ∧ BoxS w' K1 S1) (by kernel_rfl) ?_ (fun hHeld => ?_)
              · exact ⟨hx, r4⟩
              refine wpAnyH_take (i := 0) (by simp only [List.getElem?_toArray]; rfl) (by kernel_rfl) (by kernel_rfl) (by kernel_rfl) (by exact fun _ _ _ h => h) (by exact yk (.pointer (some ⟨b, 0, none⟩)) (by kernel_rfl) (fun _ => by kernel_rfl)) hHeld ?_
              refine wpAnyH_take (i := 1) (by simp only [List.getElem?_toArray]; rfl) (by kernel_rfl) (by kernel_rfl) (by kernel_rfl) (by exact fun _ _ _ h => h) (by exact yk (.pointer (some ⟨Y, 98, none⟩)) (by kernel_rfl) (fun _ => by kernel_rfl)) hHeld ?_
              refine wpAnyH_take (i := 2) (by simp only [List.getElem?_toArray]; rfl) (by kernel_rfl) (by kernel_rfl) (by kernel_rfl) (by exact fun _ _ _ h => h) (by exact yk_ldW (by kernel_rfl) (.tmp 84) rfl ⟨Y, 98, none⟩ (.int .u32 (st.tk : Int)) (by kernel_rfl) (fun _ h => h.1.cK)) hHeld ?_
              refine wpAnyH_take (i := 3) (by simp only [List.getElem?_toArray]; rfl) (by kernel_rfl) (by kernel_rfl) (by kernel_rfl) (by exact fun _ _ _ h => h) (by exact yk_addW (by kernel_rfl) (.tmp 85) (.const (.int .u32 1)) rfl (st.tk : Int) 1 (T1k : Int) (by kernel_rfl) (by kernel_rfl) eKs) hHeld ?_
              refine wpAnyH_take (i := 5) (by simp only [List.getElem?_toArray]; rfl) (by kernel_rfl) (by kernel_rfl) (by kernel_rfl) (by exact fun _ _ _ h => h) (by exact yieldsIf_ldS (by kernel_rfl) (.tmp 12) rfl K1 (by kernel_rfl) (fun _ h => h.2)) hHeld ?_
              try simp only [Act.put, List.setIfInBounds_toArray, List.set_cons_zero, List.set_cons_succ]
              refine wpAnyH_ready (rs := [4]) (by kernel_rfl) (by simp) ?_
              refine AllReadyH.cons (by simp only [List.getElem?_toArray]; rfl) (fun KK hKK => ?_) AllReadyH.nil
              rw [if_pos (by kernel_rfl)]
              refine wp_callF 19 #[.pointer (some ⟨b, 0, none⟩), .int .u32 (T1k : Int)] (by kernel_rfl) ?_
              have hd0 : Below wr.heap.size wr wr.drew := below_drew (Below.refl _ _)
              refine (hShow _ (hB.ext hd0) (hT9.ext hd0)).mono ?_
              rintro e wf1 ⟨rfl, hBa, ha⟩
              have hbr := hd0.trans (ha.mono hd0.size)
              clear ha hd0
              refine ⟨_, rfl, ?_⟩
              refine hKK.out _ _ ?_ (fun hHeld => ?_)
              · exact ⟨hx.ext hbr, r4.ext hbr⟩
              clear hKK KK
              try simp only [Act.put, List.setIfInBounds_toArray, List.set_cons_zero, List.set_cons_succ]
              refine wpAnyH_ready (rs := [6]) (by kernel_rfl) (by simp) ?_
              refine AllReadyH.cons (by simp only [List.getElem?_toArray]; rfl) (fun KK hKK => ?_) AllReadyH.nil
              rw [if_pos (by kernel_rfl)]
              refine wp_callF 14 #[.agg (stA S1), .int .i64 0] (by kernel_rfl) ?_
              refine (hV2 _).mono ?_
              rintro e wf2 ⟨rfl, ha⟩
              have hBa := hBa.ext ha
              have hbr := hbr.trans (ha.mono hbr.size)
              clear ha
              refine ⟨_, rfl, ?_⟩
              refine hKK.out _ _ ?_ (fun hHeld => ?_)
              · exact ⟨hx.ext hbr, r4.ext hbr⟩
              clear hKK KK
              refine wpAnyH_take (i := 7) (by simp only [List.getElem?_toArray]; rfl) (by kernel_rfl) (by kernel_rfl) (by kernel_rfl) (by exact fun _ _ _ h => h) (by exact yk_neSt (by kernel_rfl) (.tmp 87) (.tmp 89) rfl VW (by kernel_rfl) (by kernel_rfl)) hHeld ?_
              refine wpAnyH_take (i := 8) (by simp only [List.getElem?_toArray]; rfl) (by kernel_rfl) (by kernel_rfl) (by kernel_rfl) (by exact fun _ _ _ h => h) (by exact yk (.bool false) (by kernel_rfl) (fun _ => by kernel_rfl)) hHeld ?_
              refine wpAnyH_take (i := 9) (by simp only [List.getElem?_toArray]; rfl) (by kernel_rfl) (by kernel_rfl) (by kernel_rfl) (by exact fun _ _ _ h => h) (by exact yk (.pointer (some ⟨b, 0, none⟩)) (by kernel_rfl) (fun _ => by kernel_rfl)) hHeld ?_
              refine wpAnyH_take (i := 10) (by simp only [List.getElem?_toArray]; rfl) (by kernel_rfl) (by kernel_rfl) (by kernel_rfl) (by exact fun _ _ _ h => h) (by exact yieldsIf_ldS (by kernel_rfl) (.tmp 12) rfl K1 (by kernel_rfl) (fun _ h => h.2)) hHeld ?_
              try simp only [Act.put, List.setIfInBounds_toArray, List.set_cons_zero, List.set_cons_succ]
              refine wpAnyH_ready (rs := [11]) (by kernel_rfl) (by simp) ?_
              refine AllReadyH.cons (by simp only [List.getElem?_toArray]; rfl) (fun KK hKK => ?_) AllReadyH.nil
              rw [if_pos (by kernel_rfl)]
              refine wp_callF 14 #[.agg (stA S1), .int .i64 0] (by kernel_rfl) ?_
              refine (hV2 _).mono ?_
              rintro e wf3 ⟨rfl, ha⟩
              have hBa := hBa.ext ha
              have hbr := hbr.trans (ha.mono hbr.size)
              clear ha
              refine ⟨_, rfl, ?_⟩
              refine hKK.out _ _ ?_ (fun hHeld => ?_)
              · exact ⟨hx.ext hbr, r4.ext hbr⟩
              clear hKK KK
              try simp only [Act.put, List.setIfInBounds_toArray, List.set_cons_zero, List.set_cons_succ]
              refine wpAnyH_ready (rs := [12]) (by kernel_rfl) (by simp) ?_
              refine AllReadyH.cons (by simp only [List.getElem?_toArray]; rfl) (fun KK hKK => ?_) AllReadyH.nil
              rw [if_pos (by kernel_rfl)]
              refine wp_callF 20 #[.pointer (some ⟨b, 0, none⟩), .agg (stA VW)] (by kernel_rfl) ?_
              refine (hConf _ hBa (hT9.ext hbr)).mono ?_
              rintro e wf4 ⟨rfl, hBc, hmc⟩
              have hxF := (hx.ext hbr).mod hmc (fun e => by rcases e with e | e; exact hYB.1 e; exact hYB.2 e)
              have r4F := (r4.ext hbr).mod hmc (fun e => by rcases e with e | e; exact hKB.1 e; exact hKB.2 e)
              have hMF := (mod_ext (S := fun i => i = b ∨ i = bm) hbr).trans hmc (fun _ _ e => e) (fun _ _ e => e)
              clear hmc hBa
              refine ⟨_, rfl, ?_⟩
              refine hKK.out _ _ ?_ (fun hHeld => ?_)
              · exact ⟨hxF, r4F⟩
              clear hKK KK
              refine wpAnyH_take (i := 13) (by simp only [List.getElem?_toArray]; rfl) (by kernel_rfl) (by kernel_rfl) (by kernel_rfl) (by exact fun _ _ _ h => h) (by exact yk_ne (by kernel_rfl) .i64 41 (.tmp 95) (.const (.int .i64 0)) _ rfl (0) (0) (by kernel_rfl) (by kernel_rfl) false (by rfl)) hHeld ?_
              refine wpAnyH_take (i := 14) (by simp only [List.getElem?_toArray]; rfl) (by kernel_rfl) (by kernel_rfl) (by kernel_rfl) (by exact fun _ _ _ h => h) (by exact yk (.bool false) (by kernel_rfl) (fun _ => by kernel_rfl)) hHeld ?_
              refine wpAnyH_take (i := 15) (by simp only [List.getElem?_toArray]; rfl) (by kernel_rfl) (by kernel_rfl) (by kernel_rfl) (by exact fun _ _ _ h => h) (by exact yk (.bool false) (by kernel_rfl) (fun _ => by kernel_rfl)) hHeld ?_
              refine wpAnyH_take (i := 16) (by simp only [List.getElem?_toArray]; rfl) (by kernel_rfl) (by kernel_rfl) (by kernel_rfl) (by exact fun _ _ _ h => h) (by exact yk (.pointer (some ⟨b, 0, none⟩)) (by kernel_rfl) (fun _ => by kernel_rfl)) hHeld ?_
              try simp only [Act.put, List.setIfInBounds_toArray, List.set_cons_zero, List.set_cons_succ]
              refine wpAnyH_ready (rs := [17]) (by kernel_rfl) (by simp) ?_
              refine AllReadyH.cons (by simp only [List.getElem?_toArray]; rfl) (fun KK hKK => ?_) AllReadyH.nil
              rw [if_pos (by kernel_rfl)]
              refine wp_callF 21 #[.pointer (some ⟨b, 0, none⟩)] (by kernel_rfl) ?_
              refine (hRl _ hBc).mono ?_
              rintro e wf5 ⟨rfl, hwf⟩
              have hBF : TBox wf5 b bm T2 := by rw [hwf]; exact hBc
              have hxF : BoxS wf5 Y st := by rw [hwf]; exact hxF
              have r4F : BoxS wf5 K1 S1 := by rw [hwf]; exact r4F
              have hMF : Mod (fun i => i = b ∨ i = bm) wr wf5 := by rw [hwf]; exact hMF
              clear hwf hBc
              refine ⟨_, rfl, ?_⟩
              refine hKK.out _ _ ?_ (fun hHeld => ?_)
              · exact ⟨hxF, r4F⟩
              clear hKK KK
              refine wpAnyH_take (i := 18) (by simp only [List.getElem?_toArray]; rfl) (by kernel_rfl) (by kernel_rfl) (by kernel_rfl) (by exact fun _ _ _ h => h) (by exact yk_ne (by kernel_rfl) .i64 3 (.tmp 100) (.const (.int .i64 0)) _ rfl (0) (0) (by kernel_rfl) (by kernel_rfl) false (by rfl)) hHeld ?_
              refine wpAnyH_take (i := 19) (by simp only [List.getElem?_toArray]; rfl) (by kernel_rfl) (by kernel_rfl) (by kernel_rfl) (by exact fun _ _ _ h => h) (by exact yk (.bool false) (by kernel_rfl) (fun _ => by kernel_rfl)) hHeld ?_
              refine wpAnyH_done (by kernel_rfl) ?_ _
              try simp only [Act.put, List.setIfInBounds_toArray, List.set_cons_zero, List.set_cons_succ]
              replace hx := hxF
              replace r4 := r4F
              replace hbe := hbe.trans (hMF.below hbe.size (fun i hi e => by have e : i = b ∨ i = bm := e; omega))
              go_wp2_with (first | ((with_reducible refine at_ld 40 12 ?_); refine wpList_ldS rfl (.tmp 12) rfl K1 rfl r4 ?_) | ((with_reducible refine at_st 40 7 103 ?_); refine wpList_stS rfl (.tmp 7) (.tmp 103) rfl Y S1 rfl rfl st hx ?_))
              have hTs2 := HT2.out.2.2.2.2.2.2
              have mS := mod_setRow wf5 Y (stA S1)
              go_roundw
              case rel => exact ⟨k + 1, S1, T2, by omega, by go_num, HE1.out.2.1, HE1.out.2.2.1, HE1.out.2.2.2, hx.row_ S1, hBF.mod mS (fun e => hYB.1 e.symm) (fun e => hYB.2 e.symm) (by rw [hTs2]; show ¬ s'.b = Y; omega) (by rw [hTs2]; show ¬ s'.b' = Y; omega), hTO2, hPI2, HT2, below_setRow hbe _ _ (by have := HY.out; omega)⟩
              case measure => simp [intOf]; omega
      · obtain rfl : k = 20 := by omega
        clear hlt hk
        go_wp2_with fail
        go_ret
        exact ⟨rfl, hbw⟩
end Go.Proofs.YtnbbglhpjpebhaaDoor
