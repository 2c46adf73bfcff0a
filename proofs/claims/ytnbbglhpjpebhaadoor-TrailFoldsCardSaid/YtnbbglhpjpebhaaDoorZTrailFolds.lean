/- TrailFolds: the walk. Conditions: the numbers fit; the table lies. -/
import Derived.Test.YtnbbglhpjpebhaaDoorZTrQ
import Derived.Test.YtnbbglhpjpebhaaDoorZTrBase11
namespace Go.Proofs.YtnbbglhpjpebhaaDoor
open Go.RowKit
set_option linter.unusedVariables false
theorem at_bsS {P : Program} {ops : Array Oper} {rest : List Oper} {a : Act} {w : World} {Q : Exit → Act → World → Prop} {d : Option Tmp} {ty : TypeId} {pos : String} {af : Array Edge} {g : Option (Nat × Bool)} (T : TypeId) (n : Nat) (l : Array (Nat × Operand)) (h : wpList P ops Q (Oper.mk d (.buildSlice T n l) ty pos af g :: rest) a w) : wpList P ops Q (Oper.mk d (.buildSlice T n l) ty pos af g :: rest) a w := h
theorem wp_ldRow {o : Oper} {a : Act} {w : World} {Q : Exit → Act → World → Prop} {K : Act → World → Prop} (x : Operand) (ho : o.op = .load 40 x) (b off : Nat) (s : St) (hx : a.eval x = .pointer (some ⟨b, off, none⟩)) (h : w.rangeAt b off (stL s)) (k : K (a.put o.dst (.agg (stA s))) w) : o.wp Tryd.prog a w K Q :=
  wp_load_mid _ x ho b off hx _ _ h Tryd.underlying40 rfl (st_size _) k
theorem ownS_ext {w w' : World} {B n sz : Nat} {e : TypeId} {v : Value} {xs : List Value} (h : w.ownsRow B e sz v n xs) (hb : Below w.heap.size w w') : w'.ownsRow B e sz v n xs := by
  refine ⟨h.1, ?_⟩
  rcases h.2 with h2 | ⟨g, cap, cur, hv, hB, hh, r⟩
  · exact .inl h2
  · exact .inr ⟨g, cap, cur, hv, hB, (hb.block g (Array.getElem?_eq_some_iff.1 hh).1).trans hh, r⟩
theorem range_ext {w w' : World} {b off : Nat} {cs : List Value} (h : Below w.heap.size w w') (hr : w.rangeAt b off cs) : w'.rangeAt b off cs := fun j v hv => sl_same h (hr j v hv)
theorem shown0 {T : Tr} (h : T.k.tk = 0) (q : Nat) : shown T q = shN T (min q 16) := by
  unfold shown
  rw [h]
  rfl
theorem last0 {T : Tr} {L : Nat} (h : LastIs T L) (hk : T.k.tk = 0) (hf : T.f = fun _ => none) : L = 0 := by
  obtain ⟨h1, h2, h3, h4⟩ := h
  rcases h3 with h3 | h3
  · rw [h3, hk]
  · rw [hf] at h3; cases h3
set_option maxHeartbeats 16000000 in
set_option maxRecDepth 20000 in
theorem TrailFolds_walk (g0 : Gm) (s0 : Gs) (sd : Nat) (o : Int) (NA : Option Addr) (N : List UInt8) (nn nc nb : Nat) (w : World) (hT : CTab w) (hr0 : GRaw g0 s0) (hi0 : GIn w g0 s0) (hsd : sd ≤ 18446744073709551615) (hoo : -9223372036854775808 ≤ o ∧ o ≤ 9223372036854775807) (hN0 : Bs w nb NA N) (hnl : N.length = nn) (hnm : nn ≤ maxLen) :
    Calls Tryd.prog 7 #[.agg (gmA g0 s0), .int .u64 (sd : Int), .int .i64 o, .slice NA nn nc] w fun e w' => e = .returned (.bool true) ∧ Below w.heap.size w w' := by
  have hb := below_alloc1 w (.cells (gmA g0 s0) 26)
  have hG := GBox.new_ w g0 s0

  have hi := hi0.ext hb
  have hA := awakeT_calls _ (hT.ext hb)
  clear hi0
  go_enter Tryd.func7, Tryd.ntmps7
  go_wp2_with fail
  refine hA.mono ?_
  rintro e w1 ⟨rfl, h1⟩
  replace hG := hG.ext h1
  replace hi := hi.ext h1
  replace hb := hb.trans (h1.mono hb.size)
  have hw1s : w.heap.size < w1.heap.size := hG.lt
  clear hA h1
  have hF := FewG_calls g0 s0 w1 hi hr0
  have z0 := hG.c0
  have z1 := hG.c1
  have z2 := hG.c2
  have z3 := hG.c3
  have z4 := hG.c4
  have z5 := hG.c5
  go_wp2_with fail
  refine hF.mono ?_
  rintro e w2 ⟨s, rfl, hi2, hok, hsb, h1⟩
  obtain ⟨g, hg⟩ : ∃ g, g = fewG g0 := ⟨_, rfl⟩
  rw [← hg] at hi2 hok ⊢
  replace hG := hG.ext h1
  replace hb := hb.trans (h1.mono hb.size)
  clear hF h1 hg hi z0 z1 z2 z3 z4 z5
  have z0 := hG.c0
  have z1 := hG.c1
  have z2 := hG.c2
  have z3 := hG.c3
  have z4 := hG.c4
  have z5 := hG.c5
  have hfz := hG.free
  go_upto_region 4 with fail
  obtain ⟨h9, m9⟩ := six_set6 (.int .i64 g.ob) (.int .i64 g.pl) (.int .u32 (g.mv : Int)) (.int .u32 (g.df : Int)) (.slice s.A g.L.length s.c) (.slice s.A' g.K.length s.c') hG
  obtain ⟨w3, hw3⟩ : ∃ w3, w3 = ((((((w2.setCell ⟨w.heap.size, 0, none⟩ (.int .i64 g.ob)).setCell ⟨w.heap.size, 1, none⟩ (.int .i64 g.pl)).setCell ⟨w.heap.size, 2, none⟩ (.int .u32 (g.mv : Int))).setCell ⟨w.heap.size, 3, none⟩ (.int .u32 (g.df : Int))).setCell ⟨w.heap.size, 4, none⟩ (.slice s.A g.L.length s.c)).setCell ⟨w.heap.size, 5, none⟩ (.slice s.A' g.K.length s.c')) := ⟨_, rfl⟩
  rw [← hw3] at h9 m9 ⊢
  have hb3 : Below w.heap.size w w3 := hb.trans (m9.below hb.size (fun i hi e => by have e : i = w.heap.size := e; omega))

  replace hi2 : GIn w3 g s := gin_mod1 hi2 m9 hsb.1 hsb.2 hw1s
  have hG : GBox w3 w.heap.size g s := h9
  clear hw3 h9 m9 hb hfz z0 z1 z2 z3 z4 z5
  obtain ⟨R, hRr⟩ : ∃ R, R = rightB g := ⟨_, rfl⟩
  have HR := Lib.hid hRr
  have hRt := GRight_calls g s w3 hi2 hok (hT.ext hb3)
  rw [← hRr] at hRt
  have z0 := hG.c0
  have z1 := hG.c1
  have z2 := hG.c2
  have z3 := hG.c3
  have z4 := hG.c4
  have z5 := hG.c5
  go_wp2_with fail
  refine hRt.mono ?_
  rintro e w4 ⟨rfl, h1⟩
  replace hG := hG.ext h1
  replace hi2 := hi2.ext h1
  replace hb3 := hb3.trans (h1.mono hb3.size)
  clear hRt h1 z0 z1 z2 z3 z4 z5
  cases R with
  | false =>
    clear hRr
    go_wp2_with fail
    go_ret
    exact ⟨rfl, hb3⟩
  | true =>
    have h48 := right48 hRr.symm
    clear hRr
    have z0 := hG.c0
    have z1 := hG.c1
    have z2 := hG.c2
    have z3 := hG.c3
    have z4 := hG.c4
    have z5 := hG.c5
    have hS := Start_good g s sd [] none 0 w4 hi2 hok (hT.ext hb3) 0 (Sl.nil_ _ _ _) (by simp [maxLen]) (fun x hx => by cases hx) HR.out.symm
    obtain ⟨C, hC⟩ : ∃ C, C = startC g [] := ⟨_, rfl⟩
    rw [← hC] at hS
    have HC := Lib.hid hC
    clear hC
    go_wp2_with fail
    refine hS.mono ?_
    rintro e w5 ⟨rfl, h1⟩
    replace hG := hG.ext h1
    replace hi2 := hi2.ext h1
    replace hb3 := hb3.trans (h1.mono hb3.size)
    clear hS h1 z0 z1 z2 z3 z4 z5
    go_upto_region 7 with (first | ((with_reducible refine at_al 40 9 ?_); refine wpList_alS rfl rfl (some 9) rfl w5.heap.size rfl ?_) | ((with_reducible refine at_st 40 9 26 ?_); refine wpList_stS rfl (.tmp 9) (.tmp 26) rfl w5.heap.size ⟨C, sd, 0⟩ rfl rfl zSt (BoxS.new_ _ _) ?_))
    rw [made_row]
    have h1 := below_alloc1 w5 (.cells (stA ⟨C, sd, 0⟩) 40)
    have hx := BoxS.new_ w5 ⟨C, sd, 0⟩
    obtain ⟨Y, hY⟩ : ∃ Y, Y = w5.heap.size := ⟨_, rfl⟩
    obtain ⟨w6, hw5⟩ : ∃ w6, w6 = w5.alloc (.cells (stA ⟨C, sd, 0⟩) 40) := ⟨_, rfl⟩
    rw [← hw5] at h1 hx ⊢
    rw [← hY] at hx ⊢
    have HY := Lib.hid hY
    clear hw5 hY
    have hi5 := hi2
    have hG5 := hG
    have hb5 := hb3
    have hbe := h1
    have h56 := h1.size
    replace hG := hG.ext h1
    replace hi2 := hi2.ext h1
    replace hb3 := hb3.trans (h1.mono hb3.size)
    have hG6 := Lib.hid (show w.heap.size + 0 < w6.heap.size from hG.lt)
    clear h1
    have oC : okC C := by rw [HC.out]; exact stK_ok _ hok.oL (fun x hx => by cases hx)
    have lC : C.length ≤ 48 := by rw [HC.out]; simp [startC]; exact h48
    have hN := New_calls g s o w6 hi2 hok
    have z0 := hG.c0
    have z1 := hG.c1
    have z2 := hG.c2
    have z3 := hG.c3
    have z4 := hG.c4
    have z5 := hG.c5
    go_wp2_with fail
    refine hN.mono ?_
    rintro e w7 ⟨b, bm, s', rfl, hB, hok', l1, l2, l3, l4, h1⟩
    have hY6 : Y < w6.heap.size := hx.lt
    replace hG := hG.ext h1
    replace hi2 := hi2.ext h1
    replace hb3 := hb3.trans (h1.mono hb3.size)
    replace hx := hx.ext h1
    replace hbe := hbe.trans (h1.mono hbe.size)
    have h79' := h1.size
    clear hN h1 z0 z1 z2 z3 z4 z5
    have hV := StView_calls ⟨C, sd, 0⟩ o w7 lC oC
    go_wp2_with ((with_reducible refine at_ld 40 9 ?_); refine wpList_ldS rfl (.tmp 9) rfl Y rfl hx ?_)
    refine hV.mono ?_
    rintro e w8 ⟨rfl, h1⟩
    replace hG := hG.ext h1
    replace hi2 := hi2.ext h1
    replace hb3 := hb3.trans (h1.mono hb3.size)
    replace hx := hx.ext h1
    replace hbe := hbe.trans (h1.mono hbe.size)
    replace hB := hB.ext h1
    have h79 := h1.size
    clear hV h1
    have hR := Reset_calls b bm _ ⟨viewL o C, 0, 0⟩ w8 hB
    go_wp2_with fail
    refine hR.mono ?_
    rintro e w9 ⟨rfl, hBt, m9⟩
    replace hx := hx.mod m9 (by show ¬ (Y = b ∨ Y = bm); omega)
    have hg9 : w.heap.size < w6.heap.size := by have := hG6.out; omega
    replace hG := (m9.block w.heap.size hG.lt (by show ¬ (w.heap.size = b ∨ w.heap.size = bm); omega)).trans hG

    replace hb3 := hb3.trans (m9.below hb3.size (fun i hi e => by have e : i = b ∨ i = bm := e; omega))
    replace hbe := hbe.trans (m9.below hbe.size (fun i hi e => by have e : i = b ∨ i = bm := e; omega))
    obtain ⟨T, hT0⟩ : ∃ T, T = resT ⟨g, s', o, zSt, 0, 0, fun _ => none⟩ ⟨viewL o C, 0, 0⟩ := ⟨_, rfl⟩
    rw [← hT0] at hBt
    have ok0 : TrOk T := by
      rw [hT0]
      exact ⟨hok', (by show (-9223372036854775808 : Int) ≤ o ∧ o ≤ 9223372036854775807; omega), by simp only [resT, viewL_length]; exact lC, okC_view oC o, (by simp [resT]), (by simp [resT]), (fun u v h => by cases h)⟩
    have eg : T.g = g := by rw [hT0]; rfl
    have es : T.s = s' := by rw [hT0]; rfl
    have eo : T.o = o := by rw [hT0]; rfl
    have ek : T.k = ⟨viewL o C, 0, 0⟩ := by rw [hT0]; rfl
    have ef : T.f = fun _ => none := by rw [hT0]; rfl
    have er : T.r = 0 := by rw [hT0]; rfl
    have en : T.n = 0 := by rw [hT0]; rfl
    have hP : PredIs T.g T.s T.o := by
      rw [eg, es, eo]
      exact pred_right hok' (by show (-9223372036854775808 : Int) ≤ o ∧ o ≤ 9223372036854775807; omega) HR.out.symm
    have HOK := Lib.hid (And.intro ok0 hP)
    have hTsb : T.s.b < w9.heap.size ∧ T.s.b' < w9.heap.size := by
      rw [es]
      have := m9.size
      have := h79
      omega
    have HES := Lib.hid es
    have HEQ := Lib.hid (And.intro eg (And.intro eo (And.intro ek (And.intro ef (And.intro er en)))))
    have HCC := Lib.hid (And.intro oC lC)
    clear hR hB m9 hT0 ok0 eg es eo ek ef er en hP oC lC
    have hG : GBox w9 w.heap.size g s := hG
    have hPg : PredIs g s o := pred_right hok hoo HR.out.symm
    have hin9 := hi5.ext hbe
    have hV := StView_calls ⟨C, sd, 0⟩ o w9 HCC.out.2 HCC.out.1
    obtain ⟨X0, hX0⟩ : ∃ X0 : St, X0 = ⟨viewL o C, 0, 0⟩ := ⟨_, rfl⟩
    rw [show (⟨viewL o (⟨C, sd, 0⟩ : St).L, 0, (⟨C, sd, 0⟩ : St).tk⟩ : St) = X0 from hX0.symm] at hV
    have hk0 : T.k = X0 := by rw [HEQ.out.2.2.1, hX0]
    have HK0 := Lib.hid (show T.k.tk = 0 by rw [HEQ.out.2.2.1])
    have HNL := Lib.hid hnl
    clear hX0 hnl h48 HC hi2 hg9 h79 h79' hTsb
    go_wp2_with ((with_reducible refine at_ld 40 9 ?_); refine wpList_ldS rfl (.tmp 9) rfl Y rfl hx ?_)
    refine hV.mono ?_
    rintro e wa ⟨rfl, h1⟩
    replace hG := hG.ext h1
    replace hin9 := hin9.ext h1
    replace hBt := hBt.ext h1
    replace hb3 := hb3.trans (h1.mono hb3.size)
    clear hV h1 hx hbe
    go_wp2_with ((with_reducible refine at_bsS _ 1 _ ?_); refine wpList_bsS rfl (.tmp 38) X0 rfl rfl ?_)
    have h1 := below_alloc1 wa (.cells (stA X0) 40)
    have hrow : World.ownsRow (wa.alloc (.cells (stA X0) 40)) wa.heap.size 40 99 (.slice (some ⟨wa.heap.size, 0, none⟩) 1 1) 1 (stsL [X0]) := by
      have e : (stA X0).toList = stsL [X0] := by simp [stA, stsL]
      exact ⟨by rw [stsL_len]; rfl, .inr ⟨wa.heap.size, 1, stA X0, rfl, Nat.le_refl _, heap_alloc_new wa _, Nat.le_refl _, by simp [maxLen], by rw [stA_size], by rw [e, List.take_of_length_le (by rw [stsL_len]; simp)]⟩⟩
    obtain ⟨w10, hw10⟩ : ∃ w10, w10 = wa := ⟨_, rfl⟩
    rw [← hw10] at h1 hrow hG hin9 hBt hb3 ⊢
    clear hw10
    have hgl : w.heap.size < w10.heap.size := hG.lt
    go_loopw [12, 40] (fun v i wr => ∃ (k : Nat) (l : List St), k ≤ 16 ∧ i = .int .i64 k ∧ Hid (∀ j (h : j < l.length), l[j] = shN T j) ∧ l.length = k + 1 ∧ wr.ownsRow w10.heap.size 40 99 v (k + 1) (stsL l) ∧ Below w10.heap.size w10 wr) (fun _ i _ => 16 - (intOf i).toNat)
    case atStart => exact ⟨0, [X0], by omega, rfl, Lib.hid (fun j h => by
      have : j = 0 := by simpa using h
      subst this
      exact hk0.symm), rfl, hrow, h1⟩
    case round =>
      clear hrow h1
      obtain ⟨k, l, hk, rfl, hall, hl, hrow, hbe⟩ := hrel
      obtain ⟨A9, c9, b9, rfl, hnc9, hB9, hs9, hk9⟩ := own_slG hrow
      obtain ⟨off, rfl⟩ : ∃ off, A9 = some ⟨b9, off, none⟩ := by
        obtain ⟨off, e, _⟩ := hs9 (by intro e; have h9 := congrArg List.length e; rw [stsL_len] at h9; simp at h9; omega)
        exact ⟨off, e⟩
      obtain ⟨K1, hK1⟩ : ∃ K1, K1 = k + 1 := ⟨_, rfl⟩
      rw [← hK1] at hrow hl hnc9 hk9 ⊢
      have hl9 := hl
      by_cases hlt : k < 16
      · have ej : (k : Int) < 16 := by omega
        have eS : IntKind.i64.wrap ((K1 : Int) - 1) = (k : Int) := by rw [show (K1 : Int) - 1 = (k : Int) by omega]; exact IntWalk.i64_in _ (by omega)
        have eI : (k : Int) < (K1 : Int) := by omega
        have hkl : k < l.length := by omega
        have hra := sts_range hs9 hkl
        have hxk : StOk (shN T k) := shN_ok HOK.out.1 k
        rw [hall.out k hkl] at hra
        have hdf : g.df ≤ 4294967295 := hok.d1
        have hnx : shN T (k + 1) = predS g o g.df (shN T k) := by
          show predS T.g T.o ((T.f (T.k.tk + k + 1)).getD T.g.df) (shN T k) = _
          rw [HEQ.out.1, HEQ.out.2.1, HEQ.out.2.2.2.1]
          rfl
        have HNX := Lib.hid hnx
        have HAL := Lib.hid (show ∀ j (h : j < (l ++ [shN T (k + 1)]).length), (l ++ [shN T (k + 1)])[j] = shN T j from fun j h => by
          by_cases e : j < l.length
          · rw [List.getElem_append_left e]; exact hall.out j e
          · have : j = k + 1 := by simp at h; omega
            subst this
            rw [List.getElem_append_right (by omega)]
            simp [hl, hK1])
        have hlen : (l ++ [shN T (k + 1)]).length = k + 1 + 1 := by simp; omega
        have HK1 := Lib.hid hK1
        clear hnx hall hlt hl hK1 hnc9
        go_upto_region 12 with fail
        refine wp_region_held_drew (S := fun w' => Below w10.heap.size w10 w') (by kernel_rfl) ?_ (fun hHeld => ?_)
        · exact (below_drew hbe)
        refine wpAnyH_take (i := 0) (by simp only [List.getElem?_toArray]; rfl) (by kernel_rfl) (by kernel_rfl) (by kernel_rfl) (by exact fun _ _ _ h => h) (by exact yk (.slice (some ⟨b9, off, none⟩) K1 c9) (by kernel_rfl) (fun _ => by kernel_rfl)) hHeld ?_
        refine wpAnyH_take (i := 1) (by simp only [List.getElem?_toArray]; rfl) (by kernel_rfl) (by kernel_rfl) (by kernel_rfl) (by exact fun _ _ _ h => h) (by exact yk_ldG (by kernel_rfl) (.tmp 4) rfl w.heap.size g s (by kernel_rfl) (fun _ h => hG.below h hgl)) hHeld ?_
        refine wpAnyH_take (i := 2) (by simp only [List.getElem?_toArray]; rfl) (by kernel_rfl) (by kernel_rfl) (by kernel_rfl) (by exact fun _ _ _ h => h) (by exact yk (.slice (some ⟨b9, off, none⟩) K1 c9) (by kernel_rfl) (fun _ => by kernel_rfl)) hHeld ?_
        refine wpAnyH_take (i := 3) (by simp only [List.getElem?_toArray]; rfl) (by kernel_rfl) (by kernel_rfl) (by kernel_rfl) (by exact fun _ _ _ h => h) (by exact yk (.slice (some ⟨b9, off, none⟩) K1 c9) (by kernel_rfl) (fun _ => by kernel_rfl)) hHeld ?_
        refine wpAnyH_take (i := 4) (by simp only [List.getElem?_toArray]; rfl) (by kernel_rfl) (by kernel_rfl) (by kernel_rfl) (by exact fun _ _ _ h => h) (by exact yk (.int .i64 (K1 : Int)) (by kernel_rfl) (fun _ => by kernel_rfl)) hHeld ?_
        refine wpAnyH_take (i := 5) (by simp only [List.getElem?_toArray]; rfl) (by kernel_rfl) (by kernel_rfl) (by kernel_rfl) (by exact fun _ _ _ h => h) (by exact yk_subI (by kernel_rfl) (.tmp 46) (.const (.int .i64 1)) rfl (K1 : Int) 1 (k : Int) (by kernel_rfl) (by kernel_rfl) eS) hHeld ?_
        refine wpAnyH_take (i := 6) (by simp only [List.getElem?_toArray]; rfl) (by kernel_rfl) (by kernel_rfl) (by kernel_rfl) (by exact fun _ _ _ h => h) (by exact yk_ixS (by kernel_rfl) (.tmp 44) (.tmp 47) rfl b9 off K1 c9 k (by kernel_rfl) (by kernel_rfl) eI) hHeld ?_
        refine wpAnyH_take (i := 8) (by simp only [List.getElem?_toArray]; rfl) (by kernel_rfl) (by kernel_rfl) (by kernel_rfl) (by exact fun _ _ _ h => h) (by exact yk (.int .i64 o) (by kernel_rfl) (fun _ => by kernel_rfl)) hHeld ?_
        refine wpAnyH_take (i := 9) (by simp only [List.getElem?_toArray]; rfl) (by kernel_rfl) (by kernel_rfl) (by kernel_rfl) (by exact fun _ _ _ h => h) (by exact yk (.pointer (some ⟨w.heap.size, 3, none⟩)) (by kernel_rfl) (fun _ => by kernel_rfl)) hHeld ?_
        refine wpAnyH_take (i := 10) (by simp only [List.getElem?_toArray]; rfl) (by kernel_rfl) (by kernel_rfl) (by kernel_rfl) (by exact fun _ _ _ h => h) (by exact yk_ldW (by kernel_rfl) (.tmp 51) rfl ⟨w.heap.size, 3, none⟩ (.int .u32 (g.df : Int)) (by kernel_rfl) (fun _ h => (hG.below h hgl).c3)) hHeld ?_
        try simp only [Act.put, List.setIfInBounds_toArray, List.set_cons_zero, List.set_cons_succ]
        refine wpAnyH_ready (rs := [7]) (by kernel_rfl) (by simp) ?_
        refine AllReadyH.cons (by simp only [List.getElem?_toArray]; rfl) (fun KK hKK => ?_) AllReadyH.nil
        rw [if_pos (by kernel_rfl)]
        refine wp_ldRow (.tmp 48) rfl b9 (off + k * 99) (shN T k) (by kernel_rfl) hra ?_
        refine hKK.out _ _ ?_ (fun hHeld => ?_)
        · exact (below_drew hbe)
        clear hKK KK
        try simp only [Act.put, List.setIfInBounds_toArray, List.set_cons_zero, List.set_cons_succ]
        refine wpAnyH_ready (rs := [11]) (by kernel_rfl) (by simp) ?_
        refine AllReadyH.cons (by simp only [List.getElem?_toArray]; rfl) (fun KK hKK => ?_) AllReadyH.nil
        rw [if_pos (by kernel_rfl)]
        have hbd : Below w10.heap.size w10 wr.drew := below_drew hbe
        refine wp_callF 28 #[.agg (gmA g s), .agg (stA (shN T k)), .int .i64 o, .int .u32 (g.df : Int)] (by kernel_rfl) ?_
        refine (hPg (shN T k) g.df _ hxk hdf (hin9.ext hbd) (hT.ext (hb3.trans (hbd.mono hb3.size)))).mono ?_
        rintro e we1 ⟨rfl, ha⟩
        rw [← HNX.out]
        have hrow1 := ownS_ext (ownS_ext hrow (below_drew (Below.refl _ _))) ha
        have hb1 := hbd.trans (ha.mono hbd.size)
        clear ha hbd
        refine ⟨_, rfl, ?_⟩
        refine hKK.out _ _ ?_ (fun hHeld => ?_)
        · exact hb1
        clear hKK KK
        try simp only [Act.put, List.setIfInBounds_toArray, List.set_cons_zero, List.set_cons_succ]
        refine wpAnyH_ready (rs := [12]) (by kernel_rfl) (by simp) ?_
        refine AllReadyH.cons (by simp only [List.getElem?_toArray]; rfl) (fun KK hKK => ?_) AllReadyH.nil
        rw [if_pos (by kernel_rfl)]
        refine wp_bsS (.tmp 53) (shN T (k + 1)) rfl (by kernel_rfl) ?_
        have h2 := below_alloc1 we1 (.cells (stA (shN T (k + 1))) 40)
        have hrow2 := ownS_ext hrow1 h2
        have hs2 : Sl (we1.alloc (.cells (stA (shN T (k + 1))) 40)) we1.heap.size (some ⟨we1.heap.size, 0, none⟩) (stL (shN T (k + 1))) := by
          have h := Sl.cells_new we1 (stA (shN T (k + 1))) 40
          have e : (stA (shN T (k + 1))).toList = stL (shN T (k + 1)) := by simp [stA]
          rw [e] at h
          exact h
        have hb2 := hb1.trans (h2.mono hb1.size)
        refine hKK.out _ _ ?_ (fun hHeld => ?_)
        · exact hb2
        clear hKK KK
        try simp only [Act.put, List.setIfInBounds_toArray, List.set_cons_zero, List.set_cons_succ]
        refine wpAnyH_ready (rs := [13]) (by kernel_rfl) (by simp) ?_
        refine AllReadyH.cons (by simp only [List.getElem?_toArray]; rfl) (fun KK hKK => ?_) AllReadyH.nil
        rw [if_pos (by kernel_rfl)]
        refine wp_appSt (.tmp 42) (.tmp 54) rfl w10.heap.size K1 _ l (by kernel_rfl) hrow2 we1.heap.size (some ⟨we1.heap.size, 0, none⟩) (shN T (k + 1)) (by kernel_rfl) hs2 (by have := HK1.out; omega) hb2.size ?_
        intro vz wz hrowz hgz hvz
        have hbz := hb2.trans ((Mod.of_grown hgz).below hb2.size (fun i hi e => by have := hk9 i e; omega))
        refine hKK.out _ _ ?_ (fun hHeld => ?_)
        · exact hbz
        clear hKK KK
        refine wpAnyH_take (i := 14) (by simp only [List.getElem?_toArray]; rfl) (by kernel_rfl) (by kernel_rfl) (by kernel_rfl) (by exact fun _ _ _ h => h) (by exact yk (vz) (by kernel_rfl) (fun _ => by kernel_rfl)) hHeld ?_
        refine wpAnyH_done (by kernel_rfl) ?_ _
        try simp only [Act.put, List.setIfInBounds_toArray, List.set_cons_zero, List.set_cons_succ]
        have HB3' := hbz
        go_wp2_with fail
        go_roundw
        case rel => exact ⟨k + 1, l ++ [shN T (k + 1)], by omega, by go_num, HAL, hlen, by have h9 := hrowz; rw [HK1.out] at h9; exact h9, hbz⟩
        case measure => simp [intOf]; omega
      · obtain rfl : k = 16 := by omega
        have hBm := hBt.ext hbe
        have hb3m := hb3.trans (hbe.mono hb3.size)
        obtain ⟨wM, hwM⟩ : ∃ wM, wM = wr := ⟨_, rfl⟩
        rw [← hwM] at hs9 hBm hb3m ⊢
        have hl17 : l.length = 17 := by omega
        obtain rfl : K1 = 17 := by omega
        have hBs := hN0
        have hnb : nn ≤ 9223372036854775807 := by
          have h9 := hnm
          simp only [maxLen] at h9
          omega
        have HHF := Lib.hid (And.intro HOK.out.1 HOK.out.2)
        have hSh := fun (q : Nat) (hq : q ≤ 4294967295) W (hw : TBox W b bm T) (hc : CTab W) => Shown_calls b bm T q W hw HHF.out.1 hc HHF.out.2 hq
        clear hwM hrow hbe hlt hk hl hl9 hk9 hK1
        go_wp2_with fail
        go_loopw [59] (fun i wr => ∃ j : Nat, j ≤ nn ∧ i = .int .i64 j ∧ Below wM.heap.size wM wr) (fun i _ => nn - (intOf i).toNat)
        case atStart => exact ⟨0, Nat.zero_le _, rfl, Below.refl _ _⟩
        case round =>
          obtain ⟨j, hj, rfl, hbj⟩ := hrel
          have hBj := hBm.ext hbj
          have hsj := Sl.ext hs9 hbj
          have hbw := hb3m.trans (hbj.mono hb3m.size)
          have hTj := hT.ext hbw
          by_cases hlj : j < nn
          · have ejj : (j : Int) < (nn : Int) := by omega
            have hjN : j < N.length := by rw [HNL.out]; exact hlj
            obtain ⟨offN, hAN, hcN⟩ := Bs.at_ (Sl.ext hBs hbw) hjN
            subst hAN
            have hcN := hcN j hjN
            obtain ⟨kb, hkb⟩ : ∃ kb, kb = (N[j]).toNat := ⟨_, rfl⟩
            rw [← hkb] at hcN
            clear hkb hjN
            go_upto_region 17 with fail
            clear hcN
            by_cases h20 : j < 20
            · have ed : decide ((j : Int) < 20) = true := by simp; omega
              obtain ⟨q, hq⟩ : ∃ q, q = kb % 20 := ⟨_, rfl⟩
              have eq1 : (kb : Int) % 20 = (q : Int) := by omega
              have hq20 : q < 20 := by omega
              obtain ⟨r, hr⟩ : ∃ r, r = min q 16 := ⟨_, rfl⟩
              have hr17 : r < 17 := by omega
              have hri : (r : Int) < ((17 : Nat) : Int) := by omega
              have hrl : r < l.length := by omega
              have hra := sts_range hsj hrl
              have hShq := hSh q (by omega)
              rw [shown0 HK0.out q, ← hr] at hShq
              rw [hall.out r hrl] at hra
              have hXr := (shN_ok HHF.out.1 r).l
              obtain ⟨X, hX⟩ : ∃ X, X = shN T r := ⟨_, rfl⟩
              rw [← hX] at hShq hra hXr
              clear hX hq h20
              refine wp_region_held_drew (S := fun w' => Below wr.heap.size wr w') (by kernel_rfl) ?_ (fun hHeld => ?_)
              · exact below_drew (Below.refl _ _)
              refine wpAnyH_take (i := 0) (by simp only [List.getElem?_toArray]; rfl) (by kernel_rfl) (by kernel_rfl) (by kernel_rfl) (by exact fun _ _ _ h => h) (by exact yk (.int .i64 (j : Int)) (by kernel_rfl) (fun _ => by kernel_rfl)) hHeld ?_
              refine wpAnyH_take (i := 1) (by simp only [List.getElem?_toArray]; rfl) (by kernel_rfl) (by kernel_rfl) (by kernel_rfl) (by exact fun _ _ _ h => h) (by exact yk_lss (by kernel_rfl) (.tmp 64) (.const (.int .i64 20)) rfl (j : Int) 20 (by kernel_rfl) (by kernel_rfl) true ed) hHeld ?_
              refine wpAnyH_take (i := 2) (by simp only [List.getElem?_toArray]; rfl) (by kernel_rfl) (by kernel_rfl) (by kernel_rfl) (by exact fun _ _ _ h => h) (by exact yk (.bool true) (by kernel_rfl) (fun _ => by kernel_rfl)) hHeld ?_
              refine wpAnyH_take (i := 3) (by simp only [List.getElem?_toArray]; rfl) (by kernel_rfl) (by kernel_rfl) (by kernel_rfl) (by exact fun _ _ _ h => h) (by exact yk (.pointer (some ⟨b, 0, none⟩)) (by kernel_rfl) (fun _ => by kernel_rfl)) hHeld ?_
              refine wpAnyH_take (i := 4) (by simp only [List.getElem?_toArray]; rfl) (by kernel_rfl) (by kernel_rfl) (by kernel_rfl) (by exact fun _ _ _ h => h) (by exact yk (.int .u8 (kb : Int)) (by kernel_rfl) (fun _ => by kernel_rfl)) hHeld ?_
              refine wpAnyH_take (i := 5) (by simp only [List.getElem?_toArray]; rfl) (by kernel_rfl) (by kernel_rfl) (by kernel_rfl) (by exact fun _ _ _ h => h) (by exact yk_rem20 (by kernel_rfl) (.tmp 68) rfl kb q (by kernel_rfl) eq1) hHeld ?_
              refine wpAnyH_take (i := 6) (by simp only [List.getElem?_toArray]; rfl) (by kernel_rfl) (by kernel_rfl) (by kernel_rfl) (by exact fun _ _ _ h => h) (by exact yk_cvU (by kernel_rfl) (.tmp 69) rfl q (by kernel_rfl) hq20) hHeld ?_
              refine wpAnyH_take (i := 8) (by simp only [List.getElem?_toArray]; rfl) (by kernel_rfl) (by kernel_rfl) (by kernel_rfl) (by exact fun _ _ _ h => h) (by exact yk (.slice (some ⟨b9, off, none⟩) 17 c9) (by kernel_rfl) (fun _ => by kernel_rfl)) hHeld ?_
              refine wpAnyH_take (i := 9) (by simp only [List.getElem?_toArray]; rfl) (by kernel_rfl) (by kernel_rfl) (by kernel_rfl) (by exact fun _ _ _ h => h) (by exact yk (.int .u8 (kb : Int)) (by kernel_rfl) (fun _ => by kernel_rfl)) hHeld ?_
              refine wpAnyH_take (i := 10) (by simp only [List.getElem?_toArray]; rfl) (by kernel_rfl) (by kernel_rfl) (by kernel_rfl) (by exact fun _ _ _ h => h) (by exact yk_rem20 (by kernel_rfl) (.tmp 73) rfl kb q (by kernel_rfl) eq1) hHeld ?_
              refine wpAnyH_take (i := 11) (by simp only [List.getElem?_toArray]; rfl) (by kernel_rfl) (by kernel_rfl) (by kernel_rfl) (by exact fun _ _ _ h => h) (by exact yk_cvI (by kernel_rfl) (.tmp 74) rfl q (by kernel_rfl) hq20) hHeld ?_
              refine wpAnyH_take (i := 12) (by simp only [List.getElem?_toArray]; rfl) (by kernel_rfl) (by kernel_rfl) (by kernel_rfl) (by exact fun _ _ _ h => h) (by exact yk_min16 (by kernel_rfl) (.tmp 75) rfl q r (by kernel_rfl) hr) hHeld ?_
              refine wpAnyH_take (i := 13) (by simp only [List.getElem?_toArray]; rfl) (by kernel_rfl) (by kernel_rfl) (by kernel_rfl) (by exact fun _ _ _ h => h) (by exact yk_ixS (by kernel_rfl) (.tmp 72) (.tmp 76) rfl b9 off 17 c9 r (by kernel_rfl) (by kernel_rfl) hri) hHeld ?_
              refine wpAnyH_take (i := 14) (by simp only [List.getElem?_toArray]; rfl) (by kernel_rfl) (by kernel_rfl) (by kernel_rfl) (by exact fun _ _ _ h => h) (by exact yk_ldRow (by kernel_rfl) (.tmp 77) rfl b9 (off + r * 99) X (by kernel_rfl) (fun _ h => range_ext h hra)) hHeld ?_
              try simp only [Act.put, List.setIfInBounds_toArray, List.set_cons_zero, List.set_cons_succ]
              refine wpAnyH_ready (rs := [7]) (by kernel_rfl) (by simp) ?_
              refine AllReadyH.cons (by simp only [List.getElem?_toArray]; rfl) (fun KK hKK => ?_) AllReadyH.nil
              rw [if_pos (by kernel_rfl)]
              have hd0 : Below wr.heap.size wr wr.drew := below_drew (Below.refl _ _)
              refine wp_callF 19 #[.pointer (some ⟨b, 0, none⟩), .int .u32 (q : Int)] (by kernel_rfl) ?_
              refine (hShq _ (hBj.ext hd0) (hTj.ext hd0)).mono ?_
              rintro e we1 ⟨rfl, -, ha⟩
              have hbr := hd0.trans (ha.mono hd0.size)
              clear ha hd0
              refine ⟨_, rfl, ?_⟩
              refine hKK.out _ _ ?_ (fun hHeld => ?_)
              · exact hbr
              clear hKK KK
              refine wpAnyH_take (i := 15) (by simp only [List.getElem?_toArray]; rfl) (by kernel_rfl) (by kernel_rfl) (by kernel_rfl) (by exact fun _ _ _ h => h) (by exact yk_neS2 (by kernel_rfl) (.tmp 71) (.tmp 78) rfl X X (by kernel_rfl) (by kernel_rfl) hXr false (by rw [eqS_self]; rfl)) hHeld ?_
              refine wpAnyH_take (i := 16) (by simp only [List.getElem?_toArray]; rfl) (by kernel_rfl) (by kernel_rfl) (by kernel_rfl) (by exact fun _ _ _ h => h) (by exact yk (.bool false) (by kernel_rfl) (fun _ => by kernel_rfl)) hHeld ?_
              refine wpAnyH_done (by kernel_rfl) ?_ _
              try simp only [Act.put, List.setIfInBounds_toArray, List.set_cons_zero, List.set_cons_succ]
              have hbj2 := hbj.trans (hbr.mono hbj.size)
              clear hra hShq hbr
              go_wp2_with fail
              go_roundw
              case rel => exact ⟨j + 1, by omega, by go_num, hbj2⟩
              case measure => simp [intOf]; omega
            · have ed : decide ((j : Int) < 20) = false := by simp; omega
              clear h20
              refine wp_region_held_drew (S := fun w' => Below wr.heap.size wr w') (by kernel_rfl) ?_ (fun hHeld => ?_)
              · exact below_drew (Below.refl _ _)
              refine wpAnyH_take (i := 0) (by simp only [List.getElem?_toArray]; rfl) (by kernel_rfl) (by kernel_rfl) (by kernel_rfl) (by exact fun _ _ _ h => h) (by exact yk (.int .i64 (j : Int)) (by kernel_rfl) (fun _ => by kernel_rfl)) hHeld ?_
              refine wpAnyH_take (i := 1) (by simp only [List.getElem?_toArray]; rfl) (by kernel_rfl) (by kernel_rfl) (by kernel_rfl) (by exact fun _ _ _ h => h) (by exact yk_lss (by kernel_rfl) (.tmp 64) (.const (.int .i64 20)) rfl (j : Int) 20 (by kernel_rfl) (by kernel_rfl) false ed) hHeld ?_
              refine wpAnyH_take (i := 2) (by simp only [List.getElem?_toArray]; rfl) (by kernel_rfl) (by kernel_rfl) (by kernel_rfl) (by exact fun _ _ _ h => h) (by exact yk (.bool false) (by kernel_rfl) (fun _ => by kernel_rfl)) hHeld ?_
              refine wpAnyH_take (i := 3) (by simp only [List.getElem?_toArray]; rfl) (by kernel_rfl) (by kernel_rfl) (by kernel_rfl) (by exact fun _ _ _ h => h) (by exact yk_no (by kernel_rfl)) hHeld ?_
              refine wpAnyH_take (i := 4) (by simp only [List.getElem?_toArray]; rfl) (by kernel_rfl) (by kernel_rfl) (by kernel_rfl) (by exact fun _ _ _ h => h) (by exact yk_no (by kernel_rfl)) hHeld ?_
              refine wpAnyH_take (i := 5) (by simp only [List.getElem?_toArray]; rfl) (by kernel_rfl) (by kernel_rfl) (by kernel_rfl) (by exact fun _ _ _ h => h) (by exact yk_no (by kernel_rfl)) hHeld ?_
              refine wpAnyH_take (i := 6) (by simp only [List.getElem?_toArray]; rfl) (by kernel_rfl) (by kernel_rfl) (by kernel_rfl) (by exact fun _ _ _ h => h) (by exact yk_no (by kernel_rfl)) hHeld ?_
              refine wpAnyH_take (i := 7) (by simp only [List.getElem?_toArray]; rfl) (by kernel_rfl) (by kernel_rfl) (by kernel_rfl) (by exact fun _ _ _ h => h) (by exact yk_no (by kernel_rfl)) hHeld ?_
              refine wpAnyH_take (i := 8) (by simp only [List.getElem?_toArray]; rfl) (by kernel_rfl) (by kernel_rfl) (by kernel_rfl) (by exact fun _ _ _ h => h) (by exact yk_no (by kernel_rfl)) hHeld ?_
              refine wpAnyH_take (i := 9) (by simp only [List.getElem?_toArray]; rfl) (by kernel_rfl) (by kernel_rfl) (by kernel_rfl) (by exact fun _ _ _ h => h) (by exact yk_no (by kernel_rfl)) hHeld ?_
              refine wpAnyH_take (i := 10) (by simp only [List.getElem?_toArray]; rfl) (by kernel_rfl) (by kernel_rfl) (by kernel_rfl) (by exact fun _ _ _ h => h) (by exact yk_no (by kernel_rfl)) hHeld ?_
              refine wpAnyH_take (i := 11) (by simp only [List.getElem?_toArray]; rfl) (by kernel_rfl) (by kernel_rfl) (by kernel_rfl) (by exact fun _ _ _ h => h) (by exact yk_no (by kernel_rfl)) hHeld ?_
              refine wpAnyH_take (i := 12) (by simp only [List.getElem?_toArray]; rfl) (by kernel_rfl) (by kernel_rfl) (by kernel_rfl) (by exact fun _ _ _ h => h) (by exact yk_no (by kernel_rfl)) hHeld ?_
              refine wpAnyH_take (i := 13) (by simp only [List.getElem?_toArray]; rfl) (by kernel_rfl) (by kernel_rfl) (by kernel_rfl) (by exact fun _ _ _ h => h) (by exact yk_no (by kernel_rfl)) hHeld ?_
              refine wpAnyH_take (i := 14) (by simp only [List.getElem?_toArray]; rfl) (by kernel_rfl) (by kernel_rfl) (by kernel_rfl) (by exact fun _ _ _ h => h) (by exact yk_no (by kernel_rfl)) hHeld ?_
              refine wpAnyH_take (i := 15) (by simp only [List.getElem?_toArray]; rfl) (by kernel_rfl) (by kernel_rfl) (by kernel_rfl) (by exact fun _ _ _ h => h) (by exact yk_no (by kernel_rfl)) hHeld ?_
              refine wpAnyH_take (i := 16) (by simp only [List.getElem?_toArray]; rfl) (by kernel_rfl) (by kernel_rfl) (by kernel_rfl) (by exact fun _ _ _ h => h) (by exact yk (.bool false) (by kernel_rfl) (fun _ => by kernel_rfl)) hHeld ?_
              refine wpAnyH_done (by kernel_rfl) ?_ _
              try simp only [Act.put, List.setIfInBounds_toArray, List.set_cons_zero, List.set_cons_succ]
              have hbr : Below wr.heap.size wr wr.drew := below_drew (Below.refl _ _)
              have hbj2 := hbj.trans (hbr.mono hbj.size)
              go_wp2_with fail
              go_roundw
              case rel => exact ⟨j + 1, by omega, by go_num, hbj2⟩
              case measure => simp [intOf]; omega
          · obtain rfl : nn = j := by omega
            have hrl : 16 < l.length := by omega
            have hra := sts_range hsj hrl
            have hShq := hSh 16 (by omega)
            rw [shown0 HK0.out 16, show min 16 16 = 16 from rfl, show (((16 : Nat) : Int)) = 16 from rfl] at hShq
            rw [hall.out 16 hrl] at hra
            have hXr := (shN_ok HHF.out.1 16).l
            have hLa := fun W (hw : TBox W b bm T) => (Last_calls b bm T W hw HHF.out.1.tk).mono fun e w' ⟨L, he, hLi, hB, hbb⟩ => (show e = Ending.returned (.int .u32 0) ∧ TBox w' b bm T ∧ Below W.heap.size W w' from ⟨by rw [he, last0 hLi HK0.out HEQ.out.2.2.2.1]; rfl, hB, hbb⟩)
            have hPe := fun W (hw : TBox W b bm T) => Pending0_calls b bm T W hw HEQ.out.2.2.2.1
            obtain ⟨X, hX⟩ : ∃ X, X = shN T 16 := ⟨_, rfl⟩
            rw [← hX] at hShq hra hXr
            clear hX hlj hj hSh
            go_upto_region 20 with fail
            refine wp_region_held_drew (S := fun w' => Below wr.heap.size wr w') (by kernel_rfl) ?_ (fun hHeld => ?_)
            · exact below_drew (Below.refl _ _)
            refine wpAnyH_take (i := 0) (by simp only [List.getElem?_toArray]; rfl) (by kernel_rfl) (by kernel_rfl) (by kernel_rfl) (by exact fun _ _ _ h => h) (by exact yk (.pointer (some ⟨b, 0, none⟩)) (by kernel_rfl) (fun _ => by kernel_rfl)) hHeld ?_
            refine wpAnyH_take (i := 2) (by simp only [List.getElem?_toArray]; rfl) (by kernel_rfl) (by kernel_rfl) (by kernel_rfl) (by exact fun _ _ _ h => h) (by exact yk (.slice (some ⟨b9, off, none⟩) 17 c9) (by kernel_rfl) (fun _ => by kernel_rfl)) hHeld ?_
            refine wpAnyH_take (i := 3) (by simp only [List.getElem?_toArray]; rfl) (by kernel_rfl) (by kernel_rfl) (by kernel_rfl) (by exact fun _ _ _ h => h) (by exact yk_ixS (by kernel_rfl) (.tmp 84) (.const (.int .i64 16)) rfl b9 off 17 c9 16 (by kernel_rfl) (by kernel_rfl) (by decide)) hHeld ?_
            refine wpAnyH_take (i := 4) (by simp only [List.getElem?_toArray]; rfl) (by kernel_rfl) (by kernel_rfl) (by kernel_rfl) (by exact fun _ _ _ h => h) (by exact yk_ldRow (by kernel_rfl) (.tmp 85) rfl b9 (off + 16 * 99) X (by kernel_rfl) (fun _ h => range_ext h hra)) hHeld ?_
            try simp only [Act.put, List.setIfInBounds_toArray, List.set_cons_zero, List.set_cons_succ]
            refine wpAnyH_ready (rs := [1]) (by kernel_rfl) (by simp) ?_
            refine AllReadyH.cons (by simp only [List.getElem?_toArray]; rfl) (fun KK hKK => ?_) AllReadyH.nil
            rw [if_pos (by kernel_rfl)]
            have hd0 : Below wr.heap.size wr wr.drew := below_drew (Below.refl _ _)
            refine wp_callF 19 #[.pointer (some ⟨b, 0, none⟩), .int .u32 16] (by kernel_rfl) ?_
            refine (hShq _ (hBj.ext hd0) (hTj.ext hd0)).mono ?_
            rintro e we1 ⟨rfl, hBa, ha⟩
            have hbr := hd0.trans (ha.mono hd0.size)
            clear ha hd0
            refine ⟨_, rfl, ?_⟩
            refine hKK.out _ _ ?_ (fun hHeld => ?_)
            · exact hbr
            clear hKK KK
            refine wpAnyH_take (i := 5) (by simp only [List.getElem?_toArray]; rfl) (by kernel_rfl) (by kernel_rfl) (by kernel_rfl) (by exact fun _ _ _ h => h) (by exact yk_eqS2 (by kernel_rfl) (.tmp 83) (.tmp 86) rfl X X (by kernel_rfl) (by kernel_rfl) hXr true (eqS_self X)) hHeld ?_
            refine wpAnyH_take (i := 6) (by simp only [List.getElem?_toArray]; rfl) (by kernel_rfl) (by kernel_rfl) (by kernel_rfl) (by exact fun _ _ _ h => h) (by exact yk (.bool true) (by kernel_rfl) (fun _ => by kernel_rfl)) hHeld ?_
            refine wpAnyH_take (i := 7) (by simp only [List.getElem?_toArray]; rfl) (by kernel_rfl) (by kernel_rfl) (by kernel_rfl) (by exact fun _ _ _ h => h) (by exact yk (.pointer (some ⟨b, 0, none⟩)) (by kernel_rfl) (fun _ => by kernel_rfl)) hHeld ?_
            try simp only [Act.put, List.setIfInBounds_toArray, List.set_cons_zero, List.set_cons_succ]
            refine wpAnyH_ready (rs := [8]) (by kernel_rfl) (by simp) ?_
            refine AllReadyH.cons (by simp only [List.getElem?_toArray]; rfl) (fun KK hKK => ?_) AllReadyH.nil
            rw [if_pos (by kernel_rfl)]
            refine wp_callF 25 #[.pointer (some ⟨b, 0, none⟩)] (by kernel_rfl) ?_
            refine (hLa _ hBa).mono ?_
            rintro e we2 ⟨rfl, hBb, ha⟩
            have hbr := hbr.trans (ha.mono hbr.size)
            clear ha
            refine ⟨_, rfl, ?_⟩
            refine hKK.out _ _ ?_ (fun hHeld => ?_)
            · exact hbr
            clear hKK KK
            refine wpAnyH_take (i := 9) (by simp only [List.getElem?_toArray]; rfl) (by kernel_rfl) (by kernel_rfl) (by kernel_rfl) (by exact fun _ _ _ h => h) (by exact yk_eq (by kernel_rfl) .u32 22 (.tmp 90) (.const (.int .u32 0)) _ rfl (0) (0) (by kernel_rfl) (by kernel_rfl) true (by rfl)) hHeld ?_
            refine wpAnyH_take (i := 10) (by simp only [List.getElem?_toArray]; rfl) (by kernel_rfl) (by kernel_rfl) (by kernel_rfl) (by exact fun _ _ _ h => h) (by exact yk (.bool true) (by kernel_rfl) (fun _ => by kernel_rfl)) hHeld ?_
            refine wpAnyH_take (i := 11) (by simp only [List.getElem?_toArray]; rfl) (by kernel_rfl) (by kernel_rfl) (by kernel_rfl) (by exact fun _ _ _ h => h) (by exact yk (.bool true) (by kernel_rfl) (fun _ => by kernel_rfl)) hHeld ?_
            refine wpAnyH_take (i := 12) (by simp only [List.getElem?_toArray]; rfl) (by kernel_rfl) (by kernel_rfl) (by kernel_rfl) (by exact fun _ _ _ h => h) (by exact yk (.pointer (some ⟨b, 0, none⟩)) (by kernel_rfl) (fun _ => by kernel_rfl)) hHeld ?_
            try simp only [Act.put, List.setIfInBounds_toArray, List.set_cons_zero, List.set_cons_succ]
            refine wpAnyH_ready (rs := [13]) (by kernel_rfl) (by simp) ?_
            refine AllReadyH.cons (by simp only [List.getElem?_toArray]; rfl) (fun KK hKK => ?_) AllReadyH.nil
            rw [if_pos (by kernel_rfl)]
            refine wp_callF 24 #[.pointer (some ⟨b, 0, none⟩)] (by kernel_rfl) ?_
            refine (hPe _ hBb).mono ?_
            rintro e we3 ⟨rfl, ha⟩
            have hbr := hbr.trans (ha.mono hbr.size)
            clear ha
            refine ⟨_, rfl, ?_⟩
            refine hKK.out _ _ ?_ (fun hHeld => ?_)
            · exact hbr
            clear hKK KK
            refine wpAnyH_take (i := 14) (by simp only [List.getElem?_toArray]; rfl) (by kernel_rfl) (by kernel_rfl) (by kernel_rfl) (by exact fun _ _ _ h => h) (by exact yk (.int .i64 0) (by kernel_rfl) (fun _ => by kernel_rfl)) hHeld ?_
            refine wpAnyH_take (i := 15) (by simp only [List.getElem?_toArray]; rfl) (by kernel_rfl) (by kernel_rfl) (by kernel_rfl) (by exact fun _ _ _ h => h) (by exact yk_eq (by kernel_rfl) .i64 3 (.tmp 96) (.const (.int .i64 0)) _ rfl (0) (0) (by kernel_rfl) (by kernel_rfl) true (by rfl)) hHeld ?_
            refine wpAnyH_take (i := 16) (by simp only [List.getElem?_toArray]; rfl) (by kernel_rfl) (by kernel_rfl) (by kernel_rfl) (by exact fun _ _ _ h => h) (by exact yk (.bool true) (by kernel_rfl) (fun _ => by kernel_rfl)) hHeld ?_
            refine wpAnyH_take (i := 17) (by simp only [List.getElem?_toArray]; rfl) (by kernel_rfl) (by kernel_rfl) (by kernel_rfl) (by exact fun _ _ _ h => h) (by exact yk (.bool true) (by kernel_rfl) (fun _ => by kernel_rfl)) hHeld ?_
            refine wpAnyH_done (by kernel_rfl) ?_ _
            try simp only [Act.put, List.setIfInBounds_toArray, List.set_cons_zero, List.set_cons_succ]
            go_wp2_with fail
            go_ret
            exact ⟨rfl, hbw.trans (hbr.mono hbw.size)⟩
end Go.Proofs.YtnbbglhpjpebhaaDoor
