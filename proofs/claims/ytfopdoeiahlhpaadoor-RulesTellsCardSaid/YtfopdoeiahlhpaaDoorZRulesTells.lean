/- RulesTells: the walk. Conditions: the numbers fit; the table lies. -/
import Derived.Test.YtfopdoeiahlhpaaDoorZRuOC
import Derived.Test.YtfopdoeiahlhpaaDoorZRuBase08
namespace Go.Proofs.YtfopdoeiahlhpaaDoor
open Go.RowKit
set_option linter.unusedVariables false
theorem view_same (o : Int) (L : List (Int × Nat)) : viewL o (viewL o L) = viewL o L := by
  unfold viewL
  rw [List.map_map]
  apply List.map_congr_left
  intro c _
  show seeC o (seeC o c) = seeC o c
  unfold seeC
  by_cases h : sees c.2 o = true
  · rw [if_pos h, if_pos h]
  · rw [if_neg h, if_neg h]
theorem stA_built3 (L : List (Int × Nat)) (d t : Nat) : Tryd.prog.built 46 [(0, .agg (bdL L)), (1, .agg #[.int .u64 (d : Int)]), (2, .int .u32 (t : Int))] = some (stA ⟨L, d, t⟩) := by
  unfold Program.built
  obtain ⟨i, hi, hz, _⟩ := info_two stZ_info
  rw [hi, Tryd.underlying46]
  simp only []
  rw [hz]
  rw [show (List.mapM (fun f => Option.map (fun (i : TypeInfo) => (Field.offset f, i.size)) (Tryd.prog.info? f.type)) _ : Option (List (Nat × Nat))) = some [(0, 97), (97, 1), (98, 1)] by kernel_rfl]
  obtain ⟨T, hT⟩ : ∃ T : List Value, T = [.int .u64 ((0 : Nat) : Int), .int .u32 ((0 : Nat) : Int)] := ⟨_, rfl⟩
  have hz0 : stL zSt = (bdL []).toList ++ T := by rw [hT]; rfl
  have hl : T.length = 2 := by rw [hT]; rfl
  show Instr.fill _ (stL zSt).toArray _ = _
  rw [hz0, fill_one (v := .agg (bdL L)) (o := 0) (n := 97) rfl (bdL_list L) (by rw [List.length_append, bdL_list]; omega)]
  rw [show (Value.agg (bdL L)).cells.toList = (bdL L).toList from rfl, splice_head (by rw [bdL_list, bdL_list])]
  rw [fill_one (v := .agg #[.int .u64 (d : Int)]) (o := 97) (n := 1) rfl rfl (by rw [List.length_append, bdL_list]; omega)]
  rw [show (Value.agg #[.int .u64 (d : Int)]).cells.toList = [.int .u64 (d : Int)] from rfl, show splice ((bdL L).toList ++ T) 97 [.int .u64 (d : Int)] = (bdL L).toList ++ T.set 0 (.int .u64 (d : Int)) by rw [show (97 : Nat) = (bdL L).toList.length + 0 by rw [bdL_list]]; exact splice_one _ (by omega)]
  rw [fill_one (v := .int .u32 (t : Int)) (o := 98) (n := 1) rfl rfl (by rw [List.length_append, bdL_list, List.length_set]; omega)]
  rw [show (Value.int .u32 (t : Int)).cells.toList = [.int .u32 (t : Int)] from rfl, show splice ((bdL L).toList ++ T.set 0 (.int .u64 (d : Int))) 98 [.int .u32 (t : Int)] = (bdL L).toList ++ (T.set 0 (.int .u64 (d : Int))).set 1 (.int .u32 (t : Int)) by rw [show (98 : Nat) = (bdL L).toList.length + 1 by rw [bdL_list]]; exact splice_one _ (by rw [List.length_set]; omega), hT]
  rfl
section
variable {ops : Array Oper} {S : World → Prop} {op : Oper} {a : Act} {rest : List Oper} {o : Oper} {w : World} {Q : Exit → Act → World → Prop}
theorem wpList_bdS3 (hgd : o.guard = none) (s0 s1 s2 : Operand) (L : List (Int × Nat)) (d t : Nat) (ho : o.op = .build 46 #[(0, s0), (1, s1), (2, s2)]) (h0 : a.eval s0 = .agg (bdL L)) (h1 : a.eval s1 = .agg #[.int .u64 (d : Int)]) (h2 : a.eval s2 = .int .u32 (t : Int))
    (h : wpList Tryd.prog ops Q rest (a.put o.dst (.agg (stA ⟨L, d, t⟩))) w) : wpList Tryd.prog ops Q (o :: rest) a w := by
  have e : Tryd.prog.built 46 ((#[(0, s0), (1, s1), (2, s2)] : Array (Nat × Operand)).map fun (i, x) => (i, a.eval x)).toList = some (stA ⟨L, d, t⟩) := by
    rw [← stA_built3 L d t]
    simp [h0, h1, h2]
  exact wpList_build hgd _ _ ho (by rw [e]; rfl) (by rw [e]; exact h)
theorem at_bd3 {P : Program} {d : Option Tmp} {ty : TypeId} {pos : String} {af : Array Edge} {g : Option (Nat × Bool)} (T : TypeId) (x y z : Tmp) (h : wpList P ops Q (Oper.mk d (.build T #[(0, .tmp x), (1, .tmp y), (2, .tmp z)]) ty pos af g :: rest) a w) : wpList P ops Q (Oper.mk d (.build T #[(0, .tmp x), (1, .tmp y), (2, .tmp z)]) ty pos af g :: rest) a w := h
theorem yk_neBool (hw : Region.wanted op (yielded ops a.tmps) = true) (x y : Operand) (ho : op.op = .binOp .neq 4 x y 4) (b : Bool) (hx : a.eval x = .bool b) (hy : a.eval y = .bool b) : YieldsIf Tryd.prog ops S op (.bool false) a :=
  .inl ⟨hw, fun w _ => by
    unfold execOp
    simp only [ho, hx, hy]
    cases b <;> go_simp⟩
theorem yk_lssW (hw : Region.wanted op (yielded ops a.tmps) = true) (x y : Operand) (ho : op.op = .binOp .lss 22 x y 22) (n m : Int) (hx : a.eval x = .int .u32 n) (hy : a.eval y = .int .u32 m) (d : Bool) (hz : decide (n < m) = d) : YieldsIf Tryd.prog ops S op (.bool d) a :=
  .inl ⟨hw, fun w _ => by
    unfold execOp
    simp only [ho, hx, hy]
    go_simp⟩
theorem run_eql_dice (w : World) (x : Nat) : (binOp .eql 44 (.agg #[.int .u64 (x : Int)]) (.agg #[.int .u64 (x : Int)])).run Tryd.prog w = .ok (.bool true) w := by
  rw [run_eql_struct, run_equal_dice w 9998, show ((x : Int) == (x : Int)) = true by simp]
  rfl
theorem yk_eqDi (hw : Region.wanted op (yielded ops a.tmps) = true) (x y : Operand) (ho : op.op = .binOp .eql 44 x y 44) (d : Nat) (hx : a.eval x = .agg #[.int .u64 (d : Int)]) (hy : a.eval y = .agg #[.int .u64 (d : Int)]) : YieldsIf Tryd.prog ops S op (.bool true) a :=
  .inl ⟨hw, fun w _ => by
    simp only [execOp, ho, hx, hy, Sem.run_bind, dice_guard, Result.andThen_ok, run_eql_dice w d, Sem.run_pure]⟩
theorem yk_eqBd (hw : Region.wanted op (yielded ops a.tmps) = true) (x y : Operand) (ho : op.op = .binOp .eql 42 x y 42) (L : List (Int × Nat)) (hx : a.eval x = .agg (bdL L)) (hy : a.eval y = .agg (bdL L)) : YieldsIf Tryd.prog ops S op (.bool true) a :=
  .inl ⟨hw, fun w _ => by
    have e : (binOp .eql 42 (.agg (bdL L)) (.agg (bdL L))).run Tryd.prog w = .ok (.bool true) w := run_eql_bd w (bdF L) (bdF L) (bdG L) (bdG L) L.length L.length true (by simp)
    simp only [execOp, ho, hx, hy, Sem.run_bind, eq_guard, Result.andThen_ok, e, Sem.run_pure]⟩
end

set_option maxHeartbeats 16000000 in
set_option maxRecDepth 20000 in
theorem RulesTells_walk (g0 : Gm) (s0 : Gs) (mv sd : Nat) (o : Int) (w : World) (hT : CTab w) (hr0 : GRaw g0 s0) (hi0 : GIn w g0 s0) (hmv : mv ≤ 4294967295) (hsd : sd ≤ 18446744073709551615) (ho : -9223372036854775808 ≤ o ∧ o ≤ 9223372036854775807) :
    Calls Tryd.prog 7 #[.agg (gmA g0 s0), .int .u32 (mv : Int), .int .u64 (sd : Int), .int .i64 o] w fun e w' => e = .returned (.bool true) ∧ Below w.heap.size w w' := by
  have hb := below_alloc1 w (.cells (gmA g0 s0) 26)
  have hG := GBox.new_ w g0 s0
  have hi := hi0.ext hb
  have hA := awake_calls _ (hT.ext hb)
  clear hi0
  go_enter Tryd.func7, Tryd.ntmps7
  go_wp2_with fail
  refine hA.mono ?_
  rintro e w1 ⟨rfl, h1⟩
  replace hG := hG.ext h1
  replace hi := hi.ext h1
  replace hb := hb.trans (h1.mono hb.size)
  have hw1s : w.heap.size < w1.heap.size := hG.lt
  clear hA h1
  have hF := FewG_calls g0 s0 w1 hi hr0
  have z0 := hG.c0
  have z1 := hG.c1
  have z2 := hG.c2
  have z3 := hG.c3
  have z4 := hG.c4
  have z5 := hG.c5
  go_wp2_with fail
  refine hF.mono ?_
  rintro e w2 ⟨s, rfl, hi2, hok, hsb, h1⟩
  obtain ⟨g, hg⟩ : ∃ g, g = fewG g0 := ⟨_, rfl⟩
  rw [← hg] at hi2 hok ⊢
  replace hG := hG.ext h1
  replace hb := hb.trans (h1.mono hb.size)
  clear hF h1 hg hi z0 z1 z2 z3 z4 z5
  have z0 := hG.c0
  have z1 := hG.c1
  have z2 := hG.c2
  have z3 := hG.c3
  have z4 := hG.c4
  have z5 := hG.c5
  have hfz := hG.free
  go_upto_region 4 with fail
  obtain ⟨h9, m9⟩ := six_set6 (.int .i64 g.ob) (.int .i64 g.pl) (.int .u32 (g.mv : Int)) (.int .u32 (g.df : Int)) (.slice s.A g.L.length s.c) (.slice s.A' g.K.length s.c') hG
  obtain ⟨w3, hw3⟩ : ∃ w3, w3 = ((((((w2.setCell ⟨w.heap.size, 0, none⟩ (.int .i64 g.ob)).setCell ⟨w.heap.size, 1, none⟩ (.int .i64 g.pl)).setCell ⟨w.heap.size, 2, none⟩ (.int .u32 (g.mv : Int))).setCell ⟨w.heap.size, 3, none⟩ (.int .u32 (g.df : Int))).setCell ⟨w.heap.size, 4, none⟩ (.slice s.A g.L.length s.c)).setCell ⟨w.heap.size, 5, none⟩ (.slice s.A' g.K.length s.c')) := ⟨_, rfl⟩
  rw [← hw3] at h9 m9 ⊢
  have hb3 : Below w.heap.size w w3 := hb.trans (m9.below hb.size (fun i hi e => by have e : i = w.heap.size := e; omega))
  replace hi2 : GIn w3 g s := gin_mod1 hi2 m9 hsb.1 hsb.2 hw1s
  have hG : GBox w3 w.heap.size g s := h9
  clear hw3 h9 m9 hb hfz z0 z1 z2 z3 z4 z5 hsb hw1s
  obtain ⟨R, hRr⟩ : ∃ R, R = rightB g := ⟨_, rfl⟩
  have HR := Lib.hid hRr
  have hRw := fun W h hT => GRight_calls g s W h hok hT
  have hOw := fun W h => ROwn_calls g s W h hok
  have hRR := fun s' W h hk => RRightG_calls g s' W h hk
  rw [← HR.out] at hRw
  simp only [← HR.out] at hRR
  have hLe := fun W => Legal_calls g s mv W hmv hok.m1
  have hA := fun W => AllG_calls g s W
  have hRA := fun W => RAll_calls g.ob W hok.o0 hok.o1
  obtain ⟨al, hal⟩ : ∃ al, al = allN g.ob := ⟨_, rfl⟩
  rw [← hal] at hA hRA
  obtain ⟨D, hD⟩ : ∃ D, D = decide (mv < g.mv) := ⟨_, rfl⟩
  rw [← hD] at hLe
  have eD : decide ((mv : Int) < (g.mv : Int)) = D := by rw [hD, decide_eq_decide]; omega
  clear hal hD hRr
  have z0 := hG.c0
  have z1 := hG.c1
  have z2 := hG.c2
  have z3 := hG.c3
  have z4 := hG.c4
  have z5 := hG.c5
  go_wp2_with fail
  refine wp_region_held_drew (S := fun w' => Below w3.heap.size w3 w') (by kernel_rfl) ?_ (fun hHeld => ?_)
  · exact below_drew (Below.refl _ _)
  refine wpAnyH_take (i := 0) (by simp only [List.getElem?_toArray]; rfl) (by kernel_rfl) (by kernel_rfl) (by kernel_rfl) (by exact fun _ _ _ h => h) (by exact yk_ldG (by kernel_rfl) (.tmp 4) rfl w.heap.size g s (by kernel_rfl) (fun _ h => hG.ext h)) hHeld ?_
  refine wpAnyH_take (i := 2) (by simp only [List.getElem?_toArray]; rfl) (by kernel_rfl) (by kernel_rfl) (by kernel_rfl) (by exact fun _ _ _ h => h) (by exact yk_ldG (by kernel_rfl) (.tmp 4) rfl w.heap.size g s (by kernel_rfl) (fun _ h => hG.ext h)) hHeld ?_
  refine wpAnyH_ready (rs := [1]) (by kernel_rfl) (by simp) ?_
  refine AllReadyH.cons (by simp only [List.getElem?_toArray]; rfl) (fun KK hKK => ?_) AllReadyH.nil
  rw [if_pos (by kernel_rfl)]
  refine wp_callF 18 #[.agg (gmA g s)] (by kernel_rfl) ?_
  refine (hRw _ (hi2.ext (below_drew (Below.refl _ _))) (hT.ext (hb3.trans ((below_drew (Below.refl w3.heap.size w3)).mono hb3.size)))).mono ?_
  rintro e wr1 ⟨rfl, ha⟩
  have ha := below_undrew2 ha
  have hbr := ha
  clear ha
  refine ⟨_, rfl, ?_⟩
  refine hKK.out _ _ ?_ (fun hHeld => ?_)
  · exact hbr
  clear hKK KK
  refine wpAnyH_ready (rs := [3]) (by kernel_rfl) (by simp) ?_
  refine AllReadyH.cons (by simp only [List.getElem?_toArray]; rfl) (fun KK hKK => ?_) AllReadyH.nil
  rw [if_pos (by kernel_rfl)]
  refine wp_callF 14 #[.agg (gmA g s)] (by kernel_rfl) ?_
  refine (hOw _ (hi2.ext hbr)).mono ?_
  rintro e wr2 ⟨s', rfl, hin', hok', ha⟩
  have hbr := hbr.trans (ha.mono hbr.size)
  clear ha
  refine ⟨_, rfl, ?_⟩
  refine hKK.out _ _ ?_ (fun hHeld => ?_)
  · exact hbr
  clear hKK KK
  refine wpAnyH_ready (rs := [4]) (by kernel_rfl) (by simp) ?_
  refine AllReadyH.cons (by simp only [List.getElem?_toArray]; rfl) (fun KK hKK => ?_) AllReadyH.nil
  rw [if_pos (by kernel_rfl)]
  refine wp_callF 16 #[.agg (gmA g s')] (by kernel_rfl) ?_
  refine (hRR s' _ hin' hok').mono ?_
  rintro e wr3 ⟨rfl, ha⟩
  have hbr := hbr.trans (ha.mono hbr.size)
  clear ha
  refine ⟨_, rfl, ?_⟩
  refine hKK.out _ _ ?_ (fun hHeld => ?_)
  · exact hbr
  clear hKK KK
  refine wpAnyH_take (i := 5) (by simp only [List.getElem?_toArray]; rfl) (by kernel_rfl) (by kernel_rfl) (by kernel_rfl) (by exact fun _ _ _ h => h) (by exact yk_neBool (by kernel_rfl) (.tmp 18) (.tmp 21) rfl R (by kernel_rfl) (by kernel_rfl)) hHeld ?_
  refine wpAnyH_take (i := 6) (by simp only [List.getElem?_toArray]; rfl) (by kernel_rfl) (by kernel_rfl) (by kernel_rfl) (by exact fun _ _ _ h => h) (by exact yk (.bool false) (by kernel_rfl) (fun _ => by kernel_rfl)) hHeld ?_
  refine wpAnyH_take (i := 7) (by simp only [List.getElem?_toArray]; rfl) (by kernel_rfl) (by kernel_rfl) (by kernel_rfl) (by exact fun _ _ _ h => h) (by exact yk_ldG (by kernel_rfl) (.tmp 4) rfl w.heap.size g s (by kernel_rfl) (fun _ h => hG.ext h)) hHeld ?_
  refine wpAnyH_take (i := 8) (by simp only [List.getElem?_toArray]; rfl) (by kernel_rfl) (by kernel_rfl) (by kernel_rfl) (by exact fun _ _ _ h => h) (by exact yk (.int .u32 (mv : Int)) (by kernel_rfl) (fun _ => by kernel_rfl)) hHeld ?_
  refine wpAnyH_take (i := 10) (by simp only [List.getElem?_toArray]; rfl) (by kernel_rfl) (by kernel_rfl) (by kernel_rfl) (by exact fun _ _ _ h => h) (by exact yk (.int .u32 (mv : Int)) (by kernel_rfl) (fun _ => by kernel_rfl)) hHeld ?_
  refine wpAnyH_take (i := 11) (by simp only [List.getElem?_toArray]; rfl) (by kernel_rfl) (by kernel_rfl) (by kernel_rfl) (by exact fun _ _ _ h => h) (by exact yk (.pointer (some ⟨w.heap.size, 2, none⟩)) (by kernel_rfl) (fun _ => by kernel_rfl)) hHeld ?_
  refine wpAnyH_take (i := 12) (by simp only [List.getElem?_toArray]; rfl) (by kernel_rfl) (by kernel_rfl) (by kernel_rfl) (by exact fun _ _ _ h => h) (by exact yk_ldW (by kernel_rfl) (.tmp 28) rfl ⟨w.heap.size, 2, none⟩ (.int .u32 (g.mv : Int)) (by kernel_rfl) (fun _ h => (hG.ext h).c2)) hHeld ?_
  refine wpAnyH_take (i := 13) (by simp only [List.getElem?_toArray]; rfl) (by kernel_rfl) (by kernel_rfl) (by kernel_rfl) (by exact fun _ _ _ h => h) (by exact yk_lssW (by kernel_rfl) (.tmp 27) (.tmp 29) rfl (mv : Int) (g.mv : Int) (by kernel_rfl) (by kernel_rfl) D eD) hHeld ?_
  refine wpAnyH_ready (rs := [9]) (by kernel_rfl) (by simp) ?_
  refine AllReadyH.cons (by simp only [List.getElem?_toArray]; rfl) (fun KK hKK => ?_) AllReadyH.nil
  rw [if_pos (by kernel_rfl)]
  refine wp_callF 34 #[.agg (gmA g s), .int .u32 (mv : Int)] (by kernel_rfl) ?_
  refine (hLe _).mono ?_
  rintro e wr4 ⟨rfl, ha⟩
  have hbr := hbr.trans (ha.mono hbr.size)
  clear ha
  refine ⟨_, rfl, ?_⟩
  refine hKK.out _ _ ?_ (fun hHeld => ?_)
  · exact hbr
  clear hKK KK
  refine wpAnyH_take (i := 14) (by simp only [List.getElem?_toArray]; rfl) (by kernel_rfl) (by kernel_rfl) (by kernel_rfl) (by exact fun _ _ _ h => h) (by exact yk_neBool (by kernel_rfl) (.tmp 26) (.tmp 30) rfl D (by kernel_rfl) (by kernel_rfl)) hHeld ?_
  refine wpAnyH_take (i := 15) (by simp only [List.getElem?_toArray]; rfl) (by kernel_rfl) (by kernel_rfl) (by kernel_rfl) (by exact fun _ _ _ h => h) (by exact yk (.bool false) (by kernel_rfl) (fun _ => by kernel_rfl)) hHeld ?_
  refine wpAnyH_take (i := 16) (by simp only [List.getElem?_toArray]; rfl) (by kernel_rfl) (by kernel_rfl) (by kernel_rfl) (by exact fun _ _ _ h => h) (by exact yk (.bool false) (by kernel_rfl) (fun _ => by kernel_rfl)) hHeld ?_
  refine wpAnyH_take (i := 17) (by simp only [List.getElem?_toArray]; rfl) (by kernel_rfl) (by kernel_rfl) (by kernel_rfl) (by exact fun _ _ _ h => h) (by exact yk_ldG (by kernel_rfl) (.tmp 4) rfl w.heap.size g s (by kernel_rfl) (fun _ h => hG.ext h)) hHeld ?_
  refine wpAnyH_take (i := 19) (by simp only [List.getElem?_toArray]; rfl) (by kernel_rfl) (by kernel_rfl) (by kernel_rfl) (by exact fun _ _ _ h => h) (by exact yk (.pointer (some ⟨w.heap.size, 0, none⟩)) (by kernel_rfl) (fun _ => by kernel_rfl)) hHeld ?_
  refine wpAnyH_take (i := 20) (by simp only [List.getElem?_toArray]; rfl) (by kernel_rfl) (by kernel_rfl) (by kernel_rfl) (by exact fun _ _ _ h => h) (by exact yk_ldI (by kernel_rfl) (.tmp 36) rfl ⟨w.heap.size, 0, none⟩ (.int .i64 g.ob) (by kernel_rfl) (fun _ h => (hG.ext h).c0)) hHeld ?_
  refine wpAnyH_ready (rs := [18]) (by kernel_rfl) (by simp) ?_
  refine AllReadyH.cons (by simp only [List.getElem?_toArray]; rfl) (fun KK hKK => ?_) AllReadyH.nil
  rw [if_pos (by kernel_rfl)]
  refine wp_callF 35 #[.agg (gmA g s)] (by kernel_rfl) ?_
  refine (hA _).mono ?_
  rintro e wr5 ⟨rfl, ha⟩
  have hbr := hbr.trans (ha.mono hbr.size)
  clear ha
  refine ⟨_, rfl, ?_⟩
  refine hKK.out _ _ ?_ (fun hHeld => ?_)
  · exact hbr
  clear hKK KK
  refine wpAnyH_ready (rs := [21]) (by kernel_rfl) (by simp) ?_
  refine AllReadyH.cons (by simp only [List.getElem?_toArray]; rfl) (fun KK hKK => ?_) AllReadyH.nil
  rw [if_pos (by kernel_rfl)]
  refine wp_callF 36 #[.int .i64 g.ob] (by kernel_rfl) ?_
  refine (hRA _).mono ?_
  rintro e wr6 ⟨rfl, hwx⟩
  rw [← hwx] at hbr
  clear hwx
  refine ⟨_, rfl, ?_⟩
  refine hKK.out _ _ ?_ (fun hHeld => ?_)
  · exact hbr
  clear hKK KK
  refine wpAnyH_take (i := 22) (by simp only [List.getElem?_toArray]; rfl) (by kernel_rfl) (by kernel_rfl) (by kernel_rfl) (by exact fun _ _ _ h => h) (by exact yk_ne (by kernel_rfl) .u32 22 (.tmp 35) (.tmp 38) _ rfl ((al : Int)) ((al : Int)) (by kernel_rfl) (by kernel_rfl) false (by simp)) hHeld ?_
  refine wpAnyH_take (i := 23) (by simp only [List.getElem?_toArray]; rfl) (by kernel_rfl) (by kernel_rfl) (by kernel_rfl) (by exact fun _ _ _ h => h) (by exact yk (.bool false) (by kernel_rfl) (fun _ => by kernel_rfl)) hHeld ?_
  refine wpAnyH_done (by kernel_rfl) ?_ _
  try simp only [Act.put, List.setIfInBounds_toArray, List.set_cons_zero, List.set_cons_succ]
  clear z0 z1 z2 z3 z4 z5
  replace hG := hG.ext hbr
  replace hi2 := hi2.ext hbr
  replace hb3 := hb3.trans (hbr.mono hb3.size)
  clear hbr hRw hOw hRR hLe hA hRA eD
  obtain ⟨wq, hwq⟩ : ∃ wq, wq = wr6 := ⟨_, rfl⟩
  rw [← hwq] at hG hi2 hb3 ⊢
  clear hwq
  obtain ⟨nL, hnL⟩ : ∃ nL, nL = g.L.length := ⟨_, rfl⟩
  obtain ⟨q, hq⟩ : ∃ q, q = min nL 48 := ⟨_, rfl⟩
  have z4 := hG.c4
  rw [← hnL] at z4
  have hnc : nL ≤ s.c := by rw [hnL]; exact hok.hL
  have hqI : min (nL : Int) 48 = (q : Int) := by omega
  have hqc : q ≤ s.c := by omega
  have hqs : (q : Int) ≤ (s.c : Int) := by omega
  have m3 : (if (nL : Int) < 48 then (nL : Int) else 48) = (q : Int) := by split <;> omega
  have m4 : (if (48 : Int) < (nL : Int) then 48 else (nL : Int)) = (q : Int) := by split <;> omega
  have m5 : (if (nL : Int) ≤ 48 then (nL : Int) else 48) = (q : Int) := by split <;> omega
  have m6 : (if (48 : Int) ≤ (nL : Int) then 48 else (nL : Int)) = (q : Int) := by split <;> omega
  have hq48 : q ≤ 48 := by omega
  obtain ⟨C, hC⟩ : ∃ C, C = g.L.take q := ⟨_, rfl⟩
  have hCl : C.length = q := by rw [hC, List.length_take, ← hnL]; omega
  have oC : okC C := by rw [hC]; exact fun x hx => hok.oL x (List.mem_of_mem_take hx)
  have hsC : Sl wq s.b s.A (cv C) := by
    have h1 := Sl.take hi2.sc (q * 2)
    rwa [cv_take, ← hC] at h1
  have hN := New_in s.A C q s.c s.b wq hsC hCl hq48
  have HQ := Lib.hid hq
  have HN := Lib.hid hnL
  clear hq hnL hC hsC hi2
  go_wp2_with fail
  refine hN.mono ?_
  rintro e w4 ⟨rfl, h1⟩
  replace hb3 := hb3.trans (h1.mono hb3.size)
  clear hN h1 z4 hqI hqs m3 m4 m5 m6 hnc hqc hG
  have l7 := BoxL.new_ w4 C
  have h7 := below_alloc1 w4 (.cells (bdL C) 42)
  go_upto_region 7 with (first | ((with_reducible refine at_al 42 9 ?_); refine wpList_al rfl rfl (some 9) rfl w4.heap.size rfl ?_) | ((with_reducible refine at_st 42 9 50 ?_); refine wpList_put rfl (.tmp 9) (.tmp 50) rfl rfl C rfl rfl ?_))
  replace hb3 := hb3.trans (h7.mono hb3.size)
  obtain ⟨Y1, hY1⟩ : ∃ Y1, Y1 = w4.heap.size := ⟨_, rfl⟩
  obtain ⟨w5, hw5⟩ : ∃ w5, w5 = w4.alloc (.cells (bdL C) 42) := ⟨_, rfl⟩
  rw [← hw5] at l7 hb3 ⊢
  rw [← hY1] at l7 ⊢
  clear hw5 hY1 h7
  obtain ⟨S1, hS1⟩ : ∃ S1 : St, S1 = ⟨C, sd, mv⟩ := ⟨_, rfl⟩
  have hl6 := below_alloc1 w5 (.cells (stA S1) 46)
  have hx := BoxS.new_ w5 S1
  go_upto_region 8 with (first | ((with_reducible refine at_ld 42 9 ?_); refine wpList_ld (by first | rfl | simp [Region.wanted, yielded]) (.tmp 9) rfl Y1 rfl C l7 ?_) | ((with_reducible refine at_bd3 46 52 54 55 ?_); refine wpList_bdS3 rfl (.tmp 52) (.tmp 54) (.tmp 55) C sd mv rfl rfl rfl rfl ?_; rw [← hS1]) | ((with_reducible refine at_al 46 11 ?_); refine wpList_alS rfl rfl (some 11) rfl w5.heap.size rfl ?_) | ((with_reducible refine at_st 46 11 56 ?_); refine wpList_stS rfl (.tmp 11) (.tmp 56) rfl w5.heap.size S1 rfl rfl zSt (BoxS.new_ _ _) ?_))
  rw [made_row]
  replace l7 := l7.ext hl6
  replace hb3 := hb3.trans (hl6.mono hb3.size)
  obtain ⟨Y2, hY2⟩ : ∃ Y2, Y2 = w5.heap.size := ⟨_, rfl⟩
  obtain ⟨w6, hw6⟩ : ∃ w6, w6 = w5.alloc (.cells (stA S1) 46) := ⟨_, rfl⟩
  rw [← hw6] at l7 hx hb3 ⊢
  rw [← hY2] at hx ⊢
  clear hw6 hY2 hl6
  have hV := fun W => StView_calls S1 o W (by rw [hS1]; show C.length ≤ 48; omega) (by rw [hS1]; exact oC)
  obtain ⟨VW, hVW⟩ : ∃ VW : St, VW = ⟨viewL o S1.L, 0, S1.tk⟩ := ⟨_, rfl⟩
  rw [← hVW] at hV
  have hV2 := fun W => StView_calls VW o W (by rw [hVW, hS1]; show (viewL o C).length ≤ 48; rw [viewL_length]; omega) (by rw [hVW, hS1]; exact okC_view oC o)
  have hVV : (⟨viewL o VW.L, 0, VW.tk⟩ : St) = VW := by rw [hVW]; simp only [view_same]
  rw [hVV] at hV2
  have hBV := fun W => View_calls C o W (by omega) oC
  have HVL := Lib.hid (show VW.L = viewL o C by rw [hVW, hS1])
  have HVD := Lib.hid (show VW.d = 0 by rw [hVW])
  have HVT := Lib.hid (show VW.tk = mv by rw [hVW, hS1])
  rw [← HVL.out] at hBV
  clear hS1 hVW hVV
  go_wp2_with ((with_reducible refine at_ld 46 11 ?_); refine wpList_ldS rfl (.tmp 11) rfl Y2 rfl hx ?_)
  refine (hV _).mono ?_
  rintro e w7 ⟨rfl, h1⟩
  replace l7 := l7.ext h1
  replace hb3 := hb3.trans (h1.mono hb3.size)
  clear hV h1 hx
  have hl8 := below_alloc1 w7 (.cells (stA VW) 46)
  have hx := BoxS.new_ w7 VW
  go_upto_region 9 with (first | ((with_reducible refine at_al 46 12 ?_); refine wpList_alS rfl rfl (some 12) rfl w7.heap.size rfl ?_) | ((with_reducible refine at_st 46 12 59 ?_); refine wpList_stS rfl (.tmp 12) (.tmp 59) rfl w7.heap.size VW rfl rfl zSt (BoxS.new_ _ _) ?_))
  rw [made_row]
  replace l7 := l7.ext hl8
  replace hb3 := hb3.trans (hl8.mono hb3.size)
  obtain ⟨Y3, hY3⟩ : ∃ Y3, Y3 = w7.heap.size := ⟨_, rfl⟩
  obtain ⟨w8, hw8⟩ : ∃ w8, w8 = w7.alloc (.cells (stA VW) 46) := ⟨_, rfl⟩
  rw [← hw8] at l7 hx hb3 ⊢
  rw [← hY3] at hx ⊢
  clear hw8 hY3 hl8
  refine wp_region_held_drew (S := fun w' => Below w8.heap.size w8 w') (by kernel_rfl) ?_ (fun hHeld => ?_)
  · exact below_drew (Below.refl _ _)
  refine wpAnyH_take (i := 0) (by simp only [List.getElem?_toArray]; rfl) (by kernel_rfl) (by kernel_rfl) (by kernel_rfl) (by exact fun _ _ _ h => h) (by exact yk (.pointer (some ⟨Y3, 97, none⟩)) (by kernel_rfl) (fun _ => by kernel_rfl)) hHeld ?_
  refine wpAnyH_take (i := 1) (by simp only [List.getElem?_toArray]; rfl) (by kernel_rfl) (by kernel_rfl) (by kernel_rfl) (by exact fun _ _ _ h => h) (by exact yk_ldD (by kernel_rfl) (.tmp 60) rfl ⟨Y3, 97, none⟩ (.int .u64 ((0 : Nat) : Int)) (by kernel_rfl) (fun _ h => by rw [← HVD.out]; exact (hx.ext h).cD)) hHeld ?_
  refine wpAnyH_take (i := 2) (by simp only [List.getElem?_toArray]; rfl) (by kernel_rfl) (by kernel_rfl) (by kernel_rfl) (by exact fun _ _ _ h => h) (by exact yk (.agg #[.int .u64 ((0 : Nat) : Int)]) (by kernel_rfl) (fun _ => by kernel_rfl)) hHeld ?_
  refine wpAnyH_take (i := 3) (by simp only [List.getElem?_toArray]; rfl) (by kernel_rfl) (by kernel_rfl) (by kernel_rfl) (by exact fun _ _ _ h => h) (by exact yk_eqDi (by kernel_rfl) (.tmp 61) (.tmp 62) rfl 0 (by kernel_rfl) (by kernel_rfl)) hHeld ?_
  refine wpAnyH_take (i := 4) (by simp only [List.getElem?_toArray]; rfl) (by kernel_rfl) (by kernel_rfl) (by kernel_rfl) (by exact fun _ _ _ h => h) (by exact yk (.bool true) (by kernel_rfl) (fun _ => by kernel_rfl)) hHeld ?_
  refine wpAnyH_take (i := 5) (by simp only [List.getElem?_toArray]; rfl) (by kernel_rfl) (by kernel_rfl) (by kernel_rfl) (by exact fun _ _ _ h => h) (by exact yk (.pointer (some ⟨Y3, 98, none⟩)) (by kernel_rfl) (fun _ => by kernel_rfl)) hHeld ?_
  refine wpAnyH_take (i := 6) (by simp only [List.getElem?_toArray]; rfl) (by kernel_rfl) (by kernel_rfl) (by kernel_rfl) (by exact fun _ _ _ h => h) (by exact yk_ldW (by kernel_rfl) (.tmp 65) rfl ⟨Y3, 98, none⟩ (.int .u32 (mv : Int)) (by kernel_rfl) (fun _ h => by rw [← HVT.out]; exact (hx.ext h).cK)) hHeld ?_
  refine wpAnyH_take (i := 7) (by simp only [List.getElem?_toArray]; rfl) (by kernel_rfl) (by kernel_rfl) (by kernel_rfl) (by exact fun _ _ _ h => h) (by exact yk (.int .u32 (mv : Int)) (by kernel_rfl) (fun _ => by kernel_rfl)) hHeld ?_
  refine wpAnyH_take (i := 8) (by simp only [List.getElem?_toArray]; rfl) (by kernel_rfl) (by kernel_rfl) (by kernel_rfl) (by exact fun _ _ _ h => h) (by exact yk_eq (by kernel_rfl) .u32 22 (.tmp 66) (.tmp 67) _ rfl ((mv : Int)) ((mv : Int)) (by kernel_rfl) (by kernel_rfl) true (by simp)) hHeld ?_
  refine wpAnyH_take (i := 9) (by simp only [List.getElem?_toArray]; rfl) (by kernel_rfl) (by kernel_rfl) (by kernel_rfl) (by exact fun _ _ _ h => h) (by exact yk (.bool true) (by kernel_rfl) (fun _ => by kernel_rfl)) hHeld ?_
  refine wpAnyH_take (i := 10) (by simp only [List.getElem?_toArray]; rfl) (by kernel_rfl) (by kernel_rfl) (by kernel_rfl) (by exact fun _ _ _ h => h) (by exact yk (.bool true) (by kernel_rfl) (fun _ => by kernel_rfl)) hHeld ?_
  refine wpAnyH_take (i := 11) (by simp only [List.getElem?_toArray]; rfl) (by kernel_rfl) (by kernel_rfl) (by kernel_rfl) (by exact fun _ _ _ h => h) (by exact yk (.pointer (some ⟨Y3, 0, none⟩)) (by kernel_rfl) (fun _ => by kernel_rfl)) hHeld ?_
  refine wpAnyH_take (i := 12) (by simp only [List.getElem?_toArray]; rfl) (by kernel_rfl) (by kernel_rfl) (by kernel_rfl) (by exact fun _ _ _ h => h) (by exact yieldsIf_ldSB (by kernel_rfl) (.tmp 71) rfl (Y3) (by kernel_rfl) (fun _ h => hx.ext h)) hHeld ?_
  refine wpAnyH_take (i := 13) (by simp only [List.getElem?_toArray]; rfl) (by kernel_rfl) (by kernel_rfl) (by kernel_rfl) (by exact fun _ _ _ h => h) (by exact yieldsIf_ld (by kernel_rfl) (.tmp 9) rfl Y1 (by kernel_rfl) C (fun _ h => l7.ext h)) hHeld ?_
  refine wpAnyH_take (i := 14) (by simp only [List.getElem?_toArray]; rfl) (by kernel_rfl) (by kernel_rfl) (by kernel_rfl) (by exact fun _ _ _ h => h) (by exact yk (.int .i64 o) (by kernel_rfl) (fun _ => by kernel_rfl)) hHeld ?_
  refine wpAnyH_ready (rs := [15]) (by kernel_rfl) (by simp) ?_
  refine AllReadyH.cons (by simp only [List.getElem?_toArray]; rfl) (fun KK hKK => ?_) AllReadyH.nil
  rw [if_pos (by kernel_rfl)]
  refine wp_callF 38 #[.agg (bdL C), .int .i64 o] (by kernel_rfl) ?_
  refine (hBV _).mono ?_
  rintro e wv1 ⟨rfl, ha⟩
  have ha := below_undrew2 ha
  have hbr := ha
  clear ha
  refine ⟨_, rfl, ?_⟩
  refine hKK.out _ _ ?_ (fun hHeld => ?_)
  · exact hbr
  clear hKK KK
  refine wpAnyH_take (i := 16) (by simp only [List.getElem?_toArray]; rfl) (by kernel_rfl) (by kernel_rfl) (by kernel_rfl) (by exact fun _ _ _ h => h) (by exact yk_eqBd (by kernel_rfl) (.tmp 72) (.tmp 75) rfl VW.L (by kernel_rfl) (by kernel_rfl)) hHeld ?_
  refine wpAnyH_take (i := 17) (by simp only [List.getElem?_toArray]; rfl) (by kernel_rfl) (by kernel_rfl) (by kernel_rfl) (by exact fun _ _ _ h => h) (by exact yk (.bool true) (by kernel_rfl) (fun _ => by kernel_rfl)) hHeld ?_
  refine wpAnyH_take (i := 18) (by simp only [List.getElem?_toArray]; rfl) (by kernel_rfl) (by kernel_rfl) (by kernel_rfl) (by exact fun _ _ _ h => h) (by exact yk (.bool true) (by kernel_rfl) (fun _ => by kernel_rfl)) hHeld ?_
  refine wpAnyH_take (i := 19) (by simp only [List.getElem?_toArray]; rfl) (by kernel_rfl) (by kernel_rfl) (by kernel_rfl) (by exact fun _ _ _ h => h) (by exact yieldsIf_ldS (by kernel_rfl) (.tmp 12) rfl (Y3) (by kernel_rfl) (fun _ h => hx.ext h)) hHeld ?_
  refine wpAnyH_take (i := 20) (by simp only [List.getElem?_toArray]; rfl) (by kernel_rfl) (by kernel_rfl) (by kernel_rfl) (by exact fun _ _ _ h => h) (by exact yk (.int .i64 o) (by kernel_rfl) (fun _ => by kernel_rfl)) hHeld ?_
  refine wpAnyH_take (i := 22) (by simp only [List.getElem?_toArray]; rfl) (by kernel_rfl) (by kernel_rfl) (by kernel_rfl) (by exact fun _ _ _ h => h) (by exact yieldsIf_ldS (by kernel_rfl) (.tmp 12) rfl (Y3) (by kernel_rfl) (fun _ h => hx.ext h)) hHeld ?_
  refine wpAnyH_ready (rs := [21]) (by kernel_rfl) (by simp) ?_
  refine AllReadyH.cons (by simp only [List.getElem?_toArray]; rfl) (fun KK hKK => ?_) AllReadyH.nil
  rw [if_pos (by kernel_rfl)]
  refine wp_callF 22 #[.agg (stA VW), .int .i64 o] (by kernel_rfl) ?_
  refine (hV2 _).mono ?_
  rintro e wv2 ⟨rfl, ha⟩
  have hbr := hbr.trans (ha.mono hbr.size)
  clear ha
  refine ⟨_, rfl, ?_⟩
  refine hKK.out _ _ ?_ (fun hHeld => ?_)
  · exact hbr
  clear hKK KK
  refine wpAnyH_take (i := 23) (by simp only [List.getElem?_toArray]; rfl) (by kernel_rfl) (by kernel_rfl) (by kernel_rfl) (by exact fun _ _ _ h => h) (by exact yk_eqSt (by kernel_rfl) (.tmp 81) (.tmp 82) rfl VW (by kernel_rfl) (by kernel_rfl)) hHeld ?_
  refine wpAnyH_take (i := 24) (by simp only [List.getElem?_toArray]; rfl) (by kernel_rfl) (by kernel_rfl) (by kernel_rfl) (by exact fun _ _ _ h => h) (by exact yk (.bool true) (by kernel_rfl) (fun _ => by kernel_rfl)) hHeld ?_
  refine wpAnyH_take (i := 25) (by simp only [List.getElem?_toArray]; rfl) (by kernel_rfl) (by kernel_rfl) (by kernel_rfl) (by exact fun _ _ _ h => h) (by exact yk (.bool true) (by kernel_rfl) (fun _ => by kernel_rfl)) hHeld ?_
  refine wpAnyH_done (by kernel_rfl) ?_ _
  try simp only [Act.put, List.setIfInBounds_toArray, List.set_cons_zero, List.set_cons_succ]
  have hbz := hb3.trans (hbr.mono hb3.size)
  go_wp2_with fail
  go_ret
  exact ⟨rfl, hbz⟩
end Go.Proofs.YtfopdoeiahlhpaaDoor
