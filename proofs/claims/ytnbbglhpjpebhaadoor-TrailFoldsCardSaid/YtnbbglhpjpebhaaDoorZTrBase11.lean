/- Parts of one proof, in their order. -/
import Derived.Test.YtnbbglhpjpebhaaDoorZTrBase10
import Derived.Deep.Slices
import Derived.SizedLaws
/- When two states are alike to Go's own test; a trail's Confirm. Conditions: the numbers fit; the table lies. -/
namespace Go.Proofs.YtnbbglhpjpebhaaDoor
open Go.RowKit
set_option linter.unusedVariables false

/-- Alike, cell by cell. -/
def eqS (s t : St) : Bool := decide (s.L = t.L) && (((s.d : Int) == (t.d : Int)) && ((s.tk : Int) == (t.tk : Int)))
theorem eqS_iff {s t : St} : eqS s t = true ↔ s = t := by
  unfold eqS
  rw [Bool.and_eq_true, Bool.and_eq_true, decide_eq_true_eq]
  constructor
  · rintro ⟨h1, h2, h3⟩
    have h2 : (s.d : Int) = (t.d : Int) := by simpa using h2
    have h3 : (s.tk : Int) = (t.tk : Int) := by simpa using h3
    obtain ⟨a, b, c⟩ := s
    obtain ⟨x, y, z⟩ := t
    simp only at h1 h2 h3
    have e1 : b = y := by omega
    have e2 : c = z := by omega
    rw [h1, e1, e2]
  · rintro rfl
    simp
theorem eqS_self (s : St) : eqS s s = true := by unfold eqS; simp
section
variable (w : World)
theorem run_equal_st2 (d : Nat) (s t : St) (hs : s.L.length ≤ 48) : (Op.equalIn (d + 5) 40 (.agg (stA s)) (.agg (stA t))).run Tryd.prog w = .ok (eqS s t) w := by
  obtain ⟨f0, f1, f2, hu, h0, h1, h2, t0, t1, t2, o0, o1, o2⟩ := st_under
  have hf : Tryd.prog.fieldsOf 40 = #[f0, f1, f2] := by simp [Program.fieldsOf, hu]
  rw [run_equalIn_struct w (d + 4) _ _ _ (by rw [hf]; exact hu) st_held, hf]
  have q0 := part_bd w s
  have q1 := part_dice w s
  have q2 := part_tk w s
  have p0 := part_bd w t
  have p1 := part_dice w t
  have p2 := part_tk w t
  obtain ⟨e0, he0⟩ : ∃ e0, e0 = decide (s.L = t.L) := ⟨_, rfl⟩
  obtain ⟨e1, he1⟩ : ∃ e1, e1 = ((s.d : Int) == (t.d : Int)) := ⟨_, rfl⟩
  obtain ⟨e2, he2⟩ : ∃ e2, e2 = ((s.tk : Int) == (t.tk : Int)) := ⟨_, rfl⟩
  have r0 : (Op.equalIn (d + 4) 36 (.agg (bdL s.L)) (.agg (bdL t.L))).run Tryd.prog w = .ok e0 w := run_equal_bd w d _ _ _ _ _ _ e0 (by rw [he0, decide_eq_true_eq]; exact (bdL_inj hs).symm)
  have r1 : (Op.equalIn (d + 4) 38 (.agg #[.int .u64 (s.d : Int)]) (.agg #[.int .u64 (t.d : Int)])).run Tryd.prog w = .ok e1 w := by
    rw [he1]
    exact run_equal_dice w (d + 2) s.d t.d
  have r2 : (Op.equalIn (d + 4) 22 (.int .u32 (s.tk : Int)) (.int .u32 (t.tk : Int))).run Tryd.prog w = .ok e2 w := by
    have h := run_equalIn_int w (d + 3) 22 .u32 .u32 (s.tk : Int) (t.tk : Int) Tryd.underlying22
    rw [he2]
    by_cases e : (s.tk : Int) = (t.tk : Int)
    · rw [e] at h ⊢
      simpa using h
    · rw [beq_eq_false_iff_ne.2 e]
      rw [h]
      simp [e]
  unfold eqS
  rw [← he0, ← he1, ← he2]
  clear hu hf he0 he1 he2
  obtain ⟨X, hX⟩ : ∃ X, X = stA s := ⟨_, rfl⟩
  obtain ⟨Y, hY⟩ : ∃ Y, Y = bdL s.L := ⟨_, rfl⟩
  obtain ⟨X', hX'⟩ : ∃ X, X = stA t := ⟨_, rfl⟩
  obtain ⟨Y', hY'⟩ : ∃ Y, Y = bdL t.L := ⟨_, rfl⟩
  rw [← hX] at q0 q1 q2 ⊢
  rw [← hX'] at p0 p1 p2 ⊢
  rw [← hY] at q0 r0
  rw [← hY'] at p0 r0
  clear hX hY hX' hY'
  show (Op.eqFields (d + 4) X X' [f0, f1, f2]).run Tryd.prog w = _
  cases e0 <;> cases e1 <;> cases e2 <;> simp only [Op.eqFields, h0, h1, h2, t0, t1, t2, o0, o1, o2, ne_eq, not_false_eq_true, if_true, Sem.run_bind, q0, q1, q2, p0, p1, p2, r0, r1, r2, Result.andThen_ok, Bool.not_true, Bool.not_false, Bool.false_eq_true, if_false, Sem.run_pure, Bool.and_self, Bool.and_true, Bool.and_false]
theorem run_eql_st2 (s t : St) (hs : s.L.length ≤ 48) : (binOp .eql 40 (.agg (stA s)) (.agg (stA t))).run Tryd.prog w = .ok (.bool (eqS s t)) w := by
  rw [run_eql_struct, run_equal_st2 w 9995 _ _ hs]
  rfl
theorem run_neq_st2 (s t : St) (hs : s.L.length ≤ 48) : (binOp .neq 40 (.agg (stA s)) (.agg (stA t))).run Tryd.prog w = .ok (.bool (!eqS s t)) w := by
  rw [run_neq_struct, run_equal_st2 w 9995 _ _ hs]
  rfl
end
section
variable {ops : Array Oper} {S : World → Prop} {op : Oper} {a : Act}
theorem yk_eqS2 (hw : Region.wanted op (yielded ops a.tmps) = true) (x y : Operand) (ho : op.op = .binOp .eql 40 x y 40) (s t : St) (hx : a.eval x = .agg (stA s)) (hy : a.eval y = .agg (stA t)) (hs : s.L.length ≤ 48) (d : Bool) (hd : eqS s t = d) : YieldsIf Tryd.prog ops S op (.bool d) a :=
  .inl ⟨hw, fun w _ => by
    rw [← hd]
    simp only [execOp, ho, hx, hy, Sem.run_bind, st_guard, Result.andThen_ok, run_eql_st2 w s t hs, Sem.run_pure]⟩
theorem yk_neS2 (hw : Region.wanted op (yielded ops a.tmps) = true) (x y : Operand) (ho : op.op = .binOp .neq 40 x y 40) (s t : St) (hx : a.eval x = .agg (stA s)) (hy : a.eval y = .agg (stA t)) (hs : s.L.length ≤ 48) (d : Bool) (hd : (!eqS s t) = d) : YieldsIf Tryd.prog ops S op (.bool d) a :=
  .inl ⟨hw, fun w _ => by
    rw [← hd]
    simp only [execOp, ho, hx, hy, Sem.run_bind, st_guard, Result.andThen_ok, run_neq_st2 w s t hs, Sem.run_pure]⟩
end
theorem yk_leq {ops : Array Oper} {S : World → Prop} {op : Oper} {a : Act} (hw : Region.wanted op (yielded ops a.tmps) = true) (k : IntKind) (T : TypeId) (x y : Operand) (R : TypeId) (ho : op.op = .binOp .leq T x y R)
    (n m : Int) (hx : a.eval x = .int k n) (hy : a.eval y = .int k m) (d : Bool) (hd : decide (n ≤ m) = d) : YieldsIf Tryd.prog ops S op (.bool d) a :=
  .inl ⟨hw, fun w _ => by
    unfold execOp
    simp only [ho, hx, hy]
    go_simp⟩
/-- Whether it was wrong. -/
def wrongT (t : Tr) (v : St) : Bool := decide (v.tk ≤ endT t.k.tk) && !eqS v (shown t v.tk)
/-- What Confirm makes of it. -/
def confT (t : Tr) (v : St) : Tr := { t with k := v, r := t.r + (wrongT t v).toNat, f := delU t.f v.tk }
theorem Confirm_old (b bm : Nat) (t : Tr) (v : St) (w : World) (h : TBox w b bm t) (hv : v.tk ≤ t.k.tk) : Calls Tryd.prog 20 #[.pointer (some ⟨b, 0, none⟩), .agg (stA v)] w fun e w' => e = .returned (.int .i64 10) ∧ TBox w' b bm t ∧ Below w.heap.size w w' := by
  have hb := below_alloc1 w (.cells (stA v) 40)
  have hx := BoxS.new_ w v
  have hTB := h.ext hb
  have e1 : (v.tk : Int) ≤ (t.k.tk : Int) := by omega
  have q105 := hTB.row.cT
  have qK := hx.cK
  clear h hv
  go_enter Tryd.func20, Tryd.ntmps20
  go_upto_region 3 with fail
  go_region
  all_goals (
    go_wp2_with fail
    go_ret
    exact ⟨rfl, hTB.ext (below_drew (Below.refl _ _)), below_drew hb⟩)
set_option maxHeartbeats 8000000 in
set_option maxRecDepth 20000 in
theorem Confirm_new (b bm : Nat) (t : Tr) (v : St) (w : World) (h : TBox w b bm t) (ho : TrOk t) (hT : CTab w) (hP : PredIs t.g t.s t.o) (hv : StOk v) (hlt : ¬ v.tk ≤ t.k.tk) : Calls Tryd.prog 20 #[.pointer (some ⟨b, 0, none⟩), .agg (stA v)] w fun e w' => e = .returned (.int .i64 0) ∧ TBox w' b bm (confT t v) ∧ Mod (fun i => i = b ∨ i = bm) w w' := by
  have hb := below_alloc1 w (.cells (stA v) 40)
  have hx := BoxS.new_ w v
  have hTB := h.ext hb
  obtain ⟨E, hE⟩ : ∃ E, E = endT t.k.tk := ⟨_, rfl⟩
  obtain ⟨X, hX⟩ : ∃ X, X = shown t v.tk := ⟨_, rfl⟩
  obtain ⟨N, hN⟩ : ∃ N, N = (!eqS v X) := ⟨_, rfl⟩
  have hW : wrongT t v = (decide (v.tk ≤ E) && N) := by unfold wrongT; rw [hN, hX, hE]
  have hend := fun W (hw : TBox W b bm t) => end_calls b bm t W hw ho.tk hE
  have hshow := fun W (hw : TBox W b bm t) (hc : CTab W) => Shown_calls b bm t v.tk W hw ho hc hP hv.t
  rw [← hX] at hshow
  have hrb := ho.r
  have HBW := Lib.hid h.lt
  have e1 : ¬ (v.tk : Int) ≤ (t.k.tk : Int) := by omega
  have q105 := hTB.row.cT
  have qK := hx.cK
  have HN := Lib.hid hN.symm
  have hT1 := hT.ext hb
  have HT := Lib.hid hT
  clear h hlt hT hP ho hE hX hN
  go_enter Tryd.func20, Tryd.ntmps20
  go_upto_region 3 with fail
  obtain ⟨wz, hwz⟩ : ∃ wz, wz = w.alloc (.cells (stA v) 40) := ⟨_, rfl⟩
  obtain ⟨Y, hY⟩ : ∃ Y, Y = w.heap.size := ⟨_, rfl⟩
  rw [← hwz] at hTB hb hx q105 qK hT1 ⊢
  rw [← hY] at hx qK ⊢
  have HY := Lib.hid hY
  clear hwz hY
  go_region
  go_upto_region 5 with fail
  obtain ⟨wq, hwq⟩ : ∃ wq, wq = wz.drew := ⟨_, rfl⟩
  have hbq : Below wz.heap.size wz wq := by rw [hwq]; exact below_drew (Below.refl _ _)
  rw [← hwq]
  replace hTB := hTB.ext hbq
  replace hx := hx.ext hbq
  replace hT1 := hT1.ext hbq
  replace hb := hb.trans (hbq.mono hb.size)
  clear hwq hbq q105 qK e1
  by_cases hg : v.tk ≤ E
  · have eg : decide ((v.tk : Int) ≤ (E : Int)) = true := by simpa using hg
    rw [decide_eq_true hg, Bool.true_and] at hW
    refine wp_region_held_drew (S := fun w' => Below wq.heap.size wq w') (by kernel_rfl) ?_ (fun hHeld => ?_)
    · exact below_drew (Below.refl _ _)
    refine wpAnyH_take (i := 0) (by simp only [List.getElem?_toArray]; rfl) (by kernel_rfl) (by kernel_rfl) (by kernel_rfl) (by exact fun _ _ _ h => h) (by exact yk (.pointer (some ⟨Y, 98, none⟩)) (by kernel_rfl) (fun _ => by kernel_rfl)) hHeld ?_
    refine wpAnyH_take (i := 1) (by simp only [List.getElem?_toArray]; rfl) (by kernel_rfl) (by kernel_rfl) (by kernel_rfl) (by exact fun _ _ _ h => h) (by exact yk_ldW (by kernel_rfl) (.tmp 15) rfl ⟨Y, 98, none⟩ (.int .u32 (v.tk : Int)) (by kernel_rfl) (fun _ h => (hx.ext h).cK)) hHeld ?_
    refine wpAnyH_take (i := 2) (by simp only [List.getElem?_toArray]; rfl) (by kernel_rfl) (by kernel_rfl) (by kernel_rfl) (by exact fun _ _ _ h => h) (by exact yk (.pointer (some ⟨b, 0, none⟩)) (by kernel_rfl) (fun _ => by kernel_rfl)) hHeld ?_
    refine wpAnyH_ready (rs := [3]) (by kernel_rfl) (by simp) ?_
    refine AllReadyH.cons (by simp only [List.getElem?_toArray]; rfl) (fun KK hKK => ?_) AllReadyH.nil
    rw [if_pos (by kernel_rfl)]
    refine wp_callF 34 #[.pointer (some ⟨b, 0, none⟩)] (by kernel_rfl) ?_
    refine (hend _ (hTB.ext (below_drew (Below.refl _ _)))).mono ?_
    rintro e wa ⟨rfl, hwa⟩
    have hbr : Below wq.heap.size wq wa := by rw [hwa]; exact below_drew (Below.refl _ _)
    refine ⟨_, rfl, ?_⟩
    refine hKK.out _ _ ?_ (fun hHeld => ?_)
    · exact hbr
    clear hKK KK
    refine wpAnyH_take (i := 4) (by simp only [List.getElem?_toArray]; rfl) (by kernel_rfl) (by kernel_rfl) (by kernel_rfl) (by exact fun _ _ _ h => h) (by exact yk_leq (by kernel_rfl) .u32 22 (.tmp 16) (.tmp 18) _ rfl (v.tk : Int) (E : Int) (by kernel_rfl) (by kernel_rfl) true (eg)) hHeld ?_
    refine wpAnyH_take (i := 5) (by simp only [List.getElem?_toArray]; rfl) (by kernel_rfl) (by kernel_rfl) (by kernel_rfl) (by exact fun _ _ _ h => h) (by exact yk (.bool true) (by kernel_rfl) (fun _ => by kernel_rfl)) hHeld ?_
    refine wpAnyH_take (i := 6) (by simp only [List.getElem?_toArray]; rfl) (by kernel_rfl) (by kernel_rfl) (by kernel_rfl) (by exact fun _ _ _ h => h) (by exact yieldsIf_ldS (by kernel_rfl) (.tmp 3) rfl Y (by kernel_rfl) (fun _ h => hx.ext h)) hHeld ?_
    refine wpAnyH_take (i := 7) (by simp only [List.getElem?_toArray]; rfl) (by kernel_rfl) (by kernel_rfl) (by kernel_rfl) (by exact fun _ _ _ h => h) (by exact yk (.pointer (some ⟨b, 0, none⟩)) (by kernel_rfl) (fun _ => by kernel_rfl)) hHeld ?_
    refine wpAnyH_take (i := 8) (by simp only [List.getElem?_toArray]; rfl) (by kernel_rfl) (by kernel_rfl) (by kernel_rfl) (by exact fun _ _ _ h => h) (by exact yk (.pointer (some ⟨Y, 98, none⟩)) (by kernel_rfl) (fun _ => by kernel_rfl)) hHeld ?_
    refine wpAnyH_take (i := 9) (by simp only [List.getElem?_toArray]; rfl) (by kernel_rfl) (by kernel_rfl) (by kernel_rfl) (by exact fun _ _ _ h => h) (by exact yk_ldW (by kernel_rfl) (.tmp 23) rfl ⟨Y, 98, none⟩ (.int .u32 (v.tk : Int)) (by kernel_rfl) (fun _ h => (hx.ext h).cK)) hHeld ?_
    refine wpAnyH_ready (rs := [10]) (by kernel_rfl) (by simp) ?_
    refine AllReadyH.cons (by simp only [List.getElem?_toArray]; rfl) (fun KK hKK => ?_) AllReadyH.nil
    rw [if_pos (by kernel_rfl)]
    refine wp_callF 19 #[.pointer (some ⟨b, 0, none⟩), .int .u32 (v.tk : Int)] (by kernel_rfl) ?_
    refine (hshow _ (hTB.ext hbr) (hT1.ext hbr)).mono ?_
    rintro e wc ⟨rfl, -, ha⟩
    have hbr := hbr.trans (ha.mono hbr.size)
    refine ⟨_, rfl, ?_⟩
    refine hKK.out _ _ ?_ (fun hHeld => ?_)
    · exact hbr
    clear hKK KK
    refine wpAnyH_take (i := 11) (by simp only [List.getElem?_toArray]; rfl) (by kernel_rfl) (by kernel_rfl) (by kernel_rfl) (by exact fun _ _ _ h => h) (by exact yk_neS2 (by kernel_rfl) (.tmp 21) (.tmp 25) rfl v X (by kernel_rfl) (by kernel_rfl) hv.l N HN.out) hHeld ?_
    refine wpAnyH_take (i := 12) (by simp only [List.getElem?_toArray]; rfl) (by kernel_rfl) (by kernel_rfl) (by kernel_rfl) (by exact fun _ _ _ h => h) (by exact yk (.bool N) (by kernel_rfl) (fun _ => by kernel_rfl)) hHeld ?_
    refine wpAnyH_done (by kernel_rfl) ?_ _
    try simp only [Act.put, List.setIfInBounds_toArray, List.set_cons_zero, List.set_cons_succ]
    have hTB2 := hTB.ext hbr
    have hx2 := hx.ext hbr
    have hb2 := hb.trans (hbr.mono hb.size)
    clear hbr hTB hx hT1 hb hend hshow
    cases N with
    | true =>
      have e9 : confT t v = { t with k := v, r := t.r + 1, f := delU t.f v.tk } := by unfold confT; rw [hW]; rfl
      have HE := Lib.hid e9
      clear e9 hW
      have qR := hTB2.row.cR
      have fR := hTB2.row.free 107
      have h3 := hTB2.sR (t.r + 1)
      have eR : (t.r : Int) + 1 = ((t.r + 1 : Nat) : Int) := by omega
      have eW : wrap64 ((t.r : Int) + 1) = (t.r : Int) + 1 := by unfold wrap64; omega
      have m3 := Mod.setCell wc ⟨b, 107, none⟩ (.int .i64 ((t.r + 1 : Nat) : Int))
      rw [← eR] at h3 m3
      clear eR
      go_upto_region 7 with fail
      clear eW qR fR
      have hM := (mod_ext (S := fun i => i = b ∨ i = bm) hb2).trans m3 (fun _ _ e => e) (fun _ _ e => Or.inl e)
      obtain ⟨w4, hw4⟩ : ∃ w4, w4 = wc.setCell ⟨b, 107, none⟩ (.int .i64 ((t.r : Int) + 1)) := ⟨_, rfl⟩
      have hx3 := hx2.mod m3 (fun e => by have e : Y = b := e; have := HY.out; have := HBW.out; omega)
      rw [← hw4] at h3 m3 hM hx3 ⊢
      clear hw4 m3 hTB2 hx2 hb2
      go_upto_region 8 with (first | ((with_reducible refine at_ld 40 3 ?_); refine wpList_ldS rfl (.tmp 3) rfl Y rfl hx3 ?_) | ((with_reducible refine at_st 40 38 36 ?_); refine wpList_stT rfl (.tmp 38) (.tmp 36) rfl b v rfl rfl h3.row ?_))
      have h5 := h3.sK v
      have m5 := mod_setCells w4 b 7 (stL v)
      have hx5 := hx3.mod m5 (fun e => by have e : Y = b := e; have := HY.out; have := HBW.out; omega)
      obtain ⟨w5, hw5⟩ : ∃ w5, w5 = w4.setCells b 7 (stL v) := ⟨_, rfl⟩
      rw [← hw5] at h5 m5 hx5 ⊢
      replace hM := hM.trans m5 (fun _ _ e => e) (fun _ _ e => Or.inl e)
      have q106 := h5.row.cM
      have hDel := Del_calls bm t.n Y t.f v w5 h5.mp hx5
      clear hw5 m5 h3 hx3
      go_wp2_with fail
      refine hDel.mono ?_
      rintro e w6 ⟨rfl, hu, hm6⟩
      have h6 := h5.sF hu hm6
      replace hM := hM.trans hm6 (fun _ _ e => e) (fun _ _ e => Or.inr e)
      clear hDel q106 hu hm6
      go_wp2_with fail
      go_ret
      rw [HE.out]
      exact ⟨rfl, h6, hM⟩
    | false =>
      have e9 : confT t v = { t with k := v, r := t.r, f := delU t.f v.tk } := by unfold confT; rw [hW]; rfl
      have HE := Lib.hid e9
      clear e9 hW
      go_upto_region 7 with fail
      have h3 := hTB2
      have m3 := Mod.refl (fun i => i = b) wc
      have hM := (mod_ext (S := fun i => i = b ∨ i = bm) hb2).trans m3 (fun _ _ e => e) (fun _ _ e => Or.inl e)
      obtain ⟨w4, hw4⟩ : ∃ w4, w4 = wc := ⟨_, rfl⟩
      have hx3 := hx2.mod m3 (fun e => by have e : Y = b := e; have := HY.out; have := HBW.out; omega)
      rw [← hw4] at h3 m3 hM hx3 ⊢
      clear hw4 m3 hTB2 hx2 hb2
      go_upto_region 8 with (first | ((with_reducible refine at_ld 40 3 ?_); refine wpList_ldS rfl (.tmp 3) rfl Y rfl hx3 ?_) | ((with_reducible refine at_st 40 38 36 ?_); refine wpList_stT rfl (.tmp 38) (.tmp 36) rfl b v rfl rfl h3.row ?_))
      have h5 := h3.sK v
      have m5 := mod_setCells w4 b 7 (stL v)
      have hx5 := hx3.mod m5 (fun e => by have e : Y = b := e; have := HY.out; have := HBW.out; omega)
      obtain ⟨w5, hw5⟩ : ∃ w5, w5 = w4.setCells b 7 (stL v) := ⟨_, rfl⟩
      rw [← hw5] at h5 m5 hx5 ⊢
      replace hM := hM.trans m5 (fun _ _ e => e) (fun _ _ e => Or.inl e)
      have q106 := h5.row.cM
      have hDel := Del_calls bm t.n Y t.f v w5 h5.mp hx5
      clear hw5 m5 h3 hx3
      go_wp2_with fail
      refine hDel.mono ?_
      rintro e w6 ⟨rfl, hu, hm6⟩
      have h6 := h5.sF hu hm6
      replace hM := hM.trans hm6 (fun _ _ e => e) (fun _ _ e => Or.inr e)
      clear hDel q106 hu hm6
      go_wp2_with fail
      go_ret
      rw [HE.out]
      exact ⟨rfl, h6, hM⟩
  · have eg : decide ((v.tk : Int) ≤ (E : Int)) = false := by simpa using hg
    rw [decide_eq_false hg, Bool.false_and] at hW
    refine wp_region_held_drew (S := fun w' => Below wq.heap.size wq w') (by kernel_rfl) ?_ (fun hHeld => ?_)
    · exact below_drew (Below.refl _ _)
    refine wpAnyH_take (i := 0) (by simp only [List.getElem?_toArray]; rfl) (by kernel_rfl) (by kernel_rfl) (by kernel_rfl) (by exact fun _ _ _ h => h) (by exact yk (.pointer (some ⟨Y, 98, none⟩)) (by kernel_rfl) (fun _ => by kernel_rfl)) hHeld ?_
    refine wpAnyH_take (i := 1) (by simp only [List.getElem?_toArray]; rfl) (by kernel_rfl) (by kernel_rfl) (by kernel_rfl) (by exact fun _ _ _ h => h) (by exact yk_ldW (by kernel_rfl) (.tmp 15) rfl ⟨Y, 98, none⟩ (.int .u32 (v.tk : Int)) (by kernel_rfl) (fun _ h => (hx.ext h).cK)) hHeld ?_
    refine wpAnyH_take (i := 2) (by simp only [List.getElem?_toArray]; rfl) (by kernel_rfl) (by kernel_rfl) (by kernel_rfl) (by exact fun _ _ _ h => h) (by exact yk (.pointer (some ⟨b, 0, none⟩)) (by kernel_rfl) (fun _ => by kernel_rfl)) hHeld ?_
    refine wpAnyH_ready (rs := [3]) (by kernel_rfl) (by simp) ?_
    refine AllReadyH.cons (by simp only [List.getElem?_toArray]; rfl) (fun KK hKK => ?_) AllReadyH.nil
    rw [if_pos (by kernel_rfl)]
    refine wp_callF 34 #[.pointer (some ⟨b, 0, none⟩)] (by kernel_rfl) ?_
    refine (hend _ (hTB.ext (below_drew (Below.refl _ _)))).mono ?_
    rintro e wa ⟨rfl, hwa⟩
    have hbr : Below wq.heap.size wq wa := by rw [hwa]; exact below_drew (Below.refl _ _)
    refine ⟨_, rfl, ?_⟩
    refine hKK.out _ _ ?_ (fun hHeld => ?_)
    · exact hbr
    clear hKK KK
    refine wpAnyH_take (i := 4) (by simp only [List.getElem?_toArray]; rfl) (by kernel_rfl) (by kernel_rfl) (by kernel_rfl) (by exact fun _ _ _ h => h) (by exact yk_leq (by kernel_rfl) .u32 22 (.tmp 16) (.tmp 18) _ rfl (v.tk : Int) (E : Int) (by kernel_rfl) (by kernel_rfl) false (eg)) hHeld ?_
    refine wpAnyH_take (i := 5) (by simp only [List.getElem?_toArray]; rfl) (by kernel_rfl) (by kernel_rfl) (by kernel_rfl) (by exact fun _ _ _ h => h) (by exact yk (.bool false) (by kernel_rfl) (fun _ => by kernel_rfl)) hHeld ?_
    refine wpAnyH_take (i := 6) (by simp only [List.getElem?_toArray]; rfl) (by kernel_rfl) (by kernel_rfl) (by kernel_rfl) (by exact fun _ _ _ h => h) (by exact yk_no (by kernel_rfl)) hHeld ?_
    refine wpAnyH_take (i := 7) (by simp only [List.getElem?_toArray]; rfl) (by kernel_rfl) (by kernel_rfl) (by kernel_rfl) (by exact fun _ _ _ h => h) (by exact yk_no (by kernel_rfl)) hHeld ?_
    refine wpAnyH_take (i := 8) (by simp only [List.getElem?_toArray]; rfl) (by kernel_rfl) (by kernel_rfl) (by kernel_rfl) (by exact fun _ _ _ h => h) (by exact yk_no (by kernel_rfl)) hHeld ?_
    refine wpAnyH_take (i := 9) (by simp only [List.getElem?_toArray]; rfl) (by kernel_rfl) (by kernel_rfl) (by kernel_rfl) (by exact fun _ _ _ h => h) (by exact yk_no (by kernel_rfl)) hHeld ?_
    refine wpAnyH_take (i := 10) (by simp only [List.getElem?_toArray]; rfl) (by kernel_rfl) (by kernel_rfl) (by kernel_rfl) (by exact fun _ _ _ h => h) (by exact yk_no (by kernel_rfl)) hHeld ?_
    refine wpAnyH_take (i := 11) (by simp only [List.getElem?_toArray]; rfl) (by kernel_rfl) (by kernel_rfl) (by kernel_rfl) (by exact fun _ _ _ h => h) (by exact yk_no (by kernel_rfl)) hHeld ?_
    refine wpAnyH_take (i := 12) (by simp only [List.getElem?_toArray]; rfl) (by kernel_rfl) (by kernel_rfl) (by kernel_rfl) (by exact fun _ _ _ h => h) (by exact yk (.bool false) (by kernel_rfl) (fun _ => by kernel_rfl)) hHeld ?_
    refine wpAnyH_done (by kernel_rfl) ?_ _
    try simp only [Act.put, List.setIfInBounds_toArray, List.set_cons_zero, List.set_cons_succ]
    have hTB2 := hTB.ext hbr
    have hx2 := hx.ext hbr
    have hb2 := hb.trans (hbr.mono hb.size)
    clear hbr hTB hx hT1 hb hend hshow
    have e9 : confT t v = { t with k := v, r := t.r, f := delU t.f v.tk } := by unfold confT; rw [hW]; rfl
    have HE := Lib.hid e9
    clear e9 hW
    go_upto_region 7 with fail
    have h3 := hTB2
    have m3 := Mod.refl (fun i => i = b) wa
    have hM := (mod_ext (S := fun i => i = b ∨ i = bm) hb2).trans m3 (fun _ _ e => e) (fun _ _ e => Or.inl e)
    obtain ⟨w4, hw4⟩ : ∃ w4, w4 = wa := ⟨_, rfl⟩
    have hx3 := hx2.mod m3 (fun e => by have e : Y = b := e; have := HY.out; have := HBW.out; omega)
    rw [← hw4] at h3 m3 hM hx3 ⊢
    clear hw4 m3 hTB2 hx2 hb2
    go_upto_region 8 with (first | ((with_reducible refine at_ld 40 3 ?_); refine wpList_ldS rfl (.tmp 3) rfl Y rfl hx3 ?_) | ((with_reducible refine at_st 40 38 36 ?_); refine wpList_stT rfl (.tmp 38) (.tmp 36) rfl b v rfl rfl h3.row ?_))
    have h5 := h3.sK v
    have m5 := mod_setCells w4 b 7 (stL v)
    have hx5 := hx3.mod m5 (fun e => by have e : Y = b := e; have := HY.out; have := HBW.out; omega)
    obtain ⟨w5, hw5⟩ : ∃ w5, w5 = w4.setCells b 7 (stL v) := ⟨_, rfl⟩
    rw [← hw5] at h5 m5 hx5 ⊢
    replace hM := hM.trans m5 (fun _ _ e => e) (fun _ _ e => Or.inl e)
    have q106 := h5.row.cM
    have hDel := Del_calls bm t.n Y t.f v w5 h5.mp hx5
    clear hw5 m5 h3 hx3
    go_wp2_with fail
    refine hDel.mono ?_
    rintro e w6 ⟨rfl, hu, hm6⟩
    have h6 := h5.sF hu hm6
    replace hM := hM.trans hm6 (fun _ _ e => e) (fun _ _ e => Or.inr e)
    clear hDel q106 hu hm6
    go_wp2_with fail
    go_ret
    rw [HE.out]
    exact ⟨rfl, h6, hM⟩
end Go.Proofs.YtnbbglhpjpebhaaDoor
/- The document's example, of a trail. Condition: the table lies. -/
namespace Go.Proofs.YtnbbglhpjpebhaaDoor
open Go.RowKit
set_option linter.unusedVariables false

theorem run_field_tk (w : World) (s : St) : (Instr.field 40 (.agg (stA s)) 2).run Tryd.prog w = .ok (.int .u32 (s.tk : Int)) w := by
  obtain ⟨f0, f1, f2, hu, h0, h1, h2, t0, t1, t2, o0, o1, o2⟩ := st_under
  have q := part_tk w s
  unfold Instr.field
  obtain ⟨X, hX⟩ : ∃ X, X = stA s := ⟨_, rfl⟩
  rw [← hX] at q ⊢
  simp [run_underlying hu, t2, o2, asAgg, q]
theorem shN_tk {t : Tr} (hr : rightB t.g = true) : ∀ j, t.k.tk + j ≤ 4294967295 → (shN t j).tk = t.k.tk + j
  | 0, _ => rfl
  | j + 1, h => by
    have ih := shN_tk hr j (by omega)
    show (predS t.g t.o _ (shN t j)).tk = _
    unfold predS
    rw [if_pos hr]
    show ((shN t j).tk + 1) % 4294967296 = _
    rw [ih]
    omega
theorem st_built_tk (tk : Nat) : Tryd.prog.built 40 [(2, .int .u32 (tk : Int))] = some (stA ⟨[], 0, tk⟩) := by kernel_rfl
theorem wpList_bdTk {ops : Array Oper} {rest : List Oper} {o : Oper} {a : Act} {w : World} {Q : Exit → Act → World → Prop} (hgd : o.guard = none) (s2 : Operand) (tk : Nat) (ho : o.op = .build 40 #[(2, s2)]) (h2 : a.eval s2 = .int .u32 (tk : Int))
    (h : wpList Tryd.prog ops Q rest (a.put o.dst (.agg (stA ⟨[], 0, tk⟩))) w) : wpList Tryd.prog ops Q (o :: rest) a w := by
  have e : Tryd.prog.built 40 ((#[(2, s2)] : Array (Nat × Operand)).map fun (i, x) => (i, a.eval x)).toList = some (stA ⟨[], 0, tk⟩) := by
    rw [← st_built_tk tk]
    simp [h2]
  exact wpList_build hgd _ _ ho (by rw [e]; rfl) (by rw [e]; exact h)
def aGT : Gm := ⟨1, 1, 2, 0, [], []⟩
def aST : Gs := ⟨none, 0, 0, none, 0, 0⟩
theorem aGT_right : rightB aGT = true := by decide +kernel
theorem aGT_ok : GOk aGT aST := ⟨by decide, by decide, by decide, by decide, by decide, by decide, by decide, by decide, by decide, by decide, fun c hc => (by cases hc), fun c hc => (by cases hc)⟩
theorem st_small (tk : Nat) (h : tk ≤ 4294967295) : StOk ⟨[], 0, tk⟩ := ⟨by simp, fun c hc => (by cases hc), h⟩
set_option maxHeartbeats 4000000 in
set_option maxRecDepth 20000 in
theorem awakeT_calls (w : World) (hT : CTab w) : Calls Tryd.prog 8 #[] w fun e w' => e = .returned (.bool true) ∧ Below w.heap.size w w' := by
  have hN := New_calls aGT aST 0 w ⟨Sl.nil_ _ _ _, Sl.nil_ _ _ _⟩ aGT_ok
  rw [show gmA aGT aST = #[.int .i64 1, .int .i64 1, .int .u32 2, .int .u32 0, .slice none 0 0, .slice none 0 0] from rfl] at hN
  have hfl := fun W s => run_field_tk W s
  go_enter Tryd.func8, Tryd.ntmps8
  go_wp2_with fail
  refine hN.mono ?_
  rintro e w1 ⟨b, bm, s', rfl, hB, hok, l1, l2, l3, l4, hb⟩
  clear hN
  have hR := Reset_calls b bm _ ⟨[], 0, 5⟩ w1 hB
  have hm0 : ∀ i, i < w.heap.size → ¬ (i = b ∨ i = bm) := fun i hi e => by omega
  have hm1 : ∀ i, i < w.heap.size → ¬ i = bm := fun i hi e => by omega
  have HM := Lib.hid (And.intro hm0 hm1)
  clear hm0 hm1 hB
  go_wp2_with ((with_reducible refine at_bd 40 5 _ ?_); refine wpList_bdTk rfl (.const (.int .u32 5)) 5 rfl rfl ?_)
  refine hR.mono ?_
  rintro e w2 ⟨rfl, hB, m2⟩
  replace hb := hb.trans (m2.below hb.size HM.out.1)
  clear hR m2
  obtain ⟨T0, hT0⟩ : ∃ T0, T0 = resT ⟨aGT, s', 0, zSt, 0, 0, fun _ => none⟩ ⟨[], 0, 5⟩ := ⟨_, rfl⟩
  rw [← hT0] at hB
  have ok0 : TrOk T0 := by
    rw [hT0]
    exact ⟨hok, (by simp [resT]), (by simp [resT]), (fun c hc => by cases hc), (by simp [resT]), (by simp [resT]), (fun u v h => by cases h)⟩
  have hA := Add_calls b bm T0 7 1 w2 hB ok0 (by omega) (by omega) (by rw [hT0]; simp [resT])
  have eA : addE T0 7 1 = 0 := by rw [hT0]; rfl
  rw [eA] at hA
  obtain ⟨T1, hT1⟩ : ∃ T1, T1 = addT T0 7 1 := ⟨_, rfl⟩
  rw [← hT1] at hA
  have e1 : T1 = { T0 with n := T0.n + 1, f := updU T0.f 7 (some 1) } := by rw [hT1]; unfold addT; rw [if_pos eA]
  have ok1 : TrOk T1 := by
    rw [e1]
    exact ⟨ok0.g, ok0.o, ok0.l48, ok0.oL, ok0.tk, ok0.r, fun u v h => by
      rw [hT0] at h
      simp only [updU, resT] at h
      split at h
      · injection h with h
        omega
      · cases h⟩
  have eg : T1.g = aGT := by rw [e1, hT0]; rfl
  have es : T1.s = s' := by rw [e1, hT0]; rfl
  have eo : T1.o = 0 := by rw [e1, hT0]; rfl
  have ek : T1.k = ⟨[], 0, 5⟩ := by rw [e1, hT0]; rfl
  have ef : ∀ u, (T1.f u).isSome = true ↔ u = 7 := fun u => by
    rw [e1, hT0]
    simp only [updU, resT]
    split
    · rename_i h; simp [h]
    · rename_i h; simp [h]
  have hP : PredIs T1.g T1.s T1.o := by
    rw [eg, es, eo]
    exact pred_right hok (by constructor <;> omega) aGT_right
  have h7 : ((shown T1 7).tk : Int) = 7 := by
    have h : (shown T1 7).tk = 7 := by
      unfold shown
      rw [shN_tk (by rw [eg]; exact aGT_right) _ (by rw [ek]; simp [endT]), ek]
      simp [endT]
    omega
  have HE := Lib.hid (And.intro ef ek)
  have HT := Lib.hid hT
  have HOK := Lib.hid (And.intro ok1 hP)
  clear hT0 hT1 e1 eA ok0 eg es eo ek ef hok ok1 hP hT
  rw [show (((7 : Nat) : Int)) = 7 from rfl, show (((1 : Nat) : Int)) = 1 from rfl, show (((0 : Nat) : Int)) = 0 from rfl] at hA
  go_wp2_with fail
  refine hA.mono ?_
  rintro e w3 ⟨rfl, hB3, m3⟩
  replace hb := hb.trans (m3.below hb.size HM.out.2)
  clear hA hB m3
  have hS := Shown_calls b bm T1 7 w3 hB3 HOK.out.1 (HT.out.ext hb) HOK.out.2 (by omega)
  rw [show (((7 : Nat) : Int)) = 7 from rfl] at hS
  obtain ⟨X, hX⟩ : ∃ X, X = shown T1 7 := ⟨_, rfl⟩
  rw [← hX] at hS h7
  clear hX
  go_wp2_with fail
  refine hS.mono ?_
  rintro e w4 ⟨rfl, hB4, h9⟩
  replace hb := hb.trans (h9.mono hb.size)
  clear hS hB3 h9
  have hL := Last_calls b bm T1 w4 hB4 HOK.out.1.tk
  go_wp2_with fail
  refine hL.mono ?_
  rintro e w5 ⟨L, rfl, hLi, hB5, h9⟩
  replace hb := hb.trans (h9.mono hb.size)
  have hL7 : (L : Int) = 7 := by
    obtain ⟨l1, l2, l3, l4⟩ := hLi
    have h4 := l4 7 (by omega) ((HE.out.1 7).2 rfl)
    rcases l3 with l3 | l3
    · rw [HE.out.2] at l3; simp only at l3; omega
    · have := (HE.out.1 L).1 l3; omega
  clear hL hB4 h9 hLi h7
  have hK := Known_calls b bm T1 w5 hB5
  rw [HE.out.2] at hK
  go_wp2_with fail
  refine hK.mono ?_
  rintro e w6 ⟨rfl, h9⟩
  replace hb := hb.trans (h9.mono hb.size)
  clear hK h9 hB5
  go_wp2_with fail
  go_ret
  exact ⟨rfl, hb⟩
end Go.Proofs.YtnbbglhpjpebhaaDoor
/- Steps of a law on states: they are built, they are compared. Conditions: those said. -/
namespace Go.Proofs.YtnbbglhpjpebhaaDoor
open Go.RowKit
set_option linter.unusedVariables false

section
variable {ops : Array Oper} {rest : List Oper} {o : Oper} {a : Act} {w : World} {Q : Exit → Act → World → Prop}
theorem wpList_eqS (hw : Region.wanted o (yielded ops a.tmps) = true) (x y : Operand) (ho : o.op = .binOp .eql 40 x y 40) (s t : St) (hx : a.eval x = .agg (stA s)) (hy : a.eval y = .agg (stA t)) (hs : s.L.length ≤ 48) (d : Bool) (hd : eqS s t = d)
    (h : wpList Tryd.prog ops Q rest (a.put o.dst (.bool d)) w) : wpList Tryd.prog ops Q (o :: rest) a w :=
  BigFrame.wpList_want hw fun K hK => by
    unfold Oper.wp
    simp only [execOp, ho, hx, hy, Sem.run_bind, st_guard, Result.andThen_ok, run_eql_st2 w s t hs, Sem.run_pure]
    rw [hd]
    exact hK _ _ h
theorem wpList_neS (hw : Region.wanted o (yielded ops a.tmps) = true) (x y : Operand) (ho : o.op = .binOp .neq 40 x y 40) (s t : St) (hx : a.eval x = .agg (stA s)) (hy : a.eval y = .agg (stA t)) (hs : s.L.length ≤ 48) (d : Bool) (hd : (!eqS s t) = d)
    (h : wpList Tryd.prog ops Q rest (a.put o.dst (.bool d)) w) : wpList Tryd.prog ops Q (o :: rest) a w :=
  BigFrame.wpList_want hw fun K hK => by
    unfold Oper.wp
    simp only [execOp, ho, hx, hy, Sem.run_bind, st_guard, Result.andThen_ok, run_neq_st2 w s t hs, Sem.run_pure]
    rw [hd]
    exact hK _ _ h
theorem wpList_bdS0w (hw : Region.wanted o (yielded ops a.tmps) = true) (ho : o.op = .build 40 #[]) (h : wpList Tryd.prog ops Q rest (a.put o.dst (.agg (stA zSt))) w) : wpList Tryd.prog ops Q (o :: rest) a w := by
  have e : Tryd.prog.built 40 ((#[] : Array (Nat × Operand)).map fun (i, x) => (i, a.eval x)).toList = some (stA zSt) := by
    rw [← st_built0]
    simp
  refine BigFrame.wpList_want hw fun K hK => wp_build _ _ ho (by rw [e]; rfl) ?_
  rw [e]
  exact hK _ _ h
end
theorem st_built_dt (d tk : Nat) : Tryd.prog.built 40 [(1, .agg #[.int .u64 (d : Int)]), (2, .int .u32 (tk : Int))] = some (stA ⟨[], d, tk⟩) := by kernel_rfl
theorem wpList_bdDt {ops : Array Oper} {rest : List Oper} {o : Oper} {a : Act} {w : World} {Q : Exit → Act → World → Prop} (hgd : o.guard = none) (s1 s2 : Operand) (d tk : Nat) (ho : o.op = .build 40 #[(1, s1), (2, s2)]) (h1 : a.eval s1 = .agg #[.int .u64 (d : Int)]) (h2 : a.eval s2 = .int .u32 (tk : Int))
    (h : wpList Tryd.prog ops Q rest (a.put o.dst (.agg (stA ⟨[], d, tk⟩))) w) : wpList Tryd.prog ops Q (o :: rest) a w := by
  have e : Tryd.prog.built 40 ((#[(1, s1), (2, s2)] : Array (Nat × Operand)).map fun (i, x) => (i, a.eval x)).toList = some (stA ⟨[], d, tk⟩) := by
    rw [← st_built_dt d tk]
    simp [h1, h2]
  exact wpList_build hgd _ _ ho (by rw [e]; rfl) (by rw [e]; exact h)
end Go.Proofs.YtnbbglhpjpebhaaDoor
/- How a list of uint32 that came in reads, in the words of this seat's walks; how long it may be. No condition. -/
namespace Go.Proofs.YtnbbglhpjpebhaaDoor
open Go.ChangeShapes Go.WideShapes Go.ChangeAt Go.RowKit Go.Deep

theorem nats_is {w : World} {x : Addr} {len : Nat} {zs : List Int} (hz : len ≤ zs.length) (hc : ∀ i, i < zs.length → w.cell? (x.add i) = some (.int .u32 (zs.getD i 0))) (h0 : ∀ z ∈ zs, 0 ≤ z) :
    Sl w x.block (some x) (ms ((zs.take len).map Int.toNat)) := by
  refine fun hne => ?_
  have h1 : 0 < zs.length := by
    rcases Nat.eq_zero_or_pos len with h | h
    · subst h; simp [ms] at hne
    · omega
  obtain ⟨bb, off, spot⟩ := x
  have hspot : spot = none := by simpa [Addr.add] using World.cell?_spot (hc 0 h1)
  subst hspot
  refine ⟨off, rfl, fun j u hu => ?_⟩
  have hj : j < len := by
    have := (List.getElem?_eq_some_iff.1 hu).1
    simp [ms] at this
    omega
  have hjz : j < zs.length := by omega
  have h1 := hc j hjz
  rw [Addr.add_lit] at h1
  rw [h1]
  have hm : zs.getD j 0 = zs[j] := by simp [List.getD, hjz]
  have hp := h0 _ (List.getElem_mem hjz)
  have h2 : (ms ((zs.take len).map Int.toNat))[j]? = some (.int .u32 zs[j]) := by
    simp [ms, hj, hjz, Int.toNat_of_nonneg hp]
  rw [h2] at hu
  injection hu with hu
  rw [← hu, hm]
set_option maxRecDepth 100000 in
theorem open_u32s {H : Type} {enc : TypeId × Value → H} {W : World} {base b0 : Nat} {spare : Nat → Bool} {held : Bool} {r : Reach} {v : Value} {d : DataW H} {p : List MemPlace} (hv : Value.okWide Tryd.prog W r base 28 v) (h : DataW.Trod enc Tryd.prog W b0 spare held 28 v d p) :
    ∃ A n c b l, v = .slice A n c ∧ l.length = n ∧ n ≤ maxLen ∧ n ≤ c ∧ (∀ x ∈ l, x ≤ 4294967295) ∧ Sl W b A (ms l) ∧ (n = 0 ∨ ∃ el sp, d = .slice el sp ∧ el.length = n) := by
  obtain ⟨a, len, cap, rfl⟩ := okWide_slice Tryd.underlying28 hv
  obtain ⟨fuel, hf⟩ := h
  rcases open_ints Tryd.underlying28 Tryd.underlying22 (by kernel_rfl) hf with ⟨hcs, _⟩ | ⟨x, l, c, zs, hcs, _, hl, hm, hz, hd, hcell, hwf⟩
  · simp [Value.cells] at hcs
    obtain ⟨rfl, rfl, rfl⟩ := hcs
    exact ⟨none, 0, 0, 0, [], rfl, rfl, by simp [maxLen], Nat.le_refl _, (fun _ h => by cases h), Sl.nil_ _ _ _, Or.inl rfl⟩
  · simp [Value.cells] at hcs
    obtain ⟨rfl, rfl, rfl⟩ := hcs
    have hlz : len ≤ zs.length := by rw [hz]; split <;> omega
    have hb : ∀ z ∈ zs, 0 ≤ z ∧ z ≤ 4294967295 := fun z hz => bounds_u32 (hwf z hz)
    injection hd with hd _
    refine ⟨_, _, _, x.block, (zs.take len).map Int.toNat, rfl, by rw [List.length_map, List.length_take]; omega, by omega, hl, fun y hy => ?_, nats_is hlz hcell (fun z hz => (hb z hz).1), Or.inr ⟨_, _, hd, by simp [lits]; omega⟩⟩
    obtain ⟨z, hz, rfl⟩ := List.mem_map.1 hy
    have := hb z (List.mem_of_mem_take hz)
    omega
/-- As long as may be: what of words may come in. -/
theorem sized_u32 {H : Type} {ts : List TypeId} {ds : List (DataW H)} (h : (DataW.weightsEach Tryd.prog ts ds).all (· ≤ reachBytes) = true) {j n : Nat} {d : DataW H} (ht : ts[j]? = some 28) (hd : ds[j]? = some d) (hs : n = 0 ∨ ∃ el sp, d = .slice el sp ∧ el.length = n) : n * 4 ≤ 140737488351232 := by
  rcases hs with rfl | ⟨el, sp, rfl, rfl⟩
  · decide
  · have h1 := sized_slice h ht hd Tryd.underlying28
    rw [show Tryd.prog.bytesOf 22 = 4 by kernel_rfl] at h1
    simp only [reachBytes] at h1
    omega
end Go.Proofs.YtnbbglhpjpebhaaDoor
/- How a list of int32 that came in reads, in the words of this seat's walks. No condition. -/
namespace Go.Proofs.YtnbbglhpjpebhaaDoor
open Go.ChangeShapes Go.WideShapes Go.ChangeAt Go.RowKit Go.Deep

theorem ints_is {w : World} {x : Addr} {len : Nat} {zs : List Int} (hz : len ≤ zs.length) (hc : ∀ i, i < zs.length → w.cell? (x.add i) = some (.int .i32 (zs.getD i 0))) :
    Is w x.block (some x) (zs.take len) := by
  refine fun hne => ?_
  have h0 : 0 < zs.length := by
    rcases Nat.eq_zero_or_pos len with h | h
    · subst h; simp at hne
    · omega
  obtain ⟨bb, off, spot⟩ := x
  have hspot : spot = none := by simpa [Addr.add] using World.cell?_spot (hc 0 h0)
  subst hspot
  refine ⟨off, rfl, fun j u hu => ?_⟩
  have hj : j < len := by
    have := (List.getElem?_eq_some_iff.1 hu).1
    simp [iv] at this
    omega
  have hjz : j < zs.length := by omega
  have h1 := hc j hjz
  rw [Addr.add_lit] at h1
  rw [h1]
  have hm : zs.getD j 0 = zs[j] := by simp [List.getD, hjz]
  have h2 : (iv (zs.take len))[j]? = some (.int .i32 zs[j]) := by
    simp [iv, hj, hjz]
  rw [h2] at hu
  injection hu with hu
  rw [← hu, hm]
set_option maxRecDepth 100000 in
theorem open_i32s {H : Type} {enc : TypeId × Value → H} {W : World} {base b0 : Nat} {spare : Nat → Bool} {held : Bool} {r : Reach} {v : Value} {d : DataW H} {p : List MemPlace} (hv : Value.okWide Tryd.prog W r base 76 v) (h : DataW.Trod enc Tryd.prog W b0 spare held 76 v d p) :
    ∃ A n c b l, v = .slice A n c ∧ l.length = n ∧ n ≤ maxLen ∧ n ≤ c ∧ (∀ x ∈ l, -2147483648 ≤ x ∧ x ≤ 2147483647) ∧ Is W b A l := by
  obtain ⟨a, len, cap, rfl⟩ := okWide_slice Tryd.underlying76 hv
  obtain ⟨fuel, hf⟩ := h
  rcases open_ints Tryd.underlying76 Tryd.underlying21 (by kernel_rfl) hf with ⟨hcs, _⟩ | ⟨x, l, c, zs, hcs, _, hl, hm, hz, _, hcell, hwf⟩
  · simp [Value.cells] at hcs
    obtain ⟨rfl, rfl, rfl⟩ := hcs
    exact ⟨none, 0, 0, 0, [], rfl, rfl, by simp [maxLen], Nat.le_refl _, (fun _ h => by cases h), Sl.nil_ _ _ _⟩
  · simp [Value.cells] at hcs
    obtain ⟨rfl, rfl, rfl⟩ := hcs
    have hlz : len ≤ zs.length := by rw [hz]; split <;> omega
    exact ⟨_, _, _, x.block, zs.take len, rfl, by rw [List.length_take]; omega, by omega, hl, fun y hy => bounds_i32 (hwf y (List.mem_of_mem_take hy)), ints_is hlz hcell⟩
end Go.Proofs.YtnbbglhpjpebhaaDoor
/- How bytes that came in read, in the words of this seat's walks. No condition. -/
namespace Go.Proofs.YtnbbglhpjpebhaaDoor
open Go.ChangeShapes Go.WideShapes Go.ChangeAt Go.RowKit

theorem ints_bs {w : World} {x : Addr} {len : Nat} {zs : List Int} (hz : len ≤ zs.length) (hc : ∀ i, i < zs.length → w.cell? (x.add i) = some (.int .u8 (zs.getD i 0))) (hw : ∀ n ∈ zs, (Lit.int .u8 n).wf = true) :
    ∃ b l, l.length = len ∧ Bs w b (some x) l := by
  refine ⟨x.block, (zs.take len).map fun z => UInt8.ofNat z.toNat, by simp; omega, fun hne => ?_⟩
  have h0 : 0 < zs.length := by
    rcases Nat.eq_zero_or_pos len with h | h
    · subst h; simp at hne
    · omega
  obtain ⟨bb, off, spot⟩ := x
  have hspot : spot = none := by simpa [Addr.add] using World.cell?_spot (hc 0 h0)
  subst hspot
  refine ⟨off, rfl, fun j u hu => ?_⟩
  have hj : j < len := by
    have := (List.getElem?_eq_some_iff.1 hu).1
    simp [bv] at this
    omega
  have hjz : j < zs.length := by omega
  have h1 := hc j hjz
  rw [Addr.add_lit] at h1
  rw [h1]
  have hm : zs.getD j 0 = zs[j] := by simp [List.getD, hjz]
  have hb := bounds_u8 (hw zs[j] (List.getElem_mem hjz))
  have h2 : (bv ((zs.take len).map fun z => UInt8.ofNat z.toNat))[j]? = some (.int .u8 ((UInt8.ofNat zs[j].toNat).toNat : Int)) := by
    simp [bv, hj, hjz]
  rw [h2] at hu
  injection hu with hu
  rw [← hu, hm, u8_ofNat]
  congr 2
  omega

set_option maxRecDepth 100000 in
theorem open_bytes {H : Type} {enc : TypeId × Value → H} {W : World} {base b0 : Nat} {spare : Nat → Bool} {held : Bool} {r : Reach} {v : Value} {d : DataW H} {p : List MemPlace} (hv : Value.okWide Tryd.prog W r base 71 v) (h : DataW.Trod enc Tryd.prog W b0 spare held 71 v d p) :
    ∃ A n c b l, v = .slice A n c ∧ l.length = n ∧ n ≤ maxLen ∧ Bs W b A l := by
  obtain ⟨a, len, cap, rfl⟩ := okWide_slice Tryd.underlying71 hv
  obtain ⟨fuel, hf⟩ := h
  rcases open_ints Tryd.underlying71 Tryd.underlying5 (by kernel_rfl) hf with ⟨hcs, _⟩ | ⟨x, l, c, zs, hcs, _, hl, hm, hz, _, hcell, hwz⟩
  · simp [Value.cells] at hcs
    obtain ⟨rfl, rfl, rfl⟩ := hcs
    exact ⟨none, 0, 0, 0, [], rfl, rfl, by simp [maxLen], Sl.nil_ _ _ _⟩
  · simp [Value.cells] at hcs
    obtain ⟨rfl, rfl, rfl⟩ := hcs
    obtain ⟨b, l', hl', hs⟩ := ints_bs (by rw [hz]; split <;> omega) hcell hwz
    exact ⟨_, _, _, b, l', rfl, hl', by omega, hs⟩
end Go.Proofs.YtnbbglhpjpebhaaDoor
