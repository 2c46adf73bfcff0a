/- VmRolls: the walk. Conditions: the numbers fit; the table lies. -/
import Derived.Test.YtdijgidlachnjaaDoorZVmRollsN
import Derived.Test.YtdijgidlachnjaaDoorZKReg
import Derived.IntWalk
namespace Go.Proofs.YtdijgidlachnjaaDoor
open Go.RowKit

theorem PR3_eq {k j : Nat} {s : Int} (h : (k : Int) - 1 = (j : Int)) : PR3 k s = ⟨[⟨24, 0, 0, k, 0, 0⟩, ⟨23, 1, 0, 0, s, 0⟩, ⟨3, 1, 0, 0, (j : Int), 0⟩], [0], 1, 3⟩ := by unfold PR3; rw [h]
theorem sl_two0 {w : World} {X : Nat} {u v : Value} (h : Sl w X (some ⟨X, 0, none⟩) [u, v]) : w.cell? ⟨X, 0, none⟩ = some u := by
  have := sl_at h (k := 0) (u := u) rfl
  simpa using this
theorem sl_two1 {w : World} {X : Nat} {u v : Value} (h : Sl w X (some ⟨X, 0, none⟩) [u, v]) : w.cell? ⟨X, 1, none⟩ = some v := by
  have := sl_at h (k := 1) (u := v) rfl
  simpa using this
theorem sum_snoc {l : List Int} {i : Nat} (h : i < l.length) : (l.take (i + 1)).sum = (l.take i).sum + l[i] := by
  rw [List.take_succ_eq_append_getElem h, List.sum_append]
  simp
theorem sum_fit : ∀ (l : List Int), (∀ x ∈ l, -2147483648 ≤ x ∧ x ≤ 2147483647) → -2147483648 * (l.length : Int) ≤ l.sum ∧ l.sum ≤ 2147483648 * (l.length : Int)
  | [], _ => by simp
  | x :: l, h => by
    have h1 := h x (by simp)
    have h2 := sum_fit l fun y hy => h y (by simp [hy])
    simp only [List.sum_cons, List.length_cons]
    omega
theorem shv_fit {k d : Nat} {L : List (Int × Nat)} (h : okC L) : ∀ x ∈ shv k d L, -2147483648 ≤ x ∧ x ≤ 2147483647 := by
  intro x hx
  have h1 := (shufN_perm _ _ _).mem_iff.1 hx
  obtain ⟨y, hy, rfl⟩ := List.mem_map.1 h1
  exact (h y (List.mem_of_mem_take hy)).1
section
variable {ops : Array Oper} {S : World → Prop} {op : Oper} {a : Act}
theorem yk_cv (hw : Region.wanted op (yielded ops a.tmps) = true) (x : Operand) (ho : op.op = .convert 21 2 x) (y : Int) (hx : a.eval x = .int .i32 y) (hy : IntKind.i64.wrap y = y) : YieldsIf Tryd.prog ops S op (.int .i64 y) a :=
  .inl ⟨hw, fun w _ => by
    unfold execOp
    simp only [ho, hx]
    go_simp⟩
theorem yk_add (hw : Region.wanted op (yielded ops a.tmps) = true) (x y : Operand) (ho : op.op = .binOp .add 2 x y 2) (n m : Int) (hx : a.eval x = .int .i64 n) (hy : a.eval y = .int .i64 m) (hz : IntKind.i64.wrap (n + m) = n + m) : YieldsIf Tryd.prog ops S op (.int .i64 (n + m)) a :=
  .inl ⟨hw, fun w _ => by
    unfold execOp
    simp only [ho, hx, hy]
    go_simp⟩
theorem yk_ge (hw : Region.wanted op (yielded ops a.tmps) = true) (x y : Operand) (ho : op.op = .binOp .geq 21 x y 21) (n m : Int) (hx : a.eval x = .int .i32 n) (hy : a.eval y = .int .i32 m) (hz : m ≤ n) : YieldsIf Tryd.prog ops S op (.bool true) a :=
  .inl ⟨hw, fun w _ => by
    unfold execOp
    simp only [ho, hx, hy]
    go_simp⟩
theorem yk_lt (hw : Region.wanted op (yielded ops a.tmps) = true) (x y : Operand) (ho : op.op = .binOp .lss 21 x y 21) (n m : Int) (hx : a.eval x = .int .i32 n) (hy : a.eval y = .int .i32 m) (hz : n < m) : YieldsIf Tryd.prog ops S op (.bool true) a :=
  .inl ⟨hw, fun w _ => by
    unfold execOp
    simp only [ho, hx, hy]
    go_simp⟩
theorem yk_ixC (hw : Region.wanted op (yielded ops a.tmps) = true) (x y : Operand) (ho : op.op = .indexAddr 23 x y) (b off n c k : Nat) (hx : a.eval x = .slice (some ⟨b, off, none⟩) n c) (hy : a.eval y = .int .i64 (k : Int))
    (hk : (k : Int) < (n : Int)) : YieldsIf Tryd.prog ops S op (.pointer (some ⟨b, off + k * 2, none⟩)) a :=
  .inl ⟨hw, fun w _ => by
    unfold execOp
    simp only [ho, hx, hy]
    go_simp⟩
theorem yk_ldD (hw : Region.wanted op (yielded ops a.tmps) = true) (x : Operand) (ho : op.op = .load 27 x) (p : Addr) (v : Value) (hx : a.eval x = .pointer (some p)) (hS : ∀ w, S w → w.cell? p = some v) : YieldsIf Tryd.prog ops S op (.agg #[v]) a :=
  .inl ⟨hw, fun w h => by
    have hc := hS w h
    unfold execOp
    simp only [ho, hx]
    go_simp⟩
theorem yk_eqD (hw : Region.wanted op (yielded ops a.tmps) = true) (x y : Operand) (ho : op.op = .binOp .eql 27 x y 27) (n : Int) (hx : a.eval x = .agg #[.int .u64 n]) (hy : a.eval y = .agg #[.int .u64 n]) : YieldsIf Tryd.prog ops S op (.bool true) a :=
  .inl ⟨hw, fun w _ => by
    unfold execOp
    simp only [ho, hx, hy]
    go_simp⟩
end
set_option maxHeartbeats 16000000 in
set_option maxRecDepth 20000 in
theorem VmRolls_walk (A : Option Addr) (L : List (Int × Nat)) (n c b : Nat) (d q : Nat) (sd : Int) (w : World) (hT : CTab w) (hs : Sl w b A (cv L)) (hn : L.length = n) (_hm : n ≤ maxLen) (hnc : n ≤ c) (hok : okC L) (hd : d < 18446744073709551616) (hq : q ≤ 255) (hsd : -2147483648 ≤ sd ∧ sd ≤ 2147483647) :
    Calls Tryd.prog 11 #[.slice A n c, .agg #[.int .u64 (d : Int)], .int .u8 (q : Int), .int .i32 sd] w fun e w' => e = .returned (.bool true) ∧ Below w.heap.size w w' := by
  have hok := fun x hx => hok x (List.mem_of_mem_take (i := 48) hx)
  have hFw := fun W h => FewC_calls A L n c b W h hn hnc
  obtain ⟨M, hM⟩ : ∃ M, M = L.take 48 := ⟨_, rfl⟩
  simp only [← hM] at hFw hok
  have lM : M.length ≤ 48 := by rw [hM, List.length_take]; omega
  have oM : okC M := hok
  have kd := heap_alloc_new w (.cells #[.int .u64 (d : Int)] 27)
  have hb0 := below_alloc1 w (.cells #[.int .u64 (d : Int)] 27)
  have hT0 := hT.ext hb0
  have hs := Sl.ext hs hb0
  have kd : Box (w.alloc (.cells #[.int .u64 (d : Int)] 27)) w.heap.size (.int .u64 (d : Int)) 27 := kd
  obtain ⟨wd, hwd⟩ : ∃ wd, wd = w.alloc (.cells #[.int .u64 (d : Int)] 27) := ⟨_, rfl⟩
  have HD := Lib.hid hd
  clear hM hok hn hnc hT hd
  go_enter Tryd.func11, Tryd.ntmps11
  go_wp2_with fail
  rw [← hwd] at kd hb0 hT0 hs ⊢
  have KD := Lib.hid kd
  have HBD := Lib.hid hb0
  clear hwd hb0 kd
  refine (Awake_calls _ hT0).mono ?_
  rintro e w1 ⟨rfl, h1⟩
  have hT1 := hT0.ext h1
  have hs := Sl.ext hs h1
  clear hT0
  go_wp2_with fail
  refine (hFw w1 hs).mono ?_
  rintro e w2 ⟨v, rfl, hv, h2⟩
  have hT2 := hT1.ext h2
  have hb2 := h1.trans (h2.mono h1.size)
  obtain ⟨A3, c3, b3, rfl, hc3, -, -, -, hsl3, -⟩ := hv.sl
  obtain ⟨mM, hmM⟩ : ∃ mM, mM = M.length := ⟨_, rfl⟩
  rw [← hmM] at hc3 ⊢
  have HmM := Lib.hid hmM
  have lMM : mM ≤ 48 := by rw [hmM]; exact lM
  clear hFw hs hT1 h1 h2 hv hmM
  by_cases h0 : mM ≤ 0
  · have e0 : ((mM : Int) == 0) = true := by simp; omega
    go_wp2_with fail
    go_ret
    exact ⟨rfl, HBD.out.trans (hb2.mono HBD.out.size)⟩
  have e0 : ((mM : Int) == 0) = false := by simp; omega
  obtain ⟨j, hj⟩ : ∃ j, j = q % mM := ⟨_, rfl⟩
  have hjm : j < mM := by rw [hj]; exact Nat.mod_lt _ (by omega)
  have e1 : (q : Int).tmod (mM : Int) = (j : Int) := by rw [Int.tmod_eq_emod_of_nonneg (by omega), hj]; rfl
  have e2 : (q : Int) % (mM : Int) = (j : Int) := by rw [hj]; rfl
  obtain ⟨k, hk⟩ : ∃ k, k = j + 1 := ⟨_, rfl⟩
  have e3 : 1 + (j : Int) = (k : Int) := by omega
  have e5 : (k : Int) - 1 = (j : Int) := by omega
  have hk48 : (k : Int) ≤ 48 := by omega
  have hk1 : 1 ≤ (k : Int) := by omega
  obtain ⟨s, hs⟩ : ∃ s, s = max sd 1 := ⟨_, rfl⟩
  have hs1 : 1 ≤ s := by omega
  have hs2 : s ≤ 2147483647 := by omega
  have m1 : max sd 1 = s := hs.symm
  have m2 : (if sd < 1 then (1 : Int) else sd) = s := by split <;> omega
  have m3 : (if sd ≤ 1 then (1 : Int) else sd) = s := by split <;> omega
  have m4 : (if (1 : Int) > sd then (1 : Int) else sd) = s := by split <;> omega
  have HK := Lib.hid hk
  have hkm : k ≤ M.length := by rw [← HmM.out]; omega
  have hjk : j < k := by omega
  clear hj hs hk h0
  have hr3 := rolls3 (k := k) (d := d) (s := s) (L := M) (by omega) hkm lM hs1 hs2 HD.out rfl
  have hr1 := rolls1 (k := k) (d := d) (L := M) (by omega) hkm lM rfl
  rw [PR3_eq e5] at hr3
  obtain ⟨P3, hP3⟩ : ∃ P3 : VP, P3 = ⟨[⟨24, 0, 0, k, 0, 0⟩, ⟨23, 1, 0, 0, s, 0⟩, ⟨3, 1, 0, 0, (j : Int), 0⟩], [0], 1, 3⟩ := ⟨_, rfl⟩
  obtain ⟨P1, hP1⟩ : ∃ P1 : VP, P1 = PR1 k := ⟨_, rfl⟩
  have k3 : kv P3.code = [.int .u8 24, .int .u8 0, .int .u8 0, .int .u8 (k : Int), .int .i32 0, .int .u32 0, .int .u8 23, .int .u8 1, .int .u8 0, .int .u8 0, .int .i32 s, .int .u32 0, .int .u8 3, .int .u8 1, .int .u8 0, .int .u8 0, .int .i32 (j : Int), .int .u32 0] := by rw [hP3]; rfl
  have k1 : kv P1.code = [.int .u8 24, .int .u8 0, .int .u8 0, .int .u8 (k : Int), .int .i32 0, .int .u32 0] := by rw [hP1]; rfl
  have v3 : P3.mv = [0] ∧ P3.tk = 1 ∧ P3.al = 3 ∧ P3.code.length = 3 := by rw [hP3]; exact ⟨rfl, rfl, rfl, rfl⟩
  have v1 : P1.mv = [0] ∧ P1.tk = 1 ∧ P1.al = 3 ∧ P1.code.length = 1 := by rw [hP1]; exact ⟨rfl, rfl, rfl, rfl⟩
  have o3 : okK P3.code := by
    rw [hP3]
    intro c hc
    simp only [List.mem_cons, List.not_mem_nil, or_false] at hc
    rcases hc with rfl | rfl | rfl
    · exact ok_cd (by decide) (by decide) (by decide) (by omega) (by decide) (by decide) (by decide)
    · exact ok_cd (by decide) (by decide) (by decide) (by decide) (by omega) (by omega) (by decide)
    · exact ok_cd (by decide) (by decide) (by decide) (by decide) (by omega) (by omega) (by decide)
  have o1 : okK P1.code := by
    rw [hP1]
    intro c hc
    simp only [PR1, List.mem_cons, List.not_mem_nil, or_false] at hc
    rcases hc with rfl
    exact ok_cd (by decide) (by decide) (by decide) (by omega) (by decide) (by decide) (by decide)
  rw [← hP3] at hr3
  rw [← hP1] at hr1
  obtain ⟨F, hF⟩ : ∃ F, F = wholeV compN P3 M d := ⟨_, rfl⟩
  obtain ⟨F2, hF2⟩ : ∃ F2, F2 = wholeV compN P1 M d := ⟨_, rfl⟩
  have z32 : ∀ x ∈ ([0] : List Int), -2147483648 ≤ x ∧ x ≤ 2147483647 := by intro x hx; simp only [List.mem_cons, List.not_mem_nil, or_false] at hx; rw [hx]; exact ⟨by decide, by decide⟩
  have hwl := whole_len (P := P3) (L := M) (d := d) (by rw [v3.2.2.1]; decide) (by rw [v3.1]; exact z32) o3 oM
  have hwl2 := whole_len (P := P1) (L := M) (d := d) (by rw [v1.2.2.1]; decide) (by rw [v1.1]; exact z32) o1 oM
  rw [← hF] at hr3 hwl
  rw [← hF2] at hr1 hwl2
  obtain ⟨fe, fd, x, fx, x0, x1⟩ := hr3
  obtain ⟨ge, gL⟩ := hr1
  have H1 := Lib.hid hF
  have H2 := Lib.hid hF2
  have K3 := Lib.hid k3
  have K1_ := Lib.hid k1
  have V3 := Lib.hid v3
  have V1 := Lib.hid v1
  have FE := Lib.hid fe
  have FD := Lib.hid fd
  have FX := Lib.hid fx
  have GE := Lib.hid ge
  have GL := Lib.hid gL
  have WL := Lib.hid hwl
  have WL2 := Lib.hid hwl2
  have O3 := Lib.hid o3
  have O1 := Lib.hid o1
  clear hF hF2 k3 k1 v3 v1 fe fd fx ge gL hwl hwl2 hP3 hP1 o3 o1 z32
  go_wp2_with fail
  refine (New_in A3 M mM c3 b3 w2 hsl3 HmM.out.symm lMM).mono ?_
  rintro e w3 ⟨rfl, h3⟩
  have l1 := BoxL.new_ w3 M
  have h4 := below_alloc1 w3 (.cells (bdL M) 44)
  have hsl3 := Sl.ext (Sl.ext hsl3 h3) h4
  have hT3 := (hT2.ext h3).ext h4
  have hb3 := hb2.trans (h3.mono hb2.size)
  have hb3 := hb3.trans (h4.mono hb3.size)
  obtain ⟨G, hG⟩ : ∃ G, G = w3.heap.size := ⟨_, rfl⟩
  rw [← hG] at l1
  have HG := Lib.hid hG.symm
  have dk := ((KD.out.ext hb3).ext (below_alloc1 _ (.cells #[.int .u8 24, .int .u8 0, .int .u8 0, .int .u8 (k : Int), .int .i32 0, .int .u32 0, .int .u8 23, .int .u8 1, .int .u8 0, .int .u8 0, .int .i32 s, .int .u32 0, .int .u8 3, .int .u8 1, .int .u8 0, .int .u8 0, .int .i32 (j : Int), .int .u32 0] 60))).cell
  clear hT2 hb2 h3 h4 hG
  go_wp2_with (first | ((with_reducible refine at_al 44 10 ?_); refine wpList_al rfl rfl (some 10) rfl G HG.out ?_) | ((with_reducible refine at_st 44 10 39 ?_); refine wpList_put rfl (.tmp 10) (.tmp 39) rfl HG.out M rfl rfl ?_) | ((with_reducible refine at_ld 44 10 ?_); refine wpList_ld (by first | rfl | simp [Region.wanted, yielded]) (.tmp 10) rfl G rfl M (BoxL.alloc l1 _) ?_))
  have z1 : (w3.alloc (.cells (bdL M) 44)).heap.size = G + 1 := by rw [← HG.out]; simp
  have s1 : Sl (((w3.alloc (.cells (bdL M) 44)).alloc (.cells #[.int .u8 24, .int .u8 0, .int .u8 0, .int .u8 (k : Int), .int .i32 0, .int .u32 0, .int .u8 23, .int .u8 1, .int .u8 0, .int .u8 0, .int .i32 s, .int .u32 0, .int .u8 3, .int .u8 1, .int .u8 0, .int .u8 0, .int .i32 (j : Int), .int .u32 0] 60)).alloc (.cells #[.int .i32 0] 21)) (G + 1) (some ⟨G + 1, 0, none⟩) (kv P3.code) := by
    have h := (sl_new (w3.alloc (.cells (bdL M) 44)) (kv P3.code) 60).alloc (.cells #[.int .i32 0] 21)
    rw [z1] at h
    rw [K3.out] at h ⊢
    exact h
  have s2 : Is (((w3.alloc (.cells (bdL M) 44)).alloc (.cells #[.int .u8 24, .int .u8 0, .int .u8 0, .int .u8 (k : Int), .int .i32 0, .int .u32 0, .int .u8 23, .int .u8 1, .int .u8 0, .int .u8 0, .int .i32 s, .int .u32 0, .int .u8 3, .int .u8 1, .int .u8 0, .int .u8 0, .int .i32 (j : Int), .int .u32 0] 60)).alloc (.cells #[.int .i32 0] 21)) (G + 1 + 1) (some ⟨G + 1 + 1, 0, none⟩) P3.mv := by
    have h := sl_new ((w3.alloc (.cells (bdL M) 44)).alloc (.cells #[.int .u8 24, .int .u8 0, .int .u8 0, .int .u8 (k : Int), .int .i32 0, .int .u32 0, .int .u8 23, .int .u8 1, .int .u8 0, .int .u8 0, .int .i32 s, .int .u32 0, .int .u8 3, .int .u8 1, .int .u8 0, .int .u8 0, .int .i32 (j : Int), .int .u32 0] 60)) (iv [0]) 21
    rw [show ((w3.alloc (.cells (bdL M) 44)).alloc (.cells #[.int .u8 24, .int .u8 0, .int .u8 0, .int .u8 (k : Int), .int .i32 0, .int .u32 0, .int .u8 23, .int .u8 1, .int .u8 0, .int .u8 0, .int .i32 s, .int .u32 0, .int .u8 3, .int .u8 1, .int .u8 0, .int .u8 0, .int .i32 (j : Int), .int .u32 0] 60)).heap.size = G + 1 + 1 by rw [World.size_alloc, z1]] at h
    rw [V3.out.1]
    exact h
  have h5 := below_alloc2 (w3.alloc (.cells (bdL M) 44)) (.cells #[.int .u8 24, .int .u8 0, .int .u8 0, .int .u8 (k : Int), .int .i32 0, .int .u32 0, .int .u8 23, .int .u8 1, .int .u8 0, .int .u8 0, .int .i32 s, .int .u32 0, .int .u8 3, .int .u8 1, .int .u8 0, .int .u8 0, .int .i32 (j : Int), .int .u32 0] 60) (.cells #[.int .i32 0] 21)
  have hb3 := hb3.trans (h5.mono hb3.size)
  have hT3 := hT3.ext h5
  have l1 := l1.ext h5
  have hsl3 := Sl.ext hsl3 h5
  have z3 : (((w3.alloc (.cells (bdL M) 44)).alloc (.cells #[.int .u8 24, .int .u8 0, .int .u8 0, .int .u8 (k : Int), .int .i32 0, .int .u32 0, .int .u8 23, .int .u8 1, .int .u8 0, .int .u8 0, .int .i32 s, .int .u32 0, .int .u8 3, .int .u8 1, .int .u8 0, .int .u8 0, .int .i32 (j : Int), .int .u32 0] 60)).alloc (.cells #[.int .i32 0] 21)).heap.size = G + 3 := by rw [World.size_alloc, World.size_alloc, z1]
  obtain ⟨wz, hwz⟩ : ∃ wz, wz = (((w3.alloc (.cells (bdL M) 44)).alloc (.cells #[.int .u8 24, .int .u8 0, .int .u8 0, .int .u8 (k : Int), .int .i32 0, .int .u32 0, .int .u8 23, .int .u8 1, .int .u8 0, .int .u8 0, .int .i32 s, .int .u32 0, .int .u8 3, .int .u8 1, .int .u8 0, .int .u8 0, .int .i32 (j : Int), .int .u32 0] 60)).alloc (.cells #[.int .i32 0] 21)) := ⟨_, rfl⟩
  rw [HG.out]
  rw [← hwz] at s1 s2 hb3 hT3 l1 hsl3 z3 ⊢
  have hR : Calls Tryd.prog 21 #[.slice (some ⟨G + 1, 0, none⟩) 3 3, .agg (bdL M), .agg #[.int .u64 (d : Int)], .slice (some ⟨G + 1 + 1, 0, none⟩) 1 1, .int .u32 1, .int .u32 3] wz fun e w' => ∃ sh, e = .returned (.agg (resA sh F)) ∧ RowS w' wz.heap.size sh F.sh ∧ Below wz.heap.size wz w' := by
    have h := Run_calls compN comp_ok comp_fit P3 _ 3 (G + 1) _ 1 (G + 1 + 1) M d wz (runIn_new s1 s2 O3.out (by rw [V3.out.2.2.2]; decide) (by rw [V3.out.1]; decide) (by rw [V3.out.1]; intro x hx; simp only [List.mem_cons, List.not_mem_nil, or_false] at hx; rw [hx]; exact ⟨by decide, by decide⟩) lM oM (by rw [V3.out.2.2.1]; decide) hT3 (by omega) (by omega))
    rw [V3.out.1, V3.out.2.1, V3.out.2.2.1, V3.out.2.2.2, ← H1.out] at h
    exact h
  clear hwz s1 s2 z1 h5
  refine hR.mono ?_
  rintro e w5 ⟨sh1, rfl, hS, h6⟩
  have hone1 := rowS_one hS
  have h7 := below_alloc1 w5 (.cells (resA sh1 F) 50)
  have hb3 := hb3.trans (h6.mono hb3.size)
  have hb3 := hb3.trans (h7.mono hb3.size)
  have hT3 := (hT3.ext h6).ext h7
  have hsl3 := Sl.ext (Sl.ext hsl3 h6) h7
  have l1 := (l1.ext h6).ext h7
  have r5 := BoxR.new_ w5 sh1 F
  obtain ⟨K1, hK⟩ : ∃ K1, K1 = w5.heap.size := ⟨_, rfl⟩
  rw [← hK] at r5
  have HK1 := Lib.hid hK.symm
  clear hR h6 h7 hS z3 hK
  have dk := ((KD.out.ext hb3).ext (below_alloc1 _ (.cells #[.int .u8 24, .int .u8 0, .int .u8 0, .int .u8 (k : Int), .int .i32 0, .int .u32 0] 60))).cell
  go_wp2_with (first | ((with_reducible refine at_al 50 12 ?_); refine wpList_alR rfl rfl (some 12) rfl K1 HK1.out ?_) | ((with_reducible refine at_st 50 12 54 ?_); refine wpList_putR rfl (.tmp 12) (.tmp 54) rfl HK1.out sh1 F hone1 rfl rfl ?_) | ((with_reducible refine at_ld 44 10 ?_); refine wpList_ld (by first | rfl | simp [Region.wanted, yielded]) (.tmp 10) rfl G rfl M (BoxL.alloc l1 _) ?_))
  have z1 : (w5.alloc (.cells (resA sh1 F) 50)).heap.size = K1 + 1 := by rw [← HK1.out]; simp
  have s1 : Sl (((w5.alloc (.cells (resA sh1 F) 50)).alloc (.cells #[.int .u8 24, .int .u8 0, .int .u8 0, .int .u8 (k : Int), .int .i32 0, .int .u32 0] 60)).alloc (.cells #[.int .i32 0] 21)) (K1 + 1) (some ⟨K1 + 1, 0, none⟩) (kv P1.code) := by
    have h := (sl_new (w5.alloc (.cells (resA sh1 F) 50)) (kv P1.code) 60).alloc (.cells #[.int .i32 0] 21)
    rw [z1] at h
    rw [K1_.out] at h ⊢
    exact h
  have s2 : Is (((w5.alloc (.cells (resA sh1 F) 50)).alloc (.cells #[.int .u8 24, .int .u8 0, .int .u8 0, .int .u8 (k : Int), .int .i32 0, .int .u32 0] 60)).alloc (.cells #[.int .i32 0] 21)) (K1 + 1 + 1) (some ⟨K1 + 1 + 1, 0, none⟩) P1.mv := by
    have h := sl_new ((w5.alloc (.cells (resA sh1 F) 50)).alloc (.cells #[.int .u8 24, .int .u8 0, .int .u8 0, .int .u8 (k : Int), .int .i32 0, .int .u32 0] 60)) (iv [0]) 21
    rw [show ((w5.alloc (.cells (resA sh1 F) 50)).alloc (.cells #[.int .u8 24, .int .u8 0, .int .u8 0, .int .u8 (k : Int), .int .i32 0, .int .u32 0] 60)).heap.size = K1 + 1 + 1 by rw [World.size_alloc, z1]] at h
    rw [V1.out.1]
    exact h
  have h5 := below_alloc2 (w5.alloc (.cells (resA sh1 F) 50)) (.cells #[.int .u8 24, .int .u8 0, .int .u8 0, .int .u8 (k : Int), .int .i32 0, .int .u32 0] 60) (.cells #[.int .i32 0] 21)
  have hb3 := hb3.trans (h5.mono hb3.size)
  have hT3 := hT3.ext h5
  have l1 := l1.ext h5
  have r5 := r5.ext h5
  have hsl3 := Sl.ext hsl3 h5
  have z3 : (((w5.alloc (.cells (resA sh1 F) 50)).alloc (.cells #[.int .u8 24, .int .u8 0, .int .u8 0, .int .u8 (k : Int), .int .i32 0, .int .u32 0] 60)).alloc (.cells #[.int .i32 0] 21)).heap.size = K1 + 3 := by rw [World.size_alloc, World.size_alloc, z1]
  obtain ⟨wy, hwz⟩ : ∃ wy, wy = (((w5.alloc (.cells (resA sh1 F) 50)).alloc (.cells #[.int .u8 24, .int .u8 0, .int .u8 0, .int .u8 (k : Int), .int .i32 0, .int .u32 0] 60)).alloc (.cells #[.int .i32 0] 21)) := ⟨_, rfl⟩
  rw [HK1.out]
  rw [← hwz] at s1 s2 hb3 hT3 l1 r5 hsl3 z3 ⊢
  have hR : Calls Tryd.prog 21 #[.slice (some ⟨K1 + 1, 0, none⟩) 1 1, .agg (bdL M), .agg #[.int .u64 (d : Int)], .slice (some ⟨K1 + 1 + 1, 0, none⟩) 1 1, .int .u32 1, .int .u32 3] wy fun e w' => ∃ sh, e = .returned (.agg (resA sh F2)) ∧ RowS w' wy.heap.size sh F2.sh ∧ Below wy.heap.size wy w' := by
    have h := Run_calls compN comp_ok comp_fit P1 _ 1 (K1 + 1) _ 1 (K1 + 1 + 1) M d wy (runIn_new s1 s2 O1.out (by rw [V1.out.2.2.2]; decide) (by rw [V1.out.1]; decide) (by rw [V1.out.1]; intro x hx; simp only [List.mem_cons, List.not_mem_nil, or_false] at hx; rw [hx]; exact ⟨by decide, by decide⟩) lM oM (by rw [V1.out.2.2.1]; decide) hT3 (by omega) (by omega))
    rw [V1.out.1, V1.out.2.1, V1.out.2.2.1, V1.out.2.2.2, ← H2.out] at h
    exact h
  clear hwz s1 s2 z1 h5
  refine hR.mono ?_
  rintro e w6 ⟨sh2, rfl, hS, h6⟩
  have hone2 := rowS_one hS
  have h7 := below_alloc1 w6 (.cells (resA sh2 F2) 50)
  have hb3 := hb3.trans (h6.mono hb3.size)
  have hb3 := hb3.trans (h7.mono hb3.size)
  have hT3 := (hT3.ext h6).ext h7
  have hsl3 := Sl.ext (Sl.ext hsl3 h6) h7
  have l1 := (l1.ext h6).ext h7
  have r5 := (r5.ext h6).ext h7
  have r6 := BoxR.new_ w6 sh2 F2
  obtain ⟨K2, hK⟩ : ∃ K2, K2 = w6.heap.size := ⟨_, rfl⟩
  rw [← hK] at r6
  have HK2 := Lib.hid hK.symm
  clear hR h6 h7 hS z3 hK
  have hjl : j < F.L.length := by rw [WL.out.1]; have := HK.out; omega
  obtain ⟨hj1, hx0⟩ := List.getElem?_eq_some_iff.1 FX.out
  have hAt := fun W => At_in F.L j W (by rw [WL.out.1]; exact lM) hjl
  have hx : F.L[j]'hjl = (x, 0) := by
    have e9 : k - 1 = j := by have := HK.out; omega
    simp only [e9] at hx0
    exact hx0
  rw [hx] at hAt
  have HX := Lib.hid hx
  clear dk hx hx0 hj1
  go_wp2_with (first | ((with_reducible refine at_al 50 13 ?_); refine wpList_alR rfl rfl (some 13) rfl K2 HK2.out ?_) | ((with_reducible refine at_st 50 13 62 ?_); refine wpList_putR rfl (.tmp 13) (.tmp 62) rfl HK2.out sh2 F2 hone2 rfl rfl ?_) | ((with_reducible refine at_ld 44 64 ?_); refine wpList_ldRBw (by first | rfl | simp [Region.wanted, yielded]) (.tmp 64) rfl K1 rfl r5 ?_))
  refine (hAt _).mono ?_
  rintro e w7 ⟨rfl, h7⟩
  have h8 := below_alloc1 w7 (.cells #[.int .i32 x, .int .u32 0] 38)
  have r5 := (r5.ext h7).ext h8
  have r6 := (r6.ext h7).ext h8
  have hsl3 := Sl.ext (Sl.ext hsl3 h7) h8
  have hb3 := hb3.trans (h7.mono hb3.size)
  have hb3 := hb3.trans (h8.mono hb3.size)
  have kx : Sl (w7.alloc (.cells #[.int .i32 x, .int .u32 0] 38)) w7.heap.size (some ⟨w7.heap.size, 0, none⟩) [.int .i32 x, .int .u32 0] := Sl.cells_new w7 _ _
  obtain ⟨X, hX⟩ : ∃ X, X = w7.heap.size := ⟨_, rfl⟩
  rw [← hX] at kx
  have HXX := Lib.hid hX.symm
  clear hAt h7 h8 hT3 l1 hX
  go_wp2_with fail
  rw [HXX.out]
  obtain ⟨wk, hwk⟩ : ∃ wk, wk = w7.alloc (.cells #[.int .i32 x, .int .u32 0] 38) := ⟨_, rfl⟩
  rw [← hwk] at r5 r6 hsl3 hb3 kx ⊢
  clear hwk
  obtain ⟨SV, hSV⟩ : ∃ SV, SV = shv k d M := ⟨_, rfl⟩
  obtain ⟨TV, hTV⟩ : ∃ TV, TV = (M.take k).map Prod.fst := ⟨_, rfl⟩
  have lS : SV.length = k := by rw [hSV]; exact shv_len hkm
  have lT : TV.length = k := by rw [hTV, List.length_map, List.length_take]; omega
  have oS : ∀ x ∈ SV, -2147483648 ≤ x ∧ x ≤ 2147483647 := by rw [hSV]; exact shv_fit oM
  have oT : ∀ x ∈ TV, -2147483648 ≤ x ∧ x ≤ 2147483647 := by
    rw [hTV]
    intro x hx
    obtain ⟨y, hy, rfl⟩ := List.mem_map.1 hx
    exact (oM y (List.mem_of_mem_take hy)).1
  have hsum : SV.sum = TV.sum := by rw [hSV, hTV]; exact shv_sum
  have gL := GL.out
  rw [← hSV] at gL
  have HTV := Lib.hid hTV
  have HSUM := Lib.hid hsum
  have GLL := Lib.hid gL
  have LS := Lib.hid lS
  have LT := Lib.hid lT
  have OS := Lib.hid oS
  have OT := Lib.hid oT
  have hbz := hb3.size
  clear hSV hTV gL hsum lS lT oS oT
  go_loopw [16, 17, 18, 19, 20, 72] (fun s t _ _ _ i wr => ∃ z : Nat, z ≤ k ∧ i = .int .i64 z ∧ s = .int .i64 ((SV.take z).sum) ∧ t = .int .i64 ((TV.take z).sum) ∧ Below wk.heap.size wk wr) (fun _ _ _ _ _ i _ => k - (intOf i).toNat)
  case atStart => exact ⟨0, Nat.zero_le _, rfl, by simp, by simp, Below.refl _ _⟩
  case round =>
    obtain ⟨z, hz, rfl, rfl, rfl, hb⟩ := hrel
    by_cases hlt : z < k
    · have hzS : z < SV.length := by rw [LS.out]; exact hlt
      have hzT : z < TV.length := by rw [LT.out]; exact hlt
      have hzM : z < M.length := by omega
      have hzF : z < F2.L.length := by rw [WL2.out.1]; exact hzM
      have hAt := fun W => At_in F2.L z W (by rw [WL2.out.1]; exact lM) hzF
      have hfz : F2.L[z] = (SV[z], 0) := by
        have e9 := GLL.out
        simp only [e9]
        rw [List.getElem_append_left (by rw [List.length_map]; exact hzS), List.getElem_map]
      rw [hfz] at hAt
      have htz : TV[z] = M[z].1 := by
        have e9 := HTV.out
        simp only [e9]
        rw [List.getElem_map, List.getElem_take]
      have hs1 := sum_snoc hzS
      have ht1 := sum_snoc hzT
      rw [htz] at ht1
      have fS := sum_fit (SV.take z) (fun x hx => OS.out x (List.mem_of_mem_take hx))
      have fT := sum_fit (TV.take z) (fun x hx => OT.out x (List.mem_of_mem_take hx))
      rw [List.length_take] at fS fT
      have fy := OS.out _ (List.getElem_mem hzS)
      have ft := (oM _ (List.getElem_mem hzM)).1
      obtain ⟨off, rfl, hc⟩ := (Sl.ext hsl3 hb) (by intro h0; have h5 := congrArg List.length h0; rw [cv_length, List.length_nil] at h5; omega)
      have mc := hc (z * 2) _ (cv_val hzM)
      obtain ⟨y, hy⟩ : ∃ y, y = SV[z] := ⟨_, rfl⟩
      obtain ⟨t, ht⟩ : ∃ t, t = M[z].1 := ⟨_, rfl⟩
      obtain ⟨SS, hSS⟩ : ∃ SS, SS = (SV.take z).sum := ⟨_, rfl⟩
      obtain ⟨TT, hTT⟩ : ∃ TT, TT = (TV.take z).sum := ⟨_, rfl⟩
      rw [← hy] at hAt fy hs1
      rw [← ht] at mc ft ht1
      rw [← hSS] at fS hs1 ⊢
      rw [← hTT] at fT ht1 ⊢
      have wy := IntWalk.i64_in y (by omega)
      have wt := IntWalk.i64_in t (by omega)
      have ws := IntWalk.i64_in (SS + y) (by omega)
      have wtt := IntWalk.i64_in (TT + t) (by omega)
      have WY := Lib.hid wy
      have WT := Lib.hid wt
      have WS := Lib.hid ws
      have WTT := Lib.hid wtt
      have HS1 := Lib.hid hs1
      have HT1 := Lib.hid ht1
      have q6 := r6.ext hb
      have ej : (z : Int) < (k : Int) := by omega
      have ezm : (z : Int) < (mM : Int) := by omega
      clear hs1 ht1 fS fT hc hy ht hSS hTT hfz htz wy wt ws wtt fy ft
      go_wp2_with (first | ((with_reducible refine at_ld 44 76 ?_); refine wpList_ldRBw (by first | rfl | simp [Region.wanted, yielded]) (.tmp 76) rfl K2 rfl q6 ?_))
      refine (hAt _).mono ?_
      rintro e wa ⟨rfl, ha⟩
      have mc0 := sl_same ha mc
      have h9 := below_alloc1 wa (.cells #[.int .i32 y, .int .u32 0] 38)
      have mc0 := sl_same h9 mc0
      have ky : Sl (wa.alloc (.cells #[.int .i32 y, .int .u32 0] 38)) wa.heap.size (some ⟨wa.heap.size, 0, none⟩) [.int .i32 y, .int .u32 0] := Sl.cells_new wa _ _
      have kc0 := sl_two0 ky
      have kc1 := sl_two1 ky
      have hb := hb.trans (ha.mono hb.size)
      have hb := hb.trans (h9.mono hb.size)
      obtain ⟨Y9, hY9⟩ : ∃ Y9, Y9 = wa.heap.size := ⟨_, rfl⟩
      rw [← hY9] at kc0 kc1
      have HY9 := Lib.hid hY9.symm
      clear hAt ha h9 ky mc q6 hY9
      go_wp2_with fail
      rw [HY9.out]
      obtain ⟨wy9, hwy9⟩ : ∃ wy9, wy9 = wa.alloc (.cells #[.int .i32 y, .int .u32 0] 38) := ⟨_, rfl⟩
      rw [← hwy9] at kc0 kc1 mc0 hb ⊢
      clear hwy9
      have wy := WY.out
      have wt := WT.out
      have ws := WS.out
      have wtt := WTT.out
      refine wp_region_held_drew (S := fun w' => Below wy9.heap.size wy9 w') (by kernel_rfl) ?_ (fun hHeld => ?_)
      · exact (by repeat (first | exact Below.refl _ _ | refine below_drewN ?_ _ | refine below_drew ?_))
      refine wpAnyH_take (i := 0) (by simp only [List.getElem?_toArray]; rfl) (by kernel_rfl) (by kernel_rfl) (by kernel_rfl) (by exact fun _ _ _ h => h) (by exact yk (.int .i64 SS) (by kernel_rfl) (fun _ => by kernel_rfl)) hHeld ?_
      refine wpAnyH_take (i := 1) (by simp only [List.getElem?_toArray]; rfl) (by kernel_rfl) (by kernel_rfl) (by kernel_rfl) (by exact fun _ _ _ h => h) (by exact yk (.pointer (some ⟨Y9, 0, none⟩)) (by kernel_rfl) (fun _ => by kernel_rfl)) hHeld ?_
      refine wpAnyH_take (i := 2) (by simp only [List.getElem?_toArray]; rfl) (by kernel_rfl) (by kernel_rfl) (by kernel_rfl) (by exact fun _ _ _ h => h) (by exact yk_ldV (by kernel_rfl) (.tmp 83) rfl ⟨Y9, 0, none⟩ (.int .i32 y) (by kernel_rfl) (fun w h => sl_same h kc0)) hHeld ?_
      refine wpAnyH_take (i := 3) (by simp only [List.getElem?_toArray]; rfl) (by kernel_rfl) (by kernel_rfl) (by kernel_rfl) (by exact fun _ _ _ h => h) (by exact yk_cv (by kernel_rfl) (.tmp 84) rfl y (by kernel_rfl) wy) hHeld ?_
      refine wpAnyH_take (i := 4) (by simp only [List.getElem?_toArray]; rfl) (by kernel_rfl) (by kernel_rfl) (by kernel_rfl) (by exact fun _ _ _ h => h) (by exact yk_add (by kernel_rfl) (.tmp 82) (.tmp 85) rfl SS y (by kernel_rfl) (by kernel_rfl) ws) hHeld ?_
      refine wpAnyH_take (i := 5) (by simp only [List.getElem?_toArray]; rfl) (by kernel_rfl) (by kernel_rfl) (by kernel_rfl) (by exact fun _ _ _ h => h) (by exact yk (.int .i64 TT) (by kernel_rfl) (fun _ => by kernel_rfl)) hHeld ?_
      refine wpAnyH_take (i := 6) (by simp only [List.getElem?_toArray]; rfl) (by kernel_rfl) (by kernel_rfl) (by kernel_rfl) (by exact fun _ _ _ h => h) (by exact yk (.slice (some ⟨b3, off, none⟩) mM c3) (by kernel_rfl) (fun _ => by kernel_rfl)) hHeld ?_
      refine wpAnyH_take (i := 7) (by simp only [List.getElem?_toArray]; rfl) (by kernel_rfl) (by kernel_rfl) (by kernel_rfl) (by exact fun _ _ _ h => h) (by exact yk (.int .i64 (z : Int)) (by kernel_rfl) (fun _ => by kernel_rfl)) hHeld ?_
      refine wpAnyH_take (i := 8) (by simp only [List.getElem?_toArray]; rfl) (by kernel_rfl) (by kernel_rfl) (by kernel_rfl) (by exact fun _ _ _ h => h) (by exact yk_ixC (by kernel_rfl) (.tmp 88) (.tmp 89) rfl b3 off mM c3 z (by kernel_rfl) (by kernel_rfl) ezm) hHeld ?_
      refine wpAnyH_take (i := 9) (by simp only [List.getElem?_toArray]; rfl) (by kernel_rfl) (by kernel_rfl) (by kernel_rfl) (by exact fun _ _ _ h => h) (by exact yk (.pointer (some ⟨b3, off + z * 2, none⟩)) (by kernel_rfl) (fun _ => by kernel_rfl)) hHeld ?_
      refine wpAnyH_take (i := 10) (by simp only [List.getElem?_toArray]; rfl) (by kernel_rfl) (by kernel_rfl) (by kernel_rfl) (by exact fun _ _ _ h => h) (by exact yk_ldV (by kernel_rfl) (.tmp 91) rfl ⟨b3, off + z * 2, none⟩ (.int .i32 t) (by kernel_rfl) (fun w h => sl_same h mc0)) hHeld ?_
      refine wpAnyH_take (i := 11) (by simp only [List.getElem?_toArray]; rfl) (by kernel_rfl) (by kernel_rfl) (by kernel_rfl) (by exact fun _ _ _ h => h) (by exact yk_cv (by kernel_rfl) (.tmp 92) rfl t (by kernel_rfl) wt) hHeld ?_
      refine wpAnyH_take (i := 12) (by simp only [List.getElem?_toArray]; rfl) (by kernel_rfl) (by kernel_rfl) (by kernel_rfl) (by exact fun _ _ _ h => h) (by exact yk_add (by kernel_rfl) (.tmp 87) (.tmp 93) rfl TT t (by kernel_rfl) (by kernel_rfl) wtt) hHeld ?_
      refine wpAnyH_take (i := 13) (by simp only [List.getElem?_toArray]; rfl) (by kernel_rfl) (by kernel_rfl) (by kernel_rfl) (by exact fun _ _ _ h => h) (by exact yk (.int .i64 (SS + y)) (by kernel_rfl) (fun _ => by kernel_rfl)) hHeld ?_
      refine wpAnyH_take (i := 14) (by simp only [List.getElem?_toArray]; rfl) (by kernel_rfl) (by kernel_rfl) (by kernel_rfl) (by exact fun _ _ _ h => h) (by exact yk (.int .i64 (TT + t)) (by kernel_rfl) (fun _ => by kernel_rfl)) hHeld ?_
      refine wpAnyH_done (by kernel_rfl) ?_ _
      try simp only [Act.put, List.setIfInBounds_toArray, List.set_cons_zero, List.set_cons_succ]
      clear wy wt ws wtt
      go_wp2_with fail
      go_roundw
      case rel => exact ⟨z + 1, by omega, by go_num, by rw [HS1.out], by rw [HT1.out], by repeat (first | exact hb | refine below_drewN ?_ _ | refine below_drew ?_)⟩
      case measure => simp [intOf]; omega
    · obtain rfl : k = z := by omega
      obtain ⟨SM, hSM⟩ : ∃ SM, SM = SV.sum := ⟨_, rfl⟩
      have eS : (SV.take k).sum = SM := by rw [List.take_of_length_le (by rw [LS.out]; exact Nat.le_refl _), hSM]
      have eT : (TV.take k).sum = SM := by rw [List.take_of_length_le (by rw [LT.out]; exact Nat.le_refl _), hSM, HSUM.out]
      rw [eS, eT]
      have r5 := r5.ext hb
      have r6 := r6.ext hb
      have kx := Sl.ext kx hb
      have hb4 := hb3.trans (hb.mono hb3.size)
      have dd := KD.out.ext hb4
      have hb := HBD.out.trans (hb4.mono HBD.out.size)
      have hSk := fun W => Skip_calls d (k : Int) W (by omega) (by omega)
      rw [Int.toNat_natCast, ← FD.out] at hSk
      clear eS eT hSM hb3 hb4
      go_wp2_with fail
      refine wp_region_held_drew (S := fun w' => BoxR w' K1 sh1 F ∧ BoxR w' K2 sh2 F2 ∧ Sl w' X (some ⟨X, 0, none⟩) [.int .i32 x, .int .u32 0] ∧ Box w' w.heap.size (.int .u64 (d : Int)) 27) (by kernel_rfl) ?_ (fun hHeld => ?_)
      · exact ⟨r5, r6, kx, dd⟩
      refine wpAnyH_take (i := 0) (by simp only [List.getElem?_toArray]; rfl) (by kernel_rfl) (by kernel_rfl) (by kernel_rfl) (by exact fun _ _ _ h => h) (by exact yk (.pointer (some ⟨K1, 101, none⟩)) (by kernel_rfl) (fun _ => by kernel_rfl)) hHeld ?_
      refine wpAnyH_take (i := 1) (by simp only [List.getElem?_toArray]; rfl) (by kernel_rfl) (by kernel_rfl) (by kernel_rfl) (by exact fun _ _ _ h => h) (by exact yk_ldE (by kernel_rfl) (.tmp 99) rfl ⟨K1, 101, none⟩ (.int .i64 (F.e : Int)) (by kernel_rfl) (fun w h => h.1.cE)) hHeld ?_
      refine wpAnyH_take (i := 2) (by simp only [List.getElem?_toArray]; rfl) (by kernel_rfl) (by kernel_rfl) (by kernel_rfl) (by exact fun _ _ _ h => h) (by exact yk_eq (by kernel_rfl) .i64 45 (.tmp 100) (.const (.int .i64 0)) _ rfl ((F.e : Int)) 0 (by kernel_rfl) (by kernel_rfl) true (by rw [FE.out]; rfl)) hHeld ?_
      refine wpAnyH_take (i := 3) (by simp only [List.getElem?_toArray]; rfl) (by kernel_rfl) (by kernel_rfl) (by kernel_rfl) (by exact fun _ _ _ h => h) (by exact yk (.bool true) (by kernel_rfl) (fun _ => by kernel_rfl)) hHeld ?_
      refine wpAnyH_take (i := 4) (by simp only [List.getElem?_toArray]; rfl) (by kernel_rfl) (by kernel_rfl) (by kernel_rfl) (by exact fun _ _ _ h => h) (by exact yk (.pointer (some ⟨K2, 101, none⟩)) (by kernel_rfl) (fun _ => by kernel_rfl)) hHeld ?_
      refine wpAnyH_take (i := 5) (by simp only [List.getElem?_toArray]; rfl) (by kernel_rfl) (by kernel_rfl) (by kernel_rfl) (by exact fun _ _ _ h => h) (by exact yk_ldE (by kernel_rfl) (.tmp 103) rfl ⟨K2, 101, none⟩ (.int .i64 (F2.e : Int)) (by kernel_rfl) (fun w h => h.2.1.cE)) hHeld ?_
      refine wpAnyH_take (i := 6) (by simp only [List.getElem?_toArray]; rfl) (by kernel_rfl) (by kernel_rfl) (by kernel_rfl) (by exact fun _ _ _ h => h) (by exact yk_eq (by kernel_rfl) .i64 45 (.tmp 104) (.const (.int .i64 0)) _ rfl ((F2.e : Int)) 0 (by kernel_rfl) (by kernel_rfl) true (by rw [GE.out]; rfl)) hHeld ?_
      refine wpAnyH_take (i := 7) (by simp only [List.getElem?_toArray]; rfl) (by kernel_rfl) (by kernel_rfl) (by kernel_rfl) (by exact fun _ _ _ h => h) (by exact yk (.bool true) (by kernel_rfl) (fun _ => by kernel_rfl)) hHeld ?_
      refine wpAnyH_take (i := 8) (by simp only [List.getElem?_toArray]; rfl) (by kernel_rfl) (by kernel_rfl) (by kernel_rfl) (by exact fun _ _ _ h => h) (by exact yk (.bool true) (by kernel_rfl) (fun _ => by kernel_rfl)) hHeld ?_
      refine wpAnyH_take (i := 9) (by simp only [List.getElem?_toArray]; rfl) (by kernel_rfl) (by kernel_rfl) (by kernel_rfl) (by exact fun _ _ _ h => h) (by exact yk (.pointer (some ⟨X, 1, none⟩)) (by kernel_rfl) (fun _ => by kernel_rfl)) hHeld ?_
      refine wpAnyH_take (i := 10) (by simp only [List.getElem?_toArray]; rfl) (by kernel_rfl) (by kernel_rfl) (by kernel_rfl) (by exact fun _ _ _ h => h) (by exact yk_ldM (by kernel_rfl) (.tmp 108) rfl ⟨X, 1, none⟩ (.int .u32 0) (by kernel_rfl) (fun w h => sl_two1 h.2.2.1)) hHeld ?_
      refine wpAnyH_take (i := 11) (by simp only [List.getElem?_toArray]; rfl) (by kernel_rfl) (by kernel_rfl) (by kernel_rfl) (by exact fun _ _ _ h => h) (by exact yk_eq (by kernel_rfl) .u32 35 (.tmp 109) (.const (.int .u32 0)) _ rfl (0) 0 (by kernel_rfl) (by kernel_rfl) true (by rfl)) hHeld ?_
      refine wpAnyH_take (i := 12) (by simp only [List.getElem?_toArray]; rfl) (by kernel_rfl) (by kernel_rfl) (by kernel_rfl) (by exact fun _ _ _ h => h) (by exact yk (.bool true) (by kernel_rfl) (fun _ => by kernel_rfl)) hHeld ?_
      refine wpAnyH_take (i := 13) (by simp only [List.getElem?_toArray]; rfl) (by kernel_rfl) (by kernel_rfl) (by kernel_rfl) (by exact fun _ _ _ h => h) (by exact yk (.bool true) (by kernel_rfl) (fun _ => by kernel_rfl)) hHeld ?_
      refine wpAnyH_take (i := 14) (by simp only [List.getElem?_toArray]; rfl) (by kernel_rfl) (by kernel_rfl) (by kernel_rfl) (by exact fun _ _ _ h => h) (by exact yk (.pointer (some ⟨X, 0, none⟩)) (by kernel_rfl) (fun _ => by kernel_rfl)) hHeld ?_
      refine wpAnyH_take (i := 15) (by simp only [List.getElem?_toArray]; rfl) (by kernel_rfl) (by kernel_rfl) (by kernel_rfl) (by exact fun _ _ _ h => h) (by exact yk_ldV (by kernel_rfl) (.tmp 113) rfl ⟨X, 0, none⟩ (.int .i32 x) (by kernel_rfl) (fun w h => sl_two0 h.2.2.1)) hHeld ?_
      refine wpAnyH_take (i := 16) (by simp only [List.getElem?_toArray]; rfl) (by kernel_rfl) (by kernel_rfl) (by kernel_rfl) (by exact fun _ _ _ h => h) (by exact yk_ge (by kernel_rfl) (.tmp 114) (.const (.int .i32 0)) rfl x 0 (by kernel_rfl) (by kernel_rfl) x0) hHeld ?_
      refine wpAnyH_take (i := 17) (by simp only [List.getElem?_toArray]; rfl) (by kernel_rfl) (by kernel_rfl) (by kernel_rfl) (by exact fun _ _ _ h => h) (by exact yk (.bool true) (by kernel_rfl) (fun _ => by kernel_rfl)) hHeld ?_
      refine wpAnyH_take (i := 18) (by simp only [List.getElem?_toArray]; rfl) (by kernel_rfl) (by kernel_rfl) (by kernel_rfl) (by exact fun _ _ _ h => h) (by exact yk (.bool true) (by kernel_rfl) (fun _ => by kernel_rfl)) hHeld ?_
      refine wpAnyH_take (i := 19) (by simp only [List.getElem?_toArray]; rfl) (by kernel_rfl) (by kernel_rfl) (by kernel_rfl) (by exact fun _ _ _ h => h) (by exact yk (.pointer (some ⟨X, 0, none⟩)) (by kernel_rfl) (fun _ => by kernel_rfl)) hHeld ?_
      refine wpAnyH_take (i := 20) (by simp only [List.getElem?_toArray]; rfl) (by kernel_rfl) (by kernel_rfl) (by kernel_rfl) (by exact fun _ _ _ h => h) (by exact yk_ldV (by kernel_rfl) (.tmp 118) rfl ⟨X, 0, none⟩ (.int .i32 x) (by kernel_rfl) (fun w h => sl_two0 h.2.2.1)) hHeld ?_
      refine wpAnyH_take (i := 21) (by simp only [List.getElem?_toArray]; rfl) (by kernel_rfl) (by kernel_rfl) (by kernel_rfl) (by exact fun _ _ _ h => h) (by exact yk (.int .i32 s) (by kernel_rfl) (fun _ => by kernel_rfl)) hHeld ?_
      refine wpAnyH_take (i := 22) (by simp only [List.getElem?_toArray]; rfl) (by kernel_rfl) (by kernel_rfl) (by kernel_rfl) (by exact fun _ _ _ h => h) (by exact yk_lt (by kernel_rfl) (.tmp 119) (.tmp 120) rfl x s (by kernel_rfl) (by kernel_rfl) x1) hHeld ?_
      refine wpAnyH_take (i := 23) (by simp only [List.getElem?_toArray]; rfl) (by kernel_rfl) (by kernel_rfl) (by kernel_rfl) (by exact fun _ _ _ h => h) (by exact yk (.bool true) (by kernel_rfl) (fun _ => by kernel_rfl)) hHeld ?_
      refine wpAnyH_take (i := 24) (by simp only [List.getElem?_toArray]; rfl) (by kernel_rfl) (by kernel_rfl) (by kernel_rfl) (by exact fun _ _ _ h => h) (by exact yk (.bool true) (by kernel_rfl) (fun _ => by kernel_rfl)) hHeld ?_
      refine wpAnyH_take (i := 25) (by simp only [List.getElem?_toArray]; rfl) (by kernel_rfl) (by kernel_rfl) (by kernel_rfl) (by exact fun _ _ _ h => h) (by exact yk (.int .i64 SM) (by kernel_rfl) (fun _ => by kernel_rfl)) hHeld ?_
      refine wpAnyH_take (i := 26) (by simp only [List.getElem?_toArray]; rfl) (by kernel_rfl) (by kernel_rfl) (by kernel_rfl) (by exact fun _ _ _ h => h) (by exact yk (.int .i64 SM) (by kernel_rfl) (fun _ => by kernel_rfl)) hHeld ?_
      refine wpAnyH_take (i := 27) (by simp only [List.getElem?_toArray]; rfl) (by kernel_rfl) (by kernel_rfl) (by kernel_rfl) (by exact fun _ _ _ h => h) (by exact yk_eq (by kernel_rfl) .i64 2 (.tmp 124) (.tmp 125) _ rfl (SM) (SM) (by kernel_rfl) (by kernel_rfl) true (by simp)) hHeld ?_
      refine wpAnyH_take (i := 28) (by simp only [List.getElem?_toArray]; rfl) (by kernel_rfl) (by kernel_rfl) (by kernel_rfl) (by exact fun _ _ _ h => h) (by exact yk (.bool true) (by kernel_rfl) (fun _ => by kernel_rfl)) hHeld ?_
      refine wpAnyH_take (i := 29) (by simp only [List.getElem?_toArray]; rfl) (by kernel_rfl) (by kernel_rfl) (by kernel_rfl) (by exact fun _ _ _ h => h) (by exact yk (.bool true) (by kernel_rfl) (fun _ => by kernel_rfl)) hHeld ?_
      refine wpAnyH_take (i := 30) (by simp only [List.getElem?_toArray]; rfl) (by kernel_rfl) (by kernel_rfl) (by kernel_rfl) (by exact fun _ _ _ h => h) (by exact yk (.pointer (some ⟨K1, 97, none⟩)) (by kernel_rfl) (fun _ => by kernel_rfl)) hHeld ?_
      refine wpAnyH_take (i := 31) (by simp only [List.getElem?_toArray]; rfl) (by kernel_rfl) (by kernel_rfl) (by kernel_rfl) (by exact fun _ _ _ h => h) (by exact yk_ldD (by kernel_rfl) (.tmp 129) rfl ⟨K1, 97, none⟩ (.int .u64 (F.d : Int)) (by kernel_rfl) (fun w h => h.1.cD)) hHeld ?_
      refine wpAnyH_take (i := 32) (by simp only [List.getElem?_toArray]; rfl) (by kernel_rfl) (by kernel_rfl) (by kernel_rfl) (by exact fun _ _ _ h => h) (by exact yk_ldD (by kernel_rfl) (.tmp 5) rfl ⟨w.heap.size, 0, none⟩ (.int .u64 (d : Int)) (by kernel_rfl) (fun w h => h.2.2.2.cell)) hHeld ?_
      refine wpAnyH_take (i := 33) (by simp only [List.getElem?_toArray]; rfl) (by kernel_rfl) (by kernel_rfl) (by kernel_rfl) (by exact fun _ _ _ h => h) (by exact yk (.int .i64 (k : Int)) (by kernel_rfl) (fun _ => by kernel_rfl)) hHeld ?_
      refine wpAnyH_ready (rs := [34]) (by kernel_rfl) (by simp) ?_
      refine AllReadyH.cons (by simp only [List.getElem?_toArray]; rfl) (fun KK hKK => ?_) AllReadyH.nil
      rw [if_pos (by kernel_rfl)]
      refine wp_callF 31 #[.agg #[.int .u64 (d : Int)], .int .i64 (k : Int)] (by kernel_rfl) ?_
      refine (hSk _).mono ?_
      rintro e we ⟨rfl, he⟩
      have he := below_undrew2 he
      refine ⟨_, rfl, ?_⟩
      have r5 := r5.ext he
      have r6 := r6.ext he
      have kx := Sl.ext kx he
      have dd := dd.ext he
      have hb := hb.trans (he.mono hb.size)
      refine hKK.out _ _ ?_ (fun hHeld => ?_)
      · exact ⟨r5, r6, kx, dd⟩
      clear hKK KK
      refine wpAnyH_take (i := 35) (by simp only [List.getElem?_toArray]; rfl) (by kernel_rfl) (by kernel_rfl) (by kernel_rfl) (by exact fun _ _ _ h => h) (by exact yk_eqD (by kernel_rfl) (.tmp 130) (.tmp 133) rfl (F.d : Int) (by kernel_rfl) (by kernel_rfl)) hHeld ?_
      refine wpAnyH_take (i := 36) (by simp only [List.getElem?_toArray]; rfl) (by kernel_rfl) (by kernel_rfl) (by kernel_rfl) (by exact fun _ _ _ h => h) (by exact yk (.bool true) (by kernel_rfl) (fun _ => by kernel_rfl)) hHeld ?_
      refine wpAnyH_take (i := 37) (by simp only [List.getElem?_toArray]; rfl) (by kernel_rfl) (by kernel_rfl) (by kernel_rfl) (by exact fun _ _ _ h => h) (by exact yk (.bool true) (by kernel_rfl) (fun _ => by kernel_rfl)) hHeld ?_
      refine wpAnyH_done (by kernel_rfl) ?_ _
      try simp only [Act.put, List.setIfInBounds_toArray, List.set_cons_zero, List.set_cons_succ]
      go_wp2_with fail
      go_ret
      exact ⟨rfl, hb⟩
end Go.Proofs.YtdijgidlachnjaaDoor
