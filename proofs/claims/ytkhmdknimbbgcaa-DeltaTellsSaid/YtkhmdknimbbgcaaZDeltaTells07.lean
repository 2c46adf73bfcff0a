/- Parts of one proof, in their order. -/
import Derived.Test.YtkhmdknimbbgcaaZDeltaTells06
/- DeltaTells: the walk. Conditions: the lists are no longer than may be; the cells and the numbers fit. -/
namespace Go.Proofs.Ytkhmdknimbbgcaa
open Go.RowKit
set_option linter.unusedVariables false

/-- The next cells: those of M at the touched places below k. -/
def nxK (t : Nat) (L M : List (Int × Nat)) (k : Nat) : List (Int × Nat) := L.mapIdx fun j c => if j < k ∧ t.testBit j = true ∧ j < M.length then M.getD j (0, 0) else c
section
variable {t k : Nat} {L M : List (Int × Nat)}
@[simp] theorem nxK_length (t : Nat) (L M : List (Int × Nat)) (k : Nat) : (nxK t L M k).length = L.length := by simp [nxK]
theorem nxK_zero (t : Nat) (L M : List (Int × Nat)) : nxK t L M 0 = L := by
  apply List.ext_getElem (by simp)
  intro j h1 h2
  simp [nxK]
theorem nxK_set (ht : t.testBit k = true) (hm : k < M.length) : (nxK t L M k).set k M[k] = nxK t L M (k + 1) := by
  apply List.ext_getElem (by simp)
  intro j h1 h2
  rw [List.getElem_set]
  by_cases e : k = j
  · subst e
    simp [nxK, ht, hm]
  · rw [if_neg e]
    simp only [nxK, List.getElem_mapIdx]
    have : j < k + 1 ↔ j < k := by omega
    simp only [this]
theorem nxK_same (hc : ¬(t.testBit k = true ∧ k < M.length)) : nxK t L M k = nxK t L M (k + 1) := by
  apply List.ext_getElem (by simp)
  intro j h1 h2
  simp only [nxK, List.getElem_mapIdx]
  by_cases e : k = j
  · subst e
    rw [if_neg (fun h => hc h.2), if_neg (fun h => hc h.2)]
  · have : j < k + 1 ↔ j < k := by omega
    simp only [this]
theorem nxK_ok (k : Nat) (hL : okC L) (hM : okC M) : okC (nxK t L M k) := by
  intro c hc
  obtain ⟨j, hj, rfl⟩ := List.getElem_of_mem hc
  have hj' : j < L.length := by simpa using hj
  simp only [nxK, List.getElem_mapIdx]
  split
  · rename_i h
    rw [show M.getD j (0, 0) = M[j]'h.2.2 by simp [List.getD, h.2.2]]
    exact okC_get hM _
  · exact okC_get hL hj'
theorem nxK_rest {j : Nat} (h1 : j < (nxK t L M k).length) (h2 : j < L.length) (ht : t.testBit j = false) : (nxK t L M k)[j] = L[j] := by
  simp only [nxK, List.getElem_mapIdx]
  rw [if_neg (fun h => by rw [ht] at h; exact absurd h.2.1 (by decide))]
end
theorem placesB_max {n : Nat} (h : n ≤ 48) : placesB 18446744073709551615 n = placesB 281474976710655 n := by
  unfold placesB
  congr 1
  rw [placesTo_all h]
  unfold placesTo
  rw [List.filter_eq_self]
  intro i hi
  have h1 := List.mem_range.1 hi
  rw [show (18446744073709551615 : Nat) = 2 ^ 64 - 1 by rfl, Nat.testBit_two_pow_sub_one]
  simp; omega
theorem cellsTo_max {W : List (Int × Nat)} (h : W.length ≤ 48) : cellsTo W 18446744073709551615 W.length = W := by
  have e : placesTo 18446744073709551615 W.length = placesTo 281474976710655 W.length := by
    rw [placesTo_all h]
    unfold placesTo
    rw [List.filter_eq_self]
    intro i hi
    have h1 := List.mem_range.1 hi
    rw [show (18446744073709551615 : Nat) = 2 ^ 64 - 1 by rfl, Nat.testBit_two_pow_sub_one]
    simp; omega
  unfold cellsTo
  rw [e]
  exact cellsTo_all h
theorem bit_mod2 (t k : Nat) : (((t : Int) / 2 ^ k).tmod 2 == 1) = t.testBit k := by
  have e : ((t : Int) / 2 ^ k) = ((t / 2 ^ k : Nat) : Int) := by simp
  rw [e, Int.tmod_eq_emod_of_nonneg (Int.natCast_nonneg _), Nat.testBit_eq_decide_div_mod_eq, Bool.eq_iff_iff]
  simp only [beq_iff_eq, decide_eq_true_eq]
  omega
theorem row_boxD {w : World} {B n sz K t h : Nat} {e : TypeId} {v vp vc : Value} {xs : List Value} (hr : w.ownsRow B e sz v n xs) (y : BoxD w K t h vp vc) (he : 38 ≠ e) : ∀ k, v.ownBlock = some k → ¬ k = K := fun k hk h => own_ne hr y he (h ▸ hk)
section
variable {o : Oper} {a : Act} {w : World} {Kk : Act → World → Prop} {Q : Exit → Act → World → Prop} {ops : Array Oper} {S : World → Prop}
theorem wp_alDl (ho : o.op = .alloc 38) (h : Kk (a.put o.dst (.pointer (some ⟨w.heap.size, 0, none⟩))) (w.alloc (.cells #[.int .u32 ((0 : Nat) : Int), .int .u32 ((0 : Nat) : Int), .slice none 0 0, .slice none 0 0] 38))) : o.wp Try.prog a w Kk Q := by
  have hz : (zeroValue 38).run Try.prog w = .ok (.agg #[.int .u32 ((0 : Nat) : Int), .int .u32 ((0 : Nat) : Int), .slice none 0 0, .slice none 0 0]) w := by kernel_rfl
  unfold Oper.wp execOp
  simp only [ho, Instr.alloc, newVar, newRow, run_newObj_alloc, Sem.run_bind, Sem.run_pure, Result.andThen_ok, hz, Value.cells]
  exact h
theorem wp_stDl (x y : Operand) (ho : o.op = .store 38 x y) (k t h : Nat) (A1 : Option Addr) (n1 c1 : Nat) (A2 : Option Addr) (n2 c2 : Nat) (hx : a.eval x = .pointer (some ⟨k, 0, none⟩)) (hy : a.eval y = .agg #[.int .u32 (t : Int), .int .u32 (h : Int), .slice A1 n1 c1, .slice A2 n2 c2]) {t0 h0 : Nat} {vp vc : Value} (q : BoxD w k t0 h0 vp vc)
    (hk : Kk (a.put o.dst undef) (w.setRow k #[.int .u32 (t : Int), .int .u32 (h : Int), .slice A1 n1 c1, .slice A2 n2 c2])) : o.wp Try.prog a w Kk Q :=
  wp_store_row 38 x y ho k _ hx hy _ _ q (by kernel_rfl) (by rfl) (by simp [Value.oneCell']) hk
theorem wp_stBd (x y : Operand) (ho : o.op = .store 32 x y) (k : Nat) (L : List (Int × Nat)) (hx : a.eval x = .pointer (some ⟨k, 0, none⟩)) (hy : a.eval y = .agg (bdL L)) {M : List (Int × Nat)} (q : BoxL w k M)
    (hk : Kk (a.put o.dst undef) (w.setRow k (bdL L))) : o.wp Try.prog a w Kk Q :=
  wp_store_row 32 x y ho k _ hx hy _ _ q (bd_size _ _ _) (by rw [bdL_size, bdL_size]) (bdA_all _ _ _) hk
theorem yk_eqBd (hw : Region.wanted o (yielded ops a.tmps) = true) (x y : Operand) (ho : o.op = .binOp .eql 32 x y 32) (L : List (Int × Nat)) (hx : a.eval x = .agg (bdL L)) (hy : a.eval y = .agg (bdL L)) : YieldsIf Try.prog ops S o (.bool true) a :=
  .inl ⟨hw, fun w _ => by
    have e : (binOp .eql 32 (.agg (bdL L)) (.agg (bdL L))).run Try.prog w = .ok (.bool true) w := run_eql_bd w (bdF L) (bdF L) (bdG L) (bdG L) L.length L.length true (by simp)
    simp only [execOp, ho, hx, hy, Sem.run_bind, eq_guard, Result.andThen_ok, e, Sem.run_pure]⟩
end
set_option maxHeartbeats 32000000 in
set_option maxRecDepth 40000 in
theorem DeltaTells_walk (A : Option Addr) (L : List (Int × Nat)) (n c b : Nat) (A' : Option Addr) (L' : List (Int × Nat)) (n' c' b' : Nat) (t : Nat) (o p : Int) (tick : Nat) (w : World) (hs : Sl w b A (cv L)) (hn : L.length = n) (_hm : n ≤ maxLen) (hnc : n ≤ c) (hok : okC L) (hs' : Sl w b' A' (cv L')) (hn' : L'.length = n') (_hm' : n' ≤ maxLen) (hnc' : n' ≤ c') (hok' : okC L') (ht : t ≤ 18446744073709551615) (_h1 : -9223372036854775808 ≤ o) (_h2 : o ≤ 9223372036854775807) (_h3 : -9223372036854775808 ≤ p) (_h4 : p ≤ 9223372036854775807) (htk : tick ≤ 4294967295) :
    Calls Try.prog 3 #[.slice A n c, .slice A' n' c', .int .u64 (t : Int), .int .i64 o, .int .i64 p, .int .u32 (tick : Int)] w fun e w' => e = .returned (.bool true) ∧ Below w.heap.size w w' := by
  have hF := fun W h => FewC_calls A L n c b W h hn hnc
  have hF' := fun W h => FewC_calls A' L' n' c' b' W h hn' hnc'
  obtain ⟨M, hM⟩ : ∃ M, M = L.take 48 := ⟨_, rfl⟩
  obtain ⟨M', hM'⟩ : ∃ M', M' = L'.take 48 := ⟨_, rfl⟩
  have hML : M.length ≤ 48 := by rw [hM, List.length_take]; omega
  have hML' : M'.length ≤ 48 := by rw [hM', List.length_take]; omega
  have hMo : okC M := by rw [hM]; exact okC_take hok 48
  have hMo' : okC M' := by rw [hM']; exact okC_take hok' 48
  rw [← hM] at hF
  rw [← hM'] at hF'
  obtain ⟨X, hX⟩ : ∃ X, X = nxK t M M' M.length := ⟨_, rfl⟩
  have hXo : okC X := by rw [hX]; exact nxK_ok _ hMo hMo'
  obtain ⟨m, hm⟩ : ∃ m, m = M.length := ⟨_, rfl⟩
  obtain ⟨m', hm'⟩ : ∃ m', m' = M'.length := ⟨_, rfl⟩
  have hXl : X.length = m := by rw [hX, hm]; simp
  have hm48 : m ≤ 48 := by omega
  have hm48' : m' ≤ 48 := by omega
  obtain ⟨V, hV⟩ : ∃ V, V = viewL o X := ⟨_, rfl⟩
  obtain ⟨V0, hV0⟩ : ∃ V0, V0 = viewL o M := ⟨_, rfl⟩
  obtain ⟨Vp, hVp⟩ : ∃ Vp, Vp = viewL p X := ⟨_, rfl⟩
  have hVl : V.length = m := by rw [hV]; simp; exact hXl
  have hVpl : Vp.length = m := by rw [hVp]; simp; exact hXl
  have hV0l : V0.length = m := by rw [hV0, hm]; simp
  have hVo : okC V := by rw [hV]; exact okC_view hXo o
  have hVpo : okC Vp := by rw [hVp]; exact okC_view hXo p
  have hV0o : okC V0 := by rw [hV0]; exact okC_view hMo o
  obtain ⟨H, hH⟩ : ∃ H, H = hashL V := ⟨_, rfl⟩
  obtain ⟨Hp, hHp⟩ : ∃ Hp, Hp = hashL Vp := ⟨_, rfl⟩
  have hHl : H < 4294967296 := by rw [hH]; exact sum_lt V
  have hHpl : Hp < 4294967296 := by rw [hHp]; exact sum_lt Vp
  obtain ⟨ps, hps⟩ : ∃ ps, ps = placesB t m := ⟨_, rfl⟩
  obtain ⟨cs, hcs⟩ : ∃ cs, cs = cellsTo V t m := ⟨_, rfl⟩
  obtain ⟨cp, hcp⟩ : ∃ cp, cp = cellsTo Vp t m := ⟨_, rfl⟩
  obtain ⟨qs, hqs⟩ : ∃ qs, qs = placesB 281474976710655 m := ⟨_, rfl⟩
  obtain ⟨N, hN⟩ : ∃ N, N = (placesTo t m).length := ⟨_, rfl⟩
  have hNl : N ≤ 48 := by have := placesTo_len t m; omega
  have hpsl : ps.length = N := by rw [hps, hN]; simp
  have hcsl : cs.length = N := by rw [hcs, hN]; simp
  have hcpl : cp.length = N := by rw [hcp, hN]; simp
  have hqsl : qs.length = m := by rw [hqs, placesB_len, placesTo_all hm48]; simp
  have hr1 : risesB ps = true := by rw [hps]; exact placesB_rises hm48
  have hr2 : risesB qs = true := by rw [hqs]; exact placesB_rises hm48
  have hcso : okC cs := by rw [hcs]; exact cellsTo_ok hVo t m
  have hcpo : okC cp := by rw [hcp]; exact cellsTo_ok hVpo t m
  have hput : putTo V0 ps cs N = V := by
    rw [hps, hcs]
    refine put_touched hV0l hVl hm48 (by omega) (fun i h1 h2 ht => ?_)
    have e : X[i]'(by omega) = M[i]'(by omega) := by
      have h := nxK_rest (t := t) (L := M) (M := M') (k := M.length) (j := i) (by simp; omega) (by omega) ht
      simp only [hX]
      exact h
    simp only [hV0, hV, viewL, List.getElem_map]
    rw [e]
  have hin : ∀ i (hi : i < ps.length), ps[i].toNat < V0.length := fun i hi => by
    simp only [hps] at hi ⊢
    rw [hV0l]
    exact placesB_lt hm48 hi
  have hlast : ∀ i (hi : i < qs.length), qs[i].toNat = i := fun i hi => by
    simp only [hqs] at hi ⊢
    exact placesB_all hm48 hi
  have hN1 := fun W A c b h => New_in A M m c b W h hm.symm hm48
  have hN2 := fun W A c b h => New_in A X m c b W h hXl hm48
  have hO := fun W => Of_calls X t o tick W (by omega) hXo ht (by omega)
  have hU := fun W => Full_calls X o tick W (by omega) hXo (by omega)
  have hOp := fun W => Of_calls X t p tick W (by omega) hXo ht (by omega)
  rw [← hV, ← hH, hXl, ← hps, ← hcs] at hO
  rw [← hV, ← hH, hXl, ← hqs] at hU
  rw [← hVp, ← hHp, hXl, ← hps, ← hcp] at hOp
  have hDO := fun Ap cp Ac cc bc W h => DOwn_calls tick H Ap N cp Ac cs N cc bc W h hcsl (by omega)
  have hDU := fun Ap cp Ac cc bc W h => DOwn_calls tick H Ap m cp Ac V m cc bc W h hVl (by omega)
  have hCe := fun A c b W h => Own_calls A X m c b W h hXl (by omega)
  have hRO := fun A c b W h => ROf_calls A X m c b t o tick W h hXl hm48 hXo ht (by omega)
  have hRU := fun A c b W h => ROf_calls A X m c b 18446744073709551615 o tick W h hXl hm48 hXo (Nat.le_refl _) (by omega)
  have hcm : cellsTo V 18446744073709551615 m = V := by have := cellsTo_max (W := V) (by omega); rwa [hVl] at this
  rw [← hV, ← hH, ← hps, ← hcs] at hRO
  rw [← hV, ← hH, placesB_max hm48, ← hqs, hcm] at hRU
  have hSd := fun Ap cp bp Ac cc bc Ap' cp' bp' Ac' cc' bc' W h1 h2 h3 h4 => RDSame_yes tick H Ap ps N cp bp Ac cs N cc bc Ap' cp' bp' Ac' cc' bc' W h1 h2 h3 h4 hpsl hcsl (by omega) (by omega)
  have hSf := fun Ap cp bp Ac cc bc Ap' cp' bp' Ac' cc' bc' W h1 h2 h3 h4 => RDSame_yes tick H Ap qs m cp bp Ac V m cc bc Ap' cp' bp' Ac' cc' bc' W h1 h2 h3 h4 hqsl hVl (by omega) (by omega)
  have hVa := fun W => View_calls M o W hML hMo
  have hVb := fun W => View_calls X o W (by omega) hXo
  rw [← hV0] at hVa
  rw [← hV] at hVb
  have hd1 : ((hashL (putTo V0 ps cs N) : Int) == (H : Int)) = true := by rw [hput, ← hH]; simp
  have hd2 : ((hashL V : Int) == (H : Int)) = true := by rw [← hH]; simp
  have hAp := fun Ap cp bp Ac cc bc W h1 h2 => Apply_calls tick H Ap ps N cp bp Ac cs N cc bc V0 true W h1 hpsl h2 hcsl rfl (by omega) (by omega) hV0o hcso hin hd1
  have hBd := fun Ap cp bp Ac cc bc W h1 h2 => Board_calls tick H Ap qs m cp bp Ac V cc bc true W h1 hqsl h2 hVl hm48 hr2 hlast hVo hd2
  rw [hput] at hAp
  simp only [if_true] at hAp hBd
  have hBy := fun Ap cpp bp Ac cc bc W h1 h2 => Bytes_yes tick H Ap ps N cpp bp Ac cs cc bc W h1 hpsl h2 hcsl hNl hr1 hcso (by omega) hHl
  have hBp := fun Ap cpp bp Ac cc bc W h1 h2 => Bytes_yes tick Hp Ap ps N cpp bp Ac cp cc bc W h1 hpsl h2 hcpl hNl hr1 hcpo (by omega) hHpl
  obtain ⟨Y, hY⟩ : ∃ Y, Y = dB tick H ps cs := ⟨_, rfl⟩
  obtain ⟨Yp, hYp⟩ : ∃ Yp, Yp = dB tick Hp ps cp := ⟨_, rfl⟩
  have hYl : Y.length = 9 + 9 * N := by rw [hY, dB_len _ _ _ _ (by omega), hpsl]
  have hYpl : Yp.length = 9 + 9 * N := by rw [hYp, dB_len _ _ _ _ (by omega), hpsl]
  rw [← hY] at hBy
  rw [← hYp] at hBp
  have hSz := fun W => DSize_calls t X W ht (by omega)
  rw [hXl, ← hN] at hSz
  obtain ⟨Z, hZ⟩ : ∃ Z : Nat, Z = 9 + 9 * N := ⟨_, rfl⟩
  rw [← hZ] at hSz hYl hYpl
  have HX := Lib.hid hX
  have Hm := Lib.hid hm
  have Hm' := Lib.hid hm'
  have HXL := Lib.hid hXl
  have HYL := Lib.hid hYl
  have HYPL := Lib.hid hYpl
  have HPSL := Lib.hid hpsl
  have HCSL := Lib.hid hcsl
  have HCPL := Lib.hid hcpl
  have HQSL := Lib.hid hqsl
  have HVL := Lib.hid hVl
  have HF := Lib.hid hF
  have HF' := Lib.hid hF'
  have HS := Lib.hid hs
  have HS' := Lib.hid hs'
  clear hM hM' hX hm hm' hV hV0 hVp hH hHp hps hcs hcp hqs hN hput hin hlast hd1 hd2 hcm hY hYp hZ hXl hYl hYpl hpsl hcsl hcpl hqsl hVl hVpl hV0l hr1 hr2 hcso hcpo hF hF' hn hn' hok hok' hVpo hHl hHpl hs hs'
  go_enter Try.func3, Try.ntmps3
  go_wp2_with fail
  refine (Awake_calls _).mono ?_
  rintro e w1 ⟨rfl, hb⟩
  go_wp2_with fail
  refine (HF.out _ (Sl.ext HS.out hb)).mono ?_
  rintro e w2 ⟨v, rfl, hrow, h1⟩
  replace hb := hb.trans (h1.mono hb.size)
  obtain ⟨A1, c1, b1, hve, hc1, -, -, -, hs1, -⟩ := hrow.sl
  rw [← Hm.out] at hve hc1
  subst hve
  clear hrow h1
  go_wp2_with fail
  refine (HF'.out _ (Sl.ext HS'.out hb)).mono ?_
  rintro e w3 ⟨v, rfl, hrow, h1⟩
  replace hb := hb.trans (h1.mono hb.size)
  replace hs1 := Sl.ext hs1 h1
  obtain ⟨A2, c2, b2, hve, hc2, -, -, -, hs2, -⟩ := hrow.sl
  rw [← Hm'.out] at hve hc2
  subst hve
  clear hrow h1
  have hl1 : 0 < m → b1 < w3.heap.size := fun h => Sl.lt hs1 (by intro h0; have h5 := congrArg List.length h0; rw [cv_length, List.length_nil] at h5; have := Hm.out; omega)
  have hl2 : 0 < m' → b2 < w3.heap.size := fun h => Sl.lt hs2 (by intro h0; have h5 := congrArg List.length h0; rw [cv_length, List.length_nil] at h5; have := Hm'.out; omega)
  have hw3 : w.heap.size ≤ w3.heap.size := hb.size
  have hsK : Sl (w3.alloc (.cells #[] 29)) b1 A1 (cv M) := hs1.alloc (.cells #[] 29)
  have ho0 : RowC 29 (w3.alloc (.cells #[] 29)) w3.heap.size (.slice (some ⟨w3.heap.size, 0, none⟩) 0 0) [] := World.ownsRow_made w3 #[] 0 (Nat.le_refl _) (by simp [maxLen]) rfl
  go_upto_region 4 with fail
  go_upto_region 5 with ((with_reducible refine at_ca 34 _ ?_); refine wpList_appC _ Try.underlying22 cellB_info rfl (.tmp 32) (.tmp 33) rfl w3.heap.size (.slice (some ⟨w3.heap.size, 0, none⟩) 0 0) [] rfl ho0 b1 A1 m c1 M rfl hsK Hm.out.symm (by simp; omega) (by simp) ?_; intro v4 w4 hrow4 hmod4 hown4; rw [List.nil_append] at hrow4; obtain ⟨A9, c9, b9, hv9, hlc9, -, -, hbb9, -, -⟩ := RowC.sl hrow4; rw [← Hm.out] at hv9; subst hv9)
  have h4 : Below w3.heap.size w3 w4 := (below_alloc1 w3 (.cells #[] 29)).trans (hmod4.below_own (by simp) (fun i h => by simp [Value.ownBlock] at h; omega))
  replace hs1 := Sl.ext hs1 h4
  replace hs2 := Sl.ext hs2 h4
  replace hb := hb.trans (h4.mono hb.size)
  have h34 : w3.heap.size ≤ w4.heap.size := h4.size
  have hrm : RowC 29 w4 w3.heap.size (.slice A9 m c9) (nxK t M M' 0) := by rw [nxK_zero]; exact hrow4
  clear h4 hsK ho0 hrow4 hmod4 hown4
  obtain ⟨w5, hw5⟩ : ∃ w5, w5 = w4 := ⟨_, rfl⟩
  rw [← hw5] at hs1 hs2 hb h34 hrm ⊢
  clear hw5
  go_wp2_with fail
  go_loopw [14, 37] (fun _ i wr => ∃ k : Nat, k ≤ m ∧ i = .int .i64 k ∧ RowC 29 wr w3.heap.size (.slice A9 m c9) (nxK t M M' k) ∧ Sl wr b1 A1 (cv M) ∧ Sl wr b2 A2 (cv M') ∧ Below w.heap.size w wr) (fun _ i _ => m - (intOf i).toNat)
  case atStart => exact ⟨0, Nat.zero_le _, rfl, hrm, hs1, hs2, hb⟩
  case round =>
    clear hrm hs1 hs2 hb
    obtain ⟨k, hk, rfl, hrm, hs1, hs2, hb⟩ := hrel
    by_cases hlt : k < m
    · have ej : (k : Int) < (m : Int) := by omega
      have ebit := bit_mod2 t k
      obtain ⟨d, hd⟩ : ∃ d, d = t.testBit k := ⟨_, rfl⟩
      have HSAME := Lib.hid (nxK_same (t := t) (k := k) (L := M) (M := M'))
      have HSET := Lib.hid (nxK_set (t := t) (k := k) (L := M) (M := M'))
      rw [← hd] at ebit HSAME HSET
      clear hd
      cases d with
      | false =>
        go_wp2_with fail
        go_roundw
        case rel => exact ⟨k + 1, by omega, by go_num, by rw [← HSAME.out (by simp)]; exact hrm, hs1, hs2, hb⟩
        case measure => simp [intOf]; omega
      | true =>
        by_cases hkm : k < m'
        · have ekm : (k : Int) < (m' : Int) := by omega
          have ekd : decide ((k : Int) < (m' : Int)) = true := decide_eq_true ekm
          have hkM : k < M'.length := by rw [← Hm'.out]; exact hkm
          obtain ⟨off, rfl, f0, f1⟩ := sl_off hs2 hkM
          obtain ⟨g, cap, hv, hg, hgl, hcap, k0, k1, kf, -, kset⟩ := hrm.set_ (k := k) (by rw [nxK_length, ← Hm.out]; exact hlt)
          injection hv with hvA hvn hvc
          subst hvA
          clear hvn hvc
          have HN := Lib.hid (HSET.out (by trivial) hkM)
          have HKS := Lib.hid (kset M'[k])
          obtain ⟨⟨x, y⟩, hxy⟩ : ∃ q, q = M'[k] := ⟨_, rfl⟩
          rw [← hxy] at f0 f1 HN HKS
          simp only at f0 f1
          have kf0 := kf (k * 2)
          have kf1 := kf (k * 2 + 1)
          obtain ⟨u0, e0⟩ : ∃ u, wr.cell? ⟨g, k * 2, none⟩ = some u := ⟨_, k0⟩
          obtain ⟨u1, e1⟩ : ∃ u, wr.cell? ⟨g, k * 2 + 1, none⟩ = some u := ⟨_, k1⟩
          have hgw : w.heap.size ≤ g := by omega
          have hg1 := hl1 (by omega)
          have hg2 := hl2 (by omega)
          clear hxy k0 k1 kf kset
          go_wp2_with fail
          have hr2 := HKS.out _ rfl
          rw [HN.out] at hr2
          go_roundw
          case rel => exact ⟨k + 1, by omega, by go_num, hr2, Sl.setCell (Sl.setCell hs1 (by show ¬ b1 = g; omega) _) (by show ¬ b1 = g; omega) _, Sl.setCell (Sl.setCell hs2 (by show ¬ b2 = g; omega) _) (by show ¬ b2 = g; omega) _, (hb.setCell hgw _).setCell hgw _⟩
          case measure => simp [intOf]; omega
        · have ekm : ¬ (k : Int) < (m' : Int) := by omega
          have ekd : decide ((k : Int) < (m' : Int)) = false := decide_eq_false ekm
          go_wp2_with fail
          go_roundw
          case rel => exact ⟨k + 1, by omega, by go_num, by rw [← HSAME.out (fun h => hkm (by rw [Hm'.out]; exact h.2))]; exact hrm, hs1, hs2, hb⟩
          case measure => simp [intOf]; omega
    · obtain rfl : m = k := by omega
      rw [show nxK t M M' m = X by rw [HX.out, Hm.out]] at hrm
      obtain ⟨A9', c9', b9', hv9, -, -, -, -, hs9, -⟩ := hrm.sl
      rw [HXL.out] at hv9
      injection hv9 with h91 h92 h93
      subst h91 h93
      clear h92 hrm hs2 hlt hk hl1 hl2
      obtain ⟨wq, hwq⟩ : ∃ wq, wq = wr := ⟨_, rfl⟩
      rw [← hwq] at hs1 hs9 hb ⊢
      clear hwq
      go_wp2_with fail
      refine (hN1 _ A1 c1 b1 hs1).mono ?_
      rintro e w6 ⟨rfl, h1⟩
      replace hs9 := Sl.ext hs9 h1
      replace hb := hb.trans (h1.mono hb.size)
      clear hN1 hs1 h1
      have l1 := BoxL.new_ w6 M
      have h1 := below_alloc1 w6 (.cells (bdL M) 32)
      go_upto_region 12 with (first | ((with_reducible refine at_al 32 15 ?_); refine wpList_al rfl rfl (some 15) rfl w6.heap.size rfl ?_) | ((with_reducible refine at_st 32 15 62 ?_); refine wpList_put rfl (.tmp 15) (.tmp 62) rfl rfl M rfl rfl ?_))
      replace hs9 := Sl.ext hs9 h1
      replace hb := hb.trans (h1.mono hb.size)
      obtain ⟨g1, hg1⟩ : ∃ g1, g1 = w6.heap.size := ⟨_, rfl⟩
      obtain ⟨w7, hw7⟩ : ∃ w7, w7 = w6.alloc (.cells (bdL M) 32) := ⟨_, rfl⟩
      rw [← hw7] at hs9 hb l1 ⊢
      rw [← hg1] at l1 ⊢
      clear hw7 hg1 h1
      go_wp2_with fail
      refine (hN2 _ A9 c9 b9' hs9).mono ?_
      rintro e w8 ⟨rfl, h1⟩
      replace hs9 := Sl.ext hs9 h1
      replace hb := hb.trans (h1.mono hb.size)
      replace l1 := l1.ext h1
      clear hN2 h1
      have l2 := BoxL.new_ w8 X
      have h1 := below_alloc1 w8 (.cells (bdL X) 32)
      go_upto_region 13 with (first | ((with_reducible refine at_al 32 17 ?_); refine wpList_al rfl rfl (some 17) rfl w8.heap.size rfl ?_) | ((with_reducible refine at_st 32 17 67 ?_); refine wpList_put rfl (.tmp 17) (.tmp 67) rfl rfl X rfl rfl ?_))
      replace hs9 := Sl.ext hs9 h1
      replace hb := hb.trans (h1.mono hb.size)
      replace l1 := l1.ext h1
      obtain ⟨g2, hg2⟩ : ∃ g2, g2 = w8.heap.size := ⟨_, rfl⟩
      obtain ⟨wz, hwz⟩ : ∃ wz, wz = w8.alloc (.cells (bdL X) 32) := ⟨_, rfl⟩
      rw [← hwz] at hs9 hb l1 l2 ⊢
      rw [← hg2] at l2 ⊢
      clear hwz hg2 h1
      have hbz := hb.size
      go_cut [19, 20] (fun p19 p20 w9 => ∃ (K4 K5 : Nat) (Ap : Option Addr) (cp' bp : Nat) (Ac : Option Addr) (cc bc : Nat) (Aq : Option Addr) (cq bq : Nat) (Ak : Option Addr) (ck bk : Nat) (wy : World), wy = w9 ∧ p19 = .pointer (some ⟨K4, 0, none⟩) ∧ p20 = .pointer (some ⟨K5, 0, none⟩) ∧ BoxD wy K4 tick H (.slice Ap N cp') (.slice Ac N cc) ∧ BoxD wy K5 tick H (.slice Aq m cq) (.slice Ak m ck) ∧ Bs wy bp Ap ps ∧ Sl wy bc Ac (cv cs) ∧ Bs wy bq Aq qs ∧ Sl wy bk Ak (cv V) ∧ Below wz.heap.size wz wy)
      case first =>
       have hbw := hb
       have hb := Below.refl wz.heap.size wz
       go_wp2_with fail
       refine wp_region_held_drew (S := fun w9 => Below wz.heap.size wz w9) (by kernel_rfl) ?_ (fun hHeld => ?_)
       · exact (by first | exact hb | exact below_drew hb)
       obtain ⟨wd2, hwd2⟩ : ∃ wd2, wd2 = World.drew wz := ⟨_, rfl⟩
       have h9 : Below wz.heap.size wz wd2 := by rw [hwd2]; exact below_drew (Below.refl _ _)
       rw [← hwd2] at hHeld ⊢
       replace hb := hb.trans (h9.mono hb.size)
       clear h9
       clear hwd2
       refine wpAnyH_take (i := 0) (by simp only [List.getElem?_toArray]; rfl) (by kernel_rfl) (by kernel_rfl) (by kernel_rfl) (by exact fun _ _ _ h => h) (by exact yieldsIf_ld (by kernel_rfl) (.tmp 17) rfl g2 (by kernel_rfl) X (fun _ h => l2.ext h)) hHeld ?_
       refine wpAnyH_take (i := 1) (by simp only [List.getElem?_toArray]; rfl) (by kernel_rfl) (by kernel_rfl) (by kernel_rfl) (by exact fun _ _ _ h => h) (by exact yk (.int .u64 (t : Int)) (by kernel_rfl) (fun _ => by kernel_rfl)) hHeld ?_
       refine wpAnyH_take (i := 2) (by simp only [List.getElem?_toArray]; rfl) (by kernel_rfl) (by kernel_rfl) (by kernel_rfl) (by exact fun _ _ _ h => h) (by exact yk (.int .i64 o) (by kernel_rfl) (fun _ => by kernel_rfl)) hHeld ?_
       refine wpAnyH_take (i := 3) (by simp only [List.getElem?_toArray]; rfl) (by kernel_rfl) (by kernel_rfl) (by kernel_rfl) (by exact fun _ _ _ h => h) (by exact yk (.int .u32 (tick : Int)) (by kernel_rfl) (fun _ => by kernel_rfl)) hHeld ?_
       refine wpAnyH_take (i := 5) (by simp only [List.getElem?_toArray]; rfl) (by kernel_rfl) (by kernel_rfl) (by kernel_rfl) (by exact fun _ _ _ h => h) (by exact yieldsIf_ld (by kernel_rfl) (.tmp 17) rfl g2 (by kernel_rfl) X (fun _ h => l2.ext h)) hHeld ?_
       refine wpAnyH_take (i := 6) (by simp only [List.getElem?_toArray]; rfl) (by kernel_rfl) (by kernel_rfl) (by kernel_rfl) (by exact fun _ _ _ h => h) (by exact yk (.int .i64 o) (by kernel_rfl) (fun _ => by kernel_rfl)) hHeld ?_
       refine wpAnyH_take (i := 7) (by simp only [List.getElem?_toArray]; rfl) (by kernel_rfl) (by kernel_rfl) (by kernel_rfl) (by exact fun _ _ _ h => h) (by exact yk (.int .u32 (tick : Int)) (by kernel_rfl) (fun _ => by kernel_rfl)) hHeld ?_
       refine wpAnyH_ready (rs := [4, 9, 10]) (by kernel_rfl) (by simp) ?_
       refine AllReadyH.cons (by simp only [List.getElem?_toArray]; rfl) (fun KK hKK => ?_) (AllReadyH.cons (by simp only [List.getElem?_toArray]; rfl) (fun KK hKK => ?_) (AllReadyH.cons (by simp only [List.getElem?_toArray]; rfl) (fun KK hKK => ?_) AllReadyH.nil))
       ·
        rw [if_pos (by kernel_rfl)]
        refine wp_callF 11 #[.agg (bdL X), .int .u64 (t : Int), .int .i64 o, .int .u32 (tick : Int)] (by kernel_rfl) ?_
        refine (hO _).mono ?_
        rintro e w3 ⟨vp, vc, rfl, rp, rc, h9⟩
        obtain ⟨Ap, cp', bp, hve, -⟩ := Row.sl rp
        rw [HPSL.out] at hve
        subst hve
        obtain ⟨Ac, cc, bc, hve, -⟩ := RowC.sl rc
        rw [HCSL.out] at hve
        subst hve
        clear bp bc
        refine ⟨_, rfl, ?_⟩
        replace hb := hb.trans (h9.mono hb.size)
        clear h9
        refine hKK.out _ _ ?_ (fun hHeld => ?_)
        · exact (by first | exact hb | exact below_drew hb)
        clear hKK KK
        try simp only [Act.put, List.setIfInBounds_toArray, List.set_cons_zero, List.set_cons_succ]
        refine wpAnyH_ready (rs := [8, 9, 10]) (by kernel_rfl) (by simp) ?_
        refine AllReadyH.cons (by simp only [List.getElem?_toArray]; rfl) (fun KK hKK => ?_) (AllReadyH.cons (by simp only [List.getElem?_toArray]; rfl) (fun KK hKK => ?_) (AllReadyH.cons (by simp only [List.getElem?_toArray]; rfl) (fun KK hKK => ?_) AllReadyH.nil))
        ·
         rw [if_pos (by kernel_rfl)]
         refine wp_callF 12 #[.agg (bdL X), .int .i64 o, .int .u32 (tick : Int)] (by kernel_rfl) ?_
         refine (hU _).mono ?_
         rintro e w4 ⟨vp, vc, rfl, rq, rk, h9⟩
         obtain ⟨Aq, cq, bq, hve, -⟩ := Row.sl rq
         rw [HQSL.out] at hve
         subst hve
         obtain ⟨Ak, ck, bk, hve, -⟩ := RowC.sl rk
         rw [HVL.out] at hve
         subst hve
         clear bq bk
         refine ⟨_, rfl, ?_⟩
         replace rp := Row.ext rp h9
         replace rc := RowC.ext rc h9
         replace hb := hb.trans (h9.mono hb.size)
         clear h9
         refine hKK.out _ _ ?_ (fun hHeld => ?_)
         · exact (by first | exact hb | exact below_drew hb)
         clear hKK KK
         try simp only [Act.put, List.setIfInBounds_toArray, List.set_cons_zero, List.set_cons_succ]
         refine wpAnyH_ready (rs := [9, 10]) (by kernel_rfl) (by simp) ?_
         refine AllReadyH.cons (by simp only [List.getElem?_toArray]; rfl) (fun KK hKK => ?_) (AllReadyH.cons (by simp only [List.getElem?_toArray]; rfl) (fun KK hKK => ?_) AllReadyH.nil)
         ·
          rw [if_pos (by kernel_rfl)]
          have nz_y4 : wz.heap.size ≤ w4.heap.size := hb.size
          refine wp_alDl rfl ?_
          have h9 := below_alloc1 w4 (.cells #[.int .u32 ((0 : Nat) : Int), .int .u32 ((0 : Nat) : Int), .slice none 0 0, .slice none 0 0] 38)
          have y4 := BoxD.new_ w4 0 0 (.slice none 0 0) (.slice none 0 0)
          obtain ⟨K4, hq1⟩ : ∃ K4, K4 = w4.heap.size := ⟨_, rfl⟩
          obtain ⟨w5, hwa⟩ : ∃ w5, w5 = w4.alloc (.cells #[.int .u32 ((0 : Nat) : Int), .int .u32 ((0 : Nat) : Int), .slice none 0 0, .slice none 0 0] 38) := ⟨_, rfl⟩
          rw [← hwa] at h9 y4 ⊢
          rw [← hq1] at y4 nz_y4 ⊢
          clear hwa hq1
          replace rp := Row.ext rp h9
          replace rc := RowC.ext rc h9
          replace rq := Row.ext rq h9
          replace rk := RowC.ext rk h9
          replace hb := hb.trans (h9.mono hb.size)
          clear h9
          refine hKK.out _ _ ?_ (fun hHeld => ?_)
          · exact (by first | exact hb | exact below_drew hb)
          clear hKK KK
          try simp only [Act.put, List.setIfInBounds_toArray, List.set_cons_zero, List.set_cons_succ]
          refine wpAnyH_ready (rs := [10]) (by kernel_rfl) (by simp) ?_
          refine AllReadyH.cons (by simp only [List.getElem?_toArray]; rfl) (fun KK hKK => ?_) AllReadyH.nil
          rw [if_pos (by kernel_rfl)]
          have nl := y4.lt
          have nz_y5 : wz.heap.size ≤ w5.heap.size := hb.size
          refine wp_alDl rfl ?_
          have h9 := below_alloc1 w5 (.cells #[.int .u32 ((0 : Nat) : Int), .int .u32 ((0 : Nat) : Int), .slice none 0 0, .slice none 0 0] 38)
          have y5 := BoxD.new_ w5 0 0 (.slice none 0 0) (.slice none 0 0)
          obtain ⟨K5, hq1⟩ : ∃ K5, K5 = w5.heap.size := ⟨_, rfl⟩
          obtain ⟨w6, hwa⟩ : ∃ w6, w6 = w5.alloc (.cells #[.int .u32 ((0 : Nat) : Int), .int .u32 ((0 : Nat) : Int), .slice none 0 0, .slice none 0 0] 38) := ⟨_, rfl⟩
          rw [← hwa] at h9 y5 ⊢
          rw [← hq1] at y5 nz_y5 nl ⊢
          have ne45 : ¬ K4 = K5 := by omega
          clear hwa hq1 nl
          replace rp := Row.ext rp h9
          replace rc := RowC.ext rc h9
          replace rq := Row.ext rq h9
          replace rk := RowC.ext rk h9
          replace y4 := y4.ext h9
          replace hb := hb.trans (h9.mono hb.size)
          clear h9
          refine hKK.out _ _ ?_ (fun hHeld => ?_)
          · exact (by first | exact hb | exact below_drew hb)
          clear hKK KK
          try simp only [Act.put, List.setIfInBounds_toArray, List.set_cons_zero, List.set_cons_succ]
          refine wpAnyH_ready (rs := [11]) (by kernel_rfl) (by simp) ?_
          refine AllReadyH.cons (by simp only [List.getElem?_toArray]; rfl) (fun KK hKK => ?_) AllReadyH.nil
          rw [if_pos (by kernel_rfl)]
          refine wp_stDl (.tmp 19) (.tmp 73) rfl K4 tick H Ap N cp' Ac N cc (by kernel_rfl) (by kernel_rfl) y4 ?_
          have hm := mod_setRow w6 K4 #[.int .u32 (tick : Int), .int .u32 (H : Int), .slice Ap N cp', .slice Ac N cc]
          replace rp := Row.mod rp hm (row_boxD rp y4 (by decide))
          replace rc := RowC.mod rc hm (row_boxD rc y4 (by decide))
          replace rq := Row.mod rq hm (row_boxD rq y4 (by decide))
          replace rk := RowC.mod rk hm (row_boxD rk y4 (by decide))
          replace y5 := y5.mod hm (fun h => ne45 h.symm)
          replace y4 := bd_row y4 tick H (.slice Ap N cp') (.slice Ac N cc)
          replace hb := below_setRow hb K4 #[.int .u32 (tick : Int), .int .u32 (H : Int), .slice Ap N cp', .slice Ac N cc] nz_y4
          obtain ⟨w7, hws⟩ : ∃ w7, w7 = w6.setRow K4 #[.int .u32 (tick : Int), .int .u32 (H : Int), .slice Ap N cp', .slice Ac N cc] := ⟨_, rfl⟩
          rw [← hws] at rp rc rq rk y4 y5 hb ⊢
          clear hws hm
          refine hKK.out _ _ ?_ (fun hHeld => ?_)
          · exact (by first | exact hb | exact below_drew hb)
          clear hKK KK
          try simp only [Act.put]
          refine wpAnyH_ready (rs := [12]) (by kernel_rfl) (by simp) ?_
          refine AllReadyH.cons (by simp only [List.getElem?_toArray]; rfl) (fun KK hKK => ?_) AllReadyH.nil
          rw [if_pos (by kernel_rfl)]
          refine wp_stDl (.tmp 20) (.tmp 77) rfl K5 tick H Aq m cq Ak m ck (by kernel_rfl) (by kernel_rfl) y5 ?_
          have hm := mod_setRow w7 K5 #[.int .u32 (tick : Int), .int .u32 (H : Int), .slice Aq m cq, .slice Ak m ck]
          replace rp := Row.mod rp hm (row_boxD rp y5 (by decide))
          replace rc := RowC.mod rc hm (row_boxD rc y5 (by decide))
          replace rq := Row.mod rq hm (row_boxD rq y5 (by decide))
          replace rk := RowC.mod rk hm (row_boxD rk y5 (by decide))
          replace y4 := y4.mod hm (ne45)
          replace y5 := bd_row y5 tick H (.slice Aq m cq) (.slice Ak m ck)
          replace hb := below_setRow hb K5 #[.int .u32 (tick : Int), .int .u32 (H : Int), .slice Aq m cq, .slice Ak m ck] nz_y5
          obtain ⟨w8, hws⟩ : ∃ w8, w8 = w7.setRow K5 #[.int .u32 (tick : Int), .int .u32 (H : Int), .slice Aq m cq, .slice Ak m ck] := ⟨_, rfl⟩
          rw [← hws] at rp rc rq rk y4 y5 hb ⊢
          clear hws hm
          refine hKK.out _ _ ?_ (fun hHeld => ?_)
          · exact (by first | exact hb | exact below_drew hb)
          clear hKK KK
          try simp only [Act.put]
          refine wpAnyH_done (by kernel_rfl) ?_ _
          go_wp2_with fail
          go_meet
          obtain ⟨_, _, bp, hv1, -, -, -, -, sp, -⟩ := Row.sl rp
          obtain ⟨_, _, bc, hv2, -, -, -, -, sc, -⟩ := RowC.sl rc
          obtain ⟨_, _, bq, hv3, -, -, -, -, sq, -⟩ := Row.sl rq
          obtain ⟨_, _, bk, hv4, -, -, -, -, sk, -⟩ := RowC.sl rk
          injection hv1 with hv1; injection hv2 with hv2; injection hv3 with hv3; injection hv4 with hv4
          subst hv1 hv2 hv3 hv4
          exact ⟨K4, K5, _, _, bp, _, _, bc, _, _, bq, _, _, bk, _, rfl, rfl, rfl, y4, y5, sp, sc, sq, sk, hb⟩
         ·
          rw [if_pos (by kernel_rfl)]
          have nz_y5 : wz.heap.size ≤ w4.heap.size := hb.size
          refine wp_alDl rfl ?_
          have h9 := below_alloc1 w4 (.cells #[.int .u32 ((0 : Nat) : Int), .int .u32 ((0 : Nat) : Int), .slice none 0 0, .slice none 0 0] 38)
          have y5 := BoxD.new_ w4 0 0 (.slice none 0 0) (.slice none 0 0)
          obtain ⟨K5, hq1⟩ : ∃ K5, K5 = w4.heap.size := ⟨_, rfl⟩
          obtain ⟨w9, hwa⟩ : ∃ w9, w9 = w4.alloc (.cells #[.int .u32 ((0 : Nat) : Int), .int .u32 ((0 : Nat) : Int), .slice none 0 0, .slice none 0 0] 38) := ⟨_, rfl⟩
          rw [← hwa] at h9 y5 ⊢
          rw [← hq1] at y5 nz_y5 ⊢
          clear hwa hq1
          replace rp := Row.ext rp h9
          replace rc := RowC.ext rc h9
          replace rq := Row.ext rq h9
          replace rk := RowC.ext rk h9
          replace hb := hb.trans (h9.mono hb.size)
          clear h9
          refine hKK.out _ _ ?_ (fun hHeld => ?_)
          · exact (by first | exact hb | exact below_drew hb)
          clear hKK KK
          try simp only [Act.put, List.setIfInBounds_toArray, List.set_cons_zero, List.set_cons_succ]
          refine wpAnyH_ready (rs := [9]) (by kernel_rfl) (by simp) ?_
          refine AllReadyH.cons (by simp only [List.getElem?_toArray]; rfl) (fun KK hKK => ?_) AllReadyH.nil
          rw [if_pos (by kernel_rfl)]
          have nl := y5.lt
          have nz_y4 : wz.heap.size ≤ w9.heap.size := hb.size
          refine wp_alDl rfl ?_
          have h9 := below_alloc1 w9 (.cells #[.int .u32 ((0 : Nat) : Int), .int .u32 ((0 : Nat) : Int), .slice none 0 0, .slice none 0 0] 38)
          have y4 := BoxD.new_ w9 0 0 (.slice none 0 0) (.slice none 0 0)
          obtain ⟨K4, hq1⟩ : ∃ K4, K4 = w9.heap.size := ⟨_, rfl⟩
          obtain ⟨w10, hwa⟩ : ∃ w10, w10 = w9.alloc (.cells #[.int .u32 ((0 : Nat) : Int), .int .u32 ((0 : Nat) : Int), .slice none 0 0, .slice none 0 0] 38) := ⟨_, rfl⟩
          rw [← hwa] at h9 y4 ⊢
          rw [← hq1] at y4 nz_y4 nl ⊢
          have ne45 : ¬ K4 = K5 := by omega
          clear hwa hq1 nl
          replace rp := Row.ext rp h9
          replace rc := RowC.ext rc h9
          replace rq := Row.ext rq h9
          replace rk := RowC.ext rk h9
          replace y5 := y5.ext h9
          replace hb := hb.trans (h9.mono hb.size)
          clear h9
          refine hKK.out _ _ ?_ (fun hHeld => ?_)
          · exact (by first | exact hb | exact below_drew hb)
          clear hKK KK
          try simp only [Act.put, List.setIfInBounds_toArray, List.set_cons_zero, List.set_cons_succ]
          refine wpAnyH_ready (rs := [11]) (by kernel_rfl) (by simp) ?_
          refine AllReadyH.cons (by simp only [List.getElem?_toArray]; rfl) (fun KK hKK => ?_) AllReadyH.nil
          rw [if_pos (by kernel_rfl)]
          refine wp_stDl (.tmp 19) (.tmp 73) rfl K4 tick H Ap N cp' Ac N cc (by kernel_rfl) (by kernel_rfl) y4 ?_
          have hm := mod_setRow w10 K4 #[.int .u32 (tick : Int), .int .u32 (H : Int), .slice Ap N cp', .slice Ac N cc]
          replace rp := Row.mod rp hm (row_boxD rp y4 (by decide))
          replace rc := RowC.mod rc hm (row_boxD rc y4 (by decide))
          replace rq := Row.mod rq hm (row_boxD rq y4 (by decide))
          replace rk := RowC.mod rk hm (row_boxD rk y4 (by decide))
          replace y5 := y5.mod hm (fun h => ne45 h.symm)
          replace y4 := bd_row y4 tick H (.slice Ap N cp') (.slice Ac N cc)
          replace hb := below_setRow hb K4 #[.int .u32 (tick : Int), .int .u32 (H : Int), .slice Ap N cp', .slice Ac N cc] nz_y4
          obtain ⟨w11, hws⟩ : ∃ w11, w11 = w10.setRow K4 #[.int .u32 (tick : Int), .int .u32 (H : Int), .slice Ap N cp', .slice Ac N cc] := ⟨_, rfl⟩
          rw [← hws] at rp rc rq rk y4 y5 hb ⊢
          clear hws hm
          refine hKK.out _ _ ?_ (fun hHeld => ?_)
          · exact (by first | exact hb | exact below_drew hb)
          clear hKK KK
          try simp only [Act.put]
          refine wpAnyH_ready (rs := [12]) (by kernel_rfl) (by simp) ?_
          refine AllReadyH.cons (by simp only [List.getElem?_toArray]; rfl) (fun KK hKK => ?_) AllReadyH.nil
          rw [if_pos (by kernel_rfl)]
          refine wp_stDl (.tmp 20) (.tmp 77) rfl K5 tick H Aq m cq Ak m ck (by kernel_rfl) (by kernel_rfl) y5 ?_
          have hm := mod_setRow w11 K5 #[.int .u32 (tick : Int), .int .u32 (H : Int), .slice Aq m cq, .slice Ak m ck]
          replace rp := Row.mod rp hm (row_boxD rp y5 (by decide))
          replace rc := RowC.mod rc hm (row_boxD rc y5 (by decide))
          replace rq := Row.mod rq hm (row_boxD rq y5 (by decide))
          replace rk := RowC.mod rk hm (row_boxD rk y5 (by decide))
          replace y4 := y4.mod hm (ne45)
          replace y5 := bd_row y5 tick H (.slice Aq m cq) (.slice Ak m ck)
          replace hb := below_setRow hb K5 #[.int .u32 (tick : Int), .int .u32 (H : Int), .slice Aq m cq, .slice Ak m ck] nz_y5
          obtain ⟨w12, hws⟩ : ∃ w12, w12 = w11.setRow K5 #[.int .u32 (tick : Int), .int .u32 (H : Int), .slice Aq m cq, .slice Ak m ck] := ⟨_, rfl⟩
          rw [← hws] at rp rc rq rk y4 y5 hb ⊢
          clear hws hm
          refine hKK.out _ _ ?_ (fun hHeld => ?_)
          · exact (by first | exact hb | exact below_drew hb)
          clear hKK KK
          try simp only [Act.put]
          refine wpAnyH_done (by kernel_rfl) ?_ _
          go_wp2_with fail
          go_meet
          obtain ⟨_, _, bp, hv1, -, -, -, -, sp, -⟩ := Row.sl rp
          obtain ⟨_, _, bc, hv2, -, -, -, -, sc, -⟩ := RowC.sl rc
          obtain ⟨_, _, bq, hv3, -, -, -, -, sq, -⟩ := Row.sl rq
          obtain ⟨_, _, bk, hv4, -, -, -, -, sk, -⟩ := RowC.sl rk
          injection hv1 with hv1; injection hv2 with hv2; injection hv3 with hv3; injection hv4 with hv4
          subst hv1 hv2 hv3 hv4
          exact ⟨K4, K5, _, _, bp, _, _, bc, _, _, bq, _, _, bk, _, rfl, rfl, rfl, y4, y5, sp, sc, sq, sk, hb⟩
        ·
         rw [if_pos (by kernel_rfl)]
         have nz_y4 : wz.heap.size ≤ w3.heap.size := hb.size
         refine wp_alDl rfl ?_
         have h9 := below_alloc1 w3 (.cells #[.int .u32 ((0 : Nat) : Int), .int .u32 ((0 : Nat) : Int), .slice none 0 0, .slice none 0 0] 38)
         have y4 := BoxD.new_ w3 0 0 (.slice none 0 0) (.slice none 0 0)
         obtain ⟨K4, hq1⟩ : ∃ K4, K4 = w3.heap.size := ⟨_, rfl⟩
         obtain ⟨w13, hwa⟩ : ∃ w13, w13 = w3.alloc (.cells #[.int .u32 ((0 : Nat) : Int), .int .u32 ((0 : Nat) : Int), .slice none 0 0, .slice none 0 0] 38) := ⟨_, rfl⟩
         rw [← hwa] at h9 y4 ⊢
         rw [← hq1] at y4 nz_y4 ⊢
         clear hwa hq1
         replace rp := Row.ext rp h9
         replace rc := RowC.ext rc h9
         replace hb := hb.trans (h9.mono hb.size)
         clear h9
         refine hKK.out _ _ ?_ (fun hHeld => ?_)
         · exact (by first | exact hb | exact below_drew hb)
         clear hKK KK
         try simp only [Act.put, List.setIfInBounds_toArray, List.set_cons_zero, List.set_cons_succ]
         refine wpAnyH_ready (rs := [8, 10]) (by kernel_rfl) (by simp) ?_
         refine AllReadyH.cons (by simp only [List.getElem?_toArray]; rfl) (fun KK hKK => ?_) (AllReadyH.cons (by simp only [List.getElem?_toArray]; rfl) (fun KK hKK => ?_) AllReadyH.nil)
         ·
          rw [if_pos (by kernel_rfl)]
          refine wp_callF 12 #[.agg (bdL X), .int .i64 o, .int .u32 (tick : Int)] (by kernel_rfl) ?_
          refine (hU _).mono ?_
          rintro e w14 ⟨vp, vc, rfl, rq, rk, h9⟩
          obtain ⟨Aq, cq, bq, hve, -⟩ := Row.sl rq
          rw [HQSL.out] at hve
          subst hve
          obtain ⟨Ak, ck, bk, hve, -⟩ := RowC.sl rk
          rw [HVL.out] at hve
          subst hve
          clear bq bk
          refine ⟨_, rfl, ?_⟩
          replace rp := Row.ext rp h9
          replace rc := RowC.ext rc h9
          replace y4 := y4.ext h9
          replace hb := hb.trans (h9.mono hb.size)
          clear h9
          refine hKK.out _ _ ?_ (fun hHeld => ?_)
          · exact (by first | exact hb | exact below_drew hb)
          clear hKK KK
          try simp only [Act.put, List.setIfInBounds_toArray, List.set_cons_zero, List.set_cons_succ]
          refine wpAnyH_ready (rs := [10]) (by kernel_rfl) (by simp) ?_
          refine AllReadyH.cons (by simp only [List.getElem?_toArray]; rfl) (fun KK hKK => ?_) AllReadyH.nil
          rw [if_pos (by kernel_rfl)]
          have nl := y4.lt
          have nz_y5 : wz.heap.size ≤ w14.heap.size := hb.size
          refine wp_alDl rfl ?_
          have h9 := below_alloc1 w14 (.cells #[.int .u32 ((0 : Nat) : Int), .int .u32 ((0 : Nat) : Int), .slice none 0 0, .slice none 0 0] 38)
          have y5 := BoxD.new_ w14 0 0 (.slice none 0 0) (.slice none 0 0)
          obtain ⟨K5, hq1⟩ : ∃ K5, K5 = w14.heap.size := ⟨_, rfl⟩
          obtain ⟨w15, hwa⟩ : ∃ w15, w15 = w14.alloc (.cells #[.int .u32 ((0 : Nat) : Int), .int .u32 ((0 : Nat) : Int), .slice none 0 0, .slice none 0 0] 38) := ⟨_, rfl⟩
          rw [← hwa] at h9 y5 ⊢
          rw [← hq1] at y5 nz_y5 nl ⊢
          have ne45 : ¬ K4 = K5 := by omega
          clear hwa hq1 nl
          replace rp := Row.ext rp h9
          replace rc := RowC.ext rc h9
          replace y4 := y4.ext h9
          replace rq := Row.ext rq h9
          replace rk := RowC.ext rk h9
          replace hb := hb.trans (h9.mono hb.size)
          clear h9
          refine hKK.out _ _ ?_ (fun hHeld => ?_)
          · exact (by first | exact hb | exact below_drew hb)
          clear hKK KK
          try simp only [Act.put, List.setIfInBounds_toArray, List.set_cons_zero, List.set_cons_succ]
          refine wpAnyH_ready (rs := [11]) (by kernel_rfl) (by simp) ?_
          refine AllReadyH.cons (by simp only [List.getElem?_toArray]; rfl) (fun KK hKK => ?_) AllReadyH.nil
          rw [if_pos (by kernel_rfl)]
          refine wp_stDl (.tmp 19) (.tmp 73) rfl K4 tick H Ap N cp' Ac N cc (by kernel_rfl) (by kernel_rfl) y4 ?_
          have hm := mod_setRow w15 K4 #[.int .u32 (tick : Int), .int .u32 (H : Int), .slice Ap N cp', .slice Ac N cc]
          replace rp := Row.mod rp hm (row_boxD rp y4 (by decide))
          replace rc := RowC.mod rc hm (row_boxD rc y4 (by decide))
          replace rq := Row.mod rq hm (row_boxD rq y4 (by decide))
          replace rk := RowC.mod rk hm (row_boxD rk y4 (by decide))
          replace y5 := y5.mod hm (fun h => ne45 h.symm)
          replace y4 := bd_row y4 tick H (.slice Ap N cp') (.slice Ac N cc)
          replace hb := below_setRow hb K4 #[.int .u32 (tick : Int), .int .u32 (H : Int), .slice Ap N cp', .slice Ac N cc] nz_y4
          obtain ⟨w16, hws⟩ : ∃ w16, w16 = w15.setRow K4 #[.int .u32 (tick : Int), .int .u32 (H : Int), .slice Ap N cp', .slice Ac N cc] := ⟨_, rfl⟩
          rw [← hws] at rp rc rq rk y4 y5 hb ⊢
          clear hws hm
          refine hKK.out _ _ ?_ (fun hHeld => ?_)
          · exact (by first | exact hb | exact below_drew hb)
          clear hKK KK
          try simp only [Act.put]
          refine wpAnyH_ready (rs := [12]) (by kernel_rfl) (by simp) ?_
          refine AllReadyH.cons (by simp only [List.getElem?_toArray]; rfl) (fun KK hKK => ?_) AllReadyH.nil
          rw [if_pos (by kernel_rfl)]
          refine wp_stDl (.tmp 20) (.tmp 77) rfl K5 tick H Aq m cq Ak m ck (by kernel_rfl) (by kernel_rfl) y5 ?_
          have hm := mod_setRow w16 K5 #[.int .u32 (tick : Int), .int .u32 (H : Int), .slice Aq m cq, .slice Ak m ck]
          replace rp := Row.mod rp hm (row_boxD rp y5 (by decide))
          replace rc := RowC.mod rc hm (row_boxD rc y5 (by decide))
          replace rq := Row.mod rq hm (row_boxD rq y5 (by decide))
          replace rk := RowC.mod rk hm (row_boxD rk y5 (by decide))
          replace y4 := y4.mod hm (ne45)
          replace y5 := bd_row y5 tick H (.slice Aq m cq) (.slice Ak m ck)
          replace hb := below_setRow hb K5 #[.int .u32 (tick : Int), .int .u32 (H : Int), .slice Aq m cq, .slice Ak m ck] nz_y5
          obtain ⟨w17, hws⟩ : ∃ w17, w17 = w16.setRow K5 #[.int .u32 (tick : Int), .int .u32 (H : Int), .slice Aq m cq, .slice Ak m ck] := ⟨_, rfl⟩
          rw [← hws] at rp rc rq rk y4 y5 hb ⊢
          clear hws hm
          refine hKK.out _ _ ?_ (fun hHeld => ?_)
          · exact (by first | exact hb | exact below_drew hb)
          clear hKK KK
          try simp only [Act.put]
          refine wpAnyH_done (by kernel_rfl) ?_ _
          go_wp2_with fail
          go_meet
          obtain ⟨_, _, bp, hv1, -, -, -, -, sp, -⟩ := Row.sl rp
          obtain ⟨_, _, bc, hv2, -, -, -, -, sc, -⟩ := RowC.sl rc
          obtain ⟨_, _, bq, hv3, -, -, -, -, sq, -⟩ := Row.sl rq
          obtain ⟨_, _, bk, hv4, -, -, -, -, sk, -⟩ := RowC.sl rk
          injection hv1 with hv1; injection hv2 with hv2; injection hv3 with hv3; injection hv4 with hv4
          subst hv1 hv2 hv3 hv4
          exact ⟨K4, K5, _, _, bp, _, _, bc, _, _, bq, _, _, bk, _, rfl, rfl, rfl, y4, y5, sp, sc, sq, sk, hb⟩
         ·
          rw [if_pos (by kernel_rfl)]
          have nl := y4.lt
          have nz_y5 : wz.heap.size ≤ w13.heap.size := hb.size
          refine wp_alDl rfl ?_
          have h9 := below_alloc1 w13 (.cells #[.int .u32 ((0 : Nat) : Int), .int .u32 ((0 : Nat) : Int), .slice none 0 0, .slice none 0 0] 38)
          have y5 := BoxD.new_ w13 0 0 (.slice none 0 0) (.slice none 0 0)
          obtain ⟨K5, hq1⟩ : ∃ K5, K5 = w13.heap.size := ⟨_, rfl⟩
          obtain ⟨w18, hwa⟩ : ∃ w18, w18 = w13.alloc (.cells #[.int .u32 ((0 : Nat) : Int), .int .u32 ((0 : Nat) : Int), .slice none 0 0, .slice none 0 0] 38) := ⟨_, rfl⟩
          rw [← hwa] at h9 y5 ⊢
          rw [← hq1] at y5 nz_y5 nl ⊢
          have ne45 : ¬ K4 = K5 := by omega
          clear hwa hq1 nl
          replace rp := Row.ext rp h9
          replace rc := RowC.ext rc h9
          replace y4 := y4.ext h9
          replace hb := hb.trans (h9.mono hb.size)
          clear h9
          refine hKK.out _ _ ?_ (fun hHeld => ?_)
          · exact (by first | exact hb | exact below_drew hb)
          clear hKK KK
          try simp only [Act.put, List.setIfInBounds_toArray, List.set_cons_zero, List.set_cons_succ]
          refine wpAnyH_ready (rs := [8]) (by kernel_rfl) (by simp) ?_
          refine AllReadyH.cons (by simp only [List.getElem?_toArray]; rfl) (fun KK hKK => ?_) AllReadyH.nil
          rw [if_pos (by kernel_rfl)]
          refine wp_callF 12 #[.agg (bdL X), .int .i64 o, .int .u32 (tick : Int)] (by kernel_rfl) ?_
          refine (hU _).mono ?_
          rintro e w19 ⟨vp, vc, rfl, rq, rk, h9⟩
          obtain ⟨Aq, cq, bq, hve, -⟩ := Row.sl rq
          rw [HQSL.out] at hve
          subst hve
          obtain ⟨Ak, ck, bk, hve, -⟩ := RowC.sl rk
          rw [HVL.out] at hve
          subst hve
          clear bq bk
          refine ⟨_, rfl, ?_⟩
          replace rp := Row.ext rp h9
          replace rc := RowC.ext rc h9
          replace y4 := y4.ext h9
          replace y5 := y5.ext h9
          replace hb := hb.trans (h9.mono hb.size)
          clear h9
          refine hKK.out _ _ ?_ (fun hHeld => ?_)
          · exact (by first | exact hb | exact below_drew hb)
          clear hKK KK
          try simp only [Act.put, List.setIfInBounds_toArray, List.set_cons_zero, List.set_cons_succ]
          refine wpAnyH_ready (rs := [11]) (by kernel_rfl) (by simp) ?_
          refine AllReadyH.cons (by simp only [List.getElem?_toArray]; rfl) (fun KK hKK => ?_) AllReadyH.nil
          rw [if_pos (by kernel_rfl)]
          refine wp_stDl (.tmp 19) (.tmp 73) rfl K4 tick H Ap N cp' Ac N cc (by kernel_rfl) (by kernel_rfl) y4 ?_
          have hm := mod_setRow w19 K4 #[.int .u32 (tick : Int), .int .u32 (H : Int), .slice Ap N cp', .slice Ac N cc]
          replace rp := Row.mod rp hm (row_boxD rp y4 (by decide))
          replace rc := RowC.mod rc hm (row_boxD rc y4 (by decide))
          replace rq := Row.mod rq hm (row_boxD rq y4 (by decide))
          replace rk := RowC.mod rk hm (row_boxD rk y4 (by decide))
          replace y5 := y5.mod hm (fun h => ne45 h.symm)
          replace y4 := bd_row y4 tick H (.slice Ap N cp') (.slice Ac N cc)
          replace hb := below_setRow hb K4 #[.int .u32 (tick : Int), .int .u32 (H : Int), .slice Ap N cp', .slice Ac N cc] nz_y4
          obtain ⟨w20, hws⟩ : ∃ w20, w20 = w19.setRow K4 #[.int .u32 (tick : Int), .int .u32 (H : Int), .slice Ap N cp', .slice Ac N cc] := ⟨_, rfl⟩
          rw [← hws] at rp rc rq rk y4 y5 hb ⊢
          clear hws hm
          refine hKK.out _ _ ?_ (fun hHeld => ?_)
          · exact (by first | exact hb | exact below_drew hb)
          clear hKK KK
          try simp only [Act.put]
          refine wpAnyH_ready (rs := [12]) (by kernel_rfl) (by simp) ?_
          refine AllReadyH.cons (by simp only [List.getElem?_toArray]; rfl) (fun KK hKK => ?_) AllReadyH.nil
          rw [if_pos (by kernel_rfl)]
          refine wp_stDl (.tmp 20) (.tmp 77) rfl K5 tick H Aq m cq Ak m ck (by kernel_rfl) (by kernel_rfl) y5 ?_
          have hm := mod_setRow w20 K5 #[.int .u32 (tick : Int), .int .u32 (H : Int), .slice Aq m cq, .slice Ak m ck]
          replace rp := Row.mod rp hm (row_boxD rp y5 (by decide))
          replace rc := RowC.mod rc hm (row_boxD rc y5 (by decide))
          replace rq := Row.mod rq hm (row_boxD rq y5 (by decide))
          replace rk := RowC.mod rk hm (row_boxD rk y5 (by decide))
          replace y4 := y4.mod hm (ne45)
          replace y5 := bd_row y5 tick H (.slice Aq m cq) (.slice Ak m ck)
          replace hb := below_setRow hb K5 #[.int .u32 (tick : Int), .int .u32 (H : Int), .slice Aq m cq, .slice Ak m ck] nz_y5
          obtain ⟨w21, hws⟩ : ∃ w21, w21 = w20.setRow K5 #[.int .u32 (tick : Int), .int .u32 (H : Int), .slice Aq m cq, .slice Ak m ck] := ⟨_, rfl⟩
          rw [← hws] at rp rc rq rk y4 y5 hb ⊢
          clear hws hm
          refine hKK.out _ _ ?_ (fun hHeld => ?_)
          · exact (by first | exact hb | exact below_drew hb)
          clear hKK KK
          try simp only [Act.put]
          refine wpAnyH_done (by kernel_rfl) ?_ _
          go_wp2_with fail
          go_meet
          obtain ⟨_, _, bp, hv1, -, -, -, -, sp, -⟩ := Row.sl rp
          obtain ⟨_, _, bc, hv2, -, -, -, -, sc, -⟩ := RowC.sl rc
          obtain ⟨_, _, bq, hv3, -, -, -, -, sq, -⟩ := Row.sl rq
          obtain ⟨_, _, bk, hv4, -, -, -, -, sk, -⟩ := RowC.sl rk
          injection hv1 with hv1; injection hv2 with hv2; injection hv3 with hv3; injection hv4 with hv4
          subst hv1 hv2 hv3 hv4
          exact ⟨K4, K5, _, _, bp, _, _, bc, _, _, bq, _, _, bk, _, rfl, rfl, rfl, y4, y5, sp, sc, sq, sk, hb⟩
        ·
         rw [if_pos (by kernel_rfl)]
         have nz_y5 : wz.heap.size ≤ w3.heap.size := hb.size
         refine wp_alDl rfl ?_
         have h9 := below_alloc1 w3 (.cells #[.int .u32 ((0 : Nat) : Int), .int .u32 ((0 : Nat) : Int), .slice none 0 0, .slice none 0 0] 38)
         have y5 := BoxD.new_ w3 0 0 (.slice none 0 0) (.slice none 0 0)
         obtain ⟨K5, hq1⟩ : ∃ K5, K5 = w3.heap.size := ⟨_, rfl⟩
         obtain ⟨w22, hwa⟩ : ∃ w22, w22 = w3.alloc (.cells #[.int .u32 ((0 : Nat) : Int), .int .u32 ((0 : Nat) : Int), .slice none 0 0, .slice none 0 0] 38) := ⟨_, rfl⟩
         rw [← hwa] at h9 y5 ⊢
         rw [← hq1] at y5 nz_y5 ⊢
         clear hwa hq1
         replace rp := Row.ext rp h9
         replace rc := RowC.ext rc h9
         replace hb := hb.trans (h9.mono hb.size)
         clear h9
         refine hKK.out _ _ ?_ (fun hHeld => ?_)
         · exact (by first | exact hb | exact below_drew hb)
         clear hKK KK
         try simp only [Act.put, List.setIfInBounds_toArray, List.set_cons_zero, List.set_cons_succ]
         refine wpAnyH_ready (rs := [8, 9]) (by kernel_rfl) (by simp) ?_
         refine AllReadyH.cons (by simp only [List.getElem?_toArray]; rfl) (fun KK hKK => ?_) (AllReadyH.cons (by simp only [List.getElem?_toArray]; rfl) (fun KK hKK => ?_) AllReadyH.nil)
         ·
          rw [if_pos (by kernel_rfl)]
          refine wp_callF 12 #[.agg (bdL X), .int .i64 o, .int .u32 (tick : Int)] (by kernel_rfl) ?_
          refine (hU _).mono ?_
          rintro e w23 ⟨vp, vc, rfl, rq, rk, h9⟩
          obtain ⟨Aq, cq, bq, hve, -⟩ := Row.sl rq
          rw [HQSL.out] at hve
          subst hve
          obtain ⟨Ak, ck, bk, hve, -⟩ := RowC.sl rk
          rw [HVL.out] at hve
          subst hve
          clear bq bk
          refine ⟨_, rfl, ?_⟩
          replace rp := Row.ext rp h9
          replace rc := RowC.ext rc h9
          replace y5 := y5.ext h9
          replace hb := hb.trans (h9.mono hb.size)
          clear h9
          refine hKK.out _ _ ?_ (fun hHeld => ?_)
          · exact (by first | exact hb | exact below_drew hb)
          clear hKK KK
          try simp only [Act.put, List.setIfInBounds_toArray, List.set_cons_zero, List.set_cons_succ]
          refine wpAnyH_ready (rs := [9]) (by kernel_rfl) (by simp) ?_
          refine AllReadyH.cons (by simp only [List.getElem?_toArray]; rfl) (fun KK hKK => ?_) AllReadyH.nil
          rw [if_pos (by kernel_rfl)]
          have nl := y5.lt
          have nz_y4 : wz.heap.size ≤ w23.heap.size := hb.size
          refine wp_alDl rfl ?_
          have h9 := below_alloc1 w23 (.cells #[.int .u32 ((0 : Nat) : Int), .int .u32 ((0 : Nat) : Int), .slice none 0 0, .slice none 0 0] 38)
          have y4 := BoxD.new_ w23 0 0 (.slice none 0 0) (.slice none 0 0)
          obtain ⟨K4, hq1⟩ : ∃ K4, K4 = w23.heap.size := ⟨_, rfl⟩
          obtain ⟨w24, hwa⟩ : ∃ w24, w24 = w23.alloc (.cells #[.int .u32 ((0 : Nat) : Int), .int .u32 ((0 : Nat) : Int), .slice none 0 0, .slice none 0 0] 38) := ⟨_, rfl⟩
          rw [← hwa] at h9 y4 ⊢
          rw [← hq1] at y4 nz_y4 nl ⊢
          have ne45 : ¬ K4 = K5 := by omega
          clear hwa hq1 nl
          replace rp := Row.ext rp h9
          replace rc := RowC.ext rc h9
          replace y5 := y5.ext h9
          replace rq := Row.ext rq h9
          replace rk := RowC.ext rk h9
          replace hb := hb.trans (h9.mono hb.size)
          clear h9
          refine hKK.out _ _ ?_ (fun hHeld => ?_)
          · exact (by first | exact hb | exact below_drew hb)
          clear hKK KK
          try simp only [Act.put, List.setIfInBounds_toArray, List.set_cons_zero, List.set_cons_succ]
          refine wpAnyH_ready (rs := [11]) (by kernel_rfl) (by simp) ?_
          refine AllReadyH.cons (by simp only [List.getElem?_toArray]; rfl) (fun KK hKK => ?_) AllReadyH.nil
          rw [if_pos (by kernel_rfl)]
          refine wp_stDl (.tmp 19) (.tmp 73) rfl K4 tick H Ap N cp' Ac N cc (by kernel_rfl) (by kernel_rfl) y4 ?_
          have hm := mod_setRow w24 K4 #[.int .u32 (tick : Int), .int .u32 (H : Int), .slice Ap N cp', .slice Ac N cc]
          replace rp := Row.mod rp hm (row_boxD rp y4 (by decide))
          replace rc := RowC.mod rc hm (row_boxD rc y4 (by decide))
          replace rq := Row.mod rq hm (row_boxD rq y4 (by decide))
          replace rk := RowC.mod rk hm (row_boxD rk y4 (by decide))
          replace y5 := y5.mod hm (fun h => ne45 h.symm)
          replace y4 := bd_row y4 tick H (.slice Ap N cp') (.slice Ac N cc)
          replace hb := below_setRow hb K4 #[.int .u32 (tick : Int), .int .u32 (H : Int), .slice Ap N cp', .slice Ac N cc] nz_y4
          obtain ⟨w25, hws⟩ : ∃ w25, w25 = w24.setRow K4 #[.int .u32 (tick : Int), .int .u32 (H : Int), .slice Ap N cp', .slice Ac N cc] := ⟨_, rfl⟩
          rw [← hws] at rp rc rq rk y4 y5 hb ⊢
          clear hws hm
          refine hKK.out _ _ ?_ (fun hHeld => ?_)
          · exact (by first | exact hb | exact below_drew hb)
          clear hKK KK
          try simp only [Act.put]
          refine wpAnyH_ready (rs := [12]) (by kernel_rfl) (by simp) ?_
          refine AllReadyH.cons (by simp only [List.getElem?_toArray]; rfl) (fun KK hKK => ?_) AllReadyH.nil
          rw [if_pos (by kernel_rfl)]
          refine wp_stDl (.tmp 20) (.tmp 77) rfl K5 tick H Aq m cq Ak m ck (by kernel_rfl) (by kernel_rfl) y5 ?_
          have hm := mod_setRow w25 K5 #[.int .u32 (tick : Int), .int .u32 (H : Int), .slice Aq m cq, .slice Ak m ck]
          replace rp := Row.mod rp hm (row_boxD rp y5 (by decide))
          replace rc := RowC.mod rc hm (row_boxD rc y5 (by decide))
          replace rq := Row.mod rq hm (row_boxD rq y5 (by decide))
          replace rk := RowC.mod rk hm (row_boxD rk y5 (by decide))
          replace y4 := y4.mod hm (ne45)
          replace y5 := bd_row y5 tick H (.slice Aq m cq) (.slice Ak m ck)
          replace hb := below_setRow hb K5 #[.int .u32 (tick : Int), .int .u32 (H : Int), .slice Aq m cq, .slice Ak m ck] nz_y5
          obtain ⟨w26, hws⟩ : ∃ w26, w26 = w25.setRow K5 #[.int .u32 (tick : Int), .int .u32 (H : Int), .slice Aq m cq, .slice Ak m ck] := ⟨_, rfl⟩
          rw [← hws] at rp rc rq rk y4 y5 hb ⊢
          clear hws hm
          refine hKK.out _ _ ?_ (fun hHeld => ?_)
          · exact (by first | exact hb | exact below_drew hb)
          clear hKK KK
          try simp only [Act.put]
          refine wpAnyH_done (by kernel_rfl) ?_ _
          go_wp2_with fail
          go_meet
          obtain ⟨_, _, bp, hv1, -, -, -, -, sp, -⟩ := Row.sl rp
          obtain ⟨_, _, bc, hv2, -, -, -, -, sc, -⟩ := RowC.sl rc
          obtain ⟨_, _, bq, hv3, -, -, -, -, sq, -⟩ := Row.sl rq
          obtain ⟨_, _, bk, hv4, -, -, -, -, sk, -⟩ := RowC.sl rk
          injection hv1 with hv1; injection hv2 with hv2; injection hv3 with hv3; injection hv4 with hv4
          subst hv1 hv2 hv3 hv4
          exact ⟨K4, K5, _, _, bp, _, _, bc, _, _, bq, _, _, bk, _, rfl, rfl, rfl, y4, y5, sp, sc, sq, sk, hb⟩
         ·
          rw [if_pos (by kernel_rfl)]
          have nl := y5.lt
          have nz_y4 : wz.heap.size ≤ w22.heap.size := hb.size
          refine wp_alDl rfl ?_
          have h9 := below_alloc1 w22 (.cells #[.int .u32 ((0 : Nat) : Int), .int .u32 ((0 : Nat) : Int), .slice none 0 0, .slice none 0 0] 38)
          have y4 := BoxD.new_ w22 0 0 (.slice none 0 0) (.slice none 0 0)
          obtain ⟨K4, hq1⟩ : ∃ K4, K4 = w22.heap.size := ⟨_, rfl⟩
          obtain ⟨w27, hwa⟩ : ∃ w27, w27 = w22.alloc (.cells #[.int .u32 ((0 : Nat) : Int), .int .u32 ((0 : Nat) : Int), .slice none 0 0, .slice none 0 0] 38) := ⟨_, rfl⟩
          rw [← hwa] at h9 y4 ⊢
          rw [← hq1] at y4 nz_y4 nl ⊢
          have ne45 : ¬ K4 = K5 := by omega
          clear hwa hq1 nl
          replace rp := Row.ext rp h9
          replace rc := RowC.ext rc h9
          replace y5 := y5.ext h9
          replace hb := hb.trans (h9.mono hb.size)
          clear h9
          refine hKK.out _ _ ?_ (fun hHeld => ?_)
          · exact (by first | exact hb | exact below_drew hb)
          clear hKK KK
          try simp only [Act.put, List.setIfInBounds_toArray, List.set_cons_zero, List.set_cons_succ]
          refine wpAnyH_ready (rs := [8]) (by kernel_rfl) (by simp) ?_
          refine AllReadyH.cons (by simp only [List.getElem?_toArray]; rfl) (fun KK hKK => ?_) AllReadyH.nil
          rw [if_pos (by kernel_rfl)]
          refine wp_callF 12 #[.agg (bdL X), .int .i64 o, .int .u32 (tick : Int)] (by kernel_rfl) ?_
          refine (hU _).mono ?_
          rintro e w28 ⟨vp, vc, rfl, rq, rk, h9⟩
          obtain ⟨Aq, cq, bq, hve, -⟩ := Row.sl rq
          rw [HQSL.out] at hve
          subst hve
          obtain ⟨Ak, ck, bk, hve, -⟩ := RowC.sl rk
          rw [HVL.out] at hve
          subst hve
          clear bq bk
          refine ⟨_, rfl, ?_⟩
          replace rp := Row.ext rp h9
          replace rc := RowC.ext rc h9
          replace y5 := y5.ext h9
          replace y4 := y4.ext h9
          replace hb := hb.trans (h9.mono hb.size)
          clear h9
          refine hKK.out _ _ ?_ (fun hHeld => ?_)
          · exact (by first | exact hb | exact below_drew hb)
          clear hKK KK
          try simp only [Act.put, List.setIfInBounds_toArray, List.set_cons_zero, List.set_cons_succ]
          refine wpAnyH_ready (rs := [11]) (by kernel_rfl) (by simp) ?_
          refine AllReadyH.cons (by simp only [List.getElem?_toArray]; rfl) (fun KK hKK => ?_) AllReadyH.nil
          rw [if_pos (by kernel_rfl)]
          refine wp_stDl (.tmp 19) (.tmp 73) rfl K4 tick H Ap N cp' Ac N cc (by kernel_rfl) (by kernel_rfl) y4 ?_
          have hm := mod_setRow w28 K4 #[.int .u32 (tick : Int), .int .u32 (H : Int), .slice Ap N cp', .slice Ac N cc]
          replace rp := Row.mod rp hm (row_boxD rp y4 (by decide))
          replace rc := RowC.mod rc hm (row_boxD rc y4 (by decide))
          replace rq := Row.mod rq hm (row_boxD rq y4 (by decide))
          replace rk := RowC.mod rk hm (row_boxD rk y4 (by decide))
          replace y5 := y5.mod hm (fun h => ne45 h.symm)
          replace y4 := bd_row y4 tick H (.slice Ap N cp') (.slice Ac N cc)
          replace hb := below_setRow hb K4 #[.int .u32 (tick : Int), .int .u32 (H : Int), .slice Ap N cp', .slice Ac N cc] nz_y4
          obtain ⟨w29, hws⟩ : ∃ w29, w29 = w28.setRow K4 #[.int .u32 (tick : Int), .int .u32 (H : Int), .slice Ap N cp', .slice Ac N cc] := ⟨_, rfl⟩
          rw [← hws] at rp rc rq rk y4 y5 hb ⊢
          clear hws hm
          refine hKK.out _ _ ?_ (fun hHeld => ?_)
          · exact (by first | exact hb | exact below_drew hb)
          clear hKK KK
          try simp only [Act.put]
          refine wpAnyH_ready (rs := [12]) (by kernel_rfl) (by simp) ?_
          refine AllReadyH.cons (by simp only [List.getElem?_toArray]; rfl) (fun KK hKK => ?_) AllReadyH.nil
          rw [if_pos (by kernel_rfl)]
          refine wp_stDl (.tmp 20) (.tmp 77) rfl K5 tick H Aq m cq Ak m ck (by kernel_rfl) (by kernel_rfl) y5 ?_
          have hm := mod_setRow w29 K5 #[.int .u32 (tick : Int), .int .u32 (H : Int), .slice Aq m cq, .slice Ak m ck]
          replace rp := Row.mod rp hm (row_boxD rp y5 (by decide))
          replace rc := RowC.mod rc hm (row_boxD rc y5 (by decide))
          replace rq := Row.mod rq hm (row_boxD rq y5 (by decide))
          replace rk := RowC.mod rk hm (row_boxD rk y5 (by decide))
          replace y4 := y4.mod hm (ne45)
          replace y5 := bd_row y5 tick H (.slice Aq m cq) (.slice Ak m ck)
          replace hb := below_setRow hb K5 #[.int .u32 (tick : Int), .int .u32 (H : Int), .slice Aq m cq, .slice Ak m ck] nz_y5
          obtain ⟨w30, hws⟩ : ∃ w30, w30 = w29.setRow K5 #[.int .u32 (tick : Int), .int .u32 (H : Int), .slice Aq m cq, .slice Ak m ck] := ⟨_, rfl⟩
          rw [← hws] at rp rc rq rk y4 y5 hb ⊢
          clear hws hm
          refine hKK.out _ _ ?_ (fun hHeld => ?_)
          · exact (by first | exact hb | exact below_drew hb)
          clear hKK KK
          try simp only [Act.put]
          refine wpAnyH_done (by kernel_rfl) ?_ _
          go_wp2_with fail
          go_meet
          obtain ⟨_, _, bp, hv1, -, -, -, -, sp, -⟩ := Row.sl rp
          obtain ⟨_, _, bc, hv2, -, -, -, -, sc, -⟩ := RowC.sl rc
          obtain ⟨_, _, bq, hv3, -, -, -, -, sq, -⟩ := Row.sl rq
          obtain ⟨_, _, bk, hv4, -, -, -, -, sk, -⟩ := RowC.sl rk
          injection hv1 with hv1; injection hv2 with hv2; injection hv3 with hv3; injection hv4 with hv4
          subst hv1 hv2 hv3 hv4
          exact ⟨K4, K5, _, _, bp, _, _, bc, _, _, bq, _, _, bk, _, rfl, rfl, rfl, y4, y5, sp, sc, sq, sk, hb⟩
       ·
        rw [if_pos (by kernel_rfl)]
        have nz_y4 : wz.heap.size ≤ wd2.heap.size := hb.size
        refine wp_alDl rfl ?_
        have h9 := below_alloc1 wd2 (.cells #[.int .u32 ((0 : Nat) : Int), .int .u32 ((0 : Nat) : Int), .slice none 0 0, .slice none 0 0] 38)
        have y4 := BoxD.new_ wd2 0 0 (.slice none 0 0) (.slice none 0 0)
        obtain ⟨K4, hq1⟩ : ∃ K4, K4 = wd2.heap.size := ⟨_, rfl⟩
        obtain ⟨w31, hwa⟩ : ∃ w31, w31 = wd2.alloc (.cells #[.int .u32 ((0 : Nat) : Int), .int .u32 ((0 : Nat) : Int), .slice none 0 0, .slice none 0 0] 38) := ⟨_, rfl⟩
        rw [← hwa] at h9 y4 ⊢
        rw [← hq1] at y4 nz_y4 ⊢
        clear hwa hq1
        replace hb := hb.trans (h9.mono hb.size)
        clear h9
        refine hKK.out _ _ ?_ (fun hHeld => ?_)
        · exact (by first | exact hb | exact below_drew hb)
        clear hKK KK
        try simp only [Act.put, List.setIfInBounds_toArray, List.set_cons_zero, List.set_cons_succ]
        refine wpAnyH_ready (rs := [4, 10]) (by kernel_rfl) (by simp) ?_
        refine AllReadyH.cons (by simp only [List.getElem?_toArray]; rfl) (fun KK hKK => ?_) (AllReadyH.cons (by simp only [List.getElem?_toArray]; rfl) (fun KK hKK => ?_) AllReadyH.nil)
        ·
         rw [if_pos (by kernel_rfl)]
         refine wp_callF 11 #[.agg (bdL X), .int .u64 (t : Int), .int .i64 o, .int .u32 (tick : Int)] (by kernel_rfl) ?_
         refine (hO _).mono ?_
         rintro e w32 ⟨vp, vc, rfl, rp, rc, h9⟩
         obtain ⟨Ap, cp', bp, hve, -⟩ := Row.sl rp
         rw [HPSL.out] at hve
         subst hve
         obtain ⟨Ac, cc, bc, hve, -⟩ := RowC.sl rc
         rw [HCSL.out] at hve
         subst hve
         clear bp bc
         refine ⟨_, rfl, ?_⟩
         replace y4 := y4.ext h9
         replace hb := hb.trans (h9.mono hb.size)
         clear h9
         refine hKK.out _ _ ?_ (fun hHeld => ?_)
         · exact (by first | exact hb | exact below_drew hb)
         clear hKK KK
         try simp only [Act.put, List.setIfInBounds_toArray, List.set_cons_zero, List.set_cons_succ]
         refine wpAnyH_ready (rs := [8, 10]) (by kernel_rfl) (by simp) ?_
         refine AllReadyH.cons (by simp only [List.getElem?_toArray]; rfl) (fun KK hKK => ?_) (AllReadyH.cons (by simp only [List.getElem?_toArray]; rfl) (fun KK hKK => ?_) AllReadyH.nil)
         ·
          rw [if_pos (by kernel_rfl)]
          refine wp_callF 12 #[.agg (bdL X), .int .i64 o, .int .u32 (tick : Int)] (by kernel_rfl) ?_
          refine (hU _).mono ?_
          rintro e w33 ⟨vp, vc, rfl, rq, rk, h9⟩
          obtain ⟨Aq, cq, bq, hve, -⟩ := Row.sl rq
          rw [HQSL.out] at hve
          subst hve
          obtain ⟨Ak, ck, bk, hve, -⟩ := RowC.sl rk
          rw [HVL.out] at hve
          subst hve
          clear bq bk
          refine ⟨_, rfl, ?_⟩
          replace y4 := y4.ext h9
          replace rp := Row.ext rp h9
          replace rc := RowC.ext rc h9
          replace hb := hb.trans (h9.mono hb.size)
          clear h9
          refine hKK.out _ _ ?_ (fun hHeld => ?_)
          · exact (by first | exact hb | exact below_drew hb)
          clear hKK KK
          try simp only [Act.put, List.setIfInBounds_toArray, List.set_cons_zero, List.set_cons_succ]
          refine wpAnyH_ready (rs := [10]) (by kernel_rfl) (by simp) ?_
          refine AllReadyH.cons (by simp only [List.getElem?_toArray]; rfl) (fun KK hKK => ?_) AllReadyH.nil
          rw [if_pos (by kernel_rfl)]
          have nl := y4.lt
          have nz_y5 : wz.heap.size ≤ w33.heap.size := hb.size
          refine wp_alDl rfl ?_
          have h9 := below_alloc1 w33 (.cells #[.int .u32 ((0 : Nat) : Int), .int .u32 ((0 : Nat) : Int), .slice none 0 0, .slice none 0 0] 38)
          have y5 := BoxD.new_ w33 0 0 (.slice none 0 0) (.slice none 0 0)
          obtain ⟨K5, hq1⟩ : ∃ K5, K5 = w33.heap.size := ⟨_, rfl⟩
          obtain ⟨w34, hwa⟩ : ∃ w34, w34 = w33.alloc (.cells #[.int .u32 ((0 : Nat) : Int), .int .u32 ((0 : Nat) : Int), .slice none 0 0, .slice none 0 0] 38) := ⟨_, rfl⟩
          rw [← hwa] at h9 y5 ⊢
          rw [← hq1] at y5 nz_y5 nl ⊢
          have ne45 : ¬ K4 = K5 := by omega
          clear hwa hq1 nl
          replace y4 := y4.ext h9
          replace rp := Row.ext rp h9
          replace rc := RowC.ext rc h9
          replace rq := Row.ext rq h9
          replace rk := RowC.ext rk h9
          replace hb := hb.trans (h9.mono hb.size)
          clear h9
          refine hKK.out _ _ ?_ (fun hHeld => ?_)
          · exact (by first | exact hb | exact below_drew hb)
          clear hKK KK
          try simp only [Act.put, List.setIfInBounds_toArray, List.set_cons_zero, List.set_cons_succ]
          refine wpAnyH_ready (rs := [11]) (by kernel_rfl) (by simp) ?_
          refine AllReadyH.cons (by simp only [List.getElem?_toArray]; rfl) (fun KK hKK => ?_) AllReadyH.nil
          rw [if_pos (by kernel_rfl)]
          refine wp_stDl (.tmp 19) (.tmp 73) rfl K4 tick H Ap N cp' Ac N cc (by kernel_rfl) (by kernel_rfl) y4 ?_
          have hm := mod_setRow w34 K4 #[.int .u32 (tick : Int), .int .u32 (H : Int), .slice Ap N cp', .slice Ac N cc]
          replace rp := Row.mod rp hm (row_boxD rp y4 (by decide))
          replace rc := RowC.mod rc hm (row_boxD rc y4 (by decide))
          replace rq := Row.mod rq hm (row_boxD rq y4 (by decide))
          replace rk := RowC.mod rk hm (row_boxD rk y4 (by decide))
          replace y5 := y5.mod hm (fun h => ne45 h.symm)
          replace y4 := bd_row y4 tick H (.slice Ap N cp') (.slice Ac N cc)
          replace hb := below_setRow hb K4 #[.int .u32 (tick : Int), .int .u32 (H : Int), .slice Ap N cp', .slice Ac N cc] nz_y4
          obtain ⟨w35, hws⟩ : ∃ w35, w35 = w34.setRow K4 #[.int .u32 (tick : Int), .int .u32 (H : Int), .slice Ap N cp', .slice Ac N cc] := ⟨_, rfl⟩
          rw [← hws] at rp rc rq rk y4 y5 hb ⊢
          clear hws hm
          refine hKK.out _ _ ?_ (fun hHeld => ?_)
          · exact (by first | exact hb | exact below_drew hb)
          clear hKK KK
          try simp only [Act.put]
          refine wpAnyH_ready (rs := [12]) (by kernel_rfl) (by simp) ?_
          refine AllReadyH.cons (by simp only [List.getElem?_toArray]; rfl) (fun KK hKK => ?_) AllReadyH.nil
          rw [if_pos (by kernel_rfl)]
          refine wp_stDl (.tmp 20) (.tmp 77) rfl K5 tick H Aq m cq Ak m ck (by kernel_rfl) (by kernel_rfl) y5 ?_
          have hm := mod_setRow w35 K5 #[.int .u32 (tick : Int), .int .u32 (H : Int), .slice Aq m cq, .slice Ak m ck]
          replace rp := Row.mod rp hm (row_boxD rp y5 (by decide))
          replace rc := RowC.mod rc hm (row_boxD rc y5 (by decide))
          replace rq := Row.mod rq hm (row_boxD rq y5 (by decide))
          replace rk := RowC.mod rk hm (row_boxD rk y5 (by decide))
          replace y4 := y4.mod hm (ne45)
          replace y5 := bd_row y5 tick H (.slice Aq m cq) (.slice Ak m ck)
          replace hb := below_setRow hb K5 #[.int .u32 (tick : Int), .int .u32 (H : Int), .slice Aq m cq, .slice Ak m ck] nz_y5
          obtain ⟨w36, hws⟩ : ∃ w36, w36 = w35.setRow K5 #[.int .u32 (tick : Int), .int .u32 (H : Int), .slice Aq m cq, .slice Ak m ck] := ⟨_, rfl⟩
          rw [← hws] at rp rc rq rk y4 y5 hb ⊢
          clear hws hm
          refine hKK.out _ _ ?_ (fun hHeld => ?_)
          · exact (by first | exact hb | exact below_drew hb)
          clear hKK KK
          try simp only [Act.put]
          refine wpAnyH_done (by kernel_rfl) ?_ _
          go_wp2_with fail
          go_meet
          obtain ⟨_, _, bp, hv1, -, -, -, -, sp, -⟩ := Row.sl rp
          obtain ⟨_, _, bc, hv2, -, -, -, -, sc, -⟩ := RowC.sl rc
          obtain ⟨_, _, bq, hv3, -, -, -, -, sq, -⟩ := Row.sl rq
          obtain ⟨_, _, bk, hv4, -, -, -, -, sk, -⟩ := RowC.sl rk
          injection hv1 with hv1; injection hv2 with hv2; injection hv3 with hv3; injection hv4 with hv4
          subst hv1 hv2 hv3 hv4
          exact ⟨K4, K5, _, _, bp, _, _, bc, _, _, bq, _, _, bk, _, rfl, rfl, rfl, y4, y5, sp, sc, sq, sk, hb⟩
         ·
          rw [if_pos (by kernel_rfl)]
          have nl := y4.lt
          have nz_y5 : wz.heap.size ≤ w32.heap.size := hb.size
          refine wp_alDl rfl ?_
          have h9 := below_alloc1 w32 (.cells #[.int .u32 ((0 : Nat) : Int), .int .u32 ((0 : Nat) : Int), .slice none 0 0, .slice none 0 0] 38)
          have y5 := BoxD.new_ w32 0 0 (.slice none 0 0) (.slice none 0 0)
          obtain ⟨K5, hq1⟩ : ∃ K5, K5 = w32.heap.size := ⟨_, rfl⟩
          obtain ⟨w37, hwa⟩ : ∃ w37, w37 = w32.alloc (.cells #[.int .u32 ((0 : Nat) : Int), .int .u32 ((0 : Nat) : Int), .slice none 0 0, .slice none 0 0] 38) := ⟨_, rfl⟩
          rw [← hwa] at h9 y5 ⊢
          rw [← hq1] at y5 nz_y5 nl ⊢
          have ne45 : ¬ K4 = K5 := by omega
          clear hwa hq1 nl
          replace y4 := y4.ext h9
          replace rp := Row.ext rp h9
          replace rc := RowC.ext rc h9
          replace hb := hb.trans (h9.mono hb.size)
          clear h9
          refine hKK.out _ _ ?_ (fun hHeld => ?_)
          · exact (by first | exact hb | exact below_drew hb)
          clear hKK KK
          try simp only [Act.put, List.setIfInBounds_toArray, List.set_cons_zero, List.set_cons_succ]
          refine wpAnyH_ready (rs := [8]) (by kernel_rfl) (by simp) ?_
          refine AllReadyH.cons (by simp only [List.getElem?_toArray]; rfl) (fun KK hKK => ?_) AllReadyH.nil
          rw [if_pos (by kernel_rfl)]
          refine wp_callF 12 #[.agg (bdL X), .int .i64 o, .int .u32 (tick : Int)] (by kernel_rfl) ?_
          refine (hU _).mono ?_
          rintro e w38 ⟨vp, vc, rfl, rq, rk, h9⟩
          obtain ⟨Aq, cq, bq, hve, -⟩ := Row.sl rq
          rw [HQSL.out] at hve
          subst hve
          obtain ⟨Ak, ck, bk, hve, -⟩ := RowC.sl rk
          rw [HVL.out] at hve
          subst hve
          clear bq bk
          refine ⟨_, rfl, ?_⟩
          replace y4 := y4.ext h9
          replace rp := Row.ext rp h9
          replace rc := RowC.ext rc h9
          replace y5 := y5.ext h9
          replace hb := hb.trans (h9.mono hb.size)
          clear h9
          refine hKK.out _ _ ?_ (fun hHeld => ?_)
          · exact (by first | exact hb | exact below_drew hb)
          clear hKK KK
          try simp only [Act.put, List.setIfInBounds_toArray, List.set_cons_zero, List.set_cons_succ]
          refine wpAnyH_ready (rs := [11]) (by kernel_rfl) (by simp) ?_
          refine AllReadyH.cons (by simp only [List.getElem?_toArray]; rfl) (fun KK hKK => ?_) AllReadyH.nil
          rw [if_pos (by kernel_rfl)]
          refine wp_stDl (.tmp 19) (.tmp 73) rfl K4 tick H Ap N cp' Ac N cc (by kernel_rfl) (by kernel_rfl) y4 ?_
          have hm := mod_setRow w38 K4 #[.int .u32 (tick : Int), .int .u32 (H : Int), .slice Ap N cp', .slice Ac N cc]
          replace rp := Row.mod rp hm (row_boxD rp y4 (by decide))
          replace rc := RowC.mod rc hm (row_boxD rc y4 (by decide))
          replace rq := Row.mod rq hm (row_boxD rq y4 (by decide))
          replace rk := RowC.mod rk hm (row_boxD rk y4 (by decide))
          replace y5 := y5.mod hm (fun h => ne45 h.symm)
          replace y4 := bd_row y4 tick H (.slice Ap N cp') (.slice Ac N cc)
          replace hb := below_setRow hb K4 #[.int .u32 (tick : Int), .int .u32 (H : Int), .slice Ap N cp', .slice Ac N cc] nz_y4
          obtain ⟨w39, hws⟩ : ∃ w39, w39 = w38.setRow K4 #[.int .u32 (tick : Int), .int .u32 (H : Int), .slice Ap N cp', .slice Ac N cc] := ⟨_, rfl⟩
          rw [← hws] at rp rc rq rk y4 y5 hb ⊢
          clear hws hm
          refine hKK.out _ _ ?_ (fun hHeld => ?_)
          · exact (by first | exact hb | exact below_drew hb)
          clear hKK KK
          try simp only [Act.put]
          refine wpAnyH_ready (rs := [12]) (by kernel_rfl) (by simp) ?_
          refine AllReadyH.cons (by simp only [List.getElem?_toArray]; rfl) (fun KK hKK => ?_) AllReadyH.nil
          rw [if_pos (by kernel_rfl)]
          refine wp_stDl (.tmp 20) (.tmp 77) rfl K5 tick H Aq m cq Ak m ck (by kernel_rfl) (by kernel_rfl) y5 ?_
          have hm := mod_setRow w39 K5 #[.int .u32 (tick : Int), .int .u32 (H : Int), .slice Aq m cq, .slice Ak m ck]
          replace rp := Row.mod rp hm (row_boxD rp y5 (by decide))
          replace rc := RowC.mod rc hm (row_boxD rc y5 (by decide))
          replace rq := Row.mod rq hm (row_boxD rq y5 (by decide))
          replace rk := RowC.mod rk hm (row_boxD rk y5 (by decide))
          replace y4 := y4.mod hm (ne45)
          replace y5 := bd_row y5 tick H (.slice Aq m cq) (.slice Ak m ck)
          replace hb := below_setRow hb K5 #[.int .u32 (tick : Int), .int .u32 (H : Int), .slice Aq m cq, .slice Ak m ck] nz_y5
          obtain ⟨w40, hws⟩ : ∃ w40, w40 = w39.setRow K5 #[.int .u32 (tick : Int), .int .u32 (H : Int), .slice Aq m cq, .slice Ak m ck] := ⟨_, rfl⟩
          rw [← hws] at rp rc rq rk y4 y5 hb ⊢
          clear hws hm
          refine hKK.out _ _ ?_ (fun hHeld => ?_)
          · exact (by first | exact hb | exact below_drew hb)
          clear hKK KK
          try simp only [Act.put]
          refine wpAnyH_done (by kernel_rfl) ?_ _
          go_wp2_with fail
          go_meet
          obtain ⟨_, _, bp, hv1, -, -, -, -, sp, -⟩ := Row.sl rp
          obtain ⟨_, _, bc, hv2, -, -, -, -, sc, -⟩ := RowC.sl rc
          obtain ⟨_, _, bq, hv3, -, -, -, -, sq, -⟩ := Row.sl rq
          obtain ⟨_, _, bk, hv4, -, -, -, -, sk, -⟩ := RowC.sl rk
          injection hv1 with hv1; injection hv2 with hv2; injection hv3 with hv3; injection hv4 with hv4
          subst hv1 hv2 hv3 hv4
          exact ⟨K4, K5, _, _, bp, _, _, bc, _, _, bq, _, _, bk, _, rfl, rfl, rfl, y4, y5, sp, sc, sq, sk, hb⟩
        ·
         rw [if_pos (by kernel_rfl)]
         have nl := y4.lt
         have nz_y5 : wz.heap.size ≤ w31.heap.size := hb.size
         refine wp_alDl rfl ?_
         have h9 := below_alloc1 w31 (.cells #[.int .u32 ((0 : Nat) : Int), .int .u32 ((0 : Nat) : Int), .slice none 0 0, .slice none 0 0] 38)
         have y5 := BoxD.new_ w31 0 0 (.slice none 0 0) (.slice none 0 0)
         obtain ⟨K5, hq1⟩ : ∃ K5, K5 = w31.heap.size := ⟨_, rfl⟩
         obtain ⟨w41, hwa⟩ : ∃ w41, w41 = w31.alloc (.cells #[.int .u32 ((0 : Nat) : Int), .int .u32 ((0 : Nat) : Int), .slice none 0 0, .slice none 0 0] 38) := ⟨_, rfl⟩
         rw [← hwa] at h9 y5 ⊢
         rw [← hq1] at y5 nz_y5 nl ⊢
         have ne45 : ¬ K4 = K5 := by omega
         clear hwa hq1 nl
         replace y4 := y4.ext h9
         replace hb := hb.trans (h9.mono hb.size)
         clear h9
         refine hKK.out _ _ ?_ (fun hHeld => ?_)
         · exact (by first | exact hb | exact below_drew hb)
         clear hKK KK
         try simp only [Act.put, List.setIfInBounds_toArray, List.set_cons_zero, List.set_cons_succ]
         refine wpAnyH_ready (rs := [4]) (by kernel_rfl) (by simp) ?_
         refine AllReadyH.cons (by simp only [List.getElem?_toArray]; rfl) (fun KK hKK => ?_) AllReadyH.nil
         rw [if_pos (by kernel_rfl)]
         refine wp_callF 11 #[.agg (bdL X), .int .u64 (t : Int), .int .i64 o, .int .u32 (tick : Int)] (by kernel_rfl) ?_
         refine (hO _).mono ?_
         rintro e w42 ⟨vp, vc, rfl, rp, rc, h9⟩
         obtain ⟨Ap, cp', bp, hve, -⟩ := Row.sl rp
         rw [HPSL.out] at hve
         subst hve
         obtain ⟨Ac, cc, bc, hve, -⟩ := RowC.sl rc
         rw [HCSL.out] at hve
         subst hve
         clear bp bc
         refine ⟨_, rfl, ?_⟩
         replace y4 := y4.ext h9
         replace y5 := y5.ext h9
         replace hb := hb.trans (h9.mono hb.size)
         clear h9
         refine hKK.out _ _ ?_ (fun hHeld => ?_)
         · exact (by first | exact hb | exact below_drew hb)
         clear hKK KK
         try simp only [Act.put, List.setIfInBounds_toArray, List.set_cons_zero, List.set_cons_succ]
         refine wpAnyH_ready (rs := [8]) (by kernel_rfl) (by simp) ?_
         refine AllReadyH.cons (by simp only [List.getElem?_toArray]; rfl) (fun KK hKK => ?_) AllReadyH.nil
         rw [if_pos (by kernel_rfl)]
         refine wp_callF 12 #[.agg (bdL X), .int .i64 o, .int .u32 (tick : Int)] (by kernel_rfl) ?_
         refine (hU _).mono ?_
         rintro e w43 ⟨vp, vc, rfl, rq, rk, h9⟩
         obtain ⟨Aq, cq, bq, hve, -⟩ := Row.sl rq
         rw [HQSL.out] at hve
         subst hve
         obtain ⟨Ak, ck, bk, hve, -⟩ := RowC.sl rk
         rw [HVL.out] at hve
         subst hve
         clear bq bk
         refine ⟨_, rfl, ?_⟩
         replace y4 := y4.ext h9
         replace y5 := y5.ext h9
         replace rp := Row.ext rp h9
         replace rc := RowC.ext rc h9
         replace hb := hb.trans (h9.mono hb.size)
         clear h9
         refine hKK.out _ _ ?_ (fun hHeld => ?_)
         · exact (by first | exact hb | exact below_drew hb)
         clear hKK KK
         try simp only [Act.put, List.setIfInBounds_toArray, List.set_cons_zero, List.set_cons_succ]
         refine wpAnyH_ready (rs := [11]) (by kernel_rfl) (by simp) ?_
         refine AllReadyH.cons (by simp only [List.getElem?_toArray]; rfl) (fun KK hKK => ?_) AllReadyH.nil
         rw [if_pos (by kernel_rfl)]
         refine wp_stDl (.tmp 19) (.tmp 73) rfl K4 tick H Ap N cp' Ac N cc (by kernel_rfl) (by kernel_rfl) y4 ?_
         have hm := mod_setRow w43 K4 #[.int .u32 (tick : Int), .int .u32 (H : Int), .slice Ap N cp', .slice Ac N cc]
         replace rp := Row.mod rp hm (row_boxD rp y4 (by decide))
         replace rc := RowC.mod rc hm (row_boxD rc y4 (by decide))
         replace rq := Row.mod rq hm (row_boxD rq y4 (by decide))
         replace rk := RowC.mod rk hm (row_boxD rk y4 (by decide))
         replace y5 := y5.mod hm (fun h => ne45 h.symm)
         replace y4 := bd_row y4 tick H (.slice Ap N cp') (.slice Ac N cc)
         replace hb := below_setRow hb K4 #[.int .u32 (tick : Int), .int .u32 (H : Int), .slice Ap N cp', .slice Ac N cc] nz_y4
         obtain ⟨w44, hws⟩ : ∃ w44, w44 = w43.setRow K4 #[.int .u32 (tick : Int), .int .u32 (H : Int), .slice Ap N cp', .slice Ac N cc] := ⟨_, rfl⟩
         rw [← hws] at rp rc rq rk y4 y5 hb ⊢
         clear hws hm
         refine hKK.out _ _ ?_ (fun hHeld => ?_)
         · exact (by first | exact hb | exact below_drew hb)
         clear hKK KK
         try simp only [Act.put]
         refine wpAnyH_ready (rs := [12]) (by kernel_rfl) (by simp) ?_
         refine AllReadyH.cons (by simp only [List.getElem?_toArray]; rfl) (fun KK hKK => ?_) AllReadyH.nil
         rw [if_pos (by kernel_rfl)]
         refine wp_stDl (.tmp 20) (.tmp 77) rfl K5 tick H Aq m cq Ak m ck (by kernel_rfl) (by kernel_rfl) y5 ?_
         have hm := mod_setRow w44 K5 #[.int .u32 (tick : Int), .int .u32 (H : Int), .slice Aq m cq, .slice Ak m ck]
         replace rp := Row.mod rp hm (row_boxD rp y5 (by decide))
         replace rc := RowC.mod rc hm (row_boxD rc y5 (by decide))
         replace rq := Row.mod rq hm (row_boxD rq y5 (by decide))
         replace rk := RowC.mod rk hm (row_boxD rk y5 (by decide))
         replace y4 := y4.mod hm (ne45)
         replace y5 := bd_row y5 tick H (.slice Aq m cq) (.slice Ak m ck)
         replace hb := below_setRow hb K5 #[.int .u32 (tick : Int), .int .u32 (H : Int), .slice Aq m cq, .slice Ak m ck] nz_y5
         obtain ⟨w45, hws⟩ : ∃ w45, w45 = w44.setRow K5 #[.int .u32 (tick : Int), .int .u32 (H : Int), .slice Aq m cq, .slice Ak m ck] := ⟨_, rfl⟩
         rw [← hws] at rp rc rq rk y4 y5 hb ⊢
         clear hws hm
         refine hKK.out _ _ ?_ (fun hHeld => ?_)
         · exact (by first | exact hb | exact below_drew hb)
         clear hKK KK
         try simp only [Act.put]
         refine wpAnyH_done (by kernel_rfl) ?_ _
         go_wp2_with fail
         go_meet
         obtain ⟨_, _, bp, hv1, -, -, -, -, sp, -⟩ := Row.sl rp
         obtain ⟨_, _, bc, hv2, -, -, -, -, sc, -⟩ := RowC.sl rc
         obtain ⟨_, _, bq, hv3, -, -, -, -, sq, -⟩ := Row.sl rq
         obtain ⟨_, _, bk, hv4, -, -, -, -, sk, -⟩ := RowC.sl rk
         injection hv1 with hv1; injection hv2 with hv2; injection hv3 with hv3; injection hv4 with hv4
         subst hv1 hv2 hv3 hv4
         exact ⟨K4, K5, _, _, bp, _, _, bc, _, _, bq, _, _, bk, _, rfl, rfl, rfl, y4, y5, sp, sc, sq, sk, hb⟩
       ·
        rw [if_pos (by kernel_rfl)]
        have nz_y5 : wz.heap.size ≤ wd2.heap.size := hb.size
        refine wp_alDl rfl ?_
        have h9 := below_alloc1 wd2 (.cells #[.int .u32 ((0 : Nat) : Int), .int .u32 ((0 : Nat) : Int), .slice none 0 0, .slice none 0 0] 38)
        have y5 := BoxD.new_ wd2 0 0 (.slice none 0 0) (.slice none 0 0)
        obtain ⟨K5, hq1⟩ : ∃ K5, K5 = wd2.heap.size := ⟨_, rfl⟩
        obtain ⟨w46, hwa⟩ : ∃ w46, w46 = wd2.alloc (.cells #[.int .u32 ((0 : Nat) : Int), .int .u32 ((0 : Nat) : Int), .slice none 0 0, .slice none 0 0] 38) := ⟨_, rfl⟩
        rw [← hwa] at h9 y5 ⊢
        rw [← hq1] at y5 nz_y5 ⊢
        clear hwa hq1
        replace hb := hb.trans (h9.mono hb.size)
        clear h9
        refine hKK.out _ _ ?_ (fun hHeld => ?_)
        · exact (by first | exact hb | exact below_drew hb)
        clear hKK KK
        try simp only [Act.put, List.setIfInBounds_toArray, List.set_cons_zero, List.set_cons_succ]
        refine wpAnyH_ready (rs := [4, 9]) (by kernel_rfl) (by simp) ?_
        refine AllReadyH.cons (by simp only [List.getElem?_toArray]; rfl) (fun KK hKK => ?_) (AllReadyH.cons (by simp only [List.getElem?_toArray]; rfl) (fun KK hKK => ?_) AllReadyH.nil)
        ·
         rw [if_pos (by kernel_rfl)]
         refine wp_callF 11 #[.agg (bdL X), .int .u64 (t : Int), .int .i64 o, .int .u32 (tick : Int)] (by kernel_rfl) ?_
         refine (hO _).mono ?_
         rintro e w47 ⟨vp, vc, rfl, rp, rc, h9⟩
         obtain ⟨Ap, cp', bp, hve, -⟩ := Row.sl rp
         rw [HPSL.out] at hve
         subst hve
         obtain ⟨Ac, cc, bc, hve, -⟩ := RowC.sl rc
         rw [HCSL.out] at hve
         subst hve
         clear bp bc
         refine ⟨_, rfl, ?_⟩
         replace y5 := y5.ext h9
         replace hb := hb.trans (h9.mono hb.size)
         clear h9
         refine hKK.out _ _ ?_ (fun hHeld => ?_)
         · exact (by first | exact hb | exact below_drew hb)
         clear hKK KK
         try simp only [Act.put, List.setIfInBounds_toArray, List.set_cons_zero, List.set_cons_succ]
         refine wpAnyH_ready (rs := [8, 9]) (by kernel_rfl) (by simp) ?_
         refine AllReadyH.cons (by simp only [List.getElem?_toArray]; rfl) (fun KK hKK => ?_) (AllReadyH.cons (by simp only [List.getElem?_toArray]; rfl) (fun KK hKK => ?_) AllReadyH.nil)
         ·
          rw [if_pos (by kernel_rfl)]
          refine wp_callF 12 #[.agg (bdL X), .int .i64 o, .int .u32 (tick : Int)] (by kernel_rfl) ?_
          refine (hU _).mono ?_
          rintro e w48 ⟨vp, vc, rfl, rq, rk, h9⟩
          obtain ⟨Aq, cq, bq, hve, -⟩ := Row.sl rq
          rw [HQSL.out] at hve
          subst hve
          obtain ⟨Ak, ck, bk, hve, -⟩ := RowC.sl rk
          rw [HVL.out] at hve
          subst hve
          clear bq bk
          refine ⟨_, rfl, ?_⟩
          replace y5 := y5.ext h9
          replace rp := Row.ext rp h9
          replace rc := RowC.ext rc h9
          replace hb := hb.trans (h9.mono hb.size)
          clear h9
          refine hKK.out _ _ ?_ (fun hHeld => ?_)
          · exact (by first | exact hb | exact below_drew hb)
          clear hKK KK
          try simp only [Act.put, List.setIfInBounds_toArray, List.set_cons_zero, List.set_cons_succ]
          refine wpAnyH_ready (rs := [9]) (by kernel_rfl) (by simp) ?_
          refine AllReadyH.cons (by simp only [List.getElem?_toArray]; rfl) (fun KK hKK => ?_) AllReadyH.nil
          rw [if_pos (by kernel_rfl)]
          have nl := y5.lt
          have nz_y4 : wz.heap.size ≤ w48.heap.size := hb.size
          refine wp_alDl rfl ?_
          have h9 := below_alloc1 w48 (.cells #[.int .u32 ((0 : Nat) : Int), .int .u32 ((0 : Nat) : Int), .slice none 0 0, .slice none 0 0] 38)
          have y4 := BoxD.new_ w48 0 0 (.slice none 0 0) (.slice none 0 0)
          obtain ⟨K4, hq1⟩ : ∃ K4, K4 = w48.heap.size := ⟨_, rfl⟩
          obtain ⟨w49, hwa⟩ : ∃ w49, w49 = w48.alloc (.cells #[.int .u32 ((0 : Nat) : Int), .int .u32 ((0 : Nat) : Int), .slice none 0 0, .slice none 0 0] 38) := ⟨_, rfl⟩
          rw [← hwa] at h9 y4 ⊢
          rw [← hq1] at y4 nz_y4 nl ⊢
          have ne45 : ¬ K4 = K5 := by omega
          clear hwa hq1 nl
          replace y5 := y5.ext h9
          replace rp := Row.ext rp h9
          replace rc := RowC.ext rc h9
          replace rq := Row.ext rq h9
          replace rk := RowC.ext rk h9
          replace hb := hb.trans (h9.mono hb.size)
          clear h9
          refine hKK.out _ _ ?_ (fun hHeld => ?_)
          · exact (by first | exact hb | exact below_drew hb)
          clear hKK KK
          try simp only [Act.put, List.setIfInBounds_toArray, List.set_cons_zero, List.set_cons_succ]
          refine wpAnyH_ready (rs := [11]) (by kernel_rfl) (by simp) ?_
          refine AllReadyH.cons (by simp only [List.getElem?_toArray]; rfl) (fun KK hKK => ?_) AllReadyH.nil
          rw [if_pos (by kernel_rfl)]
          refine wp_stDl (.tmp 19) (.tmp 73) rfl K4 tick H Ap N cp' Ac N cc (by kernel_rfl) (by kernel_rfl) y4 ?_
          have hm := mod_setRow w49 K4 #[.int .u32 (tick : Int), .int .u32 (H : Int), .slice Ap N cp', .slice Ac N cc]
          replace rp := Row.mod rp hm (row_boxD rp y4 (by decide))
          replace rc := RowC.mod rc hm (row_boxD rc y4 (by decide))
          replace rq := Row.mod rq hm (row_boxD rq y4 (by decide))
          replace rk := RowC.mod rk hm (row_boxD rk y4 (by decide))
          replace y5 := y5.mod hm (fun h => ne45 h.symm)
          replace y4 := bd_row y4 tick H (.slice Ap N cp') (.slice Ac N cc)
          replace hb := below_setRow hb K4 #[.int .u32 (tick : Int), .int .u32 (H : Int), .slice Ap N cp', .slice Ac N cc] nz_y4
          obtain ⟨w50, hws⟩ : ∃ w50, w50 = w49.setRow K4 #[.int .u32 (tick : Int), .int .u32 (H : Int), .slice Ap N cp', .slice Ac N cc] := ⟨_, rfl⟩
          rw [← hws] at rp rc rq rk y4 y5 hb ⊢
          clear hws hm
          refine hKK.out _ _ ?_ (fun hHeld => ?_)
          · exact (by first | exact hb | exact below_drew hb)
          clear hKK KK
          try simp only [Act.put]
          refine wpAnyH_ready (rs := [12]) (by kernel_rfl) (by simp) ?_
          refine AllReadyH.cons (by simp only [List.getElem?_toArray]; rfl) (fun KK hKK => ?_) AllReadyH.nil
          rw [if_pos (by kernel_rfl)]
          refine wp_stDl (.tmp 20) (.tmp 77) rfl K5 tick H Aq m cq Ak m ck (by kernel_rfl) (by kernel_rfl) y5 ?_
          have hm := mod_setRow w50 K5 #[.int .u32 (tick : Int), .int .u32 (H : Int), .slice Aq m cq, .slice Ak m ck]
          replace rp := Row.mod rp hm (row_boxD rp y5 (by decide))
          replace rc := RowC.mod rc hm (row_boxD rc y5 (by decide))
          replace rq := Row.mod rq hm (row_boxD rq y5 (by decide))
          replace rk := RowC.mod rk hm (row_boxD rk y5 (by decide))
          replace y4 := y4.mod hm (ne45)
          replace y5 := bd_row y5 tick H (.slice Aq m cq) (.slice Ak m ck)
          replace hb := below_setRow hb K5 #[.int .u32 (tick : Int), .int .u32 (H : Int), .slice Aq m cq, .slice Ak m ck] nz_y5
          obtain ⟨w51, hws⟩ : ∃ w51, w51 = w50.setRow K5 #[.int .u32 (tick : Int), .int .u32 (H : Int), .slice Aq m cq, .slice Ak m ck] := ⟨_, rfl⟩
          rw [← hws] at rp rc rq rk y4 y5 hb ⊢
          clear hws hm
          refine hKK.out _ _ ?_ (fun hHeld => ?_)
          · exact (by first | exact hb | exact below_drew hb)
          clear hKK KK
          try simp only [Act.put]
          refine wpAnyH_done (by kernel_rfl) ?_ _
          go_wp2_with fail
          go_meet
          obtain ⟨_, _, bp, hv1, -, -, -, -, sp, -⟩ := Row.sl rp
          obtain ⟨_, _, bc, hv2, -, -, -, -, sc, -⟩ := RowC.sl rc
          obtain ⟨_, _, bq, hv3, -, -, -, -, sq, -⟩ := Row.sl rq
          obtain ⟨_, _, bk, hv4, -, -, -, -, sk, -⟩ := RowC.sl rk
          injection hv1 with hv1; injection hv2 with hv2; injection hv3 with hv3; injection hv4 with hv4
          subst hv1 hv2 hv3 hv4
          exact ⟨K4, K5, _, _, bp, _, _, bc, _, _, bq, _, _, bk, _, rfl, rfl, rfl, y4, y5, sp, sc, sq, sk, hb⟩
         ·
          rw [if_pos (by kernel_rfl)]
          have nl := y5.lt
          have nz_y4 : wz.heap.size ≤ w47.heap.size := hb.size
          refine wp_alDl rfl ?_
          have h9 := below_alloc1 w47 (.cells #[.int .u32 ((0 : Nat) : Int), .int .u32 ((0 : Nat) : Int), .slice none 0 0, .slice none 0 0] 38)
          have y4 := BoxD.new_ w47 0 0 (.slice none 0 0) (.slice none 0 0)
          obtain ⟨K4, hq1⟩ : ∃ K4, K4 = w47.heap.size := ⟨_, rfl⟩
          obtain ⟨w52, hwa⟩ : ∃ w52, w52 = w47.alloc (.cells #[.int .u32 ((0 : Nat) : Int), .int .u32 ((0 : Nat) : Int), .slice none 0 0, .slice none 0 0] 38) := ⟨_, rfl⟩
          rw [← hwa] at h9 y4 ⊢
          rw [← hq1] at y4 nz_y4 nl ⊢
          have ne45 : ¬ K4 = K5 := by omega
          clear hwa hq1 nl
          replace y5 := y5.ext h9
          replace rp := Row.ext rp h9
          replace rc := RowC.ext rc h9
          replace hb := hb.trans (h9.mono hb.size)
          clear h9
          refine hKK.out _ _ ?_ (fun hHeld => ?_)
          · exact (by first | exact hb | exact below_drew hb)
          clear hKK KK
          try simp only [Act.put, List.setIfInBounds_toArray, List.set_cons_zero, List.set_cons_succ]
          refine wpAnyH_ready (rs := [8]) (by kernel_rfl) (by simp) ?_
          refine AllReadyH.cons (by simp only [List.getElem?_toArray]; rfl) (fun KK hKK => ?_) AllReadyH.nil
          rw [if_pos (by kernel_rfl)]
          refine wp_callF 12 #[.agg (bdL X), .int .i64 o, .int .u32 (tick : Int)] (by kernel_rfl) ?_
          refine (hU _).mono ?_
          rintro e w53 ⟨vp, vc, rfl, rq, rk, h9⟩
          obtain ⟨Aq, cq, bq, hve, -⟩ := Row.sl rq
          rw [HQSL.out] at hve
          subst hve
          obtain ⟨Ak, ck, bk, hve, -⟩ := RowC.sl rk
          rw [HVL.out] at hve
          subst hve
          clear bq bk
          refine ⟨_, rfl, ?_⟩
          replace y5 := y5.ext h9
          replace rp := Row.ext rp h9
          replace rc := RowC.ext rc h9
          replace y4 := y4.ext h9
          replace hb := hb.trans (h9.mono hb.size)
          clear h9
          refine hKK.out _ _ ?_ (fun hHeld => ?_)
          · exact (by first | exact hb | exact below_drew hb)
          clear hKK KK
          try simp only [Act.put, List.setIfInBounds_toArray, List.set_cons_zero, List.set_cons_succ]
          refine wpAnyH_ready (rs := [11]) (by kernel_rfl) (by simp) ?_
          refine AllReadyH.cons (by simp only [List.getElem?_toArray]; rfl) (fun KK hKK => ?_) AllReadyH.nil
          rw [if_pos (by kernel_rfl)]
          refine wp_stDl (.tmp 19) (.tmp 73) rfl K4 tick H Ap N cp' Ac N cc (by kernel_rfl) (by kernel_rfl) y4 ?_
          have hm := mod_setRow w53 K4 #[.int .u32 (tick : Int), .int .u32 (H : Int), .slice Ap N cp', .slice Ac N cc]
          replace rp := Row.mod rp hm (row_boxD rp y4 (by decide))
          replace rc := RowC.mod rc hm (row_boxD rc y4 (by decide))
          replace rq := Row.mod rq hm (row_boxD rq y4 (by decide))
          replace rk := RowC.mod rk hm (row_boxD rk y4 (by decide))
          replace y5 := y5.mod hm (fun h => ne45 h.symm)
          replace y4 := bd_row y4 tick H (.slice Ap N cp') (.slice Ac N cc)
          replace hb := below_setRow hb K4 #[.int .u32 (tick : Int), .int .u32 (H : Int), .slice Ap N cp', .slice Ac N cc] nz_y4
          obtain ⟨w54, hws⟩ : ∃ w54, w54 = w53.setRow K4 #[.int .u32 (tick : Int), .int .u32 (H : Int), .slice Ap N cp', .slice Ac N cc] := ⟨_, rfl⟩
          rw [← hws] at rp rc rq rk y4 y5 hb ⊢
          clear hws hm
          refine hKK.out _ _ ?_ (fun hHeld => ?_)
          · exact (by first | exact hb | exact below_drew hb)
          clear hKK KK
          try simp only [Act.put]
          refine wpAnyH_ready (rs := [12]) (by kernel_rfl) (by simp) ?_
          refine AllReadyH.cons (by simp only [List.getElem?_toArray]; rfl) (fun KK hKK => ?_) AllReadyH.nil
          rw [if_pos (by kernel_rfl)]
          refine wp_stDl (.tmp 20) (.tmp 77) rfl K5 tick H Aq m cq Ak m ck (by kernel_rfl) (by kernel_rfl) y5 ?_
          have hm := mod_setRow w54 K5 #[.int .u32 (tick : Int), .int .u32 (H : Int), .slice Aq m cq, .slice Ak m ck]
          replace rp := Row.mod rp hm (row_boxD rp y5 (by decide))
          replace rc := RowC.mod rc hm (row_boxD rc y5 (by decide))
          replace rq := Row.mod rq hm (row_boxD rq y5 (by decide))
          replace rk := RowC.mod rk hm (row_boxD rk y5 (by decide))
          replace y4 := y4.mod hm (ne45)
          replace y5 := bd_row y5 tick H (.slice Aq m cq) (.slice Ak m ck)
          replace hb := below_setRow hb K5 #[.int .u32 (tick : Int), .int .u32 (H : Int), .slice Aq m cq, .slice Ak m ck] nz_y5
          obtain ⟨w55, hws⟩ : ∃ w55, w55 = w54.setRow K5 #[.int .u32 (tick : Int), .int .u32 (H : Int), .slice Aq m cq, .slice Ak m ck] := ⟨_, rfl⟩
          rw [← hws] at rp rc rq rk y4 y5 hb ⊢
          clear hws hm
          refine hKK.out _ _ ?_ (fun hHeld => ?_)
          · exact (by first | exact hb | exact below_drew hb)
          clear hKK KK
          try simp only [Act.put]
          refine wpAnyH_done (by kernel_rfl) ?_ _
          go_wp2_with fail
          go_meet
          obtain ⟨_, _, bp, hv1, -, -, -, -, sp, -⟩ := Row.sl rp
          obtain ⟨_, _, bc, hv2, -, -, -, -, sc, -⟩ := RowC.sl rc
          obtain ⟨_, _, bq, hv3, -, -, -, -, sq, -⟩ := Row.sl rq
          obtain ⟨_, _, bk, hv4, -, -, -, -, sk, -⟩ := RowC.sl rk
          injection hv1 with hv1; injection hv2 with hv2; injection hv3 with hv3; injection hv4 with hv4
          subst hv1 hv2 hv3 hv4
          exact ⟨K4, K5, _, _, bp, _, _, bc, _, _, bq, _, _, bk, _, rfl, rfl, rfl, y4, y5, sp, sc, sq, sk, hb⟩
        ·
         rw [if_pos (by kernel_rfl)]
         have nl := y5.lt
         have nz_y4 : wz.heap.size ≤ w46.heap.size := hb.size
         refine wp_alDl rfl ?_
         have h9 := below_alloc1 w46 (.cells #[.int .u32 ((0 : Nat) : Int), .int .u32 ((0 : Nat) : Int), .slice none 0 0, .slice none 0 0] 38)
         have y4 := BoxD.new_ w46 0 0 (.slice none 0 0) (.slice none 0 0)
         obtain ⟨K4, hq1⟩ : ∃ K4, K4 = w46.heap.size := ⟨_, rfl⟩
         obtain ⟨w56, hwa⟩ : ∃ w56, w56 = w46.alloc (.cells #[.int .u32 ((0 : Nat) : Int), .int .u32 ((0 : Nat) : Int), .slice none 0 0, .slice none 0 0] 38) := ⟨_, rfl⟩
         rw [← hwa] at h9 y4 ⊢
         rw [← hq1] at y4 nz_y4 nl ⊢
         have ne45 : ¬ K4 = K5 := by omega
         clear hwa hq1 nl
         replace y5 := y5.ext h9
         replace hb := hb.trans (h9.mono hb.size)
         clear h9
         refine hKK.out _ _ ?_ (fun hHeld => ?_)
         · exact (by first | exact hb | exact below_drew hb)
         clear hKK KK
         try simp only [Act.put, List.setIfInBounds_toArray, List.set_cons_zero, List.set_cons_succ]
         refine wpAnyH_ready (rs := [4]) (by kernel_rfl) (by simp) ?_
         refine AllReadyH.cons (by simp only [List.getElem?_toArray]; rfl) (fun KK hKK => ?_) AllReadyH.nil
         rw [if_pos (by kernel_rfl)]
         refine wp_callF 11 #[.agg (bdL X), .int .u64 (t : Int), .int .i64 o, .int .u32 (tick : Int)] (by kernel_rfl) ?_
         refine (hO _).mono ?_
         rintro e w57 ⟨vp, vc, rfl, rp, rc, h9⟩
         obtain ⟨Ap, cp', bp, hve, -⟩ := Row.sl rp
         rw [HPSL.out] at hve
         subst hve
         obtain ⟨Ac, cc, bc, hve, -⟩ := RowC.sl rc
         rw [HCSL.out] at hve
         subst hve
         clear bp bc
         refine ⟨_, rfl, ?_⟩
         replace y5 := y5.ext h9
         replace y4 := y4.ext h9
         replace hb := hb.trans (h9.mono hb.size)
         clear h9
         refine hKK.out _ _ ?_ (fun hHeld => ?_)
         · exact (by first | exact hb | exact below_drew hb)
         clear hKK KK
         try simp only [Act.put, List.setIfInBounds_toArray, List.set_cons_zero, List.set_cons_succ]
         refine wpAnyH_ready (rs := [8]) (by kernel_rfl) (by simp) ?_
         refine AllReadyH.cons (by simp only [List.getElem?_toArray]; rfl) (fun KK hKK => ?_) AllReadyH.nil
         rw [if_pos (by kernel_rfl)]
         refine wp_callF 12 #[.agg (bdL X), .int .i64 o, .int .u32 (tick : Int)] (by kernel_rfl) ?_
         refine (hU _).mono ?_
         rintro e w58 ⟨vp, vc, rfl, rq, rk, h9⟩
         obtain ⟨Aq, cq, bq, hve, -⟩ := Row.sl rq
         rw [HQSL.out] at hve
         subst hve
         obtain ⟨Ak, ck, bk, hve, -⟩ := RowC.sl rk
         rw [HVL.out] at hve
         subst hve
         clear bq bk
         refine ⟨_, rfl, ?_⟩
         replace y5 := y5.ext h9
         replace y4 := y4.ext h9
         replace rp := Row.ext rp h9
         replace rc := RowC.ext rc h9
         replace hb := hb.trans (h9.mono hb.size)
         clear h9
         refine hKK.out _ _ ?_ (fun hHeld => ?_)
         · exact (by first | exact hb | exact below_drew hb)
         clear hKK KK
         try simp only [Act.put, List.setIfInBounds_toArray, List.set_cons_zero, List.set_cons_succ]
         refine wpAnyH_ready (rs := [11]) (by kernel_rfl) (by simp) ?_
         refine AllReadyH.cons (by simp only [List.getElem?_toArray]; rfl) (fun KK hKK => ?_) AllReadyH.nil
         rw [if_pos (by kernel_rfl)]
         refine wp_stDl (.tmp 19) (.tmp 73) rfl K4 tick H Ap N cp' Ac N cc (by kernel_rfl) (by kernel_rfl) y4 ?_
         have hm := mod_setRow w58 K4 #[.int .u32 (tick : Int), .int .u32 (H : Int), .slice Ap N cp', .slice Ac N cc]
         replace rp := Row.mod rp hm (row_boxD rp y4 (by decide))
         replace rc := RowC.mod rc hm (row_boxD rc y4 (by decide))
         replace rq := Row.mod rq hm (row_boxD rq y4 (by decide))
         replace rk := RowC.mod rk hm (row_boxD rk y4 (by decide))
         replace y5 := y5.mod hm (fun h => ne45 h.symm)
         replace y4 := bd_row y4 tick H (.slice Ap N cp') (.slice Ac N cc)
         replace hb := below_setRow hb K4 #[.int .u32 (tick : Int), .int .u32 (H : Int), .slice Ap N cp', .slice Ac N cc] nz_y4
         obtain ⟨w59, hws⟩ : ∃ w59, w59 = w58.setRow K4 #[.int .u32 (tick : Int), .int .u32 (H : Int), .slice Ap N cp', .slice Ac N cc] := ⟨_, rfl⟩
         rw [← hws] at rp rc rq rk y4 y5 hb ⊢
         clear hws hm
         refine hKK.out _ _ ?_ (fun hHeld => ?_)
         · exact (by first | exact hb | exact below_drew hb)
         clear hKK KK
         try simp only [Act.put]
         refine wpAnyH_ready (rs := [12]) (by kernel_rfl) (by simp) ?_
         refine AllReadyH.cons (by simp only [List.getElem?_toArray]; rfl) (fun KK hKK => ?_) AllReadyH.nil
         rw [if_pos (by kernel_rfl)]
         refine wp_stDl (.tmp 20) (.tmp 77) rfl K5 tick H Aq m cq Ak m ck (by kernel_rfl) (by kernel_rfl) y5 ?_
         have hm := mod_setRow w59 K5 #[.int .u32 (tick : Int), .int .u32 (H : Int), .slice Aq m cq, .slice Ak m ck]
         replace rp := Row.mod rp hm (row_boxD rp y5 (by decide))
         replace rc := RowC.mod rc hm (row_boxD rc y5 (by decide))
         replace rq := Row.mod rq hm (row_boxD rq y5 (by decide))
         replace rk := RowC.mod rk hm (row_boxD rk y5 (by decide))
         replace y4 := y4.mod hm (ne45)
         replace y5 := bd_row y5 tick H (.slice Aq m cq) (.slice Ak m ck)
         replace hb := below_setRow hb K5 #[.int .u32 (tick : Int), .int .u32 (H : Int), .slice Aq m cq, .slice Ak m ck] nz_y5
         obtain ⟨w60, hws⟩ : ∃ w60, w60 = w59.setRow K5 #[.int .u32 (tick : Int), .int .u32 (H : Int), .slice Aq m cq, .slice Ak m ck] := ⟨_, rfl⟩
         rw [← hws] at rp rc rq rk y4 y5 hb ⊢
         clear hws hm
         refine hKK.out _ _ ?_ (fun hHeld => ?_)
         · exact (by first | exact hb | exact below_drew hb)
         clear hKK KK
         try simp only [Act.put]
         refine wpAnyH_done (by kernel_rfl) ?_ _
         go_wp2_with fail
         go_meet
         obtain ⟨_, _, bp, hv1, -, -, -, -, sp, -⟩ := Row.sl rp
         obtain ⟨_, _, bc, hv2, -, -, -, -, sc, -⟩ := RowC.sl rc
         obtain ⟨_, _, bq, hv3, -, -, -, -, sq, -⟩ := Row.sl rq
         obtain ⟨_, _, bk, hv4, -, -, -, -, sk, -⟩ := RowC.sl rk
         injection hv1 with hv1; injection hv2 with hv2; injection hv3 with hv3; injection hv4 with hv4
         subst hv1 hv2 hv3 hv4
         exact ⟨K4, K5, _, _, bp, _, _, bc, _, _, bq, _, _, bk, _, rfl, rfl, rfl, y4, y5, sp, sc, sq, sk, hb⟩
      case rest =>
        obtain ⟨K4, K5, Ap, cp', bp, Ac, cc, bc, Aq, cq, bq, Ak, ck, bk, wy, rfl, rfl, rfl, y4, y5, sp, sc, sq, sk, hby⟩ := hcut
        replace hs9 := Sl.ext hs9 hby
        replace hb := hb.trans (hby.mono hb.size)
        replace l1 := l1.ext hby
        replace l2 := l2.ext hby
        clear hby hO hU
        have z0 := y4.c0
        have z1 := y4.c1
        have z2 := y4.c2
        have z3 := y4.c3
        go_wp2_with fail
        refine (hDO Ap cp' Ac cc bc _ sc).mono ?_
        rintro e v1 ⟨vo, rfl, hvo, h1⟩
        obtain ⟨Ao, co, bo, hve, -, -, -, -, so, -⟩ := hvo.sl
        rw [HCSL.out] at hve
        subst hve
        clear hvo z0 z1 z2 z3 hDO
        replace y4 := y4.ext h1
        replace y5 := y5.ext h1
        replace l1 := l1.ext h1
        replace l2 := l2.ext h1
        replace sp := Sl.ext sp h1
        replace sc := Sl.ext sc h1
        replace sq := Sl.ext sq h1
        replace sk := Sl.ext sk h1
        replace hs9 := Sl.ext hs9 h1
        replace hb := hb.trans (h1.mono hb.size)
        clear h1
        go_wp2_with fail
        refine (hCe A9 c9 b9' _ hs9).mono ?_
        rintro e v2 ⟨vx, rfl, hvx, h1⟩
        obtain ⟨Ax, cx, bx, hve, -, -, -, -, sx, -⟩ := hvx.sl
        rw [HXL.out] at hve
        subst hve
        clear hvx
        replace y4 := y4.ext h1
        replace y5 := y5.ext h1
        replace l1 := l1.ext h1
        replace l2 := l2.ext h1
        replace sp := Sl.ext sp h1
        replace sc := Sl.ext sc h1
        replace sq := Sl.ext sq h1
        replace sk := Sl.ext sk h1
        replace hs9 := Sl.ext hs9 h1
        replace so := Sl.ext so h1
        replace hb := hb.trans (h1.mono hb.size)
        clear h1
        go_wp2_with fail
        refine (hRO Ax cx bx _ sx).mono ?_
        rintro e v3 ⟨vp3, vc3, rfl, hvp, hvc, h1⟩
        obtain ⟨Ar, cr, br, hve, -, -, -, -, sr, -⟩ := Row.sl hvp
        rw [HPSL.out] at hve
        subst hve
        obtain ⟨At, ct, bt, hve, -, -, -, -, st, -⟩ := RowC.sl hvc
        rw [HCSL.out] at hve
        subst hve
        clear hvp hvc hRO sx
        replace y4 := y4.ext h1
        replace y5 := y5.ext h1
        replace l1 := l1.ext h1
        replace l2 := l2.ext h1
        replace sp := Sl.ext sp h1
        replace sc := Sl.ext sc h1
        replace sq := Sl.ext sq h1
        replace sk := Sl.ext sk h1
        replace hs9 := Sl.ext hs9 h1
        replace so := Sl.ext so h1
        replace hb := hb.trans (h1.mono hb.size)
        clear h1
        go_wp2_with fail
        refine (hSd Ap cp' bp Ao co bo Ar cr br At ct bt _ sp sr so st).mono ?_
        rintro e v4 ⟨rfl, h1⟩
        clear so sr st hSd
        replace y4 := y4.ext h1
        replace y5 := y5.ext h1
        replace l1 := l1.ext h1
        replace l2 := l2.ext h1
        replace sp := Sl.ext sp h1
        replace sc := Sl.ext sc h1
        replace sq := Sl.ext sq h1
        replace sk := Sl.ext sk h1
        replace hs9 := Sl.ext hs9 h1
        replace hb := hb.trans (h1.mono hb.size)
        clear h1
        have z0 := y5.c0
        have z1 := y5.c1
        have z2 := y5.c2
        have z3 := y5.c3
        go_wp2_with fail
        refine (hDU Aq cq Ak ck bk _ sk).mono ?_
        rintro e v5 ⟨vo, rfl, hvo, h1⟩
        obtain ⟨Ao, co, bo, hve, -, -, -, -, so, -⟩ := hvo.sl
        rw [HVL.out] at hve
        subst hve
        clear hvo z0 z1 z2 z3 hDU
        replace y4 := y4.ext h1
        replace y5 := y5.ext h1
        replace l1 := l1.ext h1
        replace l2 := l2.ext h1
        replace sp := Sl.ext sp h1
        replace sc := Sl.ext sc h1
        replace sq := Sl.ext sq h1
        replace sk := Sl.ext sk h1
        replace hs9 := Sl.ext hs9 h1
        replace hb := hb.trans (h1.mono hb.size)
        clear h1
        go_wp2_with fail
        refine (hCe A9 c9 b9' _ hs9).mono ?_
        rintro e v6 ⟨vx, rfl, hvx, h1⟩
        obtain ⟨Ax, cx, bx, hve, -, -, -, -, sx, -⟩ := hvx.sl
        rw [HXL.out] at hve
        subst hve
        clear hvx hCe
        replace y4 := y4.ext h1
        replace y5 := y5.ext h1
        replace l1 := l1.ext h1
        replace l2 := l2.ext h1
        replace sp := Sl.ext sp h1
        replace sc := Sl.ext sc h1
        replace sq := Sl.ext sq h1
        replace sk := Sl.ext sk h1
        replace hs9 := Sl.ext hs9 h1
        replace so := Sl.ext so h1
        replace hb := hb.trans (h1.mono hb.size)
        clear h1
        go_wp2_with fail
        refine (hRU Ax cx bx _ sx).mono ?_
        rintro e v7 ⟨vp3, vc3, rfl, hvp, hvc, h1⟩
        obtain ⟨Ar, cr, br, hve, -, -, -, -, sr, -⟩ := Row.sl hvp
        rw [HQSL.out] at hve
        subst hve
        obtain ⟨At, ct, bt, hve, -, -, -, -, st, -⟩ := RowC.sl hvc
        rw [HVL.out] at hve
        subst hve
        clear hvp hvc hRU sx
        replace y4 := y4.ext h1
        replace y5 := y5.ext h1
        replace l1 := l1.ext h1
        replace l2 := l2.ext h1
        replace sp := Sl.ext sp h1
        replace sc := Sl.ext sc h1
        replace sq := Sl.ext sq h1
        replace sk := Sl.ext sk h1
        replace hs9 := Sl.ext hs9 h1
        replace so := Sl.ext so h1
        replace hb := hb.trans (h1.mono hb.size)
        clear h1
        go_wp2_with fail
        refine (hSf Aq cq bq Ao co bo Ar cr br At ct bt _ sq sr so st).mono ?_
        rintro e v8 ⟨rfl, h1⟩
        clear so sr st hSf hs9
        replace y4 := y4.ext h1
        replace y5 := y5.ext h1
        replace l1 := l1.ext h1
        replace l2 := l2.ext h1
        replace sp := Sl.ext sp h1
        replace sc := Sl.ext sc h1
        replace sq := Sl.ext sq h1
        replace sk := Sl.ext sk h1
        replace hb := hb.trans (h1.mono hb.size)
        clear h1
        go_upto_region 16 with fail
        obtain ⟨wz, hwz⟩ : ∃ wz, wz = v8 := ⟨_, rfl⟩
        rw [← hwz] at y4 y5 sp sc sq sk hb l1 l2 ⊢
        clear hwz
        go_cut [21, 22] (fun p21 p22 w9 => ∃ (g3 : Nat) (wy : World), wy = w9 ∧ p21 = .pointer (some ⟨g3, 0, none⟩) ∧ p22 = .int .i64 0 ∧ BoxL wy g3 V ∧ Below wz.heap.size wz wy)
        case first =>
         have hbw := hb
         have hb := Below.refl wz.heap.size wz
         go_wp2_with fail
         refine wp_region_held_drew (S := fun w9 => Below wz.heap.size wz w9) (by kernel_rfl) ?_ (fun hHeld => ?_)
         · exact (by first | exact hb | exact below_drew hb)
         obtain ⟨wd62, hwd62⟩ : ∃ wd62, wd62 = World.drew wz := ⟨_, rfl⟩
         have h9 : Below wz.heap.size wz wd62 := by rw [hwd62]; exact below_drew (Below.refl _ _)
         rw [← hwd62] at hHeld ⊢
         replace hb := hb.trans (h9.mono hb.size)
         clear h9
         clear hwd62
         refine wpAnyH_take (i := 0) (by simp only [List.getElem?_toArray]; rfl) (by kernel_rfl) (by kernel_rfl) (by kernel_rfl) (by exact fun _ _ _ h => h) (by exact yk_ldDl (by kernel_rfl) (.tmp 19) rfl K4 tick H _ _ (by kernel_rfl) (fun _ h => y4.ext h)) hHeld ?_
         refine wpAnyH_take (i := 1) (by simp only [List.getElem?_toArray]; rfl) (by kernel_rfl) (by kernel_rfl) (by kernel_rfl) (by exact fun _ _ _ h => h) (by exact yieldsIf_ld (by kernel_rfl) (.tmp 15) rfl g1 (by kernel_rfl) M (fun _ h => l1.ext h)) hHeld ?_
         refine wpAnyH_take (i := 2) (by simp only [List.getElem?_toArray]; rfl) (by kernel_rfl) (by kernel_rfl) (by kernel_rfl) (by exact fun _ _ _ h => h) (by exact yk (.int .i64 o) (by kernel_rfl) (fun _ => by kernel_rfl)) hHeld ?_
         refine wpAnyH_ready (rs := [3, 8]) (by kernel_rfl) (by simp) ?_
         refine AllReadyH.cons (by simp only [List.getElem?_toArray]; rfl) (fun KK hKK => ?_) (AllReadyH.cons (by simp only [List.getElem?_toArray]; rfl) (fun KK hKK => ?_) AllReadyH.nil)
         ·
          rw [if_pos (by kernel_rfl)]
          refine wp_callF 18 #[.agg (bdL M), .int .i64 o] (by kernel_rfl) ?_
          refine (hVa _).mono ?_
          rintro e w63 ⟨rfl, h9⟩
          refine ⟨_, rfl, ?_⟩
          replace hb := hb.trans (h9.mono hb.size)
          clear h9
          refine hKK.out _ _ ?_ (fun hHeld => ?_)
          · exact (by first | exact hb | exact below_drew hb)
          clear hKK KK
          try simp only [Act.put, List.setIfInBounds_toArray, List.set_cons_zero, List.set_cons_succ]
          refine wpAnyH_ready (rs := [4, 8]) (by kernel_rfl) (by simp) ?_
          refine AllReadyH.cons (by simp only [List.getElem?_toArray]; rfl) (fun KK hKK => ?_) (AllReadyH.cons (by simp only [List.getElem?_toArray]; rfl) (fun KK hKK => ?_) AllReadyH.nil)
          ·
           rw [if_pos (by kernel_rfl)]
           refine wp_callF 17 #[.agg (dA tick H Ap N cp' Ac N cc), .agg (bdL V0)] (by kernel_rfl) ?_
           refine (hAp Ap cp' bp Ac cc bc _ (Sl.ext sp hb) (Sl.ext sc hb)).mono ?_
           rintro e w64 ⟨rfl, h9⟩
           refine ⟨_, rfl, ?_⟩
           replace hb := hb.trans (h9.mono hb.size)
           clear h9
           refine hKK.out _ _ ?_ (fun hHeld => ?_)
           · exact (by first | exact hb | exact below_drew hb)
           clear hKK KK
           try simp only [Act.put, List.setIfInBounds_toArray, List.set_cons_zero, List.set_cons_succ]
           refine wpAnyH_take (i := 5) (by simp only [List.getElem?_toArray]; rfl) (by kernel_rfl) (by kernel_rfl) (by kernel_rfl) (by exact fun _ _ _ h => h) (by exact yk (.tuple #[.agg (bdL V), .int .i64 0]) (by kernel_rfl) (fun _ => by kernel_rfl)) hHeld ?_
           refine wpAnyH_take (i := 6) (by simp only [List.getElem?_toArray]; rfl) (by kernel_rfl) (by kernel_rfl) (by kernel_rfl) (by exact fun _ _ _ h => h) (by exact yk (.agg (bdL V)) (by kernel_rfl) (fun _ => by kernel_rfl)) hHeld ?_
           refine wpAnyH_take (i := 7) (by simp only [List.getElem?_toArray]; rfl) (by kernel_rfl) (by kernel_rfl) (by kernel_rfl) (by exact fun _ _ _ h => h) (by exact yk (.int .i64 0) (by kernel_rfl) (fun _ => by kernel_rfl)) hHeld ?_
           refine wpAnyH_ready (rs := [8]) (by kernel_rfl) (by simp) ?_
           refine AllReadyH.cons (by simp only [List.getElem?_toArray]; rfl) (fun KK hKK => ?_) AllReadyH.nil
           rw [if_pos (by kernel_rfl)]
           have nz : wz.heap.size ≤ w64.heap.size := hb.size
           refine wp_al rfl ?_
           have h9 := below_alloc1 w64 (.cells (bdL []) 32)
           have l3 := BoxL.new_ w64 []
           obtain ⟨g3, hq1⟩ : ∃ g3, g3 = w64.heap.size := ⟨_, rfl⟩
           obtain ⟨w65, hwa⟩ : ∃ w65, w65 = w64.alloc (.cells (bdL []) 32) := ⟨_, rfl⟩
           rw [← hwa] at h9 l3 ⊢
           rw [← hq1] at l3 nz ⊢
           clear hwa hq1
           replace hb := hb.trans (h9.mono hb.size)
           clear h9
           refine hKK.out _ _ ?_ (fun hHeld => ?_)
           · exact (by first | exact hb | exact below_drew hb)
           clear hKK KK
           try simp only [Act.put, List.setIfInBounds_toArray, List.set_cons_zero, List.set_cons_succ]
           refine wpAnyH_ready (rs := [9]) (by kernel_rfl) (by simp) ?_
           refine AllReadyH.cons (by simp only [List.getElem?_toArray]; rfl) (fun KK hKK => ?_) AllReadyH.nil
           rw [if_pos (by kernel_rfl)]
           refine wp_stBd (.tmp 21) (.tmp 105) rfl g3 V (by kernel_rfl) (by kernel_rfl) l3 ?_
           have l3 : BoxL (w65.setRow g3 (bdL V)) g3 V := setRow_heap w65 g3 _ _ _ _ l3
           replace hb := below_setRow hb g3 (bdL V) nz
           obtain ⟨w66, hws⟩ : ∃ w66, w66 = w65.setRow g3 (bdL V) := ⟨_, rfl⟩
           rw [← hws] at l3 hb ⊢
           clear hws
           refine hKK.out _ _ ?_ (fun hHeld => ?_)
           · exact (by first | exact hb | exact below_drew hb)
           clear hKK KK
           try simp only [Act.put]
           refine wpAnyH_take (i := 10) (by simp only [List.getElem?_toArray]; rfl) (by kernel_rfl) (by kernel_rfl) (by kernel_rfl) (by exact fun _ _ _ h => h) (by exact yk (.int .i64 0) (by kernel_rfl) (fun _ => by kernel_rfl)) hHeld ?_
           refine wpAnyH_done (by kernel_rfl) ?_ _
           go_wp2_with fail
           go_meet
           exact ⟨g3, _, rfl, rfl, rfl, l3, hb⟩
          ·
           rw [if_pos (by kernel_rfl)]
           have nz : wz.heap.size ≤ w63.heap.size := hb.size
           refine wp_al rfl ?_
           have h9 := below_alloc1 w63 (.cells (bdL []) 32)
           have l3 := BoxL.new_ w63 []
           obtain ⟨g3, hq1⟩ : ∃ g3, g3 = w63.heap.size := ⟨_, rfl⟩
           obtain ⟨w67, hwa⟩ : ∃ w67, w67 = w63.alloc (.cells (bdL []) 32) := ⟨_, rfl⟩
           rw [← hwa] at h9 l3 ⊢
           rw [← hq1] at l3 nz ⊢
           clear hwa hq1
           replace hb := hb.trans (h9.mono hb.size)
           clear h9
           refine hKK.out _ _ ?_ (fun hHeld => ?_)
           · exact (by first | exact hb | exact below_drew hb)
           clear hKK KK
           try simp only [Act.put, List.setIfInBounds_toArray, List.set_cons_zero, List.set_cons_succ]
           refine wpAnyH_ready (rs := [4]) (by kernel_rfl) (by simp) ?_
           refine AllReadyH.cons (by simp only [List.getElem?_toArray]; rfl) (fun KK hKK => ?_) AllReadyH.nil
           rw [if_pos (by kernel_rfl)]
           refine wp_callF 17 #[.agg (dA tick H Ap N cp' Ac N cc), .agg (bdL V0)] (by kernel_rfl) ?_
           refine (hAp Ap cp' bp Ac cc bc _ (Sl.ext sp hb) (Sl.ext sc hb)).mono ?_
           rintro e w68 ⟨rfl, h9⟩
           refine ⟨_, rfl, ?_⟩
           replace l3 := l3.ext h9
           replace hb := hb.trans (h9.mono hb.size)
           clear h9
           refine hKK.out _ _ ?_ (fun hHeld => ?_)
           · exact (by first | exact hb | exact below_drew hb)
           clear hKK KK
           try simp only [Act.put, List.setIfInBounds_toArray, List.set_cons_zero, List.set_cons_succ]
           refine wpAnyH_take (i := 5) (by simp only [List.getElem?_toArray]; rfl) (by kernel_rfl) (by kernel_rfl) (by kernel_rfl) (by exact fun _ _ _ h => h) (by exact yk (.tuple #[.agg (bdL V), .int .i64 0]) (by kernel_rfl) (fun _ => by kernel_rfl)) hHeld ?_
           refine wpAnyH_take (i := 6) (by simp only [List.getElem?_toArray]; rfl) (by kernel_rfl) (by kernel_rfl) (by kernel_rfl) (by exact fun _ _ _ h => h) (by exact yk (.agg (bdL V)) (by kernel_rfl) (fun _ => by kernel_rfl)) hHeld ?_
           refine wpAnyH_take (i := 7) (by simp only [List.getElem?_toArray]; rfl) (by kernel_rfl) (by kernel_rfl) (by kernel_rfl) (by exact fun _ _ _ h => h) (by exact yk (.int .i64 0) (by kernel_rfl) (fun _ => by kernel_rfl)) hHeld ?_
           refine wpAnyH_ready (rs := [9]) (by kernel_rfl) (by simp) ?_
           refine AllReadyH.cons (by simp only [List.getElem?_toArray]; rfl) (fun KK hKK => ?_) AllReadyH.nil
           rw [if_pos (by kernel_rfl)]
           refine wp_stBd (.tmp 21) (.tmp 105) rfl g3 V (by kernel_rfl) (by kernel_rfl) l3 ?_
           have l3 : BoxL (w68.setRow g3 (bdL V)) g3 V := setRow_heap w68 g3 _ _ _ _ l3
           replace hb := below_setRow hb g3 (bdL V) nz
           obtain ⟨w69, hws⟩ : ∃ w69, w69 = w68.setRow g3 (bdL V) := ⟨_, rfl⟩
           rw [← hws] at l3 hb ⊢
           clear hws
           refine hKK.out _ _ ?_ (fun hHeld => ?_)
           · exact (by first | exact hb | exact below_drew hb)
           clear hKK KK
           try simp only [Act.put]
           refine wpAnyH_take (i := 10) (by simp only [List.getElem?_toArray]; rfl) (by kernel_rfl) (by kernel_rfl) (by kernel_rfl) (by exact fun _ _ _ h => h) (by exact yk (.int .i64 0) (by kernel_rfl) (fun _ => by kernel_rfl)) hHeld ?_
           refine wpAnyH_done (by kernel_rfl) ?_ _
           go_wp2_with fail
           go_meet
           exact ⟨g3, _, rfl, rfl, rfl, l3, hb⟩
         ·
          rw [if_pos (by kernel_rfl)]
          have nz : wz.heap.size ≤ wd62.heap.size := hb.size
          refine wp_al rfl ?_
          have h9 := below_alloc1 wd62 (.cells (bdL []) 32)
          have l3 := BoxL.new_ wd62 []
          obtain ⟨g3, hq1⟩ : ∃ g3, g3 = wd62.heap.size := ⟨_, rfl⟩
          obtain ⟨w70, hwa⟩ : ∃ w70, w70 = wd62.alloc (.cells (bdL []) 32) := ⟨_, rfl⟩
          rw [← hwa] at h9 l3 ⊢
          rw [← hq1] at l3 nz ⊢
          clear hwa hq1
          replace hb := hb.trans (h9.mono hb.size)
          clear h9
          refine hKK.out _ _ ?_ (fun hHeld => ?_)
          · exact (by first | exact hb | exact below_drew hb)
          clear hKK KK
          try simp only [Act.put, List.setIfInBounds_toArray, List.set_cons_zero, List.set_cons_succ]
          refine wpAnyH_ready (rs := [3]) (by kernel_rfl) (by simp) ?_
          refine AllReadyH.cons (by simp only [List.getElem?_toArray]; rfl) (fun KK hKK => ?_) AllReadyH.nil
          rw [if_pos (by kernel_rfl)]
          refine wp_callF 18 #[.agg (bdL M), .int .i64 o] (by kernel_rfl) ?_
          refine (hVa _).mono ?_
          rintro e w71 ⟨rfl, h9⟩
          refine ⟨_, rfl, ?_⟩
          replace l3 := l3.ext h9
          replace hb := hb.trans (h9.mono hb.size)
          clear h9
          refine hKK.out _ _ ?_ (fun hHeld => ?_)
          · exact (by first | exact hb | exact below_drew hb)
          clear hKK KK
          try simp only [Act.put, List.setIfInBounds_toArray, List.set_cons_zero, List.set_cons_succ]
          refine wpAnyH_ready (rs := [4]) (by kernel_rfl) (by simp) ?_
          refine AllReadyH.cons (by simp only [List.getElem?_toArray]; rfl) (fun KK hKK => ?_) AllReadyH.nil
          rw [if_pos (by kernel_rfl)]
          refine wp_callF 17 #[.agg (dA tick H Ap N cp' Ac N cc), .agg (bdL V0)] (by kernel_rfl) ?_
          refine (hAp Ap cp' bp Ac cc bc _ (Sl.ext sp hb) (Sl.ext sc hb)).mono ?_
          rintro e w72 ⟨rfl, h9⟩
          refine ⟨_, rfl, ?_⟩
          replace l3 := l3.ext h9
          replace hb := hb.trans (h9.mono hb.size)
          clear h9
          refine hKK.out _ _ ?_ (fun hHeld => ?_)
          · exact (by first | exact hb | exact below_drew hb)
          clear hKK KK
          try simp only [Act.put, List.setIfInBounds_toArray, List.set_cons_zero, List.set_cons_succ]
          refine wpAnyH_take (i := 5) (by simp only [List.getElem?_toArray]; rfl) (by kernel_rfl) (by kernel_rfl) (by kernel_rfl) (by exact fun _ _ _ h => h) (by exact yk (.tuple #[.agg (bdL V), .int .i64 0]) (by kernel_rfl) (fun _ => by kernel_rfl)) hHeld ?_
          refine wpAnyH_take (i := 6) (by simp only [List.getElem?_toArray]; rfl) (by kernel_rfl) (by kernel_rfl) (by kernel_rfl) (by exact fun _ _ _ h => h) (by exact yk (.agg (bdL V)) (by kernel_rfl) (fun _ => by kernel_rfl)) hHeld ?_
          refine wpAnyH_take (i := 7) (by simp only [List.getElem?_toArray]; rfl) (by kernel_rfl) (by kernel_rfl) (by kernel_rfl) (by exact fun _ _ _ h => h) (by exact yk (.int .i64 0) (by kernel_rfl) (fun _ => by kernel_rfl)) hHeld ?_
          refine wpAnyH_ready (rs := [9]) (by kernel_rfl) (by simp) ?_
          refine AllReadyH.cons (by simp only [List.getElem?_toArray]; rfl) (fun KK hKK => ?_) AllReadyH.nil
          rw [if_pos (by kernel_rfl)]
          refine wp_stBd (.tmp 21) (.tmp 105) rfl g3 V (by kernel_rfl) (by kernel_rfl) l3 ?_
          have l3 : BoxL (w72.setRow g3 (bdL V)) g3 V := setRow_heap w72 g3 _ _ _ _ l3
          replace hb := below_setRow hb g3 (bdL V) nz
          obtain ⟨w73, hws⟩ : ∃ w73, w73 = w72.setRow g3 (bdL V) := ⟨_, rfl⟩
          rw [← hws] at l3 hb ⊢
          clear hws
          refine hKK.out _ _ ?_ (fun hHeld => ?_)
          · exact (by first | exact hb | exact below_drew hb)
          clear hKK KK
          try simp only [Act.put]
          refine wpAnyH_take (i := 10) (by simp only [List.getElem?_toArray]; rfl) (by kernel_rfl) (by kernel_rfl) (by kernel_rfl) (by exact fun _ _ _ h => h) (by exact yk (.int .i64 0) (by kernel_rfl) (fun _ => by kernel_rfl)) hHeld ?_
          refine wpAnyH_done (by kernel_rfl) ?_ _
          go_wp2_with fail
          go_meet
          exact ⟨g3, _, rfl, rfl, rfl, l3, hb⟩
        case rest =>
          obtain ⟨g3, wy, rfl, rfl, rfl, l3, h1⟩ := hcut
          clear hAp hVa l1
          replace y4 := y4.ext h1
          replace y5 := y5.ext h1
          replace l2 := l2.ext h1
          replace sp := Sl.ext sp h1
          replace sc := Sl.ext sc h1
          replace sq := Sl.ext sq h1
          replace sk := Sl.ext sk h1
          replace hb := hb.trans (h1.mono hb.size)
          clear h1
          have z0 := y5.c0
          have z1 := y5.c1
          have z2 := y5.c2
          have z3 := y5.c3
          go_wp2_with fail
          refine (hBd Aq cq bq Ak ck bk _ sq sk).mono ?_
          rintro e v9 ⟨rfl, h1⟩
          clear hBd z0 z1 z2 z3
          replace l3 := l3.ext h1
          replace y4 := y4.ext h1
          replace y5 := y5.ext h1
          replace l2 := l2.ext h1
          replace sp := Sl.ext sp h1
          replace sc := Sl.ext sc h1
          replace sq := Sl.ext sq h1
          replace sk := Sl.ext sk h1
          replace hb := hb.trans (h1.mono hb.size)
          clear h1
          have l4 := BoxL.new_ v9 V
          have h1 := below_alloc1 v9 (.cells (bdL V) 32)
          go_upto_region 18 with (first | ((with_reducible refine at_al 32 23 ?_); refine wpList_al rfl rfl (some 23) rfl v9.heap.size rfl ?_) | ((with_reducible refine at_st 32 23 110 ?_); refine wpList_put rfl (.tmp 23) (.tmp 110) rfl rfl V rfl rfl ?_))
          replace l3 := l3.ext h1
          replace y4 := y4.ext h1
          replace y5 := y5.ext h1
          replace l2 := l2.ext h1
          replace sp := Sl.ext sp h1
          replace sc := Sl.ext sc h1
          replace sq := Sl.ext sq h1
          replace sk := Sl.ext sk h1
          replace hb := hb.trans (h1.mono hb.size)
          obtain ⟨g4, hg4⟩ : ∃ g4, g4 = v9.heap.size := ⟨_, rfl⟩
          obtain ⟨va, hva⟩ : ∃ va, va = v9.alloc (.cells (bdL V) 32) := ⟨_, rfl⟩
          rw [← hva] at y4 y5 sp sc sq sk hb l2 l3 l4 ⊢
          rw [← hg4] at l4 ⊢
          clear hva hg4 h1
          have z0 := y4.c0
          have z1 := y4.c1
          have z2 := y4.c2
          have z3 := y4.c3
          go_wp2_with fail
          refine (hBy Ap cp' bp Ac cc bc _ sp sc).mono ?_
          rintro e vb ⟨v, rfl, hv, h1⟩
          obtain ⟨Az, cz, bz, hve, -⟩ := Row.sl hv
          rw [HYL.out] at hve
          subst hve
          replace l2 := l2.ext h1
          replace l3 := l3.ext h1
          replace l4 := l4.ext h1
          replace hb := hb.trans (h1.mono hb.size)
          clear hv h1 z0 z1 z2 z3 hBy y4 y5 sp sc sq sk
          go_upto_region 19 with fail
          refine wp_region_held_drew (S := fun w' => Below vb.heap.size vb w') (by kernel_rfl) ?_ (fun hHeld => ?_)
          · exact below_drew (Below.refl _ _)
          refine wpAnyH_take (i := 0) (by simp only [List.getElem?_toArray]; rfl) (by kernel_rfl) (by kernel_rfl) (by kernel_rfl) (by exact fun _ _ _ h => h) (by exact yk (.int .i64 0) (by kernel_rfl) (fun _ => by kernel_rfl)) hHeld ?_
          refine wpAnyH_take (i := 1) (by simp only [List.getElem?_toArray]; rfl) (by kernel_rfl) (by kernel_rfl) (by kernel_rfl) (by exact fun _ _ _ h => h) (by exact yk_eq (by kernel_rfl) .i64 33 (.tmp 115) (.const (.int .i64 0)) _ rfl (0) (0) (by kernel_rfl) (by kernel_rfl) true (by simp)) hHeld ?_
          refine wpAnyH_take (i := 2) (by simp only [List.getElem?_toArray]; rfl) (by kernel_rfl) (by kernel_rfl) (by kernel_rfl) (by exact fun _ _ _ h => h) (by exact yk (.bool true) (by kernel_rfl) (fun _ => by kernel_rfl)) hHeld ?_
          refine wpAnyH_take (i := 3) (by simp only [List.getElem?_toArray]; rfl) (by kernel_rfl) (by kernel_rfl) (by kernel_rfl) (by exact fun _ _ _ h => h) (by exact yieldsIf_ld (by kernel_rfl) (.tmp 21) rfl g3 (by kernel_rfl) V (fun _ h => l3.ext h)) hHeld ?_
          refine wpAnyH_take (i := 4) (by simp only [List.getElem?_toArray]; rfl) (by kernel_rfl) (by kernel_rfl) (by kernel_rfl) (by exact fun _ _ _ h => h) (by exact yieldsIf_ld (by kernel_rfl) (.tmp 17) rfl g2 (by kernel_rfl) X (fun _ h => l2.ext h)) hHeld ?_
          refine wpAnyH_take (i := 5) (by simp only [List.getElem?_toArray]; rfl) (by kernel_rfl) (by kernel_rfl) (by kernel_rfl) (by exact fun _ _ _ h => h) (by exact yk (.int .i64 o) (by kernel_rfl) (fun _ => by kernel_rfl)) hHeld ?_
          refine wpAnyH_ready (rs := [6]) (by kernel_rfl) (by simp) ?_
          refine AllReadyH.cons (by simp only [List.getElem?_toArray]; rfl) (fun KK hKK => ?_) AllReadyH.nil
          rw [if_pos (by kernel_rfl)]
          refine wp_callF 18 #[.agg (bdL X), .int .i64 o] (by kernel_rfl) ?_
          refine (hVb _).mono ?_
          rintro e x1 ⟨rfl, ha⟩
          have hbr := below_undrew2 ha
          clear ha
          refine ⟨_, rfl, ?_⟩
          refine hKK.out _ _ ?_ (fun hHeld => ?_)
          · exact hbr
          clear hKK KK
          refine wpAnyH_take (i := 7) (by simp only [List.getElem?_toArray]; rfl) (by kernel_rfl) (by kernel_rfl) (by kernel_rfl) (by exact fun _ _ _ h => h) (by exact yk_eqBd (by kernel_rfl) (.tmp 118) (.tmp 121) rfl V (by kernel_rfl) (by kernel_rfl)) hHeld ?_
          refine wpAnyH_take (i := 8) (by simp only [List.getElem?_toArray]; rfl) (by kernel_rfl) (by kernel_rfl) (by kernel_rfl) (by exact fun _ _ _ h => h) (by exact yk (.bool true) (by kernel_rfl) (fun _ => by kernel_rfl)) hHeld ?_
          refine wpAnyH_take (i := 9) (by simp only [List.getElem?_toArray]; rfl) (by kernel_rfl) (by kernel_rfl) (by kernel_rfl) (by exact fun _ _ _ h => h) (by exact yk (.bool true) (by kernel_rfl) (fun _ => by kernel_rfl)) hHeld ?_
          refine wpAnyH_take (i := 10) (by simp only [List.getElem?_toArray]; rfl) (by kernel_rfl) (by kernel_rfl) (by kernel_rfl) (by exact fun _ _ _ h => h) (by exact yk (.int .i64 0) (by kernel_rfl) (fun _ => by kernel_rfl)) hHeld ?_
          refine wpAnyH_take (i := 11) (by simp only [List.getElem?_toArray]; rfl) (by kernel_rfl) (by kernel_rfl) (by kernel_rfl) (by exact fun _ _ _ h => h) (by exact yk_eq (by kernel_rfl) .i64 33 (.tmp 125) (.const (.int .i64 0)) _ rfl (0) (0) (by kernel_rfl) (by kernel_rfl) true (by simp)) hHeld ?_
          refine wpAnyH_take (i := 12) (by simp only [List.getElem?_toArray]; rfl) (by kernel_rfl) (by kernel_rfl) (by kernel_rfl) (by exact fun _ _ _ h => h) (by exact yk (.bool true) (by kernel_rfl) (fun _ => by kernel_rfl)) hHeld ?_
          refine wpAnyH_take (i := 13) (by simp only [List.getElem?_toArray]; rfl) (by kernel_rfl) (by kernel_rfl) (by kernel_rfl) (by exact fun _ _ _ h => h) (by exact yk (.bool true) (by kernel_rfl) (fun _ => by kernel_rfl)) hHeld ?_
          refine wpAnyH_take (i := 14) (by simp only [List.getElem?_toArray]; rfl) (by kernel_rfl) (by kernel_rfl) (by kernel_rfl) (by exact fun _ _ _ h => h) (by exact yieldsIf_ld (by kernel_rfl) (.tmp 23) rfl g4 (by kernel_rfl) V (fun _ h => l4.ext h)) hHeld ?_
          refine wpAnyH_take (i := 15) (by simp only [List.getElem?_toArray]; rfl) (by kernel_rfl) (by kernel_rfl) (by kernel_rfl) (by exact fun _ _ _ h => h) (by exact yieldsIf_ld (by kernel_rfl) (.tmp 17) rfl g2 (by kernel_rfl) X (fun _ h => l2.ext h)) hHeld ?_
          refine wpAnyH_take (i := 16) (by simp only [List.getElem?_toArray]; rfl) (by kernel_rfl) (by kernel_rfl) (by kernel_rfl) (by exact fun _ _ _ h => h) (by exact yk (.int .i64 o) (by kernel_rfl) (fun _ => by kernel_rfl)) hHeld ?_
          refine wpAnyH_ready (rs := [17]) (by kernel_rfl) (by simp) ?_
          refine AllReadyH.cons (by simp only [List.getElem?_toArray]; rfl) (fun KK hKK => ?_) AllReadyH.nil
          rw [if_pos (by kernel_rfl)]
          refine wp_callF 18 #[.agg (bdL X), .int .i64 o] (by kernel_rfl) ?_
          refine (hVb _).mono ?_
          rintro e x2 ⟨rfl, ha⟩
          have hbr := hbr.trans (ha.mono hbr.size)
          clear ha
          refine ⟨_, rfl, ?_⟩
          refine hKK.out _ _ ?_ (fun hHeld => ?_)
          · exact hbr
          clear hKK KK
          refine wpAnyH_take (i := 18) (by simp only [List.getElem?_toArray]; rfl) (by kernel_rfl) (by kernel_rfl) (by kernel_rfl) (by exact fun _ _ _ h => h) (by exact yk_eqBd (by kernel_rfl) (.tmp 129) (.tmp 132) rfl V (by kernel_rfl) (by kernel_rfl)) hHeld ?_
          refine wpAnyH_take (i := 19) (by simp only [List.getElem?_toArray]; rfl) (by kernel_rfl) (by kernel_rfl) (by kernel_rfl) (by exact fun _ _ _ h => h) (by exact yk (.bool true) (by kernel_rfl) (fun _ => by kernel_rfl)) hHeld ?_
          refine wpAnyH_take (i := 20) (by simp only [List.getElem?_toArray]; rfl) (by kernel_rfl) (by kernel_rfl) (by kernel_rfl) (by exact fun _ _ _ h => h) (by exact yk (.bool true) (by kernel_rfl) (fun _ => by kernel_rfl)) hHeld ?_
          refine wpAnyH_take (i := 21) (by simp only [List.getElem?_toArray]; rfl) (by kernel_rfl) (by kernel_rfl) (by kernel_rfl) (by exact fun _ _ _ h => h) (by exact yk (.int .i64 (Z : Int)) (by kernel_rfl) (fun _ => by kernel_rfl)) hHeld ?_
          refine wpAnyH_take (i := 22) (by simp only [List.getElem?_toArray]; rfl) (by kernel_rfl) (by kernel_rfl) (by kernel_rfl) (by exact fun _ _ _ h => h) (by exact yk (.int .u64 (t : Int)) (by kernel_rfl) (fun _ => by kernel_rfl)) hHeld ?_
          refine wpAnyH_take (i := 23) (by simp only [List.getElem?_toArray]; rfl) (by kernel_rfl) (by kernel_rfl) (by kernel_rfl) (by exact fun _ _ _ h => h) (by exact yieldsIf_ld (by kernel_rfl) (.tmp 17) rfl g2 (by kernel_rfl) X (fun _ h => l2.ext h)) hHeld ?_
          refine wpAnyH_ready (rs := [24]) (by kernel_rfl) (by simp) ?_
          refine AllReadyH.cons (by simp only [List.getElem?_toArray]; rfl) (fun KK hKK => ?_) AllReadyH.nil
          rw [if_pos (by kernel_rfl)]
          refine wp_callF 21 #[.int .u64 (t : Int), .agg (bdL X)] (by kernel_rfl) ?_
          refine (hSz _).mono ?_
          rintro e x3 ⟨rfl, ha⟩
          have hbr := hbr.trans (ha.mono hbr.size)
          clear ha
          refine ⟨_, rfl, ?_⟩
          refine hKK.out _ _ ?_ (fun hHeld => ?_)
          · exact hbr
          clear hKK KK
          refine wpAnyH_take (i := 25) (by simp only [List.getElem?_toArray]; rfl) (by kernel_rfl) (by kernel_rfl) (by kernel_rfl) (by exact fun _ _ _ h => h) (by exact yk_eq (by kernel_rfl) .i64 3 (.tmp 136) (.tmp 139) _ rfl ((Z : Int)) ((Z : Int)) (by kernel_rfl) (by kernel_rfl) true (by simp)) hHeld ?_
          refine wpAnyH_take (i := 26) (by simp only [List.getElem?_toArray]; rfl) (by kernel_rfl) (by kernel_rfl) (by kernel_rfl) (by exact fun _ _ _ h => h) (by exact yk (.bool true) (by kernel_rfl) (fun _ => by kernel_rfl)) hHeld ?_
          refine wpAnyH_take (i := 27) (by simp only [List.getElem?_toArray]; rfl) (by kernel_rfl) (by kernel_rfl) (by kernel_rfl) (by exact fun _ _ _ h => h) (by exact yk (.bool true) (by kernel_rfl) (fun _ => by kernel_rfl)) hHeld ?_
          refine wpAnyH_take (i := 28) (by simp only [List.getElem?_toArray]; rfl) (by kernel_rfl) (by kernel_rfl) (by kernel_rfl) (by exact fun _ _ _ h => h) (by exact yk (.int .i64 (Z : Int)) (by kernel_rfl) (fun _ => by kernel_rfl)) hHeld ?_
          refine wpAnyH_take (i := 29) (by simp only [List.getElem?_toArray]; rfl) (by kernel_rfl) (by kernel_rfl) (by kernel_rfl) (by exact fun _ _ _ h => h) (by exact yieldsIf_ld (by kernel_rfl) (.tmp 17) rfl g2 (by kernel_rfl) X (fun _ h => l2.ext h)) hHeld ?_
          refine wpAnyH_take (i := 30) (by simp only [List.getElem?_toArray]; rfl) (by kernel_rfl) (by kernel_rfl) (by kernel_rfl) (by exact fun _ _ _ h => h) (by exact yk (.int .u64 (t : Int)) (by kernel_rfl) (fun _ => by kernel_rfl)) hHeld ?_
          refine wpAnyH_take (i := 31) (by simp only [List.getElem?_toArray]; rfl) (by kernel_rfl) (by kernel_rfl) (by kernel_rfl) (by exact fun _ _ _ h => h) (by exact yk (.int .i64 p) (by kernel_rfl) (fun _ => by kernel_rfl)) hHeld ?_
          refine wpAnyH_take (i := 32) (by simp only [List.getElem?_toArray]; rfl) (by kernel_rfl) (by kernel_rfl) (by kernel_rfl) (by exact fun _ _ _ h => h) (by exact yk (.int .u32 (tick : Int)) (by kernel_rfl) (fun _ => by kernel_rfl)) hHeld ?_
          refine wpAnyH_ready (rs := [33]) (by kernel_rfl) (by simp) ?_
          refine AllReadyH.cons (by simp only [List.getElem?_toArray]; rfl) (fun KK hKK => ?_) AllReadyH.nil
          rw [if_pos (by kernel_rfl)]
          refine wp_callF 11 #[.agg (bdL X), .int .u64 (t : Int), .int .i64 p, .int .u32 (tick : Int)] (by kernel_rfl) ?_
          refine (hOp _).mono ?_
          rintro e x4 ⟨vp, vc, rfl, hvp, hvc, ha⟩
          have hbr := hbr.trans (ha.mono hbr.size)
          obtain ⟨Ae, ce, be, hve, -, -, -, -, se, -⟩ := Row.sl hvp
          rw [HPSL.out] at hve
          subst hve
          obtain ⟨Af, cf, bf, hve, -, -, -, -, sf, -⟩ := RowC.sl hvc
          rw [HCPL.out] at hve
          subst hve
          clear ha
          refine ⟨_, rfl, ?_⟩
          refine hKK.out _ _ ?_ (fun hHeld => ?_)
          · exact hbr
          clear hKK KK
          refine wpAnyH_ready (rs := [34]) (by kernel_rfl) (by simp) ?_
          refine AllReadyH.cons (by simp only [List.getElem?_toArray]; rfl) (fun KK hKK => ?_) AllReadyH.nil
          rw [if_pos (by kernel_rfl)]
          refine wp_callF 20 #[.agg (dA tick Hp Ae N ce Af N cf)] (by kernel_rfl) ?_
          refine (hBp Ae ce be Af cf bf _ se sf).mono ?_
          rintro e x5 ⟨v, rfl, hv, ha⟩
          have hbr := hbr.trans (ha.mono hbr.size)
          obtain ⟨Ag, cg, bg, hve, -⟩ := Row.sl hv
          rw [HYPL.out] at hve
          subst hve
          clear ha
          refine ⟨_, rfl, ?_⟩
          refine hKK.out _ _ ?_ (fun hHeld => ?_)
          · exact hbr
          clear hKK KK
          refine wpAnyH_take (i := 35) (by simp only [List.getElem?_toArray]; rfl) (by kernel_rfl) (by kernel_rfl) (by kernel_rfl) (by exact fun _ _ _ h => h) (by exact yk (.int .i64 (Z : Int)) (by kernel_rfl) (fun _ => by kernel_rfl)) hHeld ?_
          refine wpAnyH_take (i := 36) (by simp only [List.getElem?_toArray]; rfl) (by kernel_rfl) (by kernel_rfl) (by kernel_rfl) (by exact fun _ _ _ h => h) (by exact yk_eq (by kernel_rfl) .i64 3 (.tmp 143) (.tmp 150) _ rfl ((Z : Int)) ((Z : Int)) (by kernel_rfl) (by kernel_rfl) true (by simp)) hHeld ?_
          refine wpAnyH_take (i := 37) (by simp only [List.getElem?_toArray]; rfl) (by kernel_rfl) (by kernel_rfl) (by kernel_rfl) (by exact fun _ _ _ h => h) (by exact yk (.bool true) (by kernel_rfl) (fun _ => by kernel_rfl)) hHeld ?_
          refine wpAnyH_take (i := 38) (by simp only [List.getElem?_toArray]; rfl) (by kernel_rfl) (by kernel_rfl) (by kernel_rfl) (by exact fun _ _ _ h => h) (by exact yk (.bool true) (by kernel_rfl) (fun _ => by kernel_rfl)) hHeld ?_
          refine wpAnyH_done (by kernel_rfl) ?_ _
          try simp only [Act.put, List.setIfInBounds_toArray, List.set_cons_zero, List.set_cons_succ]
          have hbz := hb.trans (hbr.mono hb.size)
          go_wp2_with fail
          go_ret
          exact ⟨rfl, hbz⟩
end Go.Proofs.Ytkhmdknimbbgcaa
