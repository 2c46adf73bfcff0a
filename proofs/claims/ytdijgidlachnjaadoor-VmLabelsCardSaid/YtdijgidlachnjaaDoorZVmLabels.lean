/- VmLabels: the walk. Conditions: the numbers fit; the table lies. -/
import Derived.Test.YtdijgidlachnjaaDoorZVmBase08
namespace Go.Proofs.YtdijgidlachnjaaDoor
open Go.RowKit

theorem wp_alR {o : Oper} {a : Act} {w : World} {K : Act → World → Prop} {Q : Exit → Act → World → Prop} (ho : o.op = .alloc 50) (h : K (a.put o.dst (.pointer (some ⟨w.heap.size, 0, none⟩))) (w.alloc (.cells (resA (.slice none 0 0) zS) 50))) : o.wp Tryd.prog a w K Q := by
  have hz : (zeroValue 50).run Tryd.prog w = .ok (.agg (resA (.slice none 0 0) zS)) w := by kernel_rfl
  unfold Oper.wp execOp
  simp only [ho, Instr.alloc, newVar, newRow, run_newObj_alloc, Sem.run_bind, Sem.run_pure, Result.andThen_ok, hz, Value.cells]
  exact h
theorem labs_snd {L M : List (Int × Nat)} (h : L.map Prod.snd = M.map Prod.snd) : labsL L = labsL M := by
  have e : ∀ L : List (Int × Nat), labsB L = (L.map Prod.snd).flatMap fun y => low y 4 := fun L => by simp only [labsB, List.flatMap_map]; rfl
  unfold labsL
  rw [e, e, h]
set_option maxHeartbeats 32000000 in
set_option maxRecDepth 40000 in
theorem VmLabels_walk (A : Option Addr) (K : List Cd) (n c b : Nat) (A2 : Option Addr) (L : List (Int × Nat)) (n2 c2 b2 : Nat) (VA : Option Addr) (V : List Int) (nv vc vb : Nat) (d d2 : Nat) (A6 : Option Addr) (P : List Int) (n6 c6 b6 : Nat) (w : World) (hT : CTab w) (hs : Sl w b A (kv K)) (hn : K.length = n) (_hm : n ≤ maxLen) (hnc : n ≤ c) (hok : okK K)
    (hs2 : Sl w b2 A2 (cv L)) (hn2 : L.length = n2) (_hm2 : n2 ≤ maxLen) (hnc2 : n2 ≤ c2) (hok2 : okC L) (hsV : Is w vb VA V) (hnV : V.length = nv) (_hmV : nv ≤ maxLen) (_hncV : nv ≤ vc) (hokV : ∀ x ∈ V, -2147483648 ≤ x ∧ x ≤ 2147483647) (_hd : d < 18446744073709551616) (_hd2 : d2 < 18446744073709551616)
    (hs3 : Is w b6 A6 P) (hn3 : P.length = n6) (_hm3 : n6 ≤ maxLen) (hnc3 : n6 ≤ c6) (hok3 : ∀ x ∈ P, -2147483648 ≤ x ∧ x ≤ 2147483647) :
    Calls Tryd.prog 10 #[.slice A n c, .slice A2 n2 c2, .slice VA nv vc, .agg #[.int .u64 (d : Int)], .agg #[.int .u64 (d2 : Int)], .slice A6 n6 c6] w fun e w' => e = .returned (.bool true) ∧ Below w.heap.size w w' := by
  have hok := fun x hx => hok x (List.mem_of_mem_take (i := 96) hx)
  have hok2 := fun x hx => hok2 x (List.mem_of_mem_take (i := 48) hx)
  have hFw := fun W h => FewC_calls A2 L n2 c2 b2 W h hn2 hnc2
  have hCd := fun W h => Codes_calls A K n c b W h hn hnc
  have hPl := fun W h => Players_calls A6 P n6 c6 b6 W h hn3 hnc3
  have lQ := playN_len P
  have oQ := playN_fit P hok3
  obtain ⟨Q, hQ⟩ : ∃ Q, Q = playN P := ⟨_, rfl⟩
  simp only [← hQ] at hPl lQ oQ
  obtain ⟨M, hM⟩ : ∃ M, M = L.take 48 := ⟨_, rfl⟩
  obtain ⟨J, hJ⟩ : ∃ J, J = K.take 96 := ⟨_, rfl⟩
  simp only [← hM] at hFw hok2
  simp only [← hJ] at hCd hok
  have lM : M.length ≤ 48 := by rw [hM, List.length_take]; omega
  have lJ : J.length ≤ 96 := by rw [hJ, List.length_take]; omega
  have oM : okC M := hok2
  have oJ : okK J := hok
  have kd := heap_alloc_new w (.cells #[.int .u64 (d : Int)] 27)
  have hb0 := below_alloc1 w (.cells #[.int .u64 (d : Int)] 27)
  have kd : Box (w.alloc (.cells #[.int .u64 (d : Int)] 27)) w.heap.size (.int .u64 (d : Int)) 27 := kd
  obtain ⟨w0, hw0⟩ : ∃ w0, w0 = w.alloc (.cells #[.int .u64 (d : Int)] 27) := ⟨_, rfl⟩
  have z0 : w0.heap.size = w.heap.size + 1 := by rw [hw0]; simp
  have ke := heap_alloc_new w0 (.cells #[.int .u64 (d2 : Int)] 27)
  have hb8 := below_alloc1 w0 (.cells #[.int .u64 (d2 : Int)] 27)
  have ke : Box (w0.alloc (.cells #[.int .u64 (d2 : Int)] 27)) w0.heap.size (.int .u64 (d2 : Int)) 27 := ke
  rw [← hw0] at kd hb0
  have kd := kd.ext hb8
  have hb0 := hb0.trans (hb8.mono (by omega))
  rw [z0] at ke
  have hT0 := hT.ext hb0
  have hs := Sl.ext hs hb0
  have hs2 := Sl.ext hs2 hb0
  have hs3 := Sl.ext hs3 hb0
  have hsV := Sl.ext hsV hb0
  have hwd0 : w.heap.size + 1 < (w0.alloc (.cells #[.int .u64 (d2 : Int)] 27)).heap.size := by simp; omega
  obtain ⟨wd, hwd⟩ : ∃ wd, wd = w0.alloc (.cells #[.int .u64 (d2 : Int)] 27) := ⟨_, rfl⟩
  clear hM hJ hQ hok hok2 hok3 hn hn2 hn3 hnc hnc2 hnc3 hT z0 hb8
  go_enter Tryd.func10, Tryd.ntmps10
  go_wp2_with fail
  rw [← hw0, ← hwd]
  rw [← hwd] at kd ke hb0 hT0 hs hs2 hs3 hsV hwd0 
  have KD := Lib.hid kd
  have KE := Lib.hid ke
  have HTT := Lib.hid hT0
  have HBD := Lib.hid hb0
  have HV := Lib.hid hsV
  clear hwd hw0 hsV kd ke 
  refine (Awake_calls _ hT0).mono ?_
  rintro e w1 ⟨rfl, h1⟩
  have hT1 := hT0.ext h1
  have hs := Sl.ext hs h1
  have hs2 := Sl.ext hs2 h1
  have hs3 := Sl.ext hs3 h1
  have hb1 := h1
  clear hT0 hb0 h1
  go_wp2_with fail
  refine (hFw w1 hs2).mono ?_
  rintro e w2 ⟨v, rfl, hv, h2⟩
  have hT2 := hT1.ext h2
  have hs := Sl.ext hs h2
  have hb2 := hb1.trans (h2.mono hb1.size)
  have hrc := hv
  obtain ⟨A3, c3, b3, rfl, hc3, hm3, -, hB3, hsl3, hbk3⟩ := hv.sl
  have hw2 := hb1.size
  have hlt3 : 0 < M.length → b3 < w2.heap.size := fun h => Sl.lt hsl3 (by intro h0; have h5 := congrArg List.length h0; simp at h5; omega)
  have hs3 := Sl.ext hs3 h2
  clear hFw hs2 hT1 hb1 h2 hv hsl3
  go_wp2_with fail
  refine (hPl w2 hs3).mono ?_
  rintro e w2 ⟨v, rfl, hv, h2⟩
  have hT2 := hT2.ext h2
  have hs := Sl.ext hs h2
  have hq2 := h2.size
  have hrc := hrc.ext h2
  have hb2 := hb2.trans (h2.mono hb2.size)
  obtain ⟨A7, c7, b7, rfl, hc7, hB7, hsl7⟩ := own_sl hv
  obtain ⟨bq, hb7q, hbq, hsl7⟩ : ∃ bq, b7 ≤ bq ∧ bq < w2.heap.size ∧ Is w2 bq A7 Q := ⟨b7, Nat.le_refl _, Sl.lt hsl7 (by intro h; have h5 := congrArg List.length h; rw [iv_length, List.length_nil] at h5; omega), hsl7⟩
  clear hPl hs3 h2 hv
  go_wp2_with fail
  refine (hCd w2 hs).mono ?_
  rintro e w3 ⟨v, u, rfl, hv, hu, h3⟩
  have hT3 := hT2.ext h3
  have hb3 := hb2.trans (h3.mono hb2.size)
  have hrc := hrc.ext h3
  have hsl7 := Sl.ext hsl7 h3
  have hbq : bq < w3.heap.size := Nat.lt_of_lt_of_le hbq h3.size
  obtain ⟨A4, c4, b4, rfl, hc4, hm4, -, hB4, hsl4, -⟩ := hv.sl
  obtain ⟨A5, c5, b5, rfl, hc5, hm5, -, hB5, hsl5, -⟩ := hu.sl
  have hq3 := h3.size
  obtain ⟨bc, hbc, hbc2, hsl4⟩ : ∃ bc, bc < w3.heap.size ∧ (bc = w.heap.size ∨ w2.heap.size ≤ bc) ∧ Sl w3 bc A4 (kv J) := by
    by_cases hJe : J = []
    · exact ⟨w.heap.size, by have := hb3.size; omega, .inl rfl, by rw [hJe]; exact Sl.nil_ _ _ _⟩
    · exact ⟨b4, Sl.lt hsl4 (by intro h; have h5 := congrArg List.length h; rw [kv_length] at h5; exact hJe (List.eq_nil_of_length_eq_zero (by simp at h5; omega))), .inr hB4, hsl4⟩
  obtain ⟨mJ, hmJ⟩ : ∃ mJ, mJ = J.length := ⟨_, rfl⟩
  obtain ⟨mM, hmM⟩ : ∃ mM, mM = M.length := ⟨_, rfl⟩
  obtain ⟨mQ, hmQ⟩ : ∃ mQ, mQ = Q.length := ⟨_, rfl⟩
  rw [← hmM] at hrc hbk3 hlt3
  rw [← hmJ, ← hmM, ← hmQ]
  have HmJ := Lib.hid hmJ
  have HmM := Lib.hid hmM
  have HmQ := Lib.hid hmQ
  have hQ1 : 1 ≤ mQ ∧ mQ ≤ 6 := by rw [HmQ.out]; exact lQ
  have HnV := Lib.hid hnV
  clear hCd hs hT2 hb2 h3 hv hu hmJ hmM hmQ lQ hnV 
  have hA := fun W => All_calls 8 W
  obtain ⟨al, hal⟩ : ∃ al, al = allN 8 := ⟨_, rfl⟩
  have all32 : al < 4294967296 := by rw [hal]; decide
  have al0 : al ≠ 0 := by rw [hal]; decide
  rw [← hal] at hA
  clear hal
  go_wp2_with fail
  refine (hA _).mono ?_
  rintro e w9 ⟨rfl, hw9⟩
  have hw9 := hw9.symm
  subst hw9
  clear hA
  go_wp2_with fail
  obtain ⟨A3', c3', b3', hv3, hc3', -, -, -, hslM, -⟩ := hrc.sl
  rw [← HmM.out] at hv3 hc3'
  injection hv3 with h31 h32 h33
  subst h31 h33
  have hltM : 0 < M.length → b3' < w3.heap.size := fun h => Sl.lt hslM (by intro h0; have h5 := congrArg List.length h0; simp at h5; omega)
  clear hrc h32 hbk3 hlt3
  have hF2 := fun W h => FewC_calls A3 M mM c3 b3' W h HmM.out.symm hc3'
  rw [List.take_of_length_le lM] at hF2
  have hsv := Sl.ext HV.out hb3
  have hltV : 0 < V.length → vb < w3.heap.size := fun h => Sl.lt hsv (by intro h0; have h5 := congrArg List.length h0; rw [iv_length, List.length_nil] at h5; omega)
  refine (hF2 w3 hslM).mono ?_
  rintro e w4 ⟨v, rfl, hv, h4⟩
  have hslM := Sl.ext hslM h4
  have hsl4 := Sl.ext hsl4 h4
  have hsl7 := Sl.ext hsl7 h4
  have hsv := Sl.ext hsv h4
  have hb4 := hb3.trans (h4.mono hb3.size)
  have hz4 := h4.size
  obtain ⟨A9, c9, b9, rfl, hc9, hm9, -, hB9, -, hbk9⟩ := hv.sl
  rw [← HmM.out] at hv hbk9 ⊢
  have hrm : RowC 38 w4 w3.heap.size (.slice A9 mM c9) (ag (fun m => decide (lessN al m = 0)) V M 0) := by rw [ag_zero]; exact hv
  have KB9 := Lib.hid hbk9
  have hbz3 := hb3.size
  clear hF2 hv h4 hbk9 hb3 hT3 hc9 hm9 hB9
  go_wp2_with fail
  go_loopw [15, 40] (fun _ i wr => ∃ k : Nat, k ≤ mM ∧ i = .int .i64 k ∧ RowC 38 wr w3.heap.size (.slice A9 mM c9) (ag (fun m => decide (lessN al m = 0)) V M k) ∧ Sl wr b3' A3 (cv M) ∧ Sl wr bc A4 (kv J) ∧ Is wr bq A7 Q ∧ Is wr vb VA V ∧ Below wd.heap.size wd wr ∧ w4.heap.size ≤ wr.heap.size) (fun _ i _ => mM - (intOf i).toNat)
  case atStart => exact ⟨0, Nat.zero_le _, rfl, hrm, hslM, hsl4, hsl7, hsv, hb4, Nat.le_refl _⟩
  case round =>
    clear hrm hslM hsl4 hsl7 hsv hb4
    obtain ⟨k, hk, rfl, hrm, hslM, hsl4, hsl7, hsv, hb, hz⟩ := hrel
    by_cases hlt : k < mM
    · have hkM : k < M.length := by rw [← HmM.out]; exact hlt
      have hka : k < (ag (fun m => decide (lessN al m = 0)) V M k).length := by rw [ag_length]; exact hkM
      obtain ⟨g, cap, hv, hg, hgl, hcap, k0, k1, kf, kset, -⟩ := hrm.set_ hka
      have hv0 := KB9.out
      injection hv with hvA hvn hvc
      rw [hvA] at hv0
      obtain rfl : g = b9 := hv0 g rfl
      clear hv0 hvn hvc
      rw [ag_at hkM (Nat.le_refl k)] at k0 k1 kset
      have hy := (okC_get oM hkM).2
      have hWi := fun W => MWithin_calls al M[k].2 W all32 hy
      have HSAME := Lib.hid (ag_same (q := fun m => decide (lessN al m = 0)) (vals := V) hkM)
      have HSET := Lib.hid (ag_set (q := fun m => decide (lessN al m = 0)) (vals := V) hkM)
      have HAT := Lib.hid (show agAt (fun m => decide (lessN al m = 0)) V M[k] k = if k < V.length ∧ decide (lessN al M[k].2 = 0) = false then (V.getD k 0, M[k].2) else M[k] from rfl)
      obtain ⟨so, hso⟩ : ∃ so, so = decide (lessN al M[k].2 = 0) := ⟨_, rfl⟩
      rw [← hso] at HSAME HAT hWi
      obtain ⟨X, hX⟩ : ∃ X, X = M[k].1 := ⟨_, rfl⟩
      obtain ⟨Y, hY⟩ : ∃ Y, Y = M[k].2 := ⟨_, rfl⟩
      rw [← hX] at k0
      rw [← hY] at k1 kset hWi HAT
      have HKS := Lib.hid kset
      have kf0 := kf (k * 2)
      have ej : (k : Int) < (mM : Int) := by omega
      have hgw : wd.heap.size ≤ g := by omega
      have hgq : bq ≠ g := by omega
      have hgc : bc ≠ g := by omega
      have hgM : b3' ≠ g := by have := hltM (by omega); omega
      clear hX hY hka kset kf hy hso
      subst hvA
      by_cases hkv : k < V.length
      · have hkn : k < nv := by rw [← HnV.out]; exact hkv
        have ev : decide ((k : Int) < (nv : Int)) = true := by simp; omega
        have hgV : vb ≠ g := by have := hltV (by omega); omega
        obtain ⟨voff, rfl, hvc⟩ := hsv (by intro h0; have h5 := congrArg List.length h0; rw [iv_length, List.length_nil] at h5; omega)
        have hvk := hvc k _ (iv_get V k hkv)
        obtain ⟨x, hx⟩ : ∃ x, x = V[k] := ⟨_, rfl⟩
        rw [← hx] at hvk
        have HX := Lib.hid hx
        clear hvc hx
        cases so with
        | true =>
          go_wp2_with fail
          refine (hWi _).mono ?_
          rintro e wx ⟨rfl, hwx⟩
          have hwx := hwx.symm
          subst hwx
          go_wp2_with fail
          go_roundw
          case rel => exact ⟨k + 1, by omega, by go_num, by rw [← HSAME.out (by simp)]; exact hrm, hslM, hsl4, hsl7, hsv, hb, hz⟩
          case measure => simp [intOf]; omega
        | false =>
          go_wp2_with fail
          refine (hWi _).mono ?_
          rintro e wx ⟨rfl, hwx⟩
          have hwx := hwx.symm
          subst hwx
          go_wp2_with fail
          have hr2 := HKS.out x _ rfl
          have e9 : agAt (fun m => decide (lessN al m = 0)) V M[k] k = (x, Y) := by rw [HAT.out, if_pos ⟨hkv, by trivial⟩, HX.out]; simp [List.getD, hkv]
          rw [← e9, HSET.out] at hr2
          go_roundw
          case rel => exact ⟨k + 1, by omega, by go_num, hr2, Sl.setCell hslM hgM _, Sl.setCell hsl4 hgc _, Sl.setCell hsl7 hgq _, Sl.setCell hsv hgV _, hb.setCell hgw _, by simp; omega⟩
          case measure => simp [intOf]; omega
      · have hkn : ¬ k < nv := by rw [← HnV.out]; exact hkv
        have ev : decide ((k : Int) < (nv : Int)) = false := by simp; omega
        go_wp2_with fail
        go_roundw
        case rel => exact ⟨k + 1, by omega, by go_num, by rw [← HSAME.out (fun h => hkv h.1)]; exact hrm, hslM, hsl4, hsl7, hsv, hb, hz⟩
        case measure => simp [intOf]; omega
    · obtain rfl : mM = k := by omega
      obtain ⟨C, hC⟩ : ∃ C, C = ag (fun m => decide (lessN al m = 0)) V M mM := ⟨_, rfl⟩
      have lC : C.length = mM := by rw [hC, ag_length]; exact HmM.out.symm
      have oC : okC C := by rw [hC]; exact ag_ok _ oM hokV
      rw [← hC] at hrm
      obtain ⟨A9', c9', b9', hv9, hc9', -, -, -, hslC, -⟩ := hrm.sl
      rw [lC] at hv9 hc9'
      injection hv9 with h91 h92 h93
      subst h91 h93
      obtain ⟨wl, hwl⟩ : ∃ wl, wl = wr := ⟨_, rfl⟩
      rw [← hwl] at hslM hslC hsl4 hsl7 hb hz ⊢
      have HC := Lib.hid (show C = ag (fun m => decide (lessN al m = 0)) V M M.length by rw [hC, ← HmM.out])
      have LC := Lib.hid lC
      clear hwl hC hrm h92 hsv KB9 hltM hltV lC hlt
      have hlz := hb.size
      go_wp2_with fail
      go_loopw [17, 68] (fun _ i wr => ∃ k : Nat, k ≤ mJ ∧ i = .int .i64 k ∧ (∀ j (h : j < J.length), j < k → J[j].op ≠ 22) ∧ Below wl.heap.size wl wr) (fun _ i _ => mJ - (intOf i).toNat)
      case atStart => exact ⟨0, Nat.zero_le _, rfl, fun j _ h => by omega, Below.refl _ _⟩
      case round =>
        obtain ⟨k, hk, rfl, hno, hbk⟩ := hrel
        by_cases hlt : k < mJ
        · have hkJ : k < J.length := by rw [← HmJ.out]; exact hlt
          obtain ⟨off, rfl, h0, h1, h2, h3, h4, h5⟩ := sl_code (Sl.ext hsl4 hbk) hkJ
          have HNO := Lib.hid hno
          obtain ⟨q, hq⟩ : ∃ q, q = J[k] := ⟨_, rfl⟩
          rw [← hq] at h0 h1 h2 h3 h4 h5
          have HQ := Lib.hid hq
          clear hq hno
          obtain ⟨op, a, b', cc, nn, m⟩ := q
          simp only at h0 h1 h2 h3 h4 h5
          have ej : (k : Int) < (mJ : Int) := by omega
          have hb3 := hbk.alloc hbk.size (.cells #[.int .u8 (op : Int), .int .u8 (a : Int), .int .u8 (b' : Int), .int .u8 (cc : Int), .int .i32 nn, .int .u32 (m : Int)] 60)
          by_cases q22 : op = 22
          · have e22 : ((op : Int) == 22) = true := by simp; omega
            go_wp2_with fail
            go_ret
            exact ⟨rfl, HBD.out.trans ((hb.trans ((by rw [q22] at hb3; exact hb3 : Below wl.heap.size wl _).mono hlz)).mono HBD.out.size)⟩
          · have e22 : ((op : Int) == 22) = false := by simp; omega
            go_wp2_with fail
            go_roundw
            case rel => exact ⟨k + 1, by omega, by go_num, fun j hj hjk => (by
              by_cases e : j = k
              · subst e; rw [← HQ.out]; exact q22
              · exact HNO.out j hj (by omega)), hb3⟩
            case measure => simp [intOf]; omega
        · obtain rfl : mJ = k := by omega
          have hrev : ∀ x ∈ J, x.op ≠ 22 := fun x hx => by
            obtain ⟨j, hj, rfl⟩ := List.getElem_of_mem hx
            exact hno j hj (by rw [HmJ.out]; exact hj)
          have hslM := Sl.ext hslM hbk
          have hslC := Sl.ext hslC hbk
          have hsl4 := Sl.ext hsl4 hbk
          have hsl7 := Sl.ext hsl7 hbk
          have hb := hb.trans (hbk.mono hlz)
          have hlz := Nat.le_trans hz hbk.size
          obtain ⟨wk, hwk⟩ : ∃ wk, wk = wr := ⟨_, rfl⟩
          rw [← hwk] at hslM hslC hsl4 hsl7 hb hlz ⊢
          clear hwk hno hbk hz hlt
          go_wp2_with fail
          refine (New_in A3 M mM c3 b3' wk hslM HmM.out.symm (by rw [HmM.out]; exact lM)).mono ?_
          rintro e w7 ⟨rfl, h7⟩
          have hslC := Sl.ext hslC h7
          have hsl4 := Sl.ext hsl4 h7
          have hsl7 := Sl.ext hsl7 h7
          have hb := hb.trans (h7.mono hb.size)
          have hlz := Nat.le_trans hlz h7.size
          have l7 := BoxL.new_ w7 M
          have h8 := below_alloc1 w7 (.cells (bdL M) 44)
          have hslC := Sl.ext hslC h8
          have hsl4 := Sl.ext hsl4 h8
          have hsl7 := Sl.ext hsl7 h8
          have hb := hb.trans (h8.mono hb.size)
          have hlz := Nat.le_trans hlz h8.size
          obtain ⟨G, hG⟩ : ∃ G, G = w7.heap.size := ⟨_, rfl⟩
          rw [← hG] at l7
          have HG := Lib.hid hG.symm
          clear hslM h7 h8 hG
          go_wp2_with (first | ((with_reducible refine at_al 44 18 ?_); refine wpList_al rfl rfl (some 18) rfl G HG.out ?_) | ((with_reducible refine at_st 44 18 79 ?_); refine wpList_put rfl (.tmp 18) (.tmp 79) rfl HG.out M rfl rfl ?_))
          refine (New_in A9 C mM c9 b9' _ hslC LC.out (by rw [HmM.out]; exact lM)).mono ?_
          rintro e w8 ⟨rfl, h8⟩
          have l7 := l7.ext h8
          have hsl4 := Sl.ext hsl4 h8
          have hsl7 := Sl.ext hsl7 h8
          have hb := hb.trans (h8.mono hb.size)
          have hlz := Nat.le_trans hlz h8.size
          have l8 := BoxL.new_ w8 C
          have h9 := below_alloc1 w8 (.cells (bdL C) 44)
          have l7 := l7.ext h9
          have hsl4 := Sl.ext hsl4 h9
          have hsl7 := Sl.ext hsl7 h9
          have hb := hb.trans (h9.mono hb.size)
          have hlz := Nat.le_trans hlz h9.size
          obtain ⟨G2, hG2⟩ : ∃ G2, G2 = w8.heap.size := ⟨_, rfl⟩
          rw [← hG2] at l8
          have HG2 := Lib.hid hG2.symm
          clear hslC h8 h9 hG2
          go_upto_region 21 with (first | ((with_reducible refine at_al 44 20 ?_); refine wpList_al rfl rfl (some 20) rfl G2 HG2.out ?_) | ((with_reducible refine at_st 44 20 84 ?_); refine wpList_put rfl (.tmp 20) (.tmp 84) rfl HG2.out C rfl rfl ?_))
          obtain ⟨wx, hwx⟩ : ∃ wx, wx = w8.alloc (.cells (bdL C) 44) := ⟨_, rfl⟩
          rw [← hwx] at l7 l8 hsl4 hsl7 hb hlz ⊢
          obtain ⟨F, hF⟩ : ∃ F, F = wholeV compN ⟨J, Q, 2, al⟩ M d := ⟨_, rfl⟩
          obtain ⟨F2, hF2⟩ : ∃ F2, F2 = wholeV compN ⟨J, Q, 2, al⟩ C d2 := ⟨_, rfl⟩
          have hlw := labels_whole (J := J) (Q := Q) (M := M) (vals := V) (tk := 2) (al := al) d d2 all32 al0 oJ oM oQ hrev hF (G := F2) (by rw [hF2, HC.out])
          have hwl := whole_len (P := ⟨J, Q, 2, al⟩) (L := M) (d := d) all32 oQ oJ oM
          have hwl2 := whole_len (P := ⟨J, Q, 2, al⟩) (L := C) (d := d2) all32 oQ oJ oC
          rw [← hF] at hwl
          rw [← hF2] at hwl2
          have hszb : bc < wx.heap.size ∧ bq < wx.heap.size := by omega
          have hR : ∀ (L : List (Int × Nat)) (dd : Nat), L.length ≤ 48 → okC L → ∀ W, Below wx.heap.size wx W → Calls Tryd.prog 21 #[.slice A4 mJ c4, .agg (bdL L), .agg #[.int .u64 (dd : Int)], .slice A7 mQ c7, .int .u32 2, .int .u32 (al : Int)] W fun e w' => ∃ sh, e = .returned (.agg (resA sh (wholeV compN ⟨J, Q, 2, al⟩ L dd))) ∧ sh.oneCell' = true ∧ Below W.heap.size W w' := by
            intro L dd hL oL W hW
            have hT := HTT.out.ext (hb.trans (hW.mono hb.size))
            have hR := Run_calls compN comp_ok comp_fit ⟨J, Q, 2, al⟩ A4 c4 bc A7 c7 bq L dd W ⟨Sl.ext hsl4 hW, Sl.ext hsl7 hW, oJ, by simp only [maxLen]; show J.length ≤ _; omega, by show Q.length ≤ 100; rw [← HmQ.out]; omega, oQ, hL, oL, all32, hT, by have := hW.size; omega, by have := hW.size; omega⟩
            have hR : Calls Tryd.prog 21 #[.slice A4 mJ c4, .agg (bdL L), .agg #[.int .u64 (dd : Int)], .slice A7 mQ c7, .int .u32 2, .int .u32 (al : Int)] W fun e w' => ∃ sh, e = .returned (.agg (resA sh (wholeV compN ⟨J, Q, 2, al⟩ L dd))) ∧ RowS w' W.heap.size sh (wholeV compN ⟨J, Q, 2, al⟩ L dd).sh ∧ Below W.heap.size W w' := by rw [HmJ.out, HmQ.out]; exact hR
            exact hR.mono fun e w' ⟨sh, h1, h2, h3⟩ => ⟨sh, h1, rowS_one h2, h3⟩
          have hR1 := hR M d (by rw [← HmM.out]; rw [HmM.out]; exact lM) oM
          have hR2 := hR C d2 (by rw [LC.out, HmM.out]; exact lM) oC
          rw [← hF] at hR1
          rw [← hF2] at hR2
          have KDx := KD.out.ext hb
          have KEx := KE.out.ext hb
          have HLW := Lib.hid hlw
          have HWL := Lib.hid hwl
          have HWL2 := Lib.hid hwl2
          have hbx := hb
          have hbz := hb.size
          clear hb hR hF hF2 hlw hwl hwl2 hwx hrev hszb
          have hb := Below.refl wx.heap.size wx
          go_cut [22, 23] (fun p q w9 => ∃ (K1 K2 : Nat) (sh1 sh2 : Value) (wz : World), wz = w9 ∧ p = .pointer (some ⟨K1, 0, none⟩) ∧ q = .pointer (some ⟨K2, 0, none⟩) ∧ BoxR wz K1 sh1 F ∧ BoxR wz K2 sh2 F2 ∧ Below wx.heap.size wx wz)
          case first =>
            go_wp2_with fail
            refine wp_region_held_drew (S := fun w' => Below wx.heap.size wx w') (by kernel_rfl) ?_ (fun hHeld => ?_)
            · exact below_drew hb
            obtain ⟨wd2, hwd2⟩ : ∃ wd2, wd2 = World.drew wx := ⟨_, rfl⟩
            have h9 : Below wx.heap.size wx wd2 := by rw [hwd2]; exact below_drew (Below.refl _ _)
            rw [← hwd2] at hHeld ⊢
            replace hb := hb.trans (h9.mono hb.size)
            clear h9
            clear hwd2
            refine wpAnyH_take (i := 0) (v := ?vt13) (by simp only [List.getElem?_toArray, List.getElem?_cons_zero]; rfl) (by kernel_rfl) (by kernel_rfl) (by kernel_rfl) (by exact fun _ _ _ h => h) (Or.inl ⟨by kernel_rfl, ?yt13⟩) hHeld ?_
            case yt13 => (intro ww hSw; (try dsimp only at hSw); clear hSw; go_simp; try (with_reducible rfl))
            try simp only [Act.put, List.setIfInBounds_toArray, List.set_cons_zero, List.set_cons_succ]
            refine wpAnyH_take (i := 1) (by simp only [List.getElem?_toArray, List.getElem?_cons_succ, List.getElem?_cons_zero]; rfl) (by kernel_rfl) (by kernel_rfl) (by kernel_rfl) (by exact fun _ _ _ h => h) (by exact yieldsIf_ld (by kernel_rfl) (.tmp 18) rfl G rfl M (fun w h => l7.ext h)) hHeld ?_
            try simp only [Act.put, List.setIfInBounds_toArray, List.set_cons_zero, List.set_cons_succ]
            refine wpAnyH_take (i := 2) (v := ?vt14) (by simp only [List.getElem?_toArray, List.getElem?_cons_succ, List.getElem?_cons_zero]; rfl) (by kernel_rfl) (by kernel_rfl) (by kernel_rfl) (by exact fun _ _ _ h => h) (Or.inl ⟨by kernel_rfl, ?yt14⟩) hHeld ?_
            case yt14 => (intro ww hSw; (try dsimp only at hSw); have d1 := (KDx.ext hSw).cell; have d2 := (KEx.ext hSw).cell; clear hSw; go_simp; try (with_reducible rfl))
            try simp only [Act.put, List.setIfInBounds_toArray, List.set_cons_zero, List.set_cons_succ]
            refine wpAnyH_take (i := 3) (v := ?vt15) (by simp only [List.getElem?_toArray, List.getElem?_cons_succ, List.getElem?_cons_zero]; rfl) (by kernel_rfl) (by kernel_rfl) (by kernel_rfl) (by exact fun _ _ _ h => h) (Or.inl ⟨by kernel_rfl, ?yt15⟩) hHeld ?_
            case yt15 => (intro ww hSw; (try dsimp only at hSw); clear hSw; go_simp; try (with_reducible rfl))
            try simp only [Act.put, List.setIfInBounds_toArray, List.set_cons_zero, List.set_cons_succ]
            refine wpAnyH_take (i := 4) (v := ?vt16) (by simp only [List.getElem?_toArray, List.getElem?_cons_succ, List.getElem?_cons_zero]; rfl) (by kernel_rfl) (by kernel_rfl) (by kernel_rfl) (by exact fun _ _ _ h => h) (Or.inl ⟨by kernel_rfl, ?yt16⟩) hHeld ?_
            case yt16 => (intro ww hSw; (try dsimp only at hSw); clear hSw; go_simp; try (with_reducible rfl))
            try simp only [Act.put, List.setIfInBounds_toArray, List.set_cons_zero, List.set_cons_succ]
            refine wpAnyH_take (i := 6) (v := ?vt17) (by simp only [List.getElem?_toArray, List.getElem?_cons_succ, List.getElem?_cons_zero]; rfl) (by kernel_rfl) (by kernel_rfl) (by kernel_rfl) (by exact fun _ _ _ h => h) (Or.inl ⟨by kernel_rfl, ?yt17⟩) hHeld ?_
            case yt17 => (intro ww hSw; (try dsimp only at hSw); clear hSw; go_simp; try (with_reducible rfl))
            try simp only [Act.put, List.setIfInBounds_toArray, List.set_cons_zero, List.set_cons_succ]
            refine wpAnyH_take (i := 7) (by simp only [List.getElem?_toArray, List.getElem?_cons_succ, List.getElem?_cons_zero]; rfl) (by kernel_rfl) (by kernel_rfl) (by kernel_rfl) (by exact fun _ _ _ h => h) (by exact yieldsIf_ld (by kernel_rfl) (.tmp 20) rfl G2 rfl C (fun w h => l8.ext h)) hHeld ?_
            try simp only [Act.put, List.setIfInBounds_toArray, List.set_cons_zero, List.set_cons_succ]
            refine wpAnyH_take (i := 8) (v := ?vt18) (by simp only [List.getElem?_toArray, List.getElem?_cons_succ, List.getElem?_cons_zero]; rfl) (by kernel_rfl) (by kernel_rfl) (by kernel_rfl) (by exact fun _ _ _ h => h) (Or.inl ⟨by kernel_rfl, ?yt18⟩) hHeld ?_
            case yt18 => (intro ww hSw; (try dsimp only at hSw); have d1 := (KDx.ext hSw).cell; have d2 := (KEx.ext hSw).cell; clear hSw; go_simp; try (with_reducible rfl))
            try simp only [Act.put, List.setIfInBounds_toArray, List.set_cons_zero, List.set_cons_succ]
            refine wpAnyH_take (i := 9) (v := ?vt19) (by simp only [List.getElem?_toArray, List.getElem?_cons_succ, List.getElem?_cons_zero]; rfl) (by kernel_rfl) (by kernel_rfl) (by kernel_rfl) (by exact fun _ _ _ h => h) (Or.inl ⟨by kernel_rfl, ?yt19⟩) hHeld ?_
            case yt19 => (intro ww hSw; (try dsimp only at hSw); clear hSw; go_simp; try (with_reducible rfl))
            try simp only [Act.put, List.setIfInBounds_toArray, List.set_cons_zero, List.set_cons_succ]
            refine wpAnyH_take (i := 10) (v := ?vt110) (by simp only [List.getElem?_toArray, List.getElem?_cons_succ, List.getElem?_cons_zero]; rfl) (by kernel_rfl) (by kernel_rfl) (by kernel_rfl) (by exact fun _ _ _ h => h) (Or.inl ⟨by kernel_rfl, ?yt110⟩) hHeld ?_
            case yt110 => (intro ww hSw; (try dsimp only at hSw); clear hSw; go_simp; try (with_reducible rfl))
            try simp only [Act.put, List.setIfInBounds_toArray, List.set_cons_zero, List.set_cons_succ]
            refine wpAnyH_ready (rs := [5, 12, 13]) (by kernel_rfl) (by simp) ?_
            refine AllReadyH.cons (by simp only [List.getElem?_toArray, List.getElem?_cons_succ, List.getElem?_cons_zero]; rfl) (fun KK hKK => ?_) (AllReadyH.cons (by simp only [List.getElem?_toArray, List.getElem?_cons_succ, List.getElem?_cons_zero]; rfl) (fun KK hKK => ?_) (AllReadyH.cons (by simp only [List.getElem?_toArray, List.getElem?_cons_succ, List.getElem?_cons_zero]; rfl) (fun KK hKK => ?_) AllReadyH.nil))
            · skip
              rw [if_pos (by kernel_rfl)]
              go_simp
              (with_reducible refine (hR1 _ hb).mono ?_)
              rintro e wc12 ⟨sh1, rfl, one1, g11⟩
              replace hb := hb.trans (g11.mono hb.size)
              clear g11
              go_wp2_with fail
              refine hKK.out _ _ ?_ (fun hHeld => ?_)
              · exact hb
              clear hKK KK
              try simp only [Act.put, List.setIfInBounds_toArray, List.set_cons_zero, List.set_cons_succ]
              refine wpAnyH_ready (rs := [11, 12, 13]) (by kernel_rfl) (by simp) ?_
              refine AllReadyH.cons (by simp only [List.getElem?_toArray, List.getElem?_cons_succ, List.getElem?_cons_zero]; rfl) (fun KK hKK => ?_) (AllReadyH.cons (by simp only [List.getElem?_toArray, List.getElem?_cons_succ, List.getElem?_cons_zero]; rfl) (fun KK hKK => ?_) (AllReadyH.cons (by simp only [List.getElem?_toArray, List.getElem?_cons_succ, List.getElem?_cons_zero]; rfl) (fun KK hKK => ?_) AllReadyH.nil))
              · skip
                rw [if_pos (by kernel_rfl)]
                go_simp
                (with_reducible refine (hR2 _ hb).mono ?_)
                rintro e wc14 ⟨sh2, rfl, one2, g13⟩
                replace hb := hb.trans (g13.mono hb.size)
                clear g13
                go_wp2_with fail
                refine hKK.out _ _ ?_ (fun hHeld => ?_)
                · exact hb
                clear hKK KK
                try simp only [Act.put, List.setIfInBounds_toArray, List.set_cons_zero, List.set_cons_succ]
                refine wpAnyH_ready (rs := [12, 13]) (by kernel_rfl) (by simp) ?_
                refine AllReadyH.cons (by simp only [List.getElem?_toArray, List.getElem?_cons_succ, List.getElem?_cons_zero]; rfl) (fun KK hKK => ?_) (AllReadyH.cons (by simp only [List.getElem?_toArray, List.getElem?_cons_succ, List.getElem?_cons_zero]; rfl) (fun KK hKK => ?_) AllReadyH.nil)
                · skip
                  rw [if_pos (by kernel_rfl)]
                  refine wp_alR rfl ?_
                  obtain ⟨wa15, hwa15⟩ : ∃ wa15, wa15 = wc14.alloc (.cells (resA (.slice none 0 0) zS) 50) := ⟨_, rfl⟩
                  have h9 : Below wc14.heap.size wc14 wa15 := by rw [hwa15]; exact below_alloc1 _ _
                  have r1 : BoxR wa15 wc14.heap.size (.slice none 0 0) zS := by rw [hwa15]; exact BoxR.new_ _ _ _
                  have hxk1 : wx.heap.size ≤ wc14.heap.size := hb.size
                  rw [← hwa15]
                  clear hwa15
                  replace hb := hb.trans (h9.mono hb.size)
                  clear h9
                  refine hKK.out _ _ ?_ (fun hHeld => ?_)
                  · exact hb
                  clear hKK KK
                  try simp only [Act.put, List.setIfInBounds_toArray, List.set_cons_zero, List.set_cons_succ]
                  refine wpAnyH_ready (rs := [13]) (by kernel_rfl) (by simp) ?_
                  refine AllReadyH.cons (by simp only [List.getElem?_toArray, List.getElem?_cons_succ, List.getElem?_cons_zero]; rfl) (fun KK hKK => ?_) AllReadyH.nil
                  rw [if_pos (by kernel_rfl)]
                  have hn_k2 := r1.lt
                  refine wp_alR rfl ?_
                  obtain ⟨wa16, hwa16⟩ : ∃ wa16, wa16 = wa15.alloc (.cells (resA (.slice none 0 0) zS) 50) := ⟨_, rfl⟩
                  have h9 : Below wa15.heap.size wa15 wa16 := by rw [hwa16]; exact below_alloc1 _ _
                  have r2 : BoxR wa16 wa15.heap.size (.slice none 0 0) zS := by rw [hwa16]; exact BoxR.new_ _ _ _
                  have hxk2 : wx.heap.size ≤ wa15.heap.size := hb.size
                  rw [← hwa16]
                  clear hwa16
                  replace r1 := r1.ext h9
                  replace hb := hb.trans (h9.mono hb.size)
                  clear h9
                  refine hKK.out _ _ ?_ (fun hHeld => ?_)
                  · exact hb
                  clear hKK KK
                  try simp only [Act.put, List.setIfInBounds_toArray, List.set_cons_zero, List.set_cons_succ]
                  refine wpAnyH_ready (rs := [14]) (by kernel_rfl) (by simp) ?_
                  refine AllReadyH.cons (by simp only [List.getElem?_toArray, List.getElem?_cons_succ, List.getElem?_cons_zero]; rfl) (fun KK hKK => ?_) AllReadyH.nil
                  rw [if_pos (by kernel_rfl)]
                  refine wp_store_row 50 (.tmp 22) (.tmp 91) rfl (wc14.heap.size) (resA sh1 F) rfl rfl _ _ r1 (by rw [resA_size]; kernel_rfl) (by rw [resA_size, resA_size]) (resA_all _ _ one1) ?_
                  obtain ⟨ws17, hws17⟩ : ∃ ws17, ws17 = wa16.setRow (wc14.heap.size) (resA sh1 F) := ⟨_, rfl⟩
                  replace r1 := r1.row_ sh1 F
                  replace r2 := r2.mod (mod_setRow wa16 (wc14.heap.size) (resA sh1 F)) (by show ¬ (wa15.heap.size = wc14.heap.size); omega)
                  replace hb := hb.trans ((mod_setRow wa16 (wc14.heap.size) (resA sh1 F)).below hb.size (fun i hi h => by have h : i = wc14.heap.size := h; omega))
                  rw [← hws17] at hb r1 r2 ⊢
                  clear hws17
                  refine hKK.out _ _ ?_ (fun hHeld => ?_)
                  · exact hb
                  clear hKK KK
                  try simp only [Act.put]
                  refine wpAnyH_ready (rs := [15]) (by kernel_rfl) (by simp) ?_
                  refine AllReadyH.cons (by simp only [List.getElem?_toArray, List.getElem?_cons_succ, List.getElem?_cons_zero]; rfl) (fun KK hKK => ?_) AllReadyH.nil
                  rw [if_pos (by kernel_rfl)]
                  refine wp_store_row 50 (.tmp 23) (.tmp 97) rfl (wa15.heap.size) (resA sh2 F2) rfl rfl _ _ r2 (by rw [resA_size]; kernel_rfl) (by rw [resA_size, resA_size]) (resA_all _ _ one2) ?_
                  obtain ⟨ws18, hws18⟩ : ∃ ws18, ws18 = ws17.setRow (wa15.heap.size) (resA sh2 F2) := ⟨_, rfl⟩
                  replace r2 := r2.row_ sh2 F2
                  replace r1 := r1.mod (mod_setRow ws17 (wa15.heap.size) (resA sh2 F2)) (by show ¬ (wc14.heap.size = wa15.heap.size); omega)
                  replace hb := hb.trans ((mod_setRow ws17 (wa15.heap.size) (resA sh2 F2)).below hb.size (fun i hi h => by have h : i = wa15.heap.size := h; omega))
                  rw [← hws18] at hb r2 r1 ⊢
                  clear hws18
                  refine hKK.out _ _ ?_ (fun hHeld => ?_)
                  · exact hb
                  clear hKK KK
                  try simp only [Act.put]
                  refine wpAnyH_done (by kernel_rfl) ?_ _
                  go_wp2_with fail
                  go_meet
                  exact ⟨_, _, _, _, _, rfl, rfl, rfl, r1, r2, hb⟩
                · skip
                  rw [if_pos (by kernel_rfl)]
                  refine wp_alR rfl ?_
                  obtain ⟨wa19, hwa19⟩ : ∃ wa19, wa19 = wc14.alloc (.cells (resA (.slice none 0 0) zS) 50) := ⟨_, rfl⟩
                  have h9 : Below wc14.heap.size wc14 wa19 := by rw [hwa19]; exact below_alloc1 _ _
                  have r2 : BoxR wa19 wc14.heap.size (.slice none 0 0) zS := by rw [hwa19]; exact BoxR.new_ _ _ _
                  have hxk2 : wx.heap.size ≤ wc14.heap.size := hb.size
                  rw [← hwa19]
                  clear hwa19
                  replace hb := hb.trans (h9.mono hb.size)
                  clear h9
                  refine hKK.out _ _ ?_ (fun hHeld => ?_)
                  · exact hb
                  clear hKK KK
                  try simp only [Act.put, List.setIfInBounds_toArray, List.set_cons_zero, List.set_cons_succ]
                  refine wpAnyH_ready (rs := [12]) (by kernel_rfl) (by simp) ?_
                  refine AllReadyH.cons (by simp only [List.getElem?_toArray, List.getElem?_cons_succ, List.getElem?_cons_zero]; rfl) (fun KK hKK => ?_) AllReadyH.nil
                  rw [if_pos (by kernel_rfl)]
                  have hn_k1 := r2.lt
                  refine wp_alR rfl ?_
                  obtain ⟨wa20, hwa20⟩ : ∃ wa20, wa20 = wa19.alloc (.cells (resA (.slice none 0 0) zS) 50) := ⟨_, rfl⟩
                  have h9 : Below wa19.heap.size wa19 wa20 := by rw [hwa20]; exact below_alloc1 _ _
                  have r1 : BoxR wa20 wa19.heap.size (.slice none 0 0) zS := by rw [hwa20]; exact BoxR.new_ _ _ _
                  have hxk1 : wx.heap.size ≤ wa19.heap.size := hb.size
                  rw [← hwa20]
                  clear hwa20
                  replace r2 := r2.ext h9
                  replace hb := hb.trans (h9.mono hb.size)
                  clear h9
                  refine hKK.out _ _ ?_ (fun hHeld => ?_)
                  · exact hb
                  clear hKK KK
                  try simp only [Act.put, List.setIfInBounds_toArray, List.set_cons_zero, List.set_cons_succ]
                  refine wpAnyH_ready (rs := [14]) (by kernel_rfl) (by simp) ?_
                  refine AllReadyH.cons (by simp only [List.getElem?_toArray, List.getElem?_cons_succ, List.getElem?_cons_zero]; rfl) (fun KK hKK => ?_) AllReadyH.nil
                  rw [if_pos (by kernel_rfl)]
                  refine wp_store_row 50 (.tmp 22) (.tmp 91) rfl (wa19.heap.size) (resA sh1 F) rfl rfl _ _ r1 (by rw [resA_size]; kernel_rfl) (by rw [resA_size, resA_size]) (resA_all _ _ one1) ?_
                  obtain ⟨ws21, hws21⟩ : ∃ ws21, ws21 = wa20.setRow (wa19.heap.size) (resA sh1 F) := ⟨_, rfl⟩
                  replace r1 := r1.row_ sh1 F
                  replace r2 := r2.mod (mod_setRow wa20 (wa19.heap.size) (resA sh1 F)) (by show ¬ (wc14.heap.size = wa19.heap.size); omega)
                  replace hb := hb.trans ((mod_setRow wa20 (wa19.heap.size) (resA sh1 F)).below hb.size (fun i hi h => by have h : i = wa19.heap.size := h; omega))
                  rw [← hws21] at hb r1 r2 ⊢
                  clear hws21
                  refine hKK.out _ _ ?_ (fun hHeld => ?_)
                  · exact hb
                  clear hKK KK
                  try simp only [Act.put]
                  refine wpAnyH_ready (rs := [15]) (by kernel_rfl) (by simp) ?_
                  refine AllReadyH.cons (by simp only [List.getElem?_toArray, List.getElem?_cons_succ, List.getElem?_cons_zero]; rfl) (fun KK hKK => ?_) AllReadyH.nil
                  rw [if_pos (by kernel_rfl)]
                  refine wp_store_row 50 (.tmp 23) (.tmp 97) rfl (wc14.heap.size) (resA sh2 F2) rfl rfl _ _ r2 (by rw [resA_size]; kernel_rfl) (by rw [resA_size, resA_size]) (resA_all _ _ one2) ?_
                  obtain ⟨ws22, hws22⟩ : ∃ ws22, ws22 = ws21.setRow (wc14.heap.size) (resA sh2 F2) := ⟨_, rfl⟩
                  replace r2 := r2.row_ sh2 F2
                  replace r1 := r1.mod (mod_setRow ws21 (wc14.heap.size) (resA sh2 F2)) (by show ¬ (wa19.heap.size = wc14.heap.size); omega)
                  replace hb := hb.trans ((mod_setRow ws21 (wc14.heap.size) (resA sh2 F2)).below hb.size (fun i hi h => by have h : i = wc14.heap.size := h; omega))
                  rw [← hws22] at hb r2 r1 ⊢
                  clear hws22
                  refine hKK.out _ _ ?_ (fun hHeld => ?_)
                  · exact hb
                  clear hKK KK
                  try simp only [Act.put]
                  refine wpAnyH_done (by kernel_rfl) ?_ _
                  go_wp2_with fail
                  go_meet
                  exact ⟨_, _, _, _, _, rfl, rfl, rfl, r1, r2, hb⟩
              · skip
                rw [if_pos (by kernel_rfl)]
                refine wp_alR rfl ?_
                obtain ⟨wa23, hwa23⟩ : ∃ wa23, wa23 = wc12.alloc (.cells (resA (.slice none 0 0) zS) 50) := ⟨_, rfl⟩
                have h9 : Below wc12.heap.size wc12 wa23 := by rw [hwa23]; exact below_alloc1 _ _
                have r1 : BoxR wa23 wc12.heap.size (.slice none 0 0) zS := by rw [hwa23]; exact BoxR.new_ _ _ _
                have hxk1 : wx.heap.size ≤ wc12.heap.size := hb.size
                rw [← hwa23]
                clear hwa23
                replace hb := hb.trans (h9.mono hb.size)
                clear h9
                refine hKK.out _ _ ?_ (fun hHeld => ?_)
                · exact hb
                clear hKK KK
                try simp only [Act.put, List.setIfInBounds_toArray, List.set_cons_zero, List.set_cons_succ]
                refine wpAnyH_ready (rs := [11, 13]) (by kernel_rfl) (by simp) ?_
                refine AllReadyH.cons (by simp only [List.getElem?_toArray, List.getElem?_cons_succ, List.getElem?_cons_zero]; rfl) (fun KK hKK => ?_) (AllReadyH.cons (by simp only [List.getElem?_toArray, List.getElem?_cons_succ, List.getElem?_cons_zero]; rfl) (fun KK hKK => ?_) AllReadyH.nil)
                · skip
                  rw [if_pos (by kernel_rfl)]
                  go_simp
                  (with_reducible refine (hR2 _ hb).mono ?_)
                  rintro e wc25 ⟨sh2, rfl, one2, g24⟩
                  replace r1 := r1.ext g24
                  replace hb := hb.trans (g24.mono hb.size)
                  clear g24
                  go_wp2_with fail
                  refine hKK.out _ _ ?_ (fun hHeld => ?_)
                  · exact hb
                  clear hKK KK
                  try simp only [Act.put, List.setIfInBounds_toArray, List.set_cons_zero, List.set_cons_succ]
                  refine wpAnyH_ready (rs := [13]) (by kernel_rfl) (by simp) ?_
                  refine AllReadyH.cons (by simp only [List.getElem?_toArray, List.getElem?_cons_succ, List.getElem?_cons_zero]; rfl) (fun KK hKK => ?_) AllReadyH.nil
                  rw [if_pos (by kernel_rfl)]
                  have hn_k2 := r1.lt
                  refine wp_alR rfl ?_
                  obtain ⟨wa26, hwa26⟩ : ∃ wa26, wa26 = wc25.alloc (.cells (resA (.slice none 0 0) zS) 50) := ⟨_, rfl⟩
                  have h9 : Below wc25.heap.size wc25 wa26 := by rw [hwa26]; exact below_alloc1 _ _
                  have r2 : BoxR wa26 wc25.heap.size (.slice none 0 0) zS := by rw [hwa26]; exact BoxR.new_ _ _ _
                  have hxk2 : wx.heap.size ≤ wc25.heap.size := hb.size
                  rw [← hwa26]
                  clear hwa26
                  replace r1 := r1.ext h9
                  replace hb := hb.trans (h9.mono hb.size)
                  clear h9
                  refine hKK.out _ _ ?_ (fun hHeld => ?_)
                  · exact hb
                  clear hKK KK
                  try simp only [Act.put, List.setIfInBounds_toArray, List.set_cons_zero, List.set_cons_succ]
                  refine wpAnyH_ready (rs := [14]) (by kernel_rfl) (by simp) ?_
                  refine AllReadyH.cons (by simp only [List.getElem?_toArray, List.getElem?_cons_succ, List.getElem?_cons_zero]; rfl) (fun KK hKK => ?_) AllReadyH.nil
                  rw [if_pos (by kernel_rfl)]
                  refine wp_store_row 50 (.tmp 22) (.tmp 91) rfl (wc12.heap.size) (resA sh1 F) rfl rfl _ _ r1 (by rw [resA_size]; kernel_rfl) (by rw [resA_size, resA_size]) (resA_all _ _ one1) ?_
                  obtain ⟨ws27, hws27⟩ : ∃ ws27, ws27 = wa26.setRow (wc12.heap.size) (resA sh1 F) := ⟨_, rfl⟩
                  replace r1 := r1.row_ sh1 F
                  replace r2 := r2.mod (mod_setRow wa26 (wc12.heap.size) (resA sh1 F)) (by show ¬ (wc25.heap.size = wc12.heap.size); omega)
                  replace hb := hb.trans ((mod_setRow wa26 (wc12.heap.size) (resA sh1 F)).below hb.size (fun i hi h => by have h : i = wc12.heap.size := h; omega))
                  rw [← hws27] at hb r1 r2 ⊢
                  clear hws27
                  refine hKK.out _ _ ?_ (fun hHeld => ?_)
                  · exact hb
                  clear hKK KK
                  try simp only [Act.put]
                  refine wpAnyH_ready (rs := [15]) (by kernel_rfl) (by simp) ?_
                  refine AllReadyH.cons (by simp only [List.getElem?_toArray, List.getElem?_cons_succ, List.getElem?_cons_zero]; rfl) (fun KK hKK => ?_) AllReadyH.nil
                  rw [if_pos (by kernel_rfl)]
                  refine wp_store_row 50 (.tmp 23) (.tmp 97) rfl (wc25.heap.size) (resA sh2 F2) rfl rfl _ _ r2 (by rw [resA_size]; kernel_rfl) (by rw [resA_size, resA_size]) (resA_all _ _ one2) ?_
                  obtain ⟨ws28, hws28⟩ : ∃ ws28, ws28 = ws27.setRow (wc25.heap.size) (resA sh2 F2) := ⟨_, rfl⟩
                  replace r2 := r2.row_ sh2 F2
                  replace r1 := r1.mod (mod_setRow ws27 (wc25.heap.size) (resA sh2 F2)) (by show ¬ (wc12.heap.size = wc25.heap.size); omega)
                  replace hb := hb.trans ((mod_setRow ws27 (wc25.heap.size) (resA sh2 F2)).below hb.size (fun i hi h => by have h : i = wc25.heap.size := h; omega))
                  rw [← hws28] at hb r2 r1 ⊢
                  clear hws28
                  refine hKK.out _ _ ?_ (fun hHeld => ?_)
                  · exact hb
                  clear hKK KK
                  try simp only [Act.put]
                  refine wpAnyH_done (by kernel_rfl) ?_ _
                  go_wp2_with fail
                  go_meet
                  exact ⟨_, _, _, _, _, rfl, rfl, rfl, r1, r2, hb⟩
                · skip
                  rw [if_pos (by kernel_rfl)]
                  have hn_k2 := r1.lt
                  refine wp_alR rfl ?_
                  obtain ⟨wa29, hwa29⟩ : ∃ wa29, wa29 = wa23.alloc (.cells (resA (.slice none 0 0) zS) 50) := ⟨_, rfl⟩
                  have h9 : Below wa23.heap.size wa23 wa29 := by rw [hwa29]; exact below_alloc1 _ _
                  have r2 : BoxR wa29 wa23.heap.size (.slice none 0 0) zS := by rw [hwa29]; exact BoxR.new_ _ _ _
                  have hxk2 : wx.heap.size ≤ wa23.heap.size := hb.size
                  rw [← hwa29]
                  clear hwa29
                  replace r1 := r1.ext h9
                  replace hb := hb.trans (h9.mono hb.size)
                  clear h9
                  refine hKK.out _ _ ?_ (fun hHeld => ?_)
                  · exact hb
                  clear hKK KK
                  try simp only [Act.put, List.setIfInBounds_toArray, List.set_cons_zero, List.set_cons_succ]
                  refine wpAnyH_ready (rs := [11]) (by kernel_rfl) (by simp) ?_
                  refine AllReadyH.cons (by simp only [List.getElem?_toArray, List.getElem?_cons_succ, List.getElem?_cons_zero]; rfl) (fun KK hKK => ?_) AllReadyH.nil
                  rw [if_pos (by kernel_rfl)]
                  go_simp
                  (with_reducible refine (hR2 _ hb).mono ?_)
                  rintro e wc31 ⟨sh2, rfl, one2, g30⟩
                  replace r1 := r1.ext g30
                  replace r2 := r2.ext g30
                  replace hb := hb.trans (g30.mono hb.size)
                  clear g30
                  go_wp2_with fail
                  refine hKK.out _ _ ?_ (fun hHeld => ?_)
                  · exact hb
                  clear hKK KK
                  try simp only [Act.put, List.setIfInBounds_toArray, List.set_cons_zero, List.set_cons_succ]
                  refine wpAnyH_ready (rs := [14]) (by kernel_rfl) (by simp) ?_
                  refine AllReadyH.cons (by simp only [List.getElem?_toArray, List.getElem?_cons_succ, List.getElem?_cons_zero]; rfl) (fun KK hKK => ?_) AllReadyH.nil
                  rw [if_pos (by kernel_rfl)]
                  refine wp_store_row 50 (.tmp 22) (.tmp 91) rfl (wc12.heap.size) (resA sh1 F) rfl rfl _ _ r1 (by rw [resA_size]; kernel_rfl) (by rw [resA_size, resA_size]) (resA_all _ _ one1) ?_
                  obtain ⟨ws32, hws32⟩ : ∃ ws32, ws32 = wc31.setRow (wc12.heap.size) (resA sh1 F) := ⟨_, rfl⟩
                  replace r1 := r1.row_ sh1 F
                  replace r2 := r2.mod (mod_setRow wc31 (wc12.heap.size) (resA sh1 F)) (by show ¬ (wa23.heap.size = wc12.heap.size); omega)
                  replace hb := hb.trans ((mod_setRow wc31 (wc12.heap.size) (resA sh1 F)).below hb.size (fun i hi h => by have h : i = wc12.heap.size := h; omega))
                  rw [← hws32] at hb r1 r2 ⊢
                  clear hws32
                  refine hKK.out _ _ ?_ (fun hHeld => ?_)
                  · exact hb
                  clear hKK KK
                  try simp only [Act.put]
                  refine wpAnyH_ready (rs := [15]) (by kernel_rfl) (by simp) ?_
                  refine AllReadyH.cons (by simp only [List.getElem?_toArray, List.getElem?_cons_succ, List.getElem?_cons_zero]; rfl) (fun KK hKK => ?_) AllReadyH.nil
                  rw [if_pos (by kernel_rfl)]
                  refine wp_store_row 50 (.tmp 23) (.tmp 97) rfl (wa23.heap.size) (resA sh2 F2) rfl rfl _ _ r2 (by rw [resA_size]; kernel_rfl) (by rw [resA_size, resA_size]) (resA_all _ _ one2) ?_
                  obtain ⟨ws33, hws33⟩ : ∃ ws33, ws33 = ws32.setRow (wa23.heap.size) (resA sh2 F2) := ⟨_, rfl⟩
                  replace r2 := r2.row_ sh2 F2
                  replace r1 := r1.mod (mod_setRow ws32 (wa23.heap.size) (resA sh2 F2)) (by show ¬ (wc12.heap.size = wa23.heap.size); omega)
                  replace hb := hb.trans ((mod_setRow ws32 (wa23.heap.size) (resA sh2 F2)).below hb.size (fun i hi h => by have h : i = wa23.heap.size := h; omega))
                  rw [← hws33] at hb r2 r1 ⊢
                  clear hws33
                  refine hKK.out _ _ ?_ (fun hHeld => ?_)
                  · exact hb
                  clear hKK KK
                  try simp only [Act.put]
                  refine wpAnyH_done (by kernel_rfl) ?_ _
                  go_wp2_with fail
                  go_meet
                  exact ⟨_, _, _, _, _, rfl, rfl, rfl, r1, r2, hb⟩
              · skip
                rw [if_pos (by kernel_rfl)]
                refine wp_alR rfl ?_
                obtain ⟨wa34, hwa34⟩ : ∃ wa34, wa34 = wc12.alloc (.cells (resA (.slice none 0 0) zS) 50) := ⟨_, rfl⟩
                have h9 : Below wc12.heap.size wc12 wa34 := by rw [hwa34]; exact below_alloc1 _ _
                have r2 : BoxR wa34 wc12.heap.size (.slice none 0 0) zS := by rw [hwa34]; exact BoxR.new_ _ _ _
                have hxk2 : wx.heap.size ≤ wc12.heap.size := hb.size
                rw [← hwa34]
                clear hwa34
                replace hb := hb.trans (h9.mono hb.size)
                clear h9
                refine hKK.out _ _ ?_ (fun hHeld => ?_)
                · exact hb
                clear hKK KK
                try simp only [Act.put, List.setIfInBounds_toArray, List.set_cons_zero, List.set_cons_succ]
                refine wpAnyH_ready (rs := [11, 12]) (by kernel_rfl) (by simp) ?_
                refine AllReadyH.cons (by simp only [List.getElem?_toArray, List.getElem?_cons_succ, List.getElem?_cons_zero]; rfl) (fun KK hKK => ?_) (AllReadyH.cons (by simp only [List.getElem?_toArray, List.getElem?_cons_succ, List.getElem?_cons_zero]; rfl) (fun KK hKK => ?_) AllReadyH.nil)
                · skip
                  rw [if_pos (by kernel_rfl)]
                  go_simp
                  (with_reducible refine (hR2 _ hb).mono ?_)
                  rintro e wc36 ⟨sh2, rfl, one2, g35⟩
                  replace r2 := r2.ext g35
                  replace hb := hb.trans (g35.mono hb.size)
                  clear g35
                  go_wp2_with fail
                  refine hKK.out _ _ ?_ (fun hHeld => ?_)
                  · exact hb
                  clear hKK KK
                  try simp only [Act.put, List.setIfInBounds_toArray, List.set_cons_zero, List.set_cons_succ]
                  refine wpAnyH_ready (rs := [12]) (by kernel_rfl) (by simp) ?_
                  refine AllReadyH.cons (by simp only [List.getElem?_toArray, List.getElem?_cons_succ, List.getElem?_cons_zero]; rfl) (fun KK hKK => ?_) AllReadyH.nil
                  rw [if_pos (by kernel_rfl)]
                  have hn_k1 := r2.lt
                  refine wp_alR rfl ?_
                  obtain ⟨wa37, hwa37⟩ : ∃ wa37, wa37 = wc36.alloc (.cells (resA (.slice none 0 0) zS) 50) := ⟨_, rfl⟩
                  have h9 : Below wc36.heap.size wc36 wa37 := by rw [hwa37]; exact below_alloc1 _ _
                  have r1 : BoxR wa37 wc36.heap.size (.slice none 0 0) zS := by rw [hwa37]; exact BoxR.new_ _ _ _
                  have hxk1 : wx.heap.size ≤ wc36.heap.size := hb.size
                  rw [← hwa37]
                  clear hwa37
                  replace r2 := r2.ext h9
                  replace hb := hb.trans (h9.mono hb.size)
                  clear h9
                  refine hKK.out _ _ ?_ (fun hHeld => ?_)
                  · exact hb
                  clear hKK KK
                  try simp only [Act.put, List.setIfInBounds_toArray, List.set_cons_zero, List.set_cons_succ]
                  refine wpAnyH_ready (rs := [14]) (by kernel_rfl) (by simp) ?_
                  refine AllReadyH.cons (by simp only [List.getElem?_toArray, List.getElem?_cons_succ, List.getElem?_cons_zero]; rfl) (fun KK hKK => ?_) AllReadyH.nil
                  rw [if_pos (by kernel_rfl)]
                  refine wp_store_row 50 (.tmp 22) (.tmp 91) rfl (wc36.heap.size) (resA sh1 F) rfl rfl _ _ r1 (by rw [resA_size]; kernel_rfl) (by rw [resA_size, resA_size]) (resA_all _ _ one1) ?_
                  obtain ⟨ws38, hws38⟩ : ∃ ws38, ws38 = wa37.setRow (wc36.heap.size) (resA sh1 F) := ⟨_, rfl⟩
                  replace r1 := r1.row_ sh1 F
                  replace r2 := r2.mod (mod_setRow wa37 (wc36.heap.size) (resA sh1 F)) (by show ¬ (wc12.heap.size = wc36.heap.size); omega)
                  replace hb := hb.trans ((mod_setRow wa37 (wc36.heap.size) (resA sh1 F)).below hb.size (fun i hi h => by have h : i = wc36.heap.size := h; omega))
                  rw [← hws38] at hb r1 r2 ⊢
                  clear hws38
                  refine hKK.out _ _ ?_ (fun hHeld => ?_)
                  · exact hb
                  clear hKK KK
                  try simp only [Act.put]
                  refine wpAnyH_ready (rs := [15]) (by kernel_rfl) (by simp) ?_
                  refine AllReadyH.cons (by simp only [List.getElem?_toArray, List.getElem?_cons_succ, List.getElem?_cons_zero]; rfl) (fun KK hKK => ?_) AllReadyH.nil
                  rw [if_pos (by kernel_rfl)]
                  refine wp_store_row 50 (.tmp 23) (.tmp 97) rfl (wc12.heap.size) (resA sh2 F2) rfl rfl _ _ r2 (by rw [resA_size]; kernel_rfl) (by rw [resA_size, resA_size]) (resA_all _ _ one2) ?_
                  obtain ⟨ws39, hws39⟩ : ∃ ws39, ws39 = ws38.setRow (wc12.heap.size) (resA sh2 F2) := ⟨_, rfl⟩
                  replace r2 := r2.row_ sh2 F2
                  replace r1 := r1.mod (mod_setRow ws38 (wc12.heap.size) (resA sh2 F2)) (by show ¬ (wc36.heap.size = wc12.heap.size); omega)
                  replace hb := hb.trans ((mod_setRow ws38 (wc12.heap.size) (resA sh2 F2)).below hb.size (fun i hi h => by have h : i = wc12.heap.size := h; omega))
                  rw [← hws39] at hb r2 r1 ⊢
                  clear hws39
                  refine hKK.out _ _ ?_ (fun hHeld => ?_)
                  · exact hb
                  clear hKK KK
                  try simp only [Act.put]
                  refine wpAnyH_done (by kernel_rfl) ?_ _
                  go_wp2_with fail
                  go_meet
                  exact ⟨_, _, _, _, _, rfl, rfl, rfl, r1, r2, hb⟩
                · skip
                  rw [if_pos (by kernel_rfl)]
                  have hn_k1 := r2.lt
                  refine wp_alR rfl ?_
                  obtain ⟨wa40, hwa40⟩ : ∃ wa40, wa40 = wa34.alloc (.cells (resA (.slice none 0 0) zS) 50) := ⟨_, rfl⟩
                  have h9 : Below wa34.heap.size wa34 wa40 := by rw [hwa40]; exact below_alloc1 _ _
                  have r1 : BoxR wa40 wa34.heap.size (.slice none 0 0) zS := by rw [hwa40]; exact BoxR.new_ _ _ _
                  have hxk1 : wx.heap.size ≤ wa34.heap.size := hb.size
                  rw [← hwa40]
                  clear hwa40
                  replace r2 := r2.ext h9
                  replace hb := hb.trans (h9.mono hb.size)
                  clear h9
                  refine hKK.out _ _ ?_ (fun hHeld => ?_)
                  · exact hb
                  clear hKK KK
                  try simp only [Act.put, List.setIfInBounds_toArray, List.set_cons_zero, List.set_cons_succ]
                  refine wpAnyH_ready (rs := [11]) (by kernel_rfl) (by simp) ?_
                  refine AllReadyH.cons (by simp only [List.getElem?_toArray, List.getElem?_cons_succ, List.getElem?_cons_zero]; rfl) (fun KK hKK => ?_) AllReadyH.nil
                  rw [if_pos (by kernel_rfl)]
                  go_simp
                  (with_reducible refine (hR2 _ hb).mono ?_)
                  rintro e wc42 ⟨sh2, rfl, one2, g41⟩
                  replace r2 := r2.ext g41
                  replace r1 := r1.ext g41
                  replace hb := hb.trans (g41.mono hb.size)
                  clear g41
                  go_wp2_with fail
                  refine hKK.out _ _ ?_ (fun hHeld => ?_)
                  · exact hb
                  clear hKK KK
                  try simp only [Act.put, List.setIfInBounds_toArray, List.set_cons_zero, List.set_cons_succ]
                  refine wpAnyH_ready (rs := [14]) (by kernel_rfl) (by simp) ?_
                  refine AllReadyH.cons (by simp only [List.getElem?_toArray, List.getElem?_cons_succ, List.getElem?_cons_zero]; rfl) (fun KK hKK => ?_) AllReadyH.nil
                  rw [if_pos (by kernel_rfl)]
                  refine wp_store_row 50 (.tmp 22) (.tmp 91) rfl (wa34.heap.size) (resA sh1 F) rfl rfl _ _ r1 (by rw [resA_size]; kernel_rfl) (by rw [resA_size, resA_size]) (resA_all _ _ one1) ?_
                  obtain ⟨ws43, hws43⟩ : ∃ ws43, ws43 = wc42.setRow (wa34.heap.size) (resA sh1 F) := ⟨_, rfl⟩
                  replace r1 := r1.row_ sh1 F
                  replace r2 := r2.mod (mod_setRow wc42 (wa34.heap.size) (resA sh1 F)) (by show ¬ (wc12.heap.size = wa34.heap.size); omega)
                  replace hb := hb.trans ((mod_setRow wc42 (wa34.heap.size) (resA sh1 F)).below hb.size (fun i hi h => by have h : i = wa34.heap.size := h; omega))
                  rw [← hws43] at hb r1 r2 ⊢
                  clear hws43
                  refine hKK.out _ _ ?_ (fun hHeld => ?_)
                  · exact hb
                  clear hKK KK
                  try simp only [Act.put]
                  refine wpAnyH_ready (rs := [15]) (by kernel_rfl) (by simp) ?_
                  refine AllReadyH.cons (by simp only [List.getElem?_toArray, List.getElem?_cons_succ, List.getElem?_cons_zero]; rfl) (fun KK hKK => ?_) AllReadyH.nil
                  rw [if_pos (by kernel_rfl)]
                  refine wp_store_row 50 (.tmp 23) (.tmp 97) rfl (wc12.heap.size) (resA sh2 F2) rfl rfl _ _ r2 (by rw [resA_size]; kernel_rfl) (by rw [resA_size, resA_size]) (resA_all _ _ one2) ?_
                  obtain ⟨ws44, hws44⟩ : ∃ ws44, ws44 = ws43.setRow (wc12.heap.size) (resA sh2 F2) := ⟨_, rfl⟩
                  replace r2 := r2.row_ sh2 F2
                  replace r1 := r1.mod (mod_setRow ws43 (wc12.heap.size) (resA sh2 F2)) (by show ¬ (wa34.heap.size = wc12.heap.size); omega)
                  replace hb := hb.trans ((mod_setRow ws43 (wc12.heap.size) (resA sh2 F2)).below hb.size (fun i hi h => by have h : i = wc12.heap.size := h; omega))
                  rw [← hws44] at hb r2 r1 ⊢
                  clear hws44
                  refine hKK.out _ _ ?_ (fun hHeld => ?_)
                  · exact hb
                  clear hKK KK
                  try simp only [Act.put]
                  refine wpAnyH_done (by kernel_rfl) ?_ _
                  go_wp2_with fail
                  go_meet
                  exact ⟨_, _, _, _, _, rfl, rfl, rfl, r1, r2, hb⟩
            · skip
              rw [if_pos (by kernel_rfl)]
              refine wp_alR rfl ?_
              obtain ⟨wa45, hwa45⟩ : ∃ wa45, wa45 = wd2.alloc (.cells (resA (.slice none 0 0) zS) 50) := ⟨_, rfl⟩
              have h9 : Below wd2.heap.size wd2 wa45 := by rw [hwa45]; exact below_alloc1 _ _
              have r1 : BoxR wa45 wd2.heap.size (.slice none 0 0) zS := by rw [hwa45]; exact BoxR.new_ _ _ _
              have hxk1 : wx.heap.size ≤ wd2.heap.size := hb.size
              rw [← hwa45]
              clear hwa45
              replace hb := hb.trans (h9.mono hb.size)
              clear h9
              refine hKK.out _ _ ?_ (fun hHeld => ?_)
              · exact hb
              clear hKK KK
              try simp only [Act.put, List.setIfInBounds_toArray, List.set_cons_zero, List.set_cons_succ]
              refine wpAnyH_ready (rs := [5, 13]) (by kernel_rfl) (by simp) ?_
              refine AllReadyH.cons (by simp only [List.getElem?_toArray, List.getElem?_cons_succ, List.getElem?_cons_zero]; rfl) (fun KK hKK => ?_) (AllReadyH.cons (by simp only [List.getElem?_toArray, List.getElem?_cons_succ, List.getElem?_cons_zero]; rfl) (fun KK hKK => ?_) AllReadyH.nil)
              · skip
                rw [if_pos (by kernel_rfl)]
                go_simp
                (with_reducible refine (hR1 _ hb).mono ?_)
                rintro e wc47 ⟨sh1, rfl, one1, g46⟩
                replace r1 := r1.ext g46
                replace hb := hb.trans (g46.mono hb.size)
                clear g46
                go_wp2_with fail
                refine hKK.out _ _ ?_ (fun hHeld => ?_)
                · exact hb
                clear hKK KK
                try simp only [Act.put, List.setIfInBounds_toArray, List.set_cons_zero, List.set_cons_succ]
                refine wpAnyH_ready (rs := [11, 13]) (by kernel_rfl) (by simp) ?_
                refine AllReadyH.cons (by simp only [List.getElem?_toArray, List.getElem?_cons_succ, List.getElem?_cons_zero]; rfl) (fun KK hKK => ?_) (AllReadyH.cons (by simp only [List.getElem?_toArray, List.getElem?_cons_succ, List.getElem?_cons_zero]; rfl) (fun KK hKK => ?_) AllReadyH.nil)
                · skip
                  rw [if_pos (by kernel_rfl)]
                  go_simp
                  (with_reducible refine (hR2 _ hb).mono ?_)
                  rintro e wc49 ⟨sh2, rfl, one2, g48⟩
                  replace r1 := r1.ext g48
                  replace hb := hb.trans (g48.mono hb.size)
                  clear g48
                  go_wp2_with fail
                  refine hKK.out _ _ ?_ (fun hHeld => ?_)
                  · exact hb
                  clear hKK KK
                  try simp only [Act.put, List.setIfInBounds_toArray, List.set_cons_zero, List.set_cons_succ]
                  refine wpAnyH_ready (rs := [13]) (by kernel_rfl) (by simp) ?_
                  refine AllReadyH.cons (by simp only [List.getElem?_toArray, List.getElem?_cons_succ, List.getElem?_cons_zero]; rfl) (fun KK hKK => ?_) AllReadyH.nil
                  rw [if_pos (by kernel_rfl)]
                  have hn_k2 := r1.lt
                  refine wp_alR rfl ?_
                  obtain ⟨wa50, hwa50⟩ : ∃ wa50, wa50 = wc49.alloc (.cells (resA (.slice none 0 0) zS) 50) := ⟨_, rfl⟩
                  have h9 : Below wc49.heap.size wc49 wa50 := by rw [hwa50]; exact below_alloc1 _ _
                  have r2 : BoxR wa50 wc49.heap.size (.slice none 0 0) zS := by rw [hwa50]; exact BoxR.new_ _ _ _
                  have hxk2 : wx.heap.size ≤ wc49.heap.size := hb.size
                  rw [← hwa50]
                  clear hwa50
                  replace r1 := r1.ext h9
                  replace hb := hb.trans (h9.mono hb.size)
                  clear h9
                  refine hKK.out _ _ ?_ (fun hHeld => ?_)
                  · exact hb
                  clear hKK KK
                  try simp only [Act.put, List.setIfInBounds_toArray, List.set_cons_zero, List.set_cons_succ]
                  refine wpAnyH_ready (rs := [14]) (by kernel_rfl) (by simp) ?_
                  refine AllReadyH.cons (by simp only [List.getElem?_toArray, List.getElem?_cons_succ, List.getElem?_cons_zero]; rfl) (fun KK hKK => ?_) AllReadyH.nil
                  rw [if_pos (by kernel_rfl)]
                  refine wp_store_row 50 (.tmp 22) (.tmp 91) rfl (wd2.heap.size) (resA sh1 F) rfl rfl _ _ r1 (by rw [resA_size]; kernel_rfl) (by rw [resA_size, resA_size]) (resA_all _ _ one1) ?_
                  obtain ⟨ws51, hws51⟩ : ∃ ws51, ws51 = wa50.setRow (wd2.heap.size) (resA sh1 F) := ⟨_, rfl⟩
                  replace r1 := r1.row_ sh1 F
                  replace r2 := r2.mod (mod_setRow wa50 (wd2.heap.size) (resA sh1 F)) (by show ¬ (wc49.heap.size = wd2.heap.size); omega)
                  replace hb := hb.trans ((mod_setRow wa50 (wd2.heap.size) (resA sh1 F)).below hb.size (fun i hi h => by have h : i = wd2.heap.size := h; omega))
                  rw [← hws51] at hb r1 r2 ⊢
                  clear hws51
                  refine hKK.out _ _ ?_ (fun hHeld => ?_)
                  · exact hb
                  clear hKK KK
                  try simp only [Act.put]
                  refine wpAnyH_ready (rs := [15]) (by kernel_rfl) (by simp) ?_
                  refine AllReadyH.cons (by simp only [List.getElem?_toArray, List.getElem?_cons_succ, List.getElem?_cons_zero]; rfl) (fun KK hKK => ?_) AllReadyH.nil
                  rw [if_pos (by kernel_rfl)]
                  refine wp_store_row 50 (.tmp 23) (.tmp 97) rfl (wc49.heap.size) (resA sh2 F2) rfl rfl _ _ r2 (by rw [resA_size]; kernel_rfl) (by rw [resA_size, resA_size]) (resA_all _ _ one2) ?_
                  obtain ⟨ws52, hws52⟩ : ∃ ws52, ws52 = ws51.setRow (wc49.heap.size) (resA sh2 F2) := ⟨_, rfl⟩
                  replace r2 := r2.row_ sh2 F2
                  replace r1 := r1.mod (mod_setRow ws51 (wc49.heap.size) (resA sh2 F2)) (by show ¬ (wd2.heap.size = wc49.heap.size); omega)
                  replace hb := hb.trans ((mod_setRow ws51 (wc49.heap.size) (resA sh2 F2)).below hb.size (fun i hi h => by have h : i = wc49.heap.size := h; omega))
                  rw [← hws52] at hb r2 r1 ⊢
                  clear hws52
                  refine hKK.out _ _ ?_ (fun hHeld => ?_)
                  · exact hb
                  clear hKK KK
                  try simp only [Act.put]
                  refine wpAnyH_done (by kernel_rfl) ?_ _
                  go_wp2_with fail
                  go_meet
                  exact ⟨_, _, _, _, _, rfl, rfl, rfl, r1, r2, hb⟩
                · skip
                  rw [if_pos (by kernel_rfl)]
                  have hn_k2 := r1.lt
                  refine wp_alR rfl ?_
                  obtain ⟨wa53, hwa53⟩ : ∃ wa53, wa53 = wc47.alloc (.cells (resA (.slice none 0 0) zS) 50) := ⟨_, rfl⟩
                  have h9 : Below wc47.heap.size wc47 wa53 := by rw [hwa53]; exact below_alloc1 _ _
                  have r2 : BoxR wa53 wc47.heap.size (.slice none 0 0) zS := by rw [hwa53]; exact BoxR.new_ _ _ _
                  have hxk2 : wx.heap.size ≤ wc47.heap.size := hb.size
                  rw [← hwa53]
                  clear hwa53
                  replace r1 := r1.ext h9
                  replace hb := hb.trans (h9.mono hb.size)
                  clear h9
                  refine hKK.out _ _ ?_ (fun hHeld => ?_)
                  · exact hb
                  clear hKK KK
                  try simp only [Act.put, List.setIfInBounds_toArray, List.set_cons_zero, List.set_cons_succ]
                  refine wpAnyH_ready (rs := [11]) (by kernel_rfl) (by simp) ?_
                  refine AllReadyH.cons (by simp only [List.getElem?_toArray, List.getElem?_cons_succ, List.getElem?_cons_zero]; rfl) (fun KK hKK => ?_) AllReadyH.nil
                  rw [if_pos (by kernel_rfl)]
                  go_simp
                  (with_reducible refine (hR2 _ hb).mono ?_)
                  rintro e wc55 ⟨sh2, rfl, one2, g54⟩
                  replace r1 := r1.ext g54
                  replace r2 := r2.ext g54
                  replace hb := hb.trans (g54.mono hb.size)
                  clear g54
                  go_wp2_with fail
                  refine hKK.out _ _ ?_ (fun hHeld => ?_)
                  · exact hb
                  clear hKK KK
                  try simp only [Act.put, List.setIfInBounds_toArray, List.set_cons_zero, List.set_cons_succ]
                  refine wpAnyH_ready (rs := [14]) (by kernel_rfl) (by simp) ?_
                  refine AllReadyH.cons (by simp only [List.getElem?_toArray, List.getElem?_cons_succ, List.getElem?_cons_zero]; rfl) (fun KK hKK => ?_) AllReadyH.nil
                  rw [if_pos (by kernel_rfl)]
                  refine wp_store_row 50 (.tmp 22) (.tmp 91) rfl (wd2.heap.size) (resA sh1 F) rfl rfl _ _ r1 (by rw [resA_size]; kernel_rfl) (by rw [resA_size, resA_size]) (resA_all _ _ one1) ?_
                  obtain ⟨ws56, hws56⟩ : ∃ ws56, ws56 = wc55.setRow (wd2.heap.size) (resA sh1 F) := ⟨_, rfl⟩
                  replace r1 := r1.row_ sh1 F
                  replace r2 := r2.mod (mod_setRow wc55 (wd2.heap.size) (resA sh1 F)) (by show ¬ (wc47.heap.size = wd2.heap.size); omega)
                  replace hb := hb.trans ((mod_setRow wc55 (wd2.heap.size) (resA sh1 F)).below hb.size (fun i hi h => by have h : i = wd2.heap.size := h; omega))
                  rw [← hws56] at hb r1 r2 ⊢
                  clear hws56
                  refine hKK.out _ _ ?_ (fun hHeld => ?_)
                  · exact hb
                  clear hKK KK
                  try simp only [Act.put]
                  refine wpAnyH_ready (rs := [15]) (by kernel_rfl) (by simp) ?_
                  refine AllReadyH.cons (by simp only [List.getElem?_toArray, List.getElem?_cons_succ, List.getElem?_cons_zero]; rfl) (fun KK hKK => ?_) AllReadyH.nil
                  rw [if_pos (by kernel_rfl)]
                  refine wp_store_row 50 (.tmp 23) (.tmp 97) rfl (wc47.heap.size) (resA sh2 F2) rfl rfl _ _ r2 (by rw [resA_size]; kernel_rfl) (by rw [resA_size, resA_size]) (resA_all _ _ one2) ?_
                  obtain ⟨ws57, hws57⟩ : ∃ ws57, ws57 = ws56.setRow (wc47.heap.size) (resA sh2 F2) := ⟨_, rfl⟩
                  replace r2 := r2.row_ sh2 F2
                  replace r1 := r1.mod (mod_setRow ws56 (wc47.heap.size) (resA sh2 F2)) (by show ¬ (wd2.heap.size = wc47.heap.size); omega)
                  replace hb := hb.trans ((mod_setRow ws56 (wc47.heap.size) (resA sh2 F2)).below hb.size (fun i hi h => by have h : i = wc47.heap.size := h; omega))
                  rw [← hws57] at hb r2 r1 ⊢
                  clear hws57
                  refine hKK.out _ _ ?_ (fun hHeld => ?_)
                  · exact hb
                  clear hKK KK
                  try simp only [Act.put]
                  refine wpAnyH_done (by kernel_rfl) ?_ _
                  go_wp2_with fail
                  go_meet
                  exact ⟨_, _, _, _, _, rfl, rfl, rfl, r1, r2, hb⟩
              · skip
                rw [if_pos (by kernel_rfl)]
                have hn_k2 := r1.lt
                refine wp_alR rfl ?_
                obtain ⟨wa58, hwa58⟩ : ∃ wa58, wa58 = wa45.alloc (.cells (resA (.slice none 0 0) zS) 50) := ⟨_, rfl⟩
                have h9 : Below wa45.heap.size wa45 wa58 := by rw [hwa58]; exact below_alloc1 _ _
                have r2 : BoxR wa58 wa45.heap.size (.slice none 0 0) zS := by rw [hwa58]; exact BoxR.new_ _ _ _
                have hxk2 : wx.heap.size ≤ wa45.heap.size := hb.size
                rw [← hwa58]
                clear hwa58
                replace r1 := r1.ext h9
                replace hb := hb.trans (h9.mono hb.size)
                clear h9
                refine hKK.out _ _ ?_ (fun hHeld => ?_)
                · exact hb
                clear hKK KK
                try simp only [Act.put, List.setIfInBounds_toArray, List.set_cons_zero, List.set_cons_succ]
                refine wpAnyH_ready (rs := [5]) (by kernel_rfl) (by simp) ?_
                refine AllReadyH.cons (by simp only [List.getElem?_toArray, List.getElem?_cons_succ, List.getElem?_cons_zero]; rfl) (fun KK hKK => ?_) AllReadyH.nil
                rw [if_pos (by kernel_rfl)]
                go_simp
                (with_reducible refine (hR1 _ hb).mono ?_)
                rintro e wc60 ⟨sh1, rfl, one1, g59⟩
                replace r1 := r1.ext g59
                replace r2 := r2.ext g59
                replace hb := hb.trans (g59.mono hb.size)
                clear g59
                go_wp2_with fail
                refine hKK.out _ _ ?_ (fun hHeld => ?_)
                · exact hb
                clear hKK KK
                try simp only [Act.put, List.setIfInBounds_toArray, List.set_cons_zero, List.set_cons_succ]
                refine wpAnyH_ready (rs := [11]) (by kernel_rfl) (by simp) ?_
                refine AllReadyH.cons (by simp only [List.getElem?_toArray, List.getElem?_cons_succ, List.getElem?_cons_zero]; rfl) (fun KK hKK => ?_) AllReadyH.nil
                rw [if_pos (by kernel_rfl)]
                go_simp
                (with_reducible refine (hR2 _ hb).mono ?_)
                rintro e wc62 ⟨sh2, rfl, one2, g61⟩
                replace r1 := r1.ext g61
                replace r2 := r2.ext g61
                replace hb := hb.trans (g61.mono hb.size)
                clear g61
                go_wp2_with fail
                refine hKK.out _ _ ?_ (fun hHeld => ?_)
                · exact hb
                clear hKK KK
                try simp only [Act.put, List.setIfInBounds_toArray, List.set_cons_zero, List.set_cons_succ]
                refine wpAnyH_ready (rs := [14]) (by kernel_rfl) (by simp) ?_
                refine AllReadyH.cons (by simp only [List.getElem?_toArray, List.getElem?_cons_succ, List.getElem?_cons_zero]; rfl) (fun KK hKK => ?_) AllReadyH.nil
                rw [if_pos (by kernel_rfl)]
                refine wp_store_row 50 (.tmp 22) (.tmp 91) rfl (wd2.heap.size) (resA sh1 F) rfl rfl _ _ r1 (by rw [resA_size]; kernel_rfl) (by rw [resA_size, resA_size]) (resA_all _ _ one1) ?_
                obtain ⟨ws63, hws63⟩ : ∃ ws63, ws63 = wc62.setRow (wd2.heap.size) (resA sh1 F) := ⟨_, rfl⟩
                replace r1 := r1.row_ sh1 F
                replace r2 := r2.mod (mod_setRow wc62 (wd2.heap.size) (resA sh1 F)) (by show ¬ (wa45.heap.size = wd2.heap.size); omega)
                replace hb := hb.trans ((mod_setRow wc62 (wd2.heap.size) (resA sh1 F)).below hb.size (fun i hi h => by have h : i = wd2.heap.size := h; omega))
                rw [← hws63] at hb r1 r2 ⊢
                clear hws63
                refine hKK.out _ _ ?_ (fun hHeld => ?_)
                · exact hb
                clear hKK KK
                try simp only [Act.put]
                refine wpAnyH_ready (rs := [15]) (by kernel_rfl) (by simp) ?_
                refine AllReadyH.cons (by simp only [List.getElem?_toArray, List.getElem?_cons_succ, List.getElem?_cons_zero]; rfl) (fun KK hKK => ?_) AllReadyH.nil
                rw [if_pos (by kernel_rfl)]
                refine wp_store_row 50 (.tmp 23) (.tmp 97) rfl (wa45.heap.size) (resA sh2 F2) rfl rfl _ _ r2 (by rw [resA_size]; kernel_rfl) (by rw [resA_size, resA_size]) (resA_all _ _ one2) ?_
                obtain ⟨ws64, hws64⟩ : ∃ ws64, ws64 = ws63.setRow (wa45.heap.size) (resA sh2 F2) := ⟨_, rfl⟩
                replace r2 := r2.row_ sh2 F2
                replace r1 := r1.mod (mod_setRow ws63 (wa45.heap.size) (resA sh2 F2)) (by show ¬ (wd2.heap.size = wa45.heap.size); omega)
                replace hb := hb.trans ((mod_setRow ws63 (wa45.heap.size) (resA sh2 F2)).below hb.size (fun i hi h => by have h : i = wa45.heap.size := h; omega))
                rw [← hws64] at hb r2 r1 ⊢
                clear hws64
                refine hKK.out _ _ ?_ (fun hHeld => ?_)
                · exact hb
                clear hKK KK
                try simp only [Act.put]
                refine wpAnyH_done (by kernel_rfl) ?_ _
                go_wp2_with fail
                go_meet
                exact ⟨_, _, _, _, _, rfl, rfl, rfl, r1, r2, hb⟩
            · skip
              rw [if_pos (by kernel_rfl)]
              refine wp_alR rfl ?_
              obtain ⟨wa65, hwa65⟩ : ∃ wa65, wa65 = wd2.alloc (.cells (resA (.slice none 0 0) zS) 50) := ⟨_, rfl⟩
              have h9 : Below wd2.heap.size wd2 wa65 := by rw [hwa65]; exact below_alloc1 _ _
              have r2 : BoxR wa65 wd2.heap.size (.slice none 0 0) zS := by rw [hwa65]; exact BoxR.new_ _ _ _
              have hxk2 : wx.heap.size ≤ wd2.heap.size := hb.size
              rw [← hwa65]
              clear hwa65
              replace hb := hb.trans (h9.mono hb.size)
              clear h9
              refine hKK.out _ _ ?_ (fun hHeld => ?_)
              · exact hb
              clear hKK KK
              try simp only [Act.put, List.setIfInBounds_toArray, List.set_cons_zero, List.set_cons_succ]
              refine wpAnyH_ready (rs := [5, 12]) (by kernel_rfl) (by simp) ?_
              refine AllReadyH.cons (by simp only [List.getElem?_toArray, List.getElem?_cons_succ, List.getElem?_cons_zero]; rfl) (fun KK hKK => ?_) (AllReadyH.cons (by simp only [List.getElem?_toArray, List.getElem?_cons_succ, List.getElem?_cons_zero]; rfl) (fun KK hKK => ?_) AllReadyH.nil)
              · skip
                rw [if_pos (by kernel_rfl)]
                go_simp
                (with_reducible refine (hR1 _ hb).mono ?_)
                rintro e wc67 ⟨sh1, rfl, one1, g66⟩
                replace r2 := r2.ext g66
                replace hb := hb.trans (g66.mono hb.size)
                clear g66
                go_wp2_with fail
                refine hKK.out _ _ ?_ (fun hHeld => ?_)
                · exact hb
                clear hKK KK
                try simp only [Act.put, List.setIfInBounds_toArray, List.set_cons_zero, List.set_cons_succ]
                refine wpAnyH_ready (rs := [11, 12]) (by kernel_rfl) (by simp) ?_
                refine AllReadyH.cons (by simp only [List.getElem?_toArray, List.getElem?_cons_succ, List.getElem?_cons_zero]; rfl) (fun KK hKK => ?_) (AllReadyH.cons (by simp only [List.getElem?_toArray, List.getElem?_cons_succ, List.getElem?_cons_zero]; rfl) (fun KK hKK => ?_) AllReadyH.nil)
                · skip
                  rw [if_pos (by kernel_rfl)]
                  go_simp
                  (with_reducible refine (hR2 _ hb).mono ?_)
                  rintro e wc69 ⟨sh2, rfl, one2, g68⟩
                  replace r2 := r2.ext g68
                  replace hb := hb.trans (g68.mono hb.size)
                  clear g68
                  go_wp2_with fail
                  refine hKK.out _ _ ?_ (fun hHeld => ?_)
                  · exact hb
                  clear hKK KK
                  try simp only [Act.put, List.setIfInBounds_toArray, List.set_cons_zero, List.set_cons_succ]
                  refine wpAnyH_ready (rs := [12]) (by kernel_rfl) (by simp) ?_
                  refine AllReadyH.cons (by simp only [List.getElem?_toArray, List.getElem?_cons_succ, List.getElem?_cons_zero]; rfl) (fun KK hKK => ?_) AllReadyH.nil
                  rw [if_pos (by kernel_rfl)]
                  have hn_k1 := r2.lt
                  refine wp_alR rfl ?_
                  obtain ⟨wa70, hwa70⟩ : ∃ wa70, wa70 = wc69.alloc (.cells (resA (.slice none 0 0) zS) 50) := ⟨_, rfl⟩
                  have h9 : Below wc69.heap.size wc69 wa70 := by rw [hwa70]; exact below_alloc1 _ _
                  have r1 : BoxR wa70 wc69.heap.size (.slice none 0 0) zS := by rw [hwa70]; exact BoxR.new_ _ _ _
                  have hxk1 : wx.heap.size ≤ wc69.heap.size := hb.size
                  rw [← hwa70]
                  clear hwa70
                  replace r2 := r2.ext h9
                  replace hb := hb.trans (h9.mono hb.size)
                  clear h9
                  refine hKK.out _ _ ?_ (fun hHeld => ?_)
                  · exact hb
                  clear hKK KK
                  try simp only [Act.put, List.setIfInBounds_toArray, List.set_cons_zero, List.set_cons_succ]
                  refine wpAnyH_ready (rs := [14]) (by kernel_rfl) (by simp) ?_
                  refine AllReadyH.cons (by simp only [List.getElem?_toArray, List.getElem?_cons_succ, List.getElem?_cons_zero]; rfl) (fun KK hKK => ?_) AllReadyH.nil
                  rw [if_pos (by kernel_rfl)]
                  refine wp_store_row 50 (.tmp 22) (.tmp 91) rfl (wc69.heap.size) (resA sh1 F) rfl rfl _ _ r1 (by rw [resA_size]; kernel_rfl) (by rw [resA_size, resA_size]) (resA_all _ _ one1) ?_
                  obtain ⟨ws71, hws71⟩ : ∃ ws71, ws71 = wa70.setRow (wc69.heap.size) (resA sh1 F) := ⟨_, rfl⟩
                  replace r1 := r1.row_ sh1 F
                  replace r2 := r2.mod (mod_setRow wa70 (wc69.heap.size) (resA sh1 F)) (by show ¬ (wd2.heap.size = wc69.heap.size); omega)
                  replace hb := hb.trans ((mod_setRow wa70 (wc69.heap.size) (resA sh1 F)).below hb.size (fun i hi h => by have h : i = wc69.heap.size := h; omega))
                  rw [← hws71] at hb r1 r2 ⊢
                  clear hws71
                  refine hKK.out _ _ ?_ (fun hHeld => ?_)
                  · exact hb
                  clear hKK KK
                  try simp only [Act.put]
                  refine wpAnyH_ready (rs := [15]) (by kernel_rfl) (by simp) ?_
                  refine AllReadyH.cons (by simp only [List.getElem?_toArray, List.getElem?_cons_succ, List.getElem?_cons_zero]; rfl) (fun KK hKK => ?_) AllReadyH.nil
                  rw [if_pos (by kernel_rfl)]
                  refine wp_store_row 50 (.tmp 23) (.tmp 97) rfl (wd2.heap.size) (resA sh2 F2) rfl rfl _ _ r2 (by rw [resA_size]; kernel_rfl) (by rw [resA_size, resA_size]) (resA_all _ _ one2) ?_
                  obtain ⟨ws72, hws72⟩ : ∃ ws72, ws72 = ws71.setRow (wd2.heap.size) (resA sh2 F2) := ⟨_, rfl⟩
                  replace r2 := r2.row_ sh2 F2
                  replace r1 := r1.mod (mod_setRow ws71 (wd2.heap.size) (resA sh2 F2)) (by show ¬ (wc69.heap.size = wd2.heap.size); omega)
                  replace hb := hb.trans ((mod_setRow ws71 (wd2.heap.size) (resA sh2 F2)).below hb.size (fun i hi h => by have h : i = wd2.heap.size := h; omega))
                  rw [← hws72] at hb r2 r1 ⊢
                  clear hws72
                  refine hKK.out _ _ ?_ (fun hHeld => ?_)
                  · exact hb
                  clear hKK KK
                  try simp only [Act.put]
                  refine wpAnyH_done (by kernel_rfl) ?_ _
                  go_wp2_with fail
                  go_meet
                  exact ⟨_, _, _, _, _, rfl, rfl, rfl, r1, r2, hb⟩
                · skip
                  rw [if_pos (by kernel_rfl)]
                  have hn_k1 := r2.lt
                  refine wp_alR rfl ?_
                  obtain ⟨wa73, hwa73⟩ : ∃ wa73, wa73 = wc67.alloc (.cells (resA (.slice none 0 0) zS) 50) := ⟨_, rfl⟩
                  have h9 : Below wc67.heap.size wc67 wa73 := by rw [hwa73]; exact below_alloc1 _ _
                  have r1 : BoxR wa73 wc67.heap.size (.slice none 0 0) zS := by rw [hwa73]; exact BoxR.new_ _ _ _
                  have hxk1 : wx.heap.size ≤ wc67.heap.size := hb.size
                  rw [← hwa73]
                  clear hwa73
                  replace r2 := r2.ext h9
                  replace hb := hb.trans (h9.mono hb.size)
                  clear h9
                  refine hKK.out _ _ ?_ (fun hHeld => ?_)
                  · exact hb
                  clear hKK KK
                  try simp only [Act.put, List.setIfInBounds_toArray, List.set_cons_zero, List.set_cons_succ]
                  refine wpAnyH_ready (rs := [11]) (by kernel_rfl) (by simp) ?_
                  refine AllReadyH.cons (by simp only [List.getElem?_toArray, List.getElem?_cons_succ, List.getElem?_cons_zero]; rfl) (fun KK hKK => ?_) AllReadyH.nil
                  rw [if_pos (by kernel_rfl)]
                  go_simp
                  (with_reducible refine (hR2 _ hb).mono ?_)
                  rintro e wc75 ⟨sh2, rfl, one2, g74⟩
                  replace r2 := r2.ext g74
                  replace r1 := r1.ext g74
                  replace hb := hb.trans (g74.mono hb.size)
                  clear g74
                  go_wp2_with fail
                  refine hKK.out _ _ ?_ (fun hHeld => ?_)
                  · exact hb
                  clear hKK KK
                  try simp only [Act.put, List.setIfInBounds_toArray, List.set_cons_zero, List.set_cons_succ]
                  refine wpAnyH_ready (rs := [14]) (by kernel_rfl) (by simp) ?_
                  refine AllReadyH.cons (by simp only [List.getElem?_toArray, List.getElem?_cons_succ, List.getElem?_cons_zero]; rfl) (fun KK hKK => ?_) AllReadyH.nil
                  rw [if_pos (by kernel_rfl)]
                  refine wp_store_row 50 (.tmp 22) (.tmp 91) rfl (wc67.heap.size) (resA sh1 F) rfl rfl _ _ r1 (by rw [resA_size]; kernel_rfl) (by rw [resA_size, resA_size]) (resA_all _ _ one1) ?_
                  obtain ⟨ws76, hws76⟩ : ∃ ws76, ws76 = wc75.setRow (wc67.heap.size) (resA sh1 F) := ⟨_, rfl⟩
                  replace r1 := r1.row_ sh1 F
                  replace r2 := r2.mod (mod_setRow wc75 (wc67.heap.size) (resA sh1 F)) (by show ¬ (wd2.heap.size = wc67.heap.size); omega)
                  replace hb := hb.trans ((mod_setRow wc75 (wc67.heap.size) (resA sh1 F)).below hb.size (fun i hi h => by have h : i = wc67.heap.size := h; omega))
                  rw [← hws76] at hb r1 r2 ⊢
                  clear hws76
                  refine hKK.out _ _ ?_ (fun hHeld => ?_)
                  · exact hb
                  clear hKK KK
                  try simp only [Act.put]
                  refine wpAnyH_ready (rs := [15]) (by kernel_rfl) (by simp) ?_
                  refine AllReadyH.cons (by simp only [List.getElem?_toArray, List.getElem?_cons_succ, List.getElem?_cons_zero]; rfl) (fun KK hKK => ?_) AllReadyH.nil
                  rw [if_pos (by kernel_rfl)]
                  refine wp_store_row 50 (.tmp 23) (.tmp 97) rfl (wd2.heap.size) (resA sh2 F2) rfl rfl _ _ r2 (by rw [resA_size]; kernel_rfl) (by rw [resA_size, resA_size]) (resA_all _ _ one2) ?_
                  obtain ⟨ws77, hws77⟩ : ∃ ws77, ws77 = ws76.setRow (wd2.heap.size) (resA sh2 F2) := ⟨_, rfl⟩
                  replace r2 := r2.row_ sh2 F2
                  replace r1 := r1.mod (mod_setRow ws76 (wd2.heap.size) (resA sh2 F2)) (by show ¬ (wc67.heap.size = wd2.heap.size); omega)
                  replace hb := hb.trans ((mod_setRow ws76 (wd2.heap.size) (resA sh2 F2)).below hb.size (fun i hi h => by have h : i = wd2.heap.size := h; omega))
                  rw [← hws77] at hb r2 r1 ⊢
                  clear hws77
                  refine hKK.out _ _ ?_ (fun hHeld => ?_)
                  · exact hb
                  clear hKK KK
                  try simp only [Act.put]
                  refine wpAnyH_done (by kernel_rfl) ?_ _
                  go_wp2_with fail
                  go_meet
                  exact ⟨_, _, _, _, _, rfl, rfl, rfl, r1, r2, hb⟩
              · skip
                rw [if_pos (by kernel_rfl)]
                have hn_k1 := r2.lt
                refine wp_alR rfl ?_
                obtain ⟨wa78, hwa78⟩ : ∃ wa78, wa78 = wa65.alloc (.cells (resA (.slice none 0 0) zS) 50) := ⟨_, rfl⟩
                have h9 : Below wa65.heap.size wa65 wa78 := by rw [hwa78]; exact below_alloc1 _ _
                have r1 : BoxR wa78 wa65.heap.size (.slice none 0 0) zS := by rw [hwa78]; exact BoxR.new_ _ _ _
                have hxk1 : wx.heap.size ≤ wa65.heap.size := hb.size
                rw [← hwa78]
                clear hwa78
                replace r2 := r2.ext h9
                replace hb := hb.trans (h9.mono hb.size)
                clear h9
                refine hKK.out _ _ ?_ (fun hHeld => ?_)
                · exact hb
                clear hKK KK
                try simp only [Act.put, List.setIfInBounds_toArray, List.set_cons_zero, List.set_cons_succ]
                refine wpAnyH_ready (rs := [5]) (by kernel_rfl) (by simp) ?_
                refine AllReadyH.cons (by simp only [List.getElem?_toArray, List.getElem?_cons_succ, List.getElem?_cons_zero]; rfl) (fun KK hKK => ?_) AllReadyH.nil
                rw [if_pos (by kernel_rfl)]
                go_simp
                (with_reducible refine (hR1 _ hb).mono ?_)
                rintro e wc80 ⟨sh1, rfl, one1, g79⟩
                replace r2 := r2.ext g79
                replace r1 := r1.ext g79
                replace hb := hb.trans (g79.mono hb.size)
                clear g79
                go_wp2_with fail
                refine hKK.out _ _ ?_ (fun hHeld => ?_)
                · exact hb
                clear hKK KK
                try simp only [Act.put, List.setIfInBounds_toArray, List.set_cons_zero, List.set_cons_succ]
                refine wpAnyH_ready (rs := [11]) (by kernel_rfl) (by simp) ?_
                refine AllReadyH.cons (by simp only [List.getElem?_toArray, List.getElem?_cons_succ, List.getElem?_cons_zero]; rfl) (fun KK hKK => ?_) AllReadyH.nil
                rw [if_pos (by kernel_rfl)]
                go_simp
                (with_reducible refine (hR2 _ hb).mono ?_)
                rintro e wc82 ⟨sh2, rfl, one2, g81⟩
                replace r2 := r2.ext g81
                replace r1 := r1.ext g81
                replace hb := hb.trans (g81.mono hb.size)
                clear g81
                go_wp2_with fail
                refine hKK.out _ _ ?_ (fun hHeld => ?_)
                · exact hb
                clear hKK KK
                try simp only [Act.put, List.setIfInBounds_toArray, List.set_cons_zero, List.set_cons_succ]
                refine wpAnyH_ready (rs := [14]) (by kernel_rfl) (by simp) ?_
                refine AllReadyH.cons (by simp only [List.getElem?_toArray, List.getElem?_cons_succ, List.getElem?_cons_zero]; rfl) (fun KK hKK => ?_) AllReadyH.nil
                rw [if_pos (by kernel_rfl)]
                refine wp_store_row 50 (.tmp 22) (.tmp 91) rfl (wa65.heap.size) (resA sh1 F) rfl rfl _ _ r1 (by rw [resA_size]; kernel_rfl) (by rw [resA_size, resA_size]) (resA_all _ _ one1) ?_
                obtain ⟨ws83, hws83⟩ : ∃ ws83, ws83 = wc82.setRow (wa65.heap.size) (resA sh1 F) := ⟨_, rfl⟩
                replace r1 := r1.row_ sh1 F
                replace r2 := r2.mod (mod_setRow wc82 (wa65.heap.size) (resA sh1 F)) (by show ¬ (wd2.heap.size = wa65.heap.size); omega)
                replace hb := hb.trans ((mod_setRow wc82 (wa65.heap.size) (resA sh1 F)).below hb.size (fun i hi h => by have h : i = wa65.heap.size := h; omega))
                rw [← hws83] at hb r1 r2 ⊢
                clear hws83
                refine hKK.out _ _ ?_ (fun hHeld => ?_)
                · exact hb
                clear hKK KK
                try simp only [Act.put]
                refine wpAnyH_ready (rs := [15]) (by kernel_rfl) (by simp) ?_
                refine AllReadyH.cons (by simp only [List.getElem?_toArray, List.getElem?_cons_succ, List.getElem?_cons_zero]; rfl) (fun KK hKK => ?_) AllReadyH.nil
                rw [if_pos (by kernel_rfl)]
                refine wp_store_row 50 (.tmp 23) (.tmp 97) rfl (wd2.heap.size) (resA sh2 F2) rfl rfl _ _ r2 (by rw [resA_size]; kernel_rfl) (by rw [resA_size, resA_size]) (resA_all _ _ one2) ?_
                obtain ⟨ws84, hws84⟩ : ∃ ws84, ws84 = ws83.setRow (wd2.heap.size) (resA sh2 F2) := ⟨_, rfl⟩
                replace r2 := r2.row_ sh2 F2
                replace r1 := r1.mod (mod_setRow ws83 (wd2.heap.size) (resA sh2 F2)) (by show ¬ (wa65.heap.size = wd2.heap.size); omega)
                replace hb := hb.trans ((mod_setRow ws83 (wd2.heap.size) (resA sh2 F2)).below hb.size (fun i hi h => by have h : i = wd2.heap.size := h; omega))
                rw [← hws84] at hb r2 r1 ⊢
                clear hws84
                refine hKK.out _ _ ?_ (fun hHeld => ?_)
                · exact hb
                clear hKK KK
                try simp only [Act.put]
                refine wpAnyH_done (by kernel_rfl) ?_ _
                go_wp2_with fail
                go_meet
                exact ⟨_, _, _, _, _, rfl, rfl, rfl, r1, r2, hb⟩
          case rest =>
            clear KDx KEx l7 l8 hR1 hR2 hsl4 hsl7 hb
            obtain ⟨K1, K2, sh1, sh2, wz, rfl, rfl, rfl, r1, r2, hbz2⟩ := hcut
            have hb := HBD.out.trans ((hbx.trans (hbz2.mono hbz)).mono HBD.out.size)
            have FE := Lib.hid HLW.out.1
            have FT := Lib.hid HLW.out.2.1
            have FU := Lib.hid HLW.out.2.2.1
            have hL1 := fun W => Labels_calls F.L W (by rw [HWL.out.1]; exact lM) HWL.out.2
            have hL2 := fun W => Labels_calls F2.L W (by rw [HWL2.out.1, LC.out, HmM.out]; exact lM) HWL2.out.2
            rw [← labs_snd HLW.out.2.2.2] at hL2
            obtain ⟨ll, hll⟩ : ∃ ll, ll = labsL F.L := ⟨_, rfl⟩
            rw [← hll] at hL1 hL2
            clear hll hbx hbz2 hbz
            go_wp2_with fail
            refine wp_region_held_drew (S := fun w' => BoxR w' K1 sh1 F ∧ BoxR w' K2 sh2 F2) (by kernel_rfl) ?_ (fun hHeld => ?_)
            · exact ⟨r1, r2⟩
            refine wpAnyH_take (i := 0) (v := ?zv0) (by simp only [List.getElem?_toArray, List.getElem?_cons_zero]; rfl) (by kernel_rfl) (by kernel_rfl) (by kernel_rfl) (by exact fun _ _ _ h => h) (Or.inl ⟨by kernel_rfl, ?zy0⟩) hHeld ?_
            case zy0 => (intro w hSw; (try dsimp only at hSw); have hy0 := hSw.1.cE; have hy1 := hSw.1.cT; have hy4 := hSw.1.cU; have hy2 := hSw.2.cE; have hy3 := hSw.2.cT; have hy5 := hSw.2.cU; rw [← FE.out] at hy2; rw [← FT.out] at hy3; rw [← FU.out] at hy5; clear hSw; go_simp; try (with_reducible rfl))
            try simp only [Act.put, List.setIfInBounds_toArray, List.set_cons_zero, List.set_cons_succ]
            refine wpAnyH_take (i := 1) (v := ?zv1) (by simp only [List.getElem?_toArray, List.getElem?_cons_succ, List.getElem?_cons_zero]; rfl) (by kernel_rfl) (by kernel_rfl) (by kernel_rfl) (by exact fun _ _ _ h => h) (Or.inl ⟨by kernel_rfl, ?zy1⟩) hHeld ?_
            case zy1 => (intro w hSw; (try dsimp only at hSw); have hy0 := hSw.1.cE; have hy1 := hSw.1.cT; have hy4 := hSw.1.cU; have hy2 := hSw.2.cE; have hy3 := hSw.2.cT; have hy5 := hSw.2.cU; rw [← FE.out] at hy2; rw [← FT.out] at hy3; rw [← FU.out] at hy5; clear hSw; go_simp; try (with_reducible rfl))
            try simp only [Act.put, List.setIfInBounds_toArray, List.set_cons_zero, List.set_cons_succ]
            refine wpAnyH_take (i := 2) (v := ?zv2) (by simp only [List.getElem?_toArray, List.getElem?_cons_succ, List.getElem?_cons_zero]; rfl) (by kernel_rfl) (by kernel_rfl) (by kernel_rfl) (by exact fun _ _ _ h => h) (Or.inl ⟨by kernel_rfl, ?zy2⟩) hHeld ?_
            case zy2 => (intro w hSw; (try dsimp only at hSw); have hy0 := hSw.1.cE; have hy1 := hSw.1.cT; have hy4 := hSw.1.cU; have hy2 := hSw.2.cE; have hy3 := hSw.2.cT; have hy5 := hSw.2.cU; rw [← FE.out] at hy2; rw [← FT.out] at hy3; rw [← FU.out] at hy5; clear hSw; go_simp; try (with_reducible rfl))
            try simp only [Act.put, List.setIfInBounds_toArray, List.set_cons_zero, List.set_cons_succ]
            refine wpAnyH_take (i := 3) (v := ?zv3) (by simp only [List.getElem?_toArray, List.getElem?_cons_succ, List.getElem?_cons_zero]; rfl) (by kernel_rfl) (by kernel_rfl) (by kernel_rfl) (by exact fun _ _ _ h => h) (Or.inl ⟨by kernel_rfl, ?zy3⟩) hHeld ?_
            case zy3 => (intro w hSw; (try dsimp only at hSw); have hy0 := hSw.1.cE; have hy1 := hSw.1.cT; have hy4 := hSw.1.cU; have hy2 := hSw.2.cE; have hy3 := hSw.2.cT; have hy5 := hSw.2.cU; rw [← FE.out] at hy2; rw [← FT.out] at hy3; rw [← FU.out] at hy5; clear hSw; go_simp; try (with_reducible rfl))
            try simp only [Act.put, List.setIfInBounds_toArray, List.set_cons_zero, List.set_cons_succ]
            refine wpAnyH_take (i := 4) (v := ?zv4) (by simp only [List.getElem?_toArray, List.getElem?_cons_succ, List.getElem?_cons_zero]; rfl) (by kernel_rfl) (by kernel_rfl) (by kernel_rfl) (by exact fun _ _ _ h => h) (Or.inl ⟨by kernel_rfl, ?zy4⟩) hHeld ?_
            case zy4 => (intro w hSw; (try dsimp only at hSw); have hy0 := hSw.1.cE; have hy1 := hSw.1.cT; have hy4 := hSw.1.cU; have hy2 := hSw.2.cE; have hy3 := hSw.2.cT; have hy5 := hSw.2.cU; rw [← FE.out] at hy2; rw [← FT.out] at hy3; rw [← FU.out] at hy5; clear hSw; go_simp; try (with_reducible rfl))
            try simp only [Act.put, List.setIfInBounds_toArray, List.set_cons_zero, List.set_cons_succ]
            refine wpAnyH_take (i := 5) (v := ?zv5) (by simp only [List.getElem?_toArray, List.getElem?_cons_succ, List.getElem?_cons_zero]; rfl) (by kernel_rfl) (by kernel_rfl) (by kernel_rfl) (by exact fun _ _ _ h => h) (Or.inl ⟨by kernel_rfl, ?zy5⟩) hHeld ?_
            case zy5 => (intro w hSw; (try dsimp only at hSw); have hy0 := hSw.1.cE; have hy1 := hSw.1.cT; have hy4 := hSw.1.cU; have hy2 := hSw.2.cE; have hy3 := hSw.2.cT; have hy5 := hSw.2.cU; rw [← FE.out] at hy2; rw [← FT.out] at hy3; rw [← FU.out] at hy5; clear hSw; go_simp; try (with_reducible rfl))
            try simp only [Act.put, List.setIfInBounds_toArray, List.set_cons_zero, List.set_cons_succ]
            refine wpAnyH_take (i := 6) (v := ?zv6) (by simp only [List.getElem?_toArray, List.getElem?_cons_succ, List.getElem?_cons_zero]; rfl) (by kernel_rfl) (by kernel_rfl) (by kernel_rfl) (by exact fun _ _ _ h => h) (Or.inl ⟨by kernel_rfl, ?zy6⟩) hHeld ?_
            case zy6 => (intro w hSw; (try dsimp only at hSw); have hy0 := hSw.1.cE; have hy1 := hSw.1.cT; have hy4 := hSw.1.cU; have hy2 := hSw.2.cE; have hy3 := hSw.2.cT; have hy5 := hSw.2.cU; rw [← FE.out] at hy2; rw [← FT.out] at hy3; rw [← FU.out] at hy5; clear hSw; go_simp; try (with_reducible rfl))
            try simp only [Act.put, List.setIfInBounds_toArray, List.set_cons_zero, List.set_cons_succ]
            refine wpAnyH_take (i := 7) (v := ?zv7) (by simp only [List.getElem?_toArray, List.getElem?_cons_succ, List.getElem?_cons_zero]; rfl) (by kernel_rfl) (by kernel_rfl) (by kernel_rfl) (by exact fun _ _ _ h => h) (Or.inl ⟨by kernel_rfl, ?zy7⟩) hHeld ?_
            case zy7 => (intro w hSw; (try dsimp only at hSw); have hy0 := hSw.1.cE; have hy1 := hSw.1.cT; have hy4 := hSw.1.cU; have hy2 := hSw.2.cE; have hy3 := hSw.2.cT; have hy5 := hSw.2.cU; rw [← FE.out] at hy2; rw [← FT.out] at hy3; rw [← FU.out] at hy5; clear hSw; go_simp; try (with_reducible rfl))
            try simp only [Act.put, List.setIfInBounds_toArray, List.set_cons_zero, List.set_cons_succ]
            refine wpAnyH_take (i := 8) (v := ?zv8) (by simp only [List.getElem?_toArray, List.getElem?_cons_succ, List.getElem?_cons_zero]; rfl) (by kernel_rfl) (by kernel_rfl) (by kernel_rfl) (by exact fun _ _ _ h => h) (Or.inl ⟨by kernel_rfl, ?zy8⟩) hHeld ?_
            case zy8 => (intro w hSw; (try dsimp only at hSw); have hy0 := hSw.1.cE; have hy1 := hSw.1.cT; have hy4 := hSw.1.cU; have hy2 := hSw.2.cE; have hy3 := hSw.2.cT; have hy5 := hSw.2.cU; rw [← FE.out] at hy2; rw [← FT.out] at hy3; rw [← FU.out] at hy5; clear hSw; go_simp; try (with_reducible rfl))
            try simp only [Act.put, List.setIfInBounds_toArray, List.set_cons_zero, List.set_cons_succ]
            refine wpAnyH_take (i := 9) (v := ?zv9) (by simp only [List.getElem?_toArray, List.getElem?_cons_succ, List.getElem?_cons_zero]; rfl) (by kernel_rfl) (by kernel_rfl) (by kernel_rfl) (by exact fun _ _ _ h => h) (Or.inl ⟨by kernel_rfl, ?zy9⟩) hHeld ?_
            case zy9 => (intro w hSw; (try dsimp only at hSw); have hy0 := hSw.1.cE; have hy1 := hSw.1.cT; have hy4 := hSw.1.cU; have hy2 := hSw.2.cE; have hy3 := hSw.2.cT; have hy5 := hSw.2.cU; rw [← FE.out] at hy2; rw [← FT.out] at hy3; rw [← FU.out] at hy5; clear hSw; go_simp; try (with_reducible rfl))
            try simp only [Act.put, List.setIfInBounds_toArray, List.set_cons_zero, List.set_cons_succ]
            refine wpAnyH_take (i := 10) (v := ?zv10) (by simp only [List.getElem?_toArray, List.getElem?_cons_succ, List.getElem?_cons_zero]; rfl) (by kernel_rfl) (by kernel_rfl) (by kernel_rfl) (by exact fun _ _ _ h => h) (Or.inl ⟨by kernel_rfl, ?zy10⟩) hHeld ?_
            case zy10 => (intro w hSw; (try dsimp only at hSw); have hy0 := hSw.1.cE; have hy1 := hSw.1.cT; have hy4 := hSw.1.cU; have hy2 := hSw.2.cE; have hy3 := hSw.2.cT; have hy5 := hSw.2.cU; rw [← FE.out] at hy2; rw [← FT.out] at hy3; rw [← FU.out] at hy5; clear hSw; go_simp; try (with_reducible rfl))
            try simp only [Act.put, List.setIfInBounds_toArray, List.set_cons_zero, List.set_cons_succ]
            refine wpAnyH_take (i := 11) (v := ?zv11) (by simp only [List.getElem?_toArray, List.getElem?_cons_succ, List.getElem?_cons_zero]; rfl) (by kernel_rfl) (by kernel_rfl) (by kernel_rfl) (by exact fun _ _ _ h => h) (Or.inl ⟨by kernel_rfl, ?zy11⟩) hHeld ?_
            case zy11 => (intro w hSw; (try dsimp only at hSw); have hy0 := hSw.1.cE; have hy1 := hSw.1.cT; have hy4 := hSw.1.cU; have hy2 := hSw.2.cE; have hy3 := hSw.2.cT; have hy5 := hSw.2.cU; rw [← FE.out] at hy2; rw [← FT.out] at hy3; rw [← FU.out] at hy5; clear hSw; go_simp; try (with_reducible rfl))
            try simp only [Act.put, List.setIfInBounds_toArray, List.set_cons_zero, List.set_cons_succ]
            refine wpAnyH_take (i := 12) (v := ?zv12) (by simp only [List.getElem?_toArray, List.getElem?_cons_succ, List.getElem?_cons_zero]; rfl) (by kernel_rfl) (by kernel_rfl) (by kernel_rfl) (by exact fun _ _ _ h => h) (Or.inl ⟨by kernel_rfl, ?zy12⟩) hHeld ?_
            case zy12 => (intro w hSw; (try dsimp only at hSw); have hy0 := hSw.1.cE; have hy1 := hSw.1.cT; have hy4 := hSw.1.cU; have hy2 := hSw.2.cE; have hy3 := hSw.2.cT; have hy5 := hSw.2.cU; rw [← FE.out] at hy2; rw [← FT.out] at hy3; rw [← FU.out] at hy5; clear hSw; go_simp; try (with_reducible rfl))
            try simp only [Act.put, List.setIfInBounds_toArray, List.set_cons_zero, List.set_cons_succ]
            refine wpAnyH_take (i := 13) (v := ?zv13) (by simp only [List.getElem?_toArray, List.getElem?_cons_succ, List.getElem?_cons_zero]; rfl) (by kernel_rfl) (by kernel_rfl) (by kernel_rfl) (by exact fun _ _ _ h => h) (Or.inl ⟨by kernel_rfl, ?zy13⟩) hHeld ?_
            case zy13 => (intro w hSw; (try dsimp only at hSw); have hy0 := hSw.1.cE; have hy1 := hSw.1.cT; have hy4 := hSw.1.cU; have hy2 := hSw.2.cE; have hy3 := hSw.2.cT; have hy5 := hSw.2.cU; rw [← FE.out] at hy2; rw [← FT.out] at hy3; rw [← FU.out] at hy5; clear hSw; go_simp; try (with_reducible rfl))
            try simp only [Act.put, List.setIfInBounds_toArray, List.set_cons_zero, List.set_cons_succ]
            refine wpAnyH_take (i := 14) (v := ?zv14) (by simp only [List.getElem?_toArray, List.getElem?_cons_succ, List.getElem?_cons_zero]; rfl) (by kernel_rfl) (by kernel_rfl) (by kernel_rfl) (by exact fun _ _ _ h => h) (Or.inl ⟨by kernel_rfl, ?zy14⟩) hHeld ?_
            case zy14 => (intro w hSw; (try dsimp only at hSw); have hy0 := hSw.1.cE; have hy1 := hSw.1.cT; have hy4 := hSw.1.cU; have hy2 := hSw.2.cE; have hy3 := hSw.2.cT; have hy5 := hSw.2.cU; rw [← FE.out] at hy2; rw [← FT.out] at hy3; rw [← FU.out] at hy5; clear hSw; go_simp; try (with_reducible rfl))
            try simp only [Act.put, List.setIfInBounds_toArray, List.set_cons_zero, List.set_cons_succ]
            refine wpAnyH_take (i := 15) (v := ?zv15) (by simp only [List.getElem?_toArray, List.getElem?_cons_succ, List.getElem?_cons_zero]; rfl) (by kernel_rfl) (by kernel_rfl) (by kernel_rfl) (by exact fun _ _ _ h => h) (Or.inl ⟨by kernel_rfl, ?zy15⟩) hHeld ?_
            case zy15 => (intro w hSw; (try dsimp only at hSw); have hy0 := hSw.1.cE; have hy1 := hSw.1.cT; have hy4 := hSw.1.cU; have hy2 := hSw.2.cE; have hy3 := hSw.2.cT; have hy5 := hSw.2.cU; rw [← FE.out] at hy2; rw [← FT.out] at hy3; rw [← FU.out] at hy5; clear hSw; go_simp; try (with_reducible rfl))
            try simp only [Act.put, List.setIfInBounds_toArray, List.set_cons_zero, List.set_cons_succ]
            refine wpAnyH_take (i := 16) (v := ?zv16) (by simp only [List.getElem?_toArray, List.getElem?_cons_succ, List.getElem?_cons_zero]; rfl) (by kernel_rfl) (by kernel_rfl) (by kernel_rfl) (by exact fun _ _ _ h => h) (Or.inl ⟨by kernel_rfl, ?zy16⟩) hHeld ?_
            case zy16 => (intro w hSw; (try dsimp only at hSw); have hy0 := hSw.1.cE; have hy1 := hSw.1.cT; have hy4 := hSw.1.cU; have hy2 := hSw.2.cE; have hy3 := hSw.2.cT; have hy5 := hSw.2.cU; rw [← FE.out] at hy2; rw [← FT.out] at hy3; rw [← FU.out] at hy5; clear hSw; go_simp; try (with_reducible rfl))
            try simp only [Act.put, List.setIfInBounds_toArray, List.set_cons_zero, List.set_cons_succ]
            refine wpAnyH_take (i := 17) (v := ?zv17) (by simp only [List.getElem?_toArray, List.getElem?_cons_succ, List.getElem?_cons_zero]; rfl) (by kernel_rfl) (by kernel_rfl) (by kernel_rfl) (by exact fun _ _ _ h => h) (Or.inl ⟨by kernel_rfl, ?zy17⟩) hHeld ?_
            case zy17 => (intro w hSw; (try dsimp only at hSw); have hy0 := hSw.1.cE; have hy1 := hSw.1.cT; have hy4 := hSw.1.cU; have hy2 := hSw.2.cE; have hy3 := hSw.2.cT; have hy5 := hSw.2.cU; rw [← FE.out] at hy2; rw [← FT.out] at hy3; rw [← FU.out] at hy5; clear hSw; go_simp; try (with_reducible rfl))
            try simp only [Act.put, List.setIfInBounds_toArray, List.set_cons_zero, List.set_cons_succ]
            refine wpAnyH_take (i := 18) (v := ?zv18) (by simp only [List.getElem?_toArray, List.getElem?_cons_succ, List.getElem?_cons_zero]; rfl) (by kernel_rfl) (by kernel_rfl) (by kernel_rfl) (by exact fun _ _ _ h => h) (Or.inl ⟨by kernel_rfl, ?zy18⟩) hHeld ?_
            case zy18 => (intro w hSw; (try dsimp only at hSw); have hy0 := hSw.1.cE; have hy1 := hSw.1.cT; have hy4 := hSw.1.cU; have hy2 := hSw.2.cE; have hy3 := hSw.2.cT; have hy5 := hSw.2.cU; rw [← FE.out] at hy2; rw [← FT.out] at hy3; rw [← FU.out] at hy5; clear hSw; go_simp; try (with_reducible rfl))
            try simp only [Act.put, List.setIfInBounds_toArray, List.set_cons_zero, List.set_cons_succ]
            refine wpAnyH_take (i := 19) (v := ?zv19) (by simp only [List.getElem?_toArray, List.getElem?_cons_succ, List.getElem?_cons_zero]; rfl) (by kernel_rfl) (by kernel_rfl) (by kernel_rfl) (by exact fun _ _ _ h => h) (Or.inl ⟨by kernel_rfl, ?zy19⟩) hHeld ?_
            case zy19 => (intro w hSw; (try dsimp only at hSw); have hy0 := hSw.1.cE; have hy1 := hSw.1.cT; have hy4 := hSw.1.cU; have hy2 := hSw.2.cE; have hy3 := hSw.2.cT; have hy5 := hSw.2.cU; rw [← FE.out] at hy2; rw [← FT.out] at hy3; rw [← FU.out] at hy5; clear hSw; go_simp; try (with_reducible rfl))
            try simp only [Act.put, List.setIfInBounds_toArray, List.set_cons_zero, List.set_cons_succ]
            refine wpAnyH_take (i := 20) (v := ?zv20) (by simp only [List.getElem?_toArray, List.getElem?_cons_succ, List.getElem?_cons_zero]; rfl) (by kernel_rfl) (by kernel_rfl) (by kernel_rfl) (by exact fun _ _ _ h => h) (Or.inl ⟨by kernel_rfl, ?zy20⟩) hHeld ?_
            case zy20 => (intro w hSw; (try dsimp only at hSw); have hy0 := hSw.1.cE; have hy1 := hSw.1.cT; have hy4 := hSw.1.cU; have hy2 := hSw.2.cE; have hy3 := hSw.2.cT; have hy5 := hSw.2.cU; rw [← FE.out] at hy2; rw [← FT.out] at hy3; rw [← FU.out] at hy5; clear hSw; go_simp; try (with_reducible rfl))
            try simp only [Act.put, List.setIfInBounds_toArray, List.set_cons_zero, List.set_cons_succ]
            refine wpAnyH_take (i := 21) (by simp only [List.getElem?_toArray, List.getElem?_cons_succ, List.getElem?_cons_zero]; rfl) (by kernel_rfl) (by kernel_rfl) (by kernel_rfl) (by exact fun _ _ _ h => h) (by exact yieldsIf_ldRB (by kernel_rfl) (.tmp 118) rfl K1 rfl (fun _ h => h.1)) hHeld ?_
            try simp only [Act.put, List.setIfInBounds_toArray, List.set_cons_zero, List.set_cons_succ]
            refine wpAnyH_take (i := 23) (v := ?zv23) (by simp only [List.getElem?_toArray, List.getElem?_cons_succ, List.getElem?_cons_zero]; rfl) (by kernel_rfl) (by kernel_rfl) (by kernel_rfl) (by exact fun _ _ _ h => h) (Or.inl ⟨by kernel_rfl, ?zy23⟩) hHeld ?_
            case zy23 => (intro w hSw; (try dsimp only at hSw); have hy0 := hSw.1.cE; have hy1 := hSw.1.cT; have hy4 := hSw.1.cU; have hy2 := hSw.2.cE; have hy3 := hSw.2.cT; have hy5 := hSw.2.cU; rw [← FE.out] at hy2; rw [← FT.out] at hy3; rw [← FU.out] at hy5; clear hSw; go_simp; try (with_reducible rfl))
            try simp only [Act.put, List.setIfInBounds_toArray, List.set_cons_zero, List.set_cons_succ]
            refine wpAnyH_take (i := 24) (by simp only [List.getElem?_toArray, List.getElem?_cons_succ, List.getElem?_cons_zero]; rfl) (by kernel_rfl) (by kernel_rfl) (by kernel_rfl) (by exact fun _ _ _ h => h) (by exact yieldsIf_ldRB (by kernel_rfl) (.tmp 121) rfl K2 rfl (fun _ h => h.2)) hHeld ?_
            try simp only [Act.put, List.setIfInBounds_toArray, List.set_cons_zero, List.set_cons_succ]
            refine wpAnyH_ready (rs := [22]) (by kernel_rfl) (by simp) ?_
            refine AllReadyH.cons (by simp only [List.getElem?_toArray, List.getElem?_cons_succ, List.getElem?_cons_zero]; rfl) (fun KK hKK => ?_) AllReadyH.nil
            rw [if_pos (by kernel_rfl)]
            go_simp
            refine (hL1 _).mono ?_
            rintro e w16 ⟨rfl, h16⟩
            have h16 := below_undrew2 h16
            have r1 := r1.ext h16
            have r2 := r2.ext h16
            have hb := hb.trans (h16.mono hb.size)
            go_wp2_with fail
            refine hKK.out _ _ ?_ (fun hHeld => ?_)
            · exact ⟨r1, r2⟩
            clear hKK KK
            try simp only [Act.put, List.setIfInBounds_toArray, List.set_cons_zero, List.set_cons_succ]
            refine wpAnyH_ready (rs := [25]) (by kernel_rfl) (by simp) ?_
            refine AllReadyH.cons (by simp only [List.getElem?_toArray, List.getElem?_cons_succ, List.getElem?_cons_zero]; rfl) (fun KK hKK => ?_) AllReadyH.nil
            rw [if_pos (by kernel_rfl)]
            go_simp
            refine (hL2 _).mono ?_
            rintro e w17 ⟨rfl, h17⟩
            have r1 := r1.ext h17
            have r2 := r2.ext h17
            have hb := hb.trans (h17.mono hb.size)
            go_wp2_with fail
            refine hKK.out _ _ ?_ (fun hHeld => ?_)
            · exact ⟨r1, r2⟩
            clear hKK KK
            try simp only [Act.put, List.setIfInBounds_toArray, List.set_cons_zero, List.set_cons_succ]
            refine wpAnyH_take (i := 26) (v := ?zv26) (by simp only [List.getElem?_toArray, List.getElem?_cons_succ, List.getElem?_cons_zero]; rfl) (by kernel_rfl) (by kernel_rfl) (by kernel_rfl) (by exact fun _ _ _ h => h) (Or.inl ⟨by kernel_rfl, ?zy26⟩) hHeld ?_
            case zy26 => (intro w hSw; (try dsimp only at hSw); have hy0 := hSw.1.cE; have hy1 := hSw.1.cT; have hy4 := hSw.1.cU; have hy2 := hSw.2.cE; have hy3 := hSw.2.cT; have hy5 := hSw.2.cU; rw [← FE.out] at hy2; rw [← FT.out] at hy3; rw [← FU.out] at hy5; clear hSw; go_simp; try (with_reducible rfl))
            try simp only [Act.put, List.setIfInBounds_toArray, List.set_cons_zero, List.set_cons_succ]
            refine wpAnyH_take (i := 27) (v := ?zv27) (by simp only [List.getElem?_toArray, List.getElem?_cons_succ, List.getElem?_cons_zero]; rfl) (by kernel_rfl) (by kernel_rfl) (by kernel_rfl) (by exact fun _ _ _ h => h) (Or.inl ⟨by kernel_rfl, ?zy27⟩) hHeld ?_
            case zy27 => (intro w hSw; (try dsimp only at hSw); have hy0 := hSw.1.cE; have hy1 := hSw.1.cT; have hy4 := hSw.1.cU; have hy2 := hSw.2.cE; have hy3 := hSw.2.cT; have hy5 := hSw.2.cU; rw [← FE.out] at hy2; rw [← FT.out] at hy3; rw [← FU.out] at hy5; clear hSw; go_simp; try (with_reducible rfl))
            try simp only [Act.put, List.setIfInBounds_toArray, List.set_cons_zero, List.set_cons_succ]
            refine wpAnyH_take (i := 28) (v := ?zv28) (by simp only [List.getElem?_toArray, List.getElem?_cons_succ, List.getElem?_cons_zero]; rfl) (by kernel_rfl) (by kernel_rfl) (by kernel_rfl) (by exact fun _ _ _ h => h) (Or.inl ⟨by kernel_rfl, ?zy28⟩) hHeld ?_
            case zy28 => (intro w hSw; (try dsimp only at hSw); have hy0 := hSw.1.cE; have hy1 := hSw.1.cT; have hy4 := hSw.1.cU; have hy2 := hSw.2.cE; have hy3 := hSw.2.cT; have hy5 := hSw.2.cU; rw [← FE.out] at hy2; rw [← FT.out] at hy3; rw [← FU.out] at hy5; clear hSw; go_simp; try (with_reducible rfl))
            try simp only [Act.put, List.setIfInBounds_toArray, List.set_cons_zero, List.set_cons_succ]
            refine wpAnyH_done (by kernel_rfl) ?_ _
            go_wp2_with fail
            go_ret
            exact ⟨rfl, hb⟩
end Go.Proofs.YtdijgidlachnjaaDoor
