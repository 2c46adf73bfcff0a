/- ClipNil: the walk. Conditions: the numbers fit. -/
import Derived.Test.YtlheoepmhpmfaaaClipKN
import Derived.Test.YtlheoepmhpmfaaaClipG
import Derived.Test.YtlheoepmhpmfaaaRefCut
import Derived.Test.YtlheoepmhpmfaaaRefJoin
namespace Go.Proofs.Ytlheoepmhpmfaaa
open Go.RowKit

theorem u8_bump1 (q : UInt8) : IntKind.u8.wrap ((q.toNat : Int) + 1) = ((UInt8.ofNat (q.toNat + 1)).toNat : Int) := by
  rw [u8_ofNat, IntKind.wrap_u8]; omega
theorem nil_put (d : List UInt8) (h : d.length = 64) : putB ⟨[], false⟩ ⟨true, false, d⟩ = (⟨d, false⟩, [], false, 0) := by
  have hr : refuseN ⟨[], false⟩ ⟨true, false, d⟩ = 0 := by
    unfold refuseN
    rw [if_neg (by simp), if_neg (by simp; omega), if_neg (by simp; omega), if_neg (by simp; omega)]
  rw [putB_more (by simp) hr rfl]
  rfl
theorem one_pc (q : List UInt8) (h : q.length ≤ 40) : splitP q = [⟨true, true, q⟩] := by
  have hc : cnt q.length = 1 := by unfold cnt; split <;> omega
  unfold splitP
  rw [hc]
  have h1 : q.take 64 = q := List.take_of_length_le (by omega)
  simp [List.range_succ, pieceAt, hc, h1]
set_option maxHeartbeats 4000000 in
set_option maxRecDepth 20000 in
theorem ClipNil_walk (z : Int) (A : Option Addr) (l : List UInt8) (m c b : Nat) (w : World) (hz1 : -9223372036854775808 ≤ z) (hz2 : z ≤ 9223372036854775807) (hs : Bs w b A l) (hl : l.length = m) (hm : m ≤ maxLen) :
    Calls Try.prog 6 #[.int .i64 z, .slice A m c] w fun e w' => e = .returned (.bool true) ∧ Below w.heap.size w w' := by
  obtain ⟨q, hq⟩ : ∃ q, q = l.take 40 := ⟨_, rfl⟩
  have hql : q.length ≤ 40 := by rw [hq]; simp; omega
  have hcut := fun (W : World) (h : Bs W b A l) => Cut_calls A l m c b 40 W h hl hm (by simp; omega)
  rw [show (40 : Int).toNat = 40 from rfl, ← hq] at hcut
  clear hq
  obtain ⟨mq, hmq⟩ : ∃ mq, mq = q.length := ⟨_, rfl⟩
  rw [← hmq] at hql
  have HMQ := Lib.hid hmq
  clear hmq hm
  by_cases h0 : z < 0
  · have hC := fun W => Count_out z W (Or.inl h0)
    have h0' : ¬ 0 ≤ z := by omega
    have hmk : ∀ w : World, (Instr.makeSlice 25 (.int .i64 64) (.int .i64 64)).run Try.prog w = .ok (.slice (some ⟨w.heap.size, 0, none⟩) 64 64) (w.alloc (.cells (bv (List.replicate 64 0)).toArray 5)) := fun _ => by kernel_rfl
    go_enter Try.func6, Try.ntmps6
    go_wp2_with fail
    refine (Awake_calls _).mono ?_
    rintro e w1 ⟨rfl, h1⟩
    go_wp2_with fail
    refine (hcut _ (Sl.ext hs h1)).mono ?_
    rintro e w2 ⟨vq, rfl, hrq, h2⟩
    obtain ⟨Aq, cq, bq, rfl, -, -, -, -, hsq, -⟩ := hrq.sl
    rw [← HMQ.out] at hrq ⊢
    have hb2 := h1.trans (h2.mono h1.size)
    clear hcut h1 h2 hs hl
    go_wp2_with fail
    refine (Put_nil true true _ _).mono ?_
    rintro e w3 ⟨rfl, h3⟩
    go_wp2_with fail
    refine (Clear_nil _).mono ?_
    rintro e w4 ⟨rfl, rfl⟩
    have hs3 := Sl.ext hsq h3
    have hb3 := hb2.trans (h3.mono hb2.size)
    have H4 := Lib.hid hb3.size
    clear hsq hrq h3
    go_wp2_with fail
    refine (Join_calls _ [.slice Aq mq cq] [q] 1 1 w4.heap.size _ (Sl.cells_new w4 _ _) ((Bss.cons hs3 HMQ.out.symm (Bss.nil_ _)).ext (below_alloc1 w4 _)) rfl (by simp [maxLen]) (by simp; have := HMQ.out; omega)).mono ?_
    rintro e w5 ⟨vm, rfl, hrm, h5⟩
    have h5b := below_alloc1 w4 (.cells #[.slice Aq mq cq] 25)
    replace h5 := h5b.trans (h5.mono h5b.size)
    replace hrm : Row w5 w4.heap.size vm q := (hrm.cast (by simp)).low (by simp)
    obtain ⟨Am, cm, bm, rfl, hcm1, hcm2, -, hbm, hsm, hom⟩ := hrm.sl
    have HMO := Lib.hid (Row.lt hrm)
    rw [← HMQ.out] at hcm1 hrm hom HMO ⊢
    have hs5 := Sl.ext hs3 h5
    have hb5 := hb3.trans (h5.mono hb3.size)
    have hlt4 := fun h => Bs.lt hs3 h
    have h45 := h5.size
    clear h5 h5b hs3
    have q0 : BoxK (w5.alloc (.cells #[.slice none 0 0, .bool false] 34)) w5.heap.size (.slice none 0 0) false := heap_alloc_new w5 _
    have hba := below_alloc1 w5 (.cells #[.slice none 0 0, .bool false] 34)
    replace hmk := hmk (w5.alloc (.cells #[.slice none 0 0, .bool false] 34))
    have hs64 : Bs ((w5.alloc (.cells #[.slice none 0 0, .bool false] 34)).alloc (.cells (bv (List.replicate 64 0)).toArray 5)) (w5.alloc (.cells #[.slice none 0 0, .bool false] 34)).heap.size (some ⟨(w5.alloc (.cells #[.slice none 0 0, .bool false] 34)).heap.size, 0, none⟩) (List.replicate 64 0) := Sl.cells_new _ _ _
    have hbc := below_alloc1 (w5.alloc (.cells #[.slice none 0 0, .bool false] 34)) (.cells (bv (List.replicate 64 0)).toArray 5)
    simp only [World.size_alloc] at hmk hs64 hbc
    obtain ⟨w6, hw6⟩ : ∃ w6, w6 = (w5.alloc (.cells #[.slice none 0 0, .bool false] 34)).alloc (.cells (bv (List.replicate 64 0)).toArray 5) := ⟨_, rfl⟩
    rw [← hw6] at hmk hs64 hbc
    have q6 := q0.ext (by rw [World.size_alloc]; exact hbc)
    have hbd := hba.trans (hbc.mono (by simp))
    have hb6 := hb5.trans (hbd.mono hb5.size)
    have hs6 := Sl.ext hs5 hbd
    have hm6 := Sl.ext hsm hbd
    have hr6 := Row.ext hrm hbd
    have hltm := fun h => Bs.lt hsm h
    have h56 := hbd.size
    obtain ⟨d64, hd64⟩ : ∃ d, d = List.replicate 64 (0 : UInt8) := ⟨_, rfl⟩
    rw [← hd64] at hs64
    have hdl : d64.length = 64 := by rw [hd64]; simp
    have HDL := Lib.hid hdl
    clear hd64 hdl hw6 q0 hba hbc hbd hs5 hsm hrm
    go_wp2_with fail
    refine (Join_calls _ [.slice Am mq cm, .slice (some ⟨w5.heap.size + 1, 0, none⟩) 64 64] [q, d64] 2 2 w6.heap.size _ (Sl.cells_new w6 _ _) ((Bss.cons hm6 HMQ.out.symm (Bss.cons hs64 HDL.out (Bss.nil_ _))).ext (below_alloc1 w6 _)) rfl (by simp [maxLen]) (by simp; have := HMQ.out; have := HDL.out; omega)).mono ?_
    rintro e w7 ⟨vj, rfl, hrj, h7⟩
    have h7b := below_alloc1 w6 (.cells #[.slice Am mq cm, .slice (some ⟨w5.heap.size + 1, 0, none⟩) 64 64] 25)
    replace h7 := h7b.trans (h7.mono h7b.size)
    obtain ⟨J, hJ⟩ : ∃ J, J = q ++ d64 := ⟨_, rfl⟩
    replace hrj := hrj.cast (show [q, d64].flatten = J by simp [hJ])
    have hJl : J.length = mq + 64 := by rw [hJ, List.length_append, HDL.out, HMQ.out]
    obtain ⟨Aj, cj, bj, rfl, -, -, -, -, hsj, -⟩ := hrj.sl
    rw [hJl]
    have HJL := Lib.hid hJl
    have q7 := q6.ext h7
    have hs7 := Sl.ext hs6 h7
    have hm7 := Sl.ext hm6 h7
    have hr7 := Row.ext hr6 h7
    have hb7 := hb6.trans (h7.mono hb6.size)
    have h67 := h7.size
    clear hJ hJl hrj h7 h7b q6 hs6 hm6 hr6 hs64 hmk hb6
    go_wp2_with fail
    refine (Cut_calls Aj J (mq + 64) cj bj 64 _ hsj HJL.out (by simp only [maxLen]; omega) (by simp; omega)).mono ?_
    rintro e w8 ⟨vd, rfl, hrd, h8⟩
    rw [show (64 : Int).toNat = 64 from rfl] at hrd
    obtain ⟨d, hd⟩ : ∃ d, d = J.take 64 := ⟨_, rfl⟩
    rw [← hd] at hrd
    have hdl : d.length = 64 := by rw [hd, List.length_take, HJL.out]; omega
    obtain ⟨Ad, cd, bd, rfl, -, -, -, -, hsd, -⟩ := hrd.sl
    rw [hdl]
    have HD := Lib.hid hdl
    have q8 := q7.ext h8
    have hs8 := Sl.ext hs7 h8
    have hm8 := Sl.ext hm7 h8
    have hr8 := Row.ext hr7 h8
    have hb8 := hb7.trans (h8.mono hb7.size)
    have h78 := h8.size
    have hPut := Put_calls w8.heap.size w5.heap.size (.slice none 0 0) ⟨[], false⟩ ⟨true, false, d⟩ Ad cd bd w8 ⟨q8, Row.nil_ _ _, fun _ => rfl⟩ (by simp) hsd (by rw [hdl]; simp [maxLen]) (Nat.le_refl _)
    rw [nil_put d hdl] at hPut
    simp only [hdl] at hPut
    clear hd hdl hrd h8 q7 hs7 hm7 hr7 hb7 hsj
    go_wp2_with fail
    refine hPut.mono ?_
    rintro e w9 ⟨v9, vo9, rfl, hK9, -, hm9⟩
    have hs9 := Bs.modne hs8 hm9 (fun hne h => by rcases h with h | h; have := hlt4 hne; omega; cases h)
    have hmm9 := Bs.modne hm8 hm9 (fun hne h => by rcases h with h | h; have := hltm hne; omega; cases h)
    have hr9 := Row.mod hr8 hm9 (fun k hk h => by rcases h with h | h; exact (q8.apart hr8) (hk.trans (congrArg some h)); cases h)
    have hb9 := hb8.trans (hm9.below (B := w.heap.size) hb8.size (fun i hi h => by rcases h with h | h; have := hb5.size; omega; cases h))
    have h89 := hm9.size
    clear hPut hs8 hm8 hr8 hb8 q8 hm9 hsd
    go_wp2_with fail
    refine (Split_calls Am q mq cm bm _ hmm9 HMQ.out.symm (by omega) hcm1 hcm2).mono ?_
    rintro e w10 ⟨vx, xs, rfl, hxp, hrow, hin, h10⟩
    rw [one_pc q (by rw [← HMQ.out]; omega)] at hxp
    have hxl : xs.length = 1 := by have := congrArg List.length hxp; simpa using this
    obtain ⟨x0, rfl⟩ : ∃ x0, xs = [x0] := by
      match xs, hxl with
      | [a], _ => exact ⟨a, rfl⟩
    simp only [List.map_cons, List.map_nil, List.cons.injEq, and_true] at hxp
    obtain ⟨Ax, cx, bx, rfl, -, -, -, hbx, hsx, -⟩ := ownsP_sl hrow
    obtain ⟨⟨hxd, -⟩, hxb⟩ := hin x0 (by simp)
    rw [hxp] at hxd
    have hs10 := Sl.ext hs9 h10
    have hr10 := Row.ext hr9 h10
    have hK10 := hK9.ext h10
    have hb10 := hb9.trans (h10.mono hb9.size)
    have hxne : pvs [x0] ≠ [] := by simp [pvs]
    have hbxl := Sl.lt hsx hxne
    have HXP := Lib.hid hxp
    have HG5 := Lib.hid hb5.size
    clear hin hrow hxl hxp hs9 hr9 hK9 hb9 h10 hmm9 hb5 hb3 hb2
    go_wp2_with fail
    go_loopw [64] (fun i wr => ∃ (k : Nat) (X : List UInt8), k ≤ mq ∧ i = .int .i64 k ∧ Hid (X.length = mq) ∧ Hid (Row wr w4.heap.size (.slice Am mq cm) X) ∧ Hid (Mod (fun i => (Value.slice Am mq cm).ownBlock = some i) w10 wr)) (fun i _ => mq - (intOf i).toNat)
    case atStart => exact ⟨0, q, Nat.zero_le _, rfl, Lib.hid HMQ.out.symm, Lib.hid hr10, Lib.hid (Mod.refl _ _)⟩
    case round =>
      obtain ⟨k, X, hk, rfl, hXl, hrX, hmod⟩ := hrel
      by_cases hlt : k < mq
      · obtain ⟨g', cap, hv, -, hgl, hcell, hfr, hset⟩ := Row.set_ hrX.out (k := k) (by rw [hXl.out]; exact hlt)
        injection hv with hv hz1 hz2
        subst hv
        clear hz1 hz2
        obtain ⟨x, hx⟩ : ∃ x, x = X[k]'(by rw [hXl.out]; exact hlt) := ⟨_, rfl⟩
        rw [← hx] at hcell
        have hbu := u8_ofNat (x.toNat + 1)
        rw [show ((x.toNat + 1 : Nat) : Int) % 256 = ((x.toNat : Int) + 1) % 256 by omega] at hbu
        have HSET := Lib.hid (hset (UInt8.ofNat (x.toNat + 1)))
        clear hset hx hs10 hK10 hsx hxd hcm1 hcm2
        go_wp2_with fail
        refine ⟨⟨k + 1, _, by omega, by go_num, Lib.hid (by rw [List.length_set]; exact hXl.out), Lib.hid (HSET.out _ _ rfl (by rw [hbu])), Lib.hid (hmod.out.trans (Mod.setCell wr ⟨g', k, none⟩ _) (fun i _ h => h) (fun i _ h => ?_))⟩, by simp [intOf]; omega⟩
        have h2 : i = g' := h
        rw [h2]
        rfl
      · have hmo := HMO.out
        have hm := hmod.out
        have hX := hrX.out
        have hKz : KIn wr w8.heap.size w5.heap.size v9 ⟨d, false⟩ :=
          ⟨hK10.box.mod hm (fun h => hK10.box.apart hr10 h), hK10.row.mod hm (fun k hk h => by have h1 := (hK10.row.lt k hk).1; have h2 := (hmo k h).2; omega), hK10.none_⟩
        have hH := Held_calls w8.heap.size w5.heap.size v9 ⟨d, false⟩ wr hKz
        simp only [HD.out] at hH
        have sxz := Sl.mod hsx hm (fun h => by have h2 := (hmo _ h).2; omega)
        obtain ⟨off, rfl, a0, a1, a2⟩ := sl_pv sxz (k := 0) (by simp)
        simp only [Nat.zero_mul, Nat.add_zero, List.getElem_cons_zero, HXP.out] at a0 a1 a2
        rw [← HMQ.out] at a2
        have xdz := Bs.modne hxd hm (fun hne h => by have h2 := (hmo _ h).2; omega)
        have spz := Bs.modne hs10 hm (fun hne h => by have h2 := hlt4 hne; have h3 := (hmo _ h).1; omega)
        have hbz := hb10.trans (hm.below (B := w.heap.size) hb10.size (fun i hi h => by have h2 := (hmo i h).1; have := H4.out; omega))
        clear hmo hm hX hKz hmod hrX hK10 hr10 hs10 hxd hsx
        go_wp2_with fail
        refine (Open_nil _).mono ?_
        rintro e w11 ⟨rfl, rfl⟩
        go_wp2_with fail
        refine (Held_nil _).mono ?_
        rintro e w12 ⟨rfl, rfl⟩
        go_wp2_with fail
        refine (hC _).mono ?_
        rintro e w13 ⟨rfl, rfl⟩
        go_wp2_with fail
        refine hH.mono ?_
        rintro e w14 ⟨rfl, rfl⟩
        go_wp2_with fail
        refine (Same_calls x0.A Aq q q mq mq x0.c cq x0.b bq _ xdz spz HMQ.out.symm HMQ.out.symm (by simp only [maxLen]; omega) (by simp only [maxLen]; omega)).mono ?_
        rintro e w15 ⟨rfl, jj, rfl⟩
        rw [show decide (q = q) = true by simp]
        go_wp2_with fail
        go_ret
        exact ⟨rfl, below_drewN hbz _⟩
  · by_cases h1 : 1024 < z
    · have hC := fun W => Count_out z W (Or.inr h1)
      have h0' : 0 ≤ z := by omega
      have h1' : ¬ z ≤ 1024 := by omega
      have hmk : ∀ w : World, (Instr.makeSlice 25 (.int .i64 64) (.int .i64 64)).run Try.prog w = .ok (.slice (some ⟨w.heap.size, 0, none⟩) 64 64) (w.alloc (.cells (bv (List.replicate 64 0)).toArray 5)) := fun _ => by kernel_rfl
      go_enter Try.func6, Try.ntmps6
      go_wp2_with fail
      refine (Awake_calls _).mono ?_
      rintro e w1 ⟨rfl, h1⟩
      go_wp2_with fail
      refine (hcut _ (Sl.ext hs h1)).mono ?_
      rintro e w2 ⟨vq, rfl, hrq, h2⟩
      obtain ⟨Aq, cq, bq, rfl, -, -, -, -, hsq, -⟩ := hrq.sl
      rw [← HMQ.out] at hrq ⊢
      have hb2 := h1.trans (h2.mono h1.size)
      clear hcut h1 h2 hs hl
      go_wp2_with fail
      refine (Put_nil true true _ _).mono ?_
      rintro e w3 ⟨rfl, h3⟩
      go_wp2_with fail
      refine (Clear_nil _).mono ?_
      rintro e w4 ⟨rfl, rfl⟩
      have hs3 := Sl.ext hsq h3
      have hb3 := hb2.trans (h3.mono hb2.size)
      have H4 := Lib.hid hb3.size
      clear hsq hrq h3
      go_wp2_with fail
      refine (Join_calls _ [.slice Aq mq cq] [q] 1 1 w4.heap.size _ (Sl.cells_new w4 _ _) ((Bss.cons hs3 HMQ.out.symm (Bss.nil_ _)).ext (below_alloc1 w4 _)) rfl (by simp [maxLen]) (by simp; have := HMQ.out; omega)).mono ?_
      rintro e w5 ⟨vm, rfl, hrm, h5⟩
      have h5b := below_alloc1 w4 (.cells #[.slice Aq mq cq] 25)
      replace h5 := h5b.trans (h5.mono h5b.size)
      replace hrm : Row w5 w4.heap.size vm q := (hrm.cast (by simp)).low (by simp)
      obtain ⟨Am, cm, bm, rfl, hcm1, hcm2, -, hbm, hsm, hom⟩ := hrm.sl
      have HMO := Lib.hid (Row.lt hrm)
      rw [← HMQ.out] at hcm1 hrm hom HMO ⊢
      have hs5 := Sl.ext hs3 h5
      have hb5 := hb3.trans (h5.mono hb3.size)
      have hlt4 := fun h => Bs.lt hs3 h
      have h45 := h5.size
      clear h5 h5b hs3
      have q0 : BoxK (w5.alloc (.cells #[.slice none 0 0, .bool false] 34)) w5.heap.size (.slice none 0 0) false := heap_alloc_new w5 _
      have hba := below_alloc1 w5 (.cells #[.slice none 0 0, .bool false] 34)
      replace hmk := hmk (w5.alloc (.cells #[.slice none 0 0, .bool false] 34))
      have hs64 : Bs ((w5.alloc (.cells #[.slice none 0 0, .bool false] 34)).alloc (.cells (bv (List.replicate 64 0)).toArray 5)) (w5.alloc (.cells #[.slice none 0 0, .bool false] 34)).heap.size (some ⟨(w5.alloc (.cells #[.slice none 0 0, .bool false] 34)).heap.size, 0, none⟩) (List.replicate 64 0) := Sl.cells_new _ _ _
      have hbc := below_alloc1 (w5.alloc (.cells #[.slice none 0 0, .bool false] 34)) (.cells (bv (List.replicate 64 0)).toArray 5)
      simp only [World.size_alloc] at hmk hs64 hbc
      obtain ⟨w6, hw6⟩ : ∃ w6, w6 = (w5.alloc (.cells #[.slice none 0 0, .bool false] 34)).alloc (.cells (bv (List.replicate 64 0)).toArray 5) := ⟨_, rfl⟩
      rw [← hw6] at hmk hs64 hbc
      have q6 := q0.ext (by rw [World.size_alloc]; exact hbc)
      have hbd := hba.trans (hbc.mono (by simp))
      have hb6 := hb5.trans (hbd.mono hb5.size)
      have hs6 := Sl.ext hs5 hbd
      have hm6 := Sl.ext hsm hbd
      have hr6 := Row.ext hrm hbd
      have hltm := fun h => Bs.lt hsm h
      have h56 := hbd.size
      obtain ⟨d64, hd64⟩ : ∃ d, d = List.replicate 64 (0 : UInt8) := ⟨_, rfl⟩
      rw [← hd64] at hs64
      have hdl : d64.length = 64 := by rw [hd64]; simp
      have HDL := Lib.hid hdl
      clear hd64 hdl hw6 q0 hba hbc hbd hs5 hsm hrm
      go_wp2_with fail
      refine (Join_calls _ [.slice Am mq cm, .slice (some ⟨w5.heap.size + 1, 0, none⟩) 64 64] [q, d64] 2 2 w6.heap.size _ (Sl.cells_new w6 _ _) ((Bss.cons hm6 HMQ.out.symm (Bss.cons hs64 HDL.out (Bss.nil_ _))).ext (below_alloc1 w6 _)) rfl (by simp [maxLen]) (by simp; have := HMQ.out; have := HDL.out; omega)).mono ?_
      rintro e w7 ⟨vj, rfl, hrj, h7⟩
      have h7b := below_alloc1 w6 (.cells #[.slice Am mq cm, .slice (some ⟨w5.heap.size + 1, 0, none⟩) 64 64] 25)
      replace h7 := h7b.trans (h7.mono h7b.size)
      obtain ⟨J, hJ⟩ : ∃ J, J = q ++ d64 := ⟨_, rfl⟩
      replace hrj := hrj.cast (show [q, d64].flatten = J by simp [hJ])
      have hJl : J.length = mq + 64 := by rw [hJ, List.length_append, HDL.out, HMQ.out]
      obtain ⟨Aj, cj, bj, rfl, -, -, -, -, hsj, -⟩ := hrj.sl
      rw [hJl]
      have HJL := Lib.hid hJl
      have q7 := q6.ext h7
      have hs7 := Sl.ext hs6 h7
      have hm7 := Sl.ext hm6 h7
      have hr7 := Row.ext hr6 h7
      have hb7 := hb6.trans (h7.mono hb6.size)
      have h67 := h7.size
      clear hJ hJl hrj h7 h7b q6 hs6 hm6 hr6 hs64 hmk hb6
      go_wp2_with fail
      refine (Cut_calls Aj J (mq + 64) cj bj 64 _ hsj HJL.out (by simp only [maxLen]; omega) (by simp; omega)).mono ?_
      rintro e w8 ⟨vd, rfl, hrd, h8⟩
      rw [show (64 : Int).toNat = 64 from rfl] at hrd
      obtain ⟨d, hd⟩ : ∃ d, d = J.take 64 := ⟨_, rfl⟩
      rw [← hd] at hrd
      have hdl : d.length = 64 := by rw [hd, List.length_take, HJL.out]; omega
      obtain ⟨Ad, cd, bd, rfl, -, -, -, -, hsd, -⟩ := hrd.sl
      rw [hdl]
      have HD := Lib.hid hdl
      have q8 := q7.ext h8
      have hs8 := Sl.ext hs7 h8
      have hm8 := Sl.ext hm7 h8
      have hr8 := Row.ext hr7 h8
      have hb8 := hb7.trans (h8.mono hb7.size)
      have h78 := h8.size
      have hPut := Put_calls w8.heap.size w5.heap.size (.slice none 0 0) ⟨[], false⟩ ⟨true, false, d⟩ Ad cd bd w8 ⟨q8, Row.nil_ _ _, fun _ => rfl⟩ (by simp) hsd (by rw [hdl]; simp [maxLen]) (Nat.le_refl _)
      rw [nil_put d hdl] at hPut
      simp only [hdl] at hPut
      clear hd hdl hrd h8 q7 hs7 hm7 hr7 hb7 hsj
      go_wp2_with fail
      refine hPut.mono ?_
      rintro e w9 ⟨v9, vo9, rfl, hK9, -, hm9⟩
      have hs9 := Bs.modne hs8 hm9 (fun hne h => by rcases h with h | h; have := hlt4 hne; omega; cases h)
      have hmm9 := Bs.modne hm8 hm9 (fun hne h => by rcases h with h | h; have := hltm hne; omega; cases h)
      have hr9 := Row.mod hr8 hm9 (fun k hk h => by rcases h with h | h; exact (q8.apart hr8) (hk.trans (congrArg some h)); cases h)
      have hb9 := hb8.trans (hm9.below (B := w.heap.size) hb8.size (fun i hi h => by rcases h with h | h; have := hb5.size; omega; cases h))
      have h89 := hm9.size
      clear hPut hs8 hm8 hr8 hb8 q8 hm9 hsd
      go_wp2_with fail
      refine (Split_calls Am q mq cm bm _ hmm9 HMQ.out.symm (by omega) hcm1 hcm2).mono ?_
      rintro e w10 ⟨vx, xs, rfl, hxp, hrow, hin, h10⟩
      rw [one_pc q (by rw [← HMQ.out]; omega)] at hxp
      have hxl : xs.length = 1 := by have := congrArg List.length hxp; simpa using this
      obtain ⟨x0, rfl⟩ : ∃ x0, xs = [x0] := by
        match xs, hxl with
        | [a], _ => exact ⟨a, rfl⟩
      simp only [List.map_cons, List.map_nil, List.cons.injEq, and_true] at hxp
      obtain ⟨Ax, cx, bx, rfl, -, -, -, hbx, hsx, -⟩ := ownsP_sl hrow
      obtain ⟨⟨hxd, -⟩, hxb⟩ := hin x0 (by simp)
      rw [hxp] at hxd
      have hs10 := Sl.ext hs9 h10
      have hr10 := Row.ext hr9 h10
      have hK10 := hK9.ext h10
      have hb10 := hb9.trans (h10.mono hb9.size)
      have hxne : pvs [x0] ≠ [] := by simp [pvs]
      have hbxl := Sl.lt hsx hxne
      have HXP := Lib.hid hxp
      have HG5 := Lib.hid hb5.size
      clear hin hrow hxl hxp hs9 hr9 hK9 hb9 h10 hmm9 hb5 hb3 hb2
      go_wp2_with fail
      go_loopw [64] (fun i wr => ∃ (k : Nat) (X : List UInt8), k ≤ mq ∧ i = .int .i64 k ∧ Hid (X.length = mq) ∧ Hid (Row wr w4.heap.size (.slice Am mq cm) X) ∧ Hid (Mod (fun i => (Value.slice Am mq cm).ownBlock = some i) w10 wr)) (fun i _ => mq - (intOf i).toNat)
      case atStart => exact ⟨0, q, Nat.zero_le _, rfl, Lib.hid HMQ.out.symm, Lib.hid hr10, Lib.hid (Mod.refl _ _)⟩
      case round =>
        obtain ⟨k, X, hk, rfl, hXl, hrX, hmod⟩ := hrel
        by_cases hlt : k < mq
        · obtain ⟨g', cap, hv, -, hgl, hcell, hfr, hset⟩ := Row.set_ hrX.out (k := k) (by rw [hXl.out]; exact hlt)
          injection hv with hv hz1 hz2
          subst hv
          clear hz1 hz2
          obtain ⟨x, hx⟩ : ∃ x, x = X[k]'(by rw [hXl.out]; exact hlt) := ⟨_, rfl⟩
          rw [← hx] at hcell
          have hbu := u8_ofNat (x.toNat + 1)
          rw [show ((x.toNat + 1 : Nat) : Int) % 256 = ((x.toNat : Int) + 1) % 256 by omega] at hbu
          have HSET := Lib.hid (hset (UInt8.ofNat (x.toNat + 1)))
          clear hset hx hs10 hK10 hsx hxd hcm1 hcm2
          go_wp2_with fail
          refine ⟨⟨k + 1, _, by omega, by go_num, Lib.hid (by rw [List.length_set]; exact hXl.out), Lib.hid (HSET.out _ _ rfl (by rw [hbu])), Lib.hid (hmod.out.trans (Mod.setCell wr ⟨g', k, none⟩ _) (fun i _ h => h) (fun i _ h => ?_))⟩, by simp [intOf]; omega⟩
          have h2 : i = g' := h
          rw [h2]
          rfl
        · have hmo := HMO.out
          have hm := hmod.out
          have hX := hrX.out
          have hKz : KIn wr w8.heap.size w5.heap.size v9 ⟨d, false⟩ :=
            ⟨hK10.box.mod hm (fun h => hK10.box.apart hr10 h), hK10.row.mod hm (fun k hk h => by have h1 := (hK10.row.lt k hk).1; have h2 := (hmo k h).2; omega), hK10.none_⟩
          have hH := Held_calls w8.heap.size w5.heap.size v9 ⟨d, false⟩ wr hKz
          simp only [HD.out] at hH
          have sxz := Sl.mod hsx hm (fun h => by have h2 := (hmo _ h).2; omega)
          obtain ⟨off, rfl, a0, a1, a2⟩ := sl_pv sxz (k := 0) (by simp)
          simp only [Nat.zero_mul, Nat.add_zero, List.getElem_cons_zero, HXP.out] at a0 a1 a2
          rw [← HMQ.out] at a2
          have xdz := Bs.modne hxd hm (fun hne h => by have h2 := (hmo _ h).2; omega)
          have spz := Bs.modne hs10 hm (fun hne h => by have h2 := hlt4 hne; have h3 := (hmo _ h).1; omega)
          have hbz := hb10.trans (hm.below (B := w.heap.size) hb10.size (fun i hi h => by have h2 := (hmo i h).1; have := H4.out; omega))
          clear hmo hm hX hKz hmod hrX hK10 hr10 hs10 hxd hsx
          go_wp2_with fail
          refine (Open_nil _).mono ?_
          rintro e w11 ⟨rfl, rfl⟩
          go_wp2_with fail
          refine (Held_nil _).mono ?_
          rintro e w12 ⟨rfl, rfl⟩
          go_wp2_with fail
          refine (hC _).mono ?_
          rintro e w13 ⟨rfl, rfl⟩
          go_wp2_with fail
          refine hH.mono ?_
          rintro e w14 ⟨rfl, rfl⟩
          go_wp2_with fail
          refine (Same_calls x0.A Aq q q mq mq x0.c cq x0.b bq _ xdz spz HMQ.out.symm HMQ.out.symm (by simp only [maxLen]; omega) (by simp only [maxLen]; omega)).mono ?_
          rintro e w15 ⟨rfl, jj, rfl⟩
          rw [show decide (q = q) = true by simp]
          go_wp2_with fail
          go_ret
          exact ⟨rfl, below_drewN hbz _⟩
    · obtain ⟨n, rfl⟩ := Int.eq_ofNat_of_zero_le (show 0 ≤ z by omega)
      have hn : n ≤ 1024 := by omega
      have hC := fun W => Count_calls n W hn
      have h0' : 0 ≤ (n : Int) := by omega
      have h1' : (n : Int) ≤ 1024 := by omega
      have e36 : (n : Int).tdiv 64 = ((n / 64 : Nat) : Int) := by rw [Int.tdiv_eq_ediv_of_nonneg (by omega)]; omega
      have e36w := IntWalk.i64_in ((n / 64 : Nat) : Int) (by omega)
      have e39 : (n : Int).tmod 64 = ((n % 64 : Nat) : Int) := by rw [Int.tmod_eq_emod_of_nonneg (by omega)]; omega
      have e39w := IntWalk.i64_in ((n % 64 : Nat) : Int) (by omega)
      have hcn : cnt n = (if 1 < n / 64 then n / 64 else 1) + (if 0 < n % 64 ∧ 64 < n then 1 else 0) := by
        unfold cnt
        split <;> split <;> split <;> omega
      obtain ⟨N, hN⟩ : ∃ N, N = cnt n := ⟨_, rfl⟩
      obtain ⟨d1, hd1⟩ : ∃ d1, d1 = n / 64 := ⟨_, rfl⟩
      obtain ⟨r1, hr1⟩ : ∃ r1, r1 = n % 64 := ⟨_, rfl⟩
      rw [← hN] at hC hcn
      rw [← hd1] at e36 e36w hcn
      rw [← hr1] at e39 e39w hcn
      have hd16 : d1 ≤ 16 := by omega
      clear hN hd1 hr1 h0 h1 hz1 hz2
      by_cases hc : 0 < r1 ∧ 64 < n
      · obtain ⟨hc1, hc2⟩ := hc
        rw [if_pos (show 0 < r1 ∧ 64 < n from ⟨hc1, hc2⟩)] at hcn
        have e37 : (if (1 : Int) < (d1 : Int) then (d1 : Int) else 1) = (((N - 1 : Nat)) : Int) := by split <;> (split at hcn <;> omega)
        obtain ⟨M, hM⟩ : ∃ M, M = N - 1 := ⟨_, rfl⟩
        rw [← hM] at e37
        have e46 : IntKind.i64.wrap ((M : Int) + 1) = (N : Int) := by
          rw [IntWalk.i64_in _ (by split at hcn <;> omega)]
          split at hcn <;> omega
        clear hcn hM
        have hmk : ∀ w : World, (Instr.makeSlice 25 (.int .i64 64) (.int .i64 64)).run Try.prog w = .ok (.slice (some ⟨w.heap.size, 0, none⟩) 64 64) (w.alloc (.cells (bv (List.replicate 64 0)).toArray 5)) := fun _ => by kernel_rfl
        go_enter Try.func6, Try.ntmps6
        go_wp2_with fail
        refine (Awake_calls _).mono ?_
        rintro e w1 ⟨rfl, h1⟩
        go_wp2_with fail
        refine (hcut _ (Sl.ext hs h1)).mono ?_
        rintro e w2 ⟨vq, rfl, hrq, h2⟩
        obtain ⟨Aq, cq, bq, rfl, -, -, -, -, hsq, -⟩ := hrq.sl
        rw [← HMQ.out] at hrq ⊢
        have hb2 := h1.trans (h2.mono h1.size)
        clear hcut h1 h2 hs hl
        go_wp2_with fail
        refine (Put_nil true true _ _).mono ?_
        rintro e w3 ⟨rfl, h3⟩
        go_wp2_with fail
        refine (Clear_nil _).mono ?_
        rintro e w4 ⟨rfl, rfl⟩
        have hs3 := Sl.ext hsq h3
        have hb3 := hb2.trans (h3.mono hb2.size)
        have H4 := Lib.hid hb3.size
        clear hsq hrq h3
        go_wp2_with fail
        refine (Join_calls _ [.slice Aq mq cq] [q] 1 1 w4.heap.size _ (Sl.cells_new w4 _ _) ((Bss.cons hs3 HMQ.out.symm (Bss.nil_ _)).ext (below_alloc1 w4 _)) rfl (by simp [maxLen]) (by simp; have := HMQ.out; omega)).mono ?_
        rintro e w5 ⟨vm, rfl, hrm, h5⟩
        have h5b := below_alloc1 w4 (.cells #[.slice Aq mq cq] 25)
        replace h5 := h5b.trans (h5.mono h5b.size)
        replace hrm : Row w5 w4.heap.size vm q := (hrm.cast (by simp)).low (by simp)
        obtain ⟨Am, cm, bm, rfl, hcm1, hcm2, -, hbm, hsm, hom⟩ := hrm.sl
        have HMO := Lib.hid (Row.lt hrm)
        rw [← HMQ.out] at hcm1 hrm hom HMO ⊢
        have hs5 := Sl.ext hs3 h5
        have hb5 := hb3.trans (h5.mono hb3.size)
        have hlt4 := fun h => Bs.lt hs3 h
        have h45 := h5.size
        clear h5 h5b hs3
        have q0 : BoxK (w5.alloc (.cells #[.slice none 0 0, .bool false] 34)) w5.heap.size (.slice none 0 0) false := heap_alloc_new w5 _
        have hba := below_alloc1 w5 (.cells #[.slice none 0 0, .bool false] 34)
        replace hmk := hmk (w5.alloc (.cells #[.slice none 0 0, .bool false] 34))
        have hs64 : Bs ((w5.alloc (.cells #[.slice none 0 0, .bool false] 34)).alloc (.cells (bv (List.replicate 64 0)).toArray 5)) (w5.alloc (.cells #[.slice none 0 0, .bool false] 34)).heap.size (some ⟨(w5.alloc (.cells #[.slice none 0 0, .bool false] 34)).heap.size, 0, none⟩) (List.replicate 64 0) := Sl.cells_new _ _ _
        have hbc := below_alloc1 (w5.alloc (.cells #[.slice none 0 0, .bool false] 34)) (.cells (bv (List.replicate 64 0)).toArray 5)
        simp only [World.size_alloc] at hmk hs64 hbc
        obtain ⟨w6, hw6⟩ : ∃ w6, w6 = (w5.alloc (.cells #[.slice none 0 0, .bool false] 34)).alloc (.cells (bv (List.replicate 64 0)).toArray 5) := ⟨_, rfl⟩
        rw [← hw6] at hmk hs64 hbc
        have q6 := q0.ext (by rw [World.size_alloc]; exact hbc)
        have hbd := hba.trans (hbc.mono (by simp))
        have hb6 := hb5.trans (hbd.mono hb5.size)
        have hs6 := Sl.ext hs5 hbd
        have hm6 := Sl.ext hsm hbd
        have hr6 := Row.ext hrm hbd
        have hltm := fun h => Bs.lt hsm h
        have h56 := hbd.size
        obtain ⟨d64, hd64⟩ : ∃ d, d = List.replicate 64 (0 : UInt8) := ⟨_, rfl⟩
        rw [← hd64] at hs64
        have hdl : d64.length = 64 := by rw [hd64]; simp
        have HDL := Lib.hid hdl
        clear hd64 hdl hw6 q0 hba hbc hbd hs5 hsm hrm
        go_wp2_with fail
        refine (Join_calls _ [.slice Am mq cm, .slice (some ⟨w5.heap.size + 1, 0, none⟩) 64 64] [q, d64] 2 2 w6.heap.size _ (Sl.cells_new w6 _ _) ((Bss.cons hm6 HMQ.out.symm (Bss.cons hs64 HDL.out (Bss.nil_ _))).ext (below_alloc1 w6 _)) rfl (by simp [maxLen]) (by simp; have := HMQ.out; have := HDL.out; omega)).mono ?_
        rintro e w7 ⟨vj, rfl, hrj, h7⟩
        have h7b := below_alloc1 w6 (.cells #[.slice Am mq cm, .slice (some ⟨w5.heap.size + 1, 0, none⟩) 64 64] 25)
        replace h7 := h7b.trans (h7.mono h7b.size)
        obtain ⟨J, hJ⟩ : ∃ J, J = q ++ d64 := ⟨_, rfl⟩
        replace hrj := hrj.cast (show [q, d64].flatten = J by simp [hJ])
        have hJl : J.length = mq + 64 := by rw [hJ, List.length_append, HDL.out, HMQ.out]
        obtain ⟨Aj, cj, bj, rfl, -, -, -, -, hsj, -⟩ := hrj.sl
        rw [hJl]
        have HJL := Lib.hid hJl
        have q7 := q6.ext h7
        have hs7 := Sl.ext hs6 h7
        have hm7 := Sl.ext hm6 h7
        have hr7 := Row.ext hr6 h7
        have hb7 := hb6.trans (h7.mono hb6.size)
        have h67 := h7.size
        clear hJ hJl hrj h7 h7b q6 hs6 hm6 hr6 hs64 hmk hb6
        go_wp2_with fail
        refine (Cut_calls Aj J (mq + 64) cj bj 64 _ hsj HJL.out (by simp only [maxLen]; omega) (by simp; omega)).mono ?_
        rintro e w8 ⟨vd, rfl, hrd, h8⟩
        rw [show (64 : Int).toNat = 64 from rfl] at hrd
        obtain ⟨d, hd⟩ : ∃ d, d = J.take 64 := ⟨_, rfl⟩
        rw [← hd] at hrd
        have hdl : d.length = 64 := by rw [hd, List.length_take, HJL.out]; omega
        obtain ⟨Ad, cd, bd, rfl, -, -, -, -, hsd, -⟩ := hrd.sl
        rw [hdl]
        have HD := Lib.hid hdl
        have q8 := q7.ext h8
        have hs8 := Sl.ext hs7 h8
        have hm8 := Sl.ext hm7 h8
        have hr8 := Row.ext hr7 h8
        have hb8 := hb7.trans (h8.mono hb7.size)
        have h78 := h8.size
        have hPut := Put_calls w8.heap.size w5.heap.size (.slice none 0 0) ⟨[], false⟩ ⟨true, false, d⟩ Ad cd bd w8 ⟨q8, Row.nil_ _ _, fun _ => rfl⟩ (by simp) hsd (by rw [hdl]; simp [maxLen]) (Nat.le_refl _)
        rw [nil_put d hdl] at hPut
        simp only [hdl] at hPut
        clear hd hdl hrd h8 q7 hs7 hm7 hr7 hb7 hsj
        go_wp2_with fail
        refine hPut.mono ?_
        rintro e w9 ⟨v9, vo9, rfl, hK9, -, hm9⟩
        have hs9 := Bs.modne hs8 hm9 (fun hne h => by rcases h with h | h; have := hlt4 hne; omega; cases h)
        have hmm9 := Bs.modne hm8 hm9 (fun hne h => by rcases h with h | h; have := hltm hne; omega; cases h)
        have hr9 := Row.mod hr8 hm9 (fun k hk h => by rcases h with h | h; exact (q8.apart hr8) (hk.trans (congrArg some h)); cases h)
        have hb9 := hb8.trans (hm9.below (B := w.heap.size) hb8.size (fun i hi h => by rcases h with h | h; have := hb5.size; omega; cases h))
        have h89 := hm9.size
        clear hPut hs8 hm8 hr8 hb8 q8 hm9 hsd
        go_wp2_with fail
        refine (Split_calls Am q mq cm bm _ hmm9 HMQ.out.symm (by omega) hcm1 hcm2).mono ?_
        rintro e w10 ⟨vx, xs, rfl, hxp, hrow, hin, h10⟩
        rw [one_pc q (by rw [← HMQ.out]; omega)] at hxp
        have hxl : xs.length = 1 := by have := congrArg List.length hxp; simpa using this
        obtain ⟨x0, rfl⟩ : ∃ x0, xs = [x0] := by
          match xs, hxl with
          | [a], _ => exact ⟨a, rfl⟩
        simp only [List.map_cons, List.map_nil, List.cons.injEq, and_true] at hxp
        obtain ⟨Ax, cx, bx, rfl, -, -, -, hbx, hsx, -⟩ := ownsP_sl hrow
        obtain ⟨⟨hxd, -⟩, hxb⟩ := hin x0 (by simp)
        rw [hxp] at hxd
        have hs10 := Sl.ext hs9 h10
        have hr10 := Row.ext hr9 h10
        have hK10 := hK9.ext h10
        have hb10 := hb9.trans (h10.mono hb9.size)
        have hxne : pvs [x0] ≠ [] := by simp [pvs]
        have hbxl := Sl.lt hsx hxne
        have HXP := Lib.hid hxp
        have HG5 := Lib.hid hb5.size
        clear hin hrow hxl hxp hs9 hr9 hK9 hb9 h10 hmm9 hb5 hb3 hb2
        go_wp2_with fail
        go_loopw [64] (fun i wr => ∃ (k : Nat) (X : List UInt8), k ≤ mq ∧ i = .int .i64 k ∧ Hid (X.length = mq) ∧ Hid (Row wr w4.heap.size (.slice Am mq cm) X) ∧ Hid (Mod (fun i => (Value.slice Am mq cm).ownBlock = some i) w10 wr)) (fun i _ => mq - (intOf i).toNat)
        case atStart => exact ⟨0, q, Nat.zero_le _, rfl, Lib.hid HMQ.out.symm, Lib.hid hr10, Lib.hid (Mod.refl _ _)⟩
        case round =>
          obtain ⟨k, X, hk, rfl, hXl, hrX, hmod⟩ := hrel
          by_cases hlt : k < mq
          · obtain ⟨g', cap, hv, -, hgl, hcell, hfr, hset⟩ := Row.set_ hrX.out (k := k) (by rw [hXl.out]; exact hlt)
            injection hv with hv hz1 hz2
            subst hv
            clear hz1 hz2
            obtain ⟨x, hx⟩ : ∃ x, x = X[k]'(by rw [hXl.out]; exact hlt) := ⟨_, rfl⟩
            rw [← hx] at hcell
            have hbu := u8_ofNat (x.toNat + 1)
            rw [show ((x.toNat + 1 : Nat) : Int) % 256 = ((x.toNat : Int) + 1) % 256 by omega] at hbu
            have HSET := Lib.hid (hset (UInt8.ofNat (x.toNat + 1)))
            clear hset hx hs10 hK10 hsx hxd hcm1 hcm2
            go_wp2_with fail
            refine ⟨⟨k + 1, _, by omega, by go_num, Lib.hid (by rw [List.length_set]; exact hXl.out), Lib.hid (HSET.out _ _ rfl (by rw [hbu])), Lib.hid (hmod.out.trans (Mod.setCell wr ⟨g', k, none⟩ _) (fun i _ h => h) (fun i _ h => ?_))⟩, by simp [intOf]; omega⟩
            have h2 : i = g' := h
            rw [h2]
            rfl
          · have hmo := HMO.out
            have hm := hmod.out
            have hX := hrX.out
            have hKz : KIn wr w8.heap.size w5.heap.size v9 ⟨d, false⟩ :=
              ⟨hK10.box.mod hm (fun h => hK10.box.apart hr10 h), hK10.row.mod hm (fun k hk h => by have h1 := (hK10.row.lt k hk).1; have h2 := (hmo k h).2; omega), hK10.none_⟩
            have hH := Held_calls w8.heap.size w5.heap.size v9 ⟨d, false⟩ wr hKz
            simp only [HD.out] at hH
            have sxz := Sl.mod hsx hm (fun h => by have h2 := (hmo _ h).2; omega)
            obtain ⟨off, rfl, a0, a1, a2⟩ := sl_pv sxz (k := 0) (by simp)
            simp only [Nat.zero_mul, Nat.add_zero, List.getElem_cons_zero, HXP.out] at a0 a1 a2
            rw [← HMQ.out] at a2
            have xdz := Bs.modne hxd hm (fun hne h => by have h2 := (hmo _ h).2; omega)
            have spz := Bs.modne hs10 hm (fun hne h => by have h2 := hlt4 hne; have h3 := (hmo _ h).1; omega)
            have hbz := hb10.trans (hm.below (B := w.heap.size) hb10.size (fun i hi h => by have h2 := (hmo i h).1; have := H4.out; omega))
            clear hmo hm hX hKz hmod hrX hK10 hr10 hs10 hxd hsx
            go_wp2_with fail
            refine (Open_nil _).mono ?_
            rintro e w11 ⟨rfl, rfl⟩
            go_wp2_with fail
            refine (Held_nil _).mono ?_
            rintro e w12 ⟨rfl, rfl⟩
            go_wp2_with fail
            refine (hC _).mono ?_
            rintro e w13 ⟨rfl, rfl⟩
            go_wp2_with fail
            refine hH.mono ?_
            rintro e w14 ⟨rfl, rfl⟩
            go_wp2_with fail
            refine (Same_calls x0.A Aq q q mq mq x0.c cq x0.b bq _ xdz spz HMQ.out.symm HMQ.out.symm (by simp only [maxLen]; omega) (by simp only [maxLen]; omega)).mono ?_
            rintro e w15 ⟨rfl, jj, rfl⟩
            rw [show decide (q = q) = true by simp]
            go_wp2_with fail
            go_ret
            exact ⟨rfl, below_drewN hbz _⟩
      · rw [if_neg hc, Nat.add_zero] at hcn
        have e37 : (if (1 : Int) < (d1 : Int) then (d1 : Int) else 1) = (N : Int) := by split <;> (split at hcn <;> omega)
        clear hcn
        by_cases hc1 : 0 < r1
        · have hc2 : ¬ 64 < n := fun h => hc ⟨hc1, h⟩
          clear hc
          have hmk : ∀ w : World, (Instr.makeSlice 25 (.int .i64 64) (.int .i64 64)).run Try.prog w = .ok (.slice (some ⟨w.heap.size, 0, none⟩) 64 64) (w.alloc (.cells (bv (List.replicate 64 0)).toArray 5)) := fun _ => by kernel_rfl
          go_enter Try.func6, Try.ntmps6
          go_wp2_with fail
          refine (Awake_calls _).mono ?_
          rintro e w1 ⟨rfl, h1⟩
          go_wp2_with fail
          refine (hcut _ (Sl.ext hs h1)).mono ?_
          rintro e w2 ⟨vq, rfl, hrq, h2⟩
          obtain ⟨Aq, cq, bq, rfl, -, -, -, -, hsq, -⟩ := hrq.sl
          rw [← HMQ.out] at hrq ⊢
          have hb2 := h1.trans (h2.mono h1.size)
          clear hcut h1 h2 hs hl
          go_wp2_with fail
          refine (Put_nil true true _ _).mono ?_
          rintro e w3 ⟨rfl, h3⟩
          go_wp2_with fail
          refine (Clear_nil _).mono ?_
          rintro e w4 ⟨rfl, rfl⟩
          have hs3 := Sl.ext hsq h3
          have hb3 := hb2.trans (h3.mono hb2.size)
          have H4 := Lib.hid hb3.size
          clear hsq hrq h3
          go_wp2_with fail
          refine (Join_calls _ [.slice Aq mq cq] [q] 1 1 w4.heap.size _ (Sl.cells_new w4 _ _) ((Bss.cons hs3 HMQ.out.symm (Bss.nil_ _)).ext (below_alloc1 w4 _)) rfl (by simp [maxLen]) (by simp; have := HMQ.out; omega)).mono ?_
          rintro e w5 ⟨vm, rfl, hrm, h5⟩
          have h5b := below_alloc1 w4 (.cells #[.slice Aq mq cq] 25)
          replace h5 := h5b.trans (h5.mono h5b.size)
          replace hrm : Row w5 w4.heap.size vm q := (hrm.cast (by simp)).low (by simp)
          obtain ⟨Am, cm, bm, rfl, hcm1, hcm2, -, hbm, hsm, hom⟩ := hrm.sl
          have HMO := Lib.hid (Row.lt hrm)
          rw [← HMQ.out] at hcm1 hrm hom HMO ⊢
          have hs5 := Sl.ext hs3 h5
          have hb5 := hb3.trans (h5.mono hb3.size)
          have hlt4 := fun h => Bs.lt hs3 h
          have h45 := h5.size
          clear h5 h5b hs3
          have q0 : BoxK (w5.alloc (.cells #[.slice none 0 0, .bool false] 34)) w5.heap.size (.slice none 0 0) false := heap_alloc_new w5 _
          have hba := below_alloc1 w5 (.cells #[.slice none 0 0, .bool false] 34)
          replace hmk := hmk (w5.alloc (.cells #[.slice none 0 0, .bool false] 34))
          have hs64 : Bs ((w5.alloc (.cells #[.slice none 0 0, .bool false] 34)).alloc (.cells (bv (List.replicate 64 0)).toArray 5)) (w5.alloc (.cells #[.slice none 0 0, .bool false] 34)).heap.size (some ⟨(w5.alloc (.cells #[.slice none 0 0, .bool false] 34)).heap.size, 0, none⟩) (List.replicate 64 0) := Sl.cells_new _ _ _
          have hbc := below_alloc1 (w5.alloc (.cells #[.slice none 0 0, .bool false] 34)) (.cells (bv (List.replicate 64 0)).toArray 5)
          simp only [World.size_alloc] at hmk hs64 hbc
          obtain ⟨w6, hw6⟩ : ∃ w6, w6 = (w5.alloc (.cells #[.slice none 0 0, .bool false] 34)).alloc (.cells (bv (List.replicate 64 0)).toArray 5) := ⟨_, rfl⟩
          rw [← hw6] at hmk hs64 hbc
          have q6 := q0.ext (by rw [World.size_alloc]; exact hbc)
          have hbd := hba.trans (hbc.mono (by simp))
          have hb6 := hb5.trans (hbd.mono hb5.size)
          have hs6 := Sl.ext hs5 hbd
          have hm6 := Sl.ext hsm hbd
          have hr6 := Row.ext hrm hbd
          have hltm := fun h => Bs.lt hsm h
          have h56 := hbd.size
          obtain ⟨d64, hd64⟩ : ∃ d, d = List.replicate 64 (0 : UInt8) := ⟨_, rfl⟩
          rw [← hd64] at hs64
          have hdl : d64.length = 64 := by rw [hd64]; simp
          have HDL := Lib.hid hdl
          clear hd64 hdl hw6 q0 hba hbc hbd hs5 hsm hrm
          go_wp2_with fail
          refine (Join_calls _ [.slice Am mq cm, .slice (some ⟨w5.heap.size + 1, 0, none⟩) 64 64] [q, d64] 2 2 w6.heap.size _ (Sl.cells_new w6 _ _) ((Bss.cons hm6 HMQ.out.symm (Bss.cons hs64 HDL.out (Bss.nil_ _))).ext (below_alloc1 w6 _)) rfl (by simp [maxLen]) (by simp; have := HMQ.out; have := HDL.out; omega)).mono ?_
          rintro e w7 ⟨vj, rfl, hrj, h7⟩
          have h7b := below_alloc1 w6 (.cells #[.slice Am mq cm, .slice (some ⟨w5.heap.size + 1, 0, none⟩) 64 64] 25)
          replace h7 := h7b.trans (h7.mono h7b.size)
          obtain ⟨J, hJ⟩ : ∃ J, J = q ++ d64 := ⟨_, rfl⟩
          replace hrj := hrj.cast (show [q, d64].flatten = J by simp [hJ])
          have hJl : J.length = mq + 64 := by rw [hJ, List.length_append, HDL.out, HMQ.out]
          obtain ⟨Aj, cj, bj, rfl, -, -, -, -, hsj, -⟩ := hrj.sl
          rw [hJl]
          have HJL := Lib.hid hJl
          have q7 := q6.ext h7
          have hs7 := Sl.ext hs6 h7
          have hm7 := Sl.ext hm6 h7
          have hr7 := Row.ext hr6 h7
          have hb7 := hb6.trans (h7.mono hb6.size)
          have h67 := h7.size
          clear hJ hJl hrj h7 h7b q6 hs6 hm6 hr6 hs64 hmk hb6
          go_wp2_with fail
          refine (Cut_calls Aj J (mq + 64) cj bj 64 _ hsj HJL.out (by simp only [maxLen]; omega) (by simp; omega)).mono ?_
          rintro e w8 ⟨vd, rfl, hrd, h8⟩
          rw [show (64 : Int).toNat = 64 from rfl] at hrd
          obtain ⟨d, hd⟩ : ∃ d, d = J.take 64 := ⟨_, rfl⟩
          rw [← hd] at hrd
          have hdl : d.length = 64 := by rw [hd, List.length_take, HJL.out]; omega
          obtain ⟨Ad, cd, bd, rfl, -, -, -, -, hsd, -⟩ := hrd.sl
          rw [hdl]
          have HD := Lib.hid hdl
          have q8 := q7.ext h8
          have hs8 := Sl.ext hs7 h8
          have hm8 := Sl.ext hm7 h8
          have hr8 := Row.ext hr7 h8
          have hb8 := hb7.trans (h8.mono hb7.size)
          have h78 := h8.size
          have hPut := Put_calls w8.heap.size w5.heap.size (.slice none 0 0) ⟨[], false⟩ ⟨true, false, d⟩ Ad cd bd w8 ⟨q8, Row.nil_ _ _, fun _ => rfl⟩ (by simp) hsd (by rw [hdl]; simp [maxLen]) (Nat.le_refl _)
          rw [nil_put d hdl] at hPut
          simp only [hdl] at hPut
          clear hd hdl hrd h8 q7 hs7 hm7 hr7 hb7 hsj
          go_wp2_with fail
          refine hPut.mono ?_
          rintro e w9 ⟨v9, vo9, rfl, hK9, -, hm9⟩
          have hs9 := Bs.modne hs8 hm9 (fun hne h => by rcases h with h | h; have := hlt4 hne; omega; cases h)
          have hmm9 := Bs.modne hm8 hm9 (fun hne h => by rcases h with h | h; have := hltm hne; omega; cases h)
          have hr9 := Row.mod hr8 hm9 (fun k hk h => by rcases h with h | h; exact (q8.apart hr8) (hk.trans (congrArg some h)); cases h)
          have hb9 := hb8.trans (hm9.below (B := w.heap.size) hb8.size (fun i hi h => by rcases h with h | h; have := hb5.size; omega; cases h))
          have h89 := hm9.size
          clear hPut hs8 hm8 hr8 hb8 q8 hm9 hsd
          go_wp2_with fail
          refine (Split_calls Am q mq cm bm _ hmm9 HMQ.out.symm (by omega) hcm1 hcm2).mono ?_
          rintro e w10 ⟨vx, xs, rfl, hxp, hrow, hin, h10⟩
          rw [one_pc q (by rw [← HMQ.out]; omega)] at hxp
          have hxl : xs.length = 1 := by have := congrArg List.length hxp; simpa using this
          obtain ⟨x0, rfl⟩ : ∃ x0, xs = [x0] := by
            match xs, hxl with
            | [a], _ => exact ⟨a, rfl⟩
          simp only [List.map_cons, List.map_nil, List.cons.injEq, and_true] at hxp
          obtain ⟨Ax, cx, bx, rfl, -, -, -, hbx, hsx, -⟩ := ownsP_sl hrow
          obtain ⟨⟨hxd, -⟩, hxb⟩ := hin x0 (by simp)
          rw [hxp] at hxd
          have hs10 := Sl.ext hs9 h10
          have hr10 := Row.ext hr9 h10
          have hK10 := hK9.ext h10
          have hb10 := hb9.trans (h10.mono hb9.size)
          have hxne : pvs [x0] ≠ [] := by simp [pvs]
          have hbxl := Sl.lt hsx hxne
          have HXP := Lib.hid hxp
          have HG5 := Lib.hid hb5.size
          clear hin hrow hxl hxp hs9 hr9 hK9 hb9 h10 hmm9 hb5 hb3 hb2
          go_wp2_with fail
          go_loopw [64] (fun i wr => ∃ (k : Nat) (X : List UInt8), k ≤ mq ∧ i = .int .i64 k ∧ Hid (X.length = mq) ∧ Hid (Row wr w4.heap.size (.slice Am mq cm) X) ∧ Hid (Mod (fun i => (Value.slice Am mq cm).ownBlock = some i) w10 wr)) (fun i _ => mq - (intOf i).toNat)
          case atStart => exact ⟨0, q, Nat.zero_le _, rfl, Lib.hid HMQ.out.symm, Lib.hid hr10, Lib.hid (Mod.refl _ _)⟩
          case round =>
            obtain ⟨k, X, hk, rfl, hXl, hrX, hmod⟩ := hrel
            by_cases hlt : k < mq
            · obtain ⟨g', cap, hv, -, hgl, hcell, hfr, hset⟩ := Row.set_ hrX.out (k := k) (by rw [hXl.out]; exact hlt)
              injection hv with hv hz1 hz2
              subst hv
              clear hz1 hz2
              obtain ⟨x, hx⟩ : ∃ x, x = X[k]'(by rw [hXl.out]; exact hlt) := ⟨_, rfl⟩
              rw [← hx] at hcell
              have hbu := u8_ofNat (x.toNat + 1)
              rw [show ((x.toNat + 1 : Nat) : Int) % 256 = ((x.toNat : Int) + 1) % 256 by omega] at hbu
              have HSET := Lib.hid (hset (UInt8.ofNat (x.toNat + 1)))
              clear hset hx hs10 hK10 hsx hxd hcm1 hcm2
              go_wp2_with fail
              refine ⟨⟨k + 1, _, by omega, by go_num, Lib.hid (by rw [List.length_set]; exact hXl.out), Lib.hid (HSET.out _ _ rfl (by rw [hbu])), Lib.hid (hmod.out.trans (Mod.setCell wr ⟨g', k, none⟩ _) (fun i _ h => h) (fun i _ h => ?_))⟩, by simp [intOf]; omega⟩
              have h2 : i = g' := h
              rw [h2]
              rfl
            · have hmo := HMO.out
              have hm := hmod.out
              have hX := hrX.out
              have hKz : KIn wr w8.heap.size w5.heap.size v9 ⟨d, false⟩ :=
                ⟨hK10.box.mod hm (fun h => hK10.box.apart hr10 h), hK10.row.mod hm (fun k hk h => by have h1 := (hK10.row.lt k hk).1; have h2 := (hmo k h).2; omega), hK10.none_⟩
              have hH := Held_calls w8.heap.size w5.heap.size v9 ⟨d, false⟩ wr hKz
              simp only [HD.out] at hH
              have sxz := Sl.mod hsx hm (fun h => by have h2 := (hmo _ h).2; omega)
              obtain ⟨off, rfl, a0, a1, a2⟩ := sl_pv sxz (k := 0) (by simp)
              simp only [Nat.zero_mul, Nat.add_zero, List.getElem_cons_zero, HXP.out] at a0 a1 a2
              rw [← HMQ.out] at a2
              have xdz := Bs.modne hxd hm (fun hne h => by have h2 := (hmo _ h).2; omega)
              have spz := Bs.modne hs10 hm (fun hne h => by have h2 := hlt4 hne; have h3 := (hmo _ h).1; omega)
              have hbz := hb10.trans (hm.below (B := w.heap.size) hb10.size (fun i hi h => by have h2 := (hmo i h).1; have := H4.out; omega))
              clear hmo hm hX hKz hmod hrX hK10 hr10 hs10 hxd hsx
              go_wp2_with fail
              refine (Open_nil _).mono ?_
              rintro e w11 ⟨rfl, rfl⟩
              go_wp2_with fail
              refine (Held_nil _).mono ?_
              rintro e w12 ⟨rfl, rfl⟩
              go_wp2_with fail
              refine (hC _).mono ?_
              rintro e w13 ⟨rfl, rfl⟩
              go_wp2_with fail
              refine hH.mono ?_
              rintro e w14 ⟨rfl, rfl⟩
              go_wp2_with fail
              refine (Same_calls x0.A Aq q q mq mq x0.c cq x0.b bq _ xdz spz HMQ.out.symm HMQ.out.symm (by simp only [maxLen]; omega) (by simp only [maxLen]; omega)).mono ?_
              rintro e w15 ⟨rfl, jj, rfl⟩
              rw [show decide (q = q) = true by simp]
              go_wp2_with fail
              go_ret
              exact ⟨rfl, below_drewN hbz _⟩
        · have hr0 : r1 = 0 := by omega
          subst hr0
          clear hc hc1
          have hmk : ∀ w : World, (Instr.makeSlice 25 (.int .i64 64) (.int .i64 64)).run Try.prog w = .ok (.slice (some ⟨w.heap.size, 0, none⟩) 64 64) (w.alloc (.cells (bv (List.replicate 64 0)).toArray 5)) := fun _ => by kernel_rfl
          go_enter Try.func6, Try.ntmps6
          go_wp2_with fail
          refine (Awake_calls _).mono ?_
          rintro e w1 ⟨rfl, h1⟩
          go_wp2_with fail
          refine (hcut _ (Sl.ext hs h1)).mono ?_
          rintro e w2 ⟨vq, rfl, hrq, h2⟩
          obtain ⟨Aq, cq, bq, rfl, -, -, -, -, hsq, -⟩ := hrq.sl
          rw [← HMQ.out] at hrq ⊢
          have hb2 := h1.trans (h2.mono h1.size)
          clear hcut h1 h2 hs hl
          go_wp2_with fail
          refine (Put_nil true true _ _).mono ?_
          rintro e w3 ⟨rfl, h3⟩
          go_wp2_with fail
          refine (Clear_nil _).mono ?_
          rintro e w4 ⟨rfl, rfl⟩
          have hs3 := Sl.ext hsq h3
          have hb3 := hb2.trans (h3.mono hb2.size)
          have H4 := Lib.hid hb3.size
          clear hsq hrq h3
          go_wp2_with fail
          refine (Join_calls _ [.slice Aq mq cq] [q] 1 1 w4.heap.size _ (Sl.cells_new w4 _ _) ((Bss.cons hs3 HMQ.out.symm (Bss.nil_ _)).ext (below_alloc1 w4 _)) rfl (by simp [maxLen]) (by simp; have := HMQ.out; omega)).mono ?_
          rintro e w5 ⟨vm, rfl, hrm, h5⟩
          have h5b := below_alloc1 w4 (.cells #[.slice Aq mq cq] 25)
          replace h5 := h5b.trans (h5.mono h5b.size)
          replace hrm : Row w5 w4.heap.size vm q := (hrm.cast (by simp)).low (by simp)
          obtain ⟨Am, cm, bm, rfl, hcm1, hcm2, -, hbm, hsm, hom⟩ := hrm.sl
          have HMO := Lib.hid (Row.lt hrm)
          rw [← HMQ.out] at hcm1 hrm hom HMO ⊢
          have hs5 := Sl.ext hs3 h5
          have hb5 := hb3.trans (h5.mono hb3.size)
          have hlt4 := fun h => Bs.lt hs3 h
          have h45 := h5.size
          clear h5 h5b hs3
          have q0 : BoxK (w5.alloc (.cells #[.slice none 0 0, .bool false] 34)) w5.heap.size (.slice none 0 0) false := heap_alloc_new w5 _
          have hba := below_alloc1 w5 (.cells #[.slice none 0 0, .bool false] 34)
          replace hmk := hmk (w5.alloc (.cells #[.slice none 0 0, .bool false] 34))
          have hs64 : Bs ((w5.alloc (.cells #[.slice none 0 0, .bool false] 34)).alloc (.cells (bv (List.replicate 64 0)).toArray 5)) (w5.alloc (.cells #[.slice none 0 0, .bool false] 34)).heap.size (some ⟨(w5.alloc (.cells #[.slice none 0 0, .bool false] 34)).heap.size, 0, none⟩) (List.replicate 64 0) := Sl.cells_new _ _ _
          have hbc := below_alloc1 (w5.alloc (.cells #[.slice none 0 0, .bool false] 34)) (.cells (bv (List.replicate 64 0)).toArray 5)
          simp only [World.size_alloc] at hmk hs64 hbc
          obtain ⟨w6, hw6⟩ : ∃ w6, w6 = (w5.alloc (.cells #[.slice none 0 0, .bool false] 34)).alloc (.cells (bv (List.replicate 64 0)).toArray 5) := ⟨_, rfl⟩
          rw [← hw6] at hmk hs64 hbc
          have q6 := q0.ext (by rw [World.size_alloc]; exact hbc)
          have hbd := hba.trans (hbc.mono (by simp))
          have hb6 := hb5.trans (hbd.mono hb5.size)
          have hs6 := Sl.ext hs5 hbd
          have hm6 := Sl.ext hsm hbd
          have hr6 := Row.ext hrm hbd
          have hltm := fun h => Bs.lt hsm h
          have h56 := hbd.size
          obtain ⟨d64, hd64⟩ : ∃ d, d = List.replicate 64 (0 : UInt8) := ⟨_, rfl⟩
          rw [← hd64] at hs64
          have hdl : d64.length = 64 := by rw [hd64]; simp
          have HDL := Lib.hid hdl
          clear hd64 hdl hw6 q0 hba hbc hbd hs5 hsm hrm
          go_wp2_with fail
          refine (Join_calls _ [.slice Am mq cm, .slice (some ⟨w5.heap.size + 1, 0, none⟩) 64 64] [q, d64] 2 2 w6.heap.size _ (Sl.cells_new w6 _ _) ((Bss.cons hm6 HMQ.out.symm (Bss.cons hs64 HDL.out (Bss.nil_ _))).ext (below_alloc1 w6 _)) rfl (by simp [maxLen]) (by simp; have := HMQ.out; have := HDL.out; omega)).mono ?_
          rintro e w7 ⟨vj, rfl, hrj, h7⟩
          have h7b := below_alloc1 w6 (.cells #[.slice Am mq cm, .slice (some ⟨w5.heap.size + 1, 0, none⟩) 64 64] 25)
          replace h7 := h7b.trans (h7.mono h7b.size)
          obtain ⟨J, hJ⟩ : ∃ J, J = q ++ d64 := ⟨_, rfl⟩
          replace hrj := hrj.cast (show [q, d64].flatten = J by simp [hJ])
          have hJl : J.length = mq + 64 := by rw [hJ, List.length_append, HDL.out, HMQ.out]
          obtain ⟨Aj, cj, bj, rfl, -, -, -, -, hsj, -⟩ := hrj.sl
          rw [hJl]
          have HJL := Lib.hid hJl
          have q7 := q6.ext h7
          have hs7 := Sl.ext hs6 h7
          have hm7 := Sl.ext hm6 h7
          have hr7 := Row.ext hr6 h7
          have hb7 := hb6.trans (h7.mono hb6.size)
          have h67 := h7.size
          clear hJ hJl hrj h7 h7b q6 hs6 hm6 hr6 hs64 hmk hb6
          go_wp2_with fail
          refine (Cut_calls Aj J (mq + 64) cj bj 64 _ hsj HJL.out (by simp only [maxLen]; omega) (by simp; omega)).mono ?_
          rintro e w8 ⟨vd, rfl, hrd, h8⟩
          rw [show (64 : Int).toNat = 64 from rfl] at hrd
          obtain ⟨d, hd⟩ : ∃ d, d = J.take 64 := ⟨_, rfl⟩
          rw [← hd] at hrd
          have hdl : d.length = 64 := by rw [hd, List.length_take, HJL.out]; omega
          obtain ⟨Ad, cd, bd, rfl, -, -, -, -, hsd, -⟩ := hrd.sl
          rw [hdl]
          have HD := Lib.hid hdl
          have q8 := q7.ext h8
          have hs8 := Sl.ext hs7 h8
          have hm8 := Sl.ext hm7 h8
          have hr8 := Row.ext hr7 h8
          have hb8 := hb7.trans (h8.mono hb7.size)
          have h78 := h8.size
          have hPut := Put_calls w8.heap.size w5.heap.size (.slice none 0 0) ⟨[], false⟩ ⟨true, false, d⟩ Ad cd bd w8 ⟨q8, Row.nil_ _ _, fun _ => rfl⟩ (by simp) hsd (by rw [hdl]; simp [maxLen]) (Nat.le_refl _)
          rw [nil_put d hdl] at hPut
          simp only [hdl] at hPut
          clear hd hdl hrd h8 q7 hs7 hm7 hr7 hb7 hsj
          go_wp2_with fail
          refine hPut.mono ?_
          rintro e w9 ⟨v9, vo9, rfl, hK9, -, hm9⟩
          have hs9 := Bs.modne hs8 hm9 (fun hne h => by rcases h with h | h; have := hlt4 hne; omega; cases h)
          have hmm9 := Bs.modne hm8 hm9 (fun hne h => by rcases h with h | h; have := hltm hne; omega; cases h)
          have hr9 := Row.mod hr8 hm9 (fun k hk h => by rcases h with h | h; exact (q8.apart hr8) (hk.trans (congrArg some h)); cases h)
          have hb9 := hb8.trans (hm9.below (B := w.heap.size) hb8.size (fun i hi h => by rcases h with h | h; have := hb5.size; omega; cases h))
          have h89 := hm9.size
          clear hPut hs8 hm8 hr8 hb8 q8 hm9 hsd
          go_wp2_with fail
          refine (Split_calls Am q mq cm bm _ hmm9 HMQ.out.symm (by omega) hcm1 hcm2).mono ?_
          rintro e w10 ⟨vx, xs, rfl, hxp, hrow, hin, h10⟩
          rw [one_pc q (by rw [← HMQ.out]; omega)] at hxp
          have hxl : xs.length = 1 := by have := congrArg List.length hxp; simpa using this
          obtain ⟨x0, rfl⟩ : ∃ x0, xs = [x0] := by
            match xs, hxl with
            | [a], _ => exact ⟨a, rfl⟩
          simp only [List.map_cons, List.map_nil, List.cons.injEq, and_true] at hxp
          obtain ⟨Ax, cx, bx, rfl, -, -, -, hbx, hsx, -⟩ := ownsP_sl hrow
          obtain ⟨⟨hxd, -⟩, hxb⟩ := hin x0 (by simp)
          rw [hxp] at hxd
          have hs10 := Sl.ext hs9 h10
          have hr10 := Row.ext hr9 h10
          have hK10 := hK9.ext h10
          have hb10 := hb9.trans (h10.mono hb9.size)
          have hxne : pvs [x0] ≠ [] := by simp [pvs]
          have hbxl := Sl.lt hsx hxne
          have HXP := Lib.hid hxp
          have HG5 := Lib.hid hb5.size
          clear hin hrow hxl hxp hs9 hr9 hK9 hb9 h10 hmm9 hb5 hb3 hb2
          go_wp2_with fail
          go_loopw [64] (fun i wr => ∃ (k : Nat) (X : List UInt8), k ≤ mq ∧ i = .int .i64 k ∧ Hid (X.length = mq) ∧ Hid (Row wr w4.heap.size (.slice Am mq cm) X) ∧ Hid (Mod (fun i => (Value.slice Am mq cm).ownBlock = some i) w10 wr)) (fun i _ => mq - (intOf i).toNat)
          case atStart => exact ⟨0, q, Nat.zero_le _, rfl, Lib.hid HMQ.out.symm, Lib.hid hr10, Lib.hid (Mod.refl _ _)⟩
          case round =>
            obtain ⟨k, X, hk, rfl, hXl, hrX, hmod⟩ := hrel
            by_cases hlt : k < mq
            · obtain ⟨g', cap, hv, -, hgl, hcell, hfr, hset⟩ := Row.set_ hrX.out (k := k) (by rw [hXl.out]; exact hlt)
              injection hv with hv hz1 hz2
              subst hv
              clear hz1 hz2
              obtain ⟨x, hx⟩ : ∃ x, x = X[k]'(by rw [hXl.out]; exact hlt) := ⟨_, rfl⟩
              rw [← hx] at hcell
              have hbu := u8_ofNat (x.toNat + 1)
              rw [show ((x.toNat + 1 : Nat) : Int) % 256 = ((x.toNat : Int) + 1) % 256 by omega] at hbu
              have HSET := Lib.hid (hset (UInt8.ofNat (x.toNat + 1)))
              clear hset hx hs10 hK10 hsx hxd hcm1 hcm2
              go_wp2_with fail
              refine ⟨⟨k + 1, _, by omega, by go_num, Lib.hid (by rw [List.length_set]; exact hXl.out), Lib.hid (HSET.out _ _ rfl (by rw [hbu])), Lib.hid (hmod.out.trans (Mod.setCell wr ⟨g', k, none⟩ _) (fun i _ h => h) (fun i _ h => ?_))⟩, by simp [intOf]; omega⟩
              have h2 : i = g' := h
              rw [h2]
              rfl
            · have hmo := HMO.out
              have hm := hmod.out
              have hX := hrX.out
              have hKz : KIn wr w8.heap.size w5.heap.size v9 ⟨d, false⟩ :=
                ⟨hK10.box.mod hm (fun h => hK10.box.apart hr10 h), hK10.row.mod hm (fun k hk h => by have h1 := (hK10.row.lt k hk).1; have h2 := (hmo k h).2; omega), hK10.none_⟩
              have hH := Held_calls w8.heap.size w5.heap.size v9 ⟨d, false⟩ wr hKz
              simp only [HD.out] at hH
              have sxz := Sl.mod hsx hm (fun h => by have h2 := (hmo _ h).2; omega)
              obtain ⟨off, rfl, a0, a1, a2⟩ := sl_pv sxz (k := 0) (by simp)
              simp only [Nat.zero_mul, Nat.add_zero, List.getElem_cons_zero, HXP.out] at a0 a1 a2
              rw [← HMQ.out] at a2
              have xdz := Bs.modne hxd hm (fun hne h => by have h2 := (hmo _ h).2; omega)
              have spz := Bs.modne hs10 hm (fun hne h => by have h2 := hlt4 hne; have h3 := (hmo _ h).1; omega)
              have hbz := hb10.trans (hm.below (B := w.heap.size) hb10.size (fun i hi h => by have h2 := (hmo i h).1; have := H4.out; omega))
              clear hmo hm hX hKz hmod hrX hK10 hr10 hs10 hxd hsx
              go_wp2_with fail
              refine (Open_nil _).mono ?_
              rintro e w11 ⟨rfl, rfl⟩
              go_wp2_with fail
              refine (Held_nil _).mono ?_
              rintro e w12 ⟨rfl, rfl⟩
              go_wp2_with fail
              refine (hC _).mono ?_
              rintro e w13 ⟨rfl, rfl⟩
              go_wp2_with fail
              refine hH.mono ?_
              rintro e w14 ⟨rfl, rfl⟩
              go_wp2_with fail
              refine (Same_calls x0.A Aq q q mq mq x0.c cq x0.b bq _ xdz spz HMQ.out.symm HMQ.out.symm (by simp only [maxLen]; omega) (by simp only [maxLen]; omega)).mono ?_
              rintro e w15 ⟨rfl, jj, rfl⟩
              rw [show decide (q = q) = true by simp]
              go_wp2_with fail
              go_ret
              exact ⟨rfl, below_drewN hbz _⟩

end Go.Proofs.Ytlheoepmhpmfaaa
