/- Parts of one proof, in their order. -/
import Derived.Test.YtinkngjbfhkhnaaDoorZRuBase07
import Derived.Test.YtinkngjbfhkhnaaDoorRows
import Derived.ProofKit
import Derived.OpenShut
import Derived.ShutString
import Derived.ChangeOld
import Derived.Deep.Slices
import Derived.Deep.Fields
import Derived.Lib.SmallJoins
import Derived.LaidSub
import Derived.Deep.DeepCutAuto
/- Start. Conditions: the numbers fit; the table lies. -/
namespace Go.Proofs.YtinkngjbfhkhnaaDoor
open Go.RowKit

set_option maxRecDepth 40000 in
theorem st_built0 : Tryd.prog.built 46 [] = some (stA zSt) := by kernel_rfl
theorem wpList_bdS0 {ops : Array Oper} {rest : List Oper} {o : Oper} {a : Act} {w : World} {Q : Exit → Act → World → Prop} (hgd : o.guard = none) (ho : o.op = .build 46 #[])
    (h : wpList Tryd.prog ops Q rest (a.put o.dst (.agg (stA zSt))) w) : wpList Tryd.prog ops Q (o :: rest) a w := by
  have e : Tryd.prog.built 46 ((#[] : Array (Nat × Operand)).map fun (i, x) => (i, a.eval x)).toList = some (stA zSt) := by
    simpa using st_built0
  exact wpList_build hgd _ _ ho (by rw [e]; rfl) (by rw [e]; exact h)
set_option maxHeartbeats 8000000 in
set_option maxRecDepth 20000 in
theorem Start_bad (g : Gm) (s : Gs) (sd : Nat) (H : List Int) (HA : Option Addr) (hc : Nat) (w : World) (hin : GIn w g s) (hok : GOk g s) (hT : CTab w) (hr : rightB g = false) :
    Calls Tryd.prog 15 #[.agg (gmA g s), .int .u64 (sd : Int), .slice HA H.length hc] w fun e w' => e = .returned (.tuple #[.agg (stA zSt), .int .i64 2]) ∧ Below w.heap.size w w' := by
  have z1 : (w.alloc (.cells (gmA g s) 26)).heap.size = w.heap.size + 1 := by simp
  have z2 : ((w.alloc (.cells (gmA g s) 26)).alloc (.cells (stA zSt) 46)).heap.size = w.heap.size + 2 := by simp
  have hb := below_alloc2 w (.cells (gmA g s) 26) (.cells (stA zSt) 46)
  have h2 := below_alloc1 (w.alloc (.cells (gmA g s) 26)) (.cells (stA zSt) 46)
  have q3 := (GBox.new_ w g s).ext h2
  have q6 := BoxS.new_ (w.alloc (.cells (gmA g s) 26)) zSt
  rw [z1] at q6
  have hin1 := hin.ext hb
  have hT1 := hT.ext hb
  clear h2
  go_enter Tryd.func15, Tryd.ntmps15
  go_wp2_with ((with_reducible refine at_al 46 6 ?_); refine wpList_alS rfl rfl (some 6) rfl (w.heap.size + 1) z1 ?_)
  obtain ⟨wb, hwb⟩ : ∃ wb, wb = (w.alloc (.cells (gmA g s) 26)).alloc (.cells (stA zSt) 46) := ⟨_, rfl⟩
  rw [← hwb] at hb q3 q6 z2 hin1 hT1 ⊢
  obtain ⟨B, hB⟩ : ∃ B, B = w.heap.size := ⟨_, rfl⟩
  have HB := Lib.hid hB
  rw [← hB] at hb q3 q6 z2 ⊢
  clear hwb z1 hB
  refine (GRight_calls g s wb hin1 hok hT1).mono ?_
  rintro e wa ⟨rfl, ha⟩
  rw [hr]
  have q3 := q3.ext ha
  have q6 := q6.ext ha
  have hb := hb.trans (ha.mono (by rw [z2]; omega))
  have hza : B + 2 ≤ wa.heap.size := by have := ha.size; omega
  clear ha z2 hin1 hT1
  go_wp2_with (first | ((with_reducible refine at_bd 46 17 _ ?_); refine wpList_bdS0 rfl rfl ?_) | ((with_reducible refine at_st 46 6 17 ?_); refine wpList_stS rfl (.tmp 6) (.tmp 17) rfl (B + 1) zSt rfl rfl zSt q6 ?_))
  refine bodyPost_ret (results_ct (P := Tryd.prog) rfl _ _ (B + 1) _ _ (0, 0) _ rfl (q6.row_ zSt) Tryd.underlying46 rfl (by rw [stA_size]; kernel_rfl)) rfl ⟨rfl, ?_⟩
  rw [← HB.out]
  exact below_setRow hb _ _ (by omega)
set_option maxHeartbeats 8000000 in
set_option maxRecDepth 20000 in
theorem Start_good (g : Gm) (s : Gs) (sd : Nat) (H : List Int) (HA : Option Addr) (hc : Nat) (w : World) (hin : GIn w g s) (hok : GOk g s) (hT : CTab w) (hbk : Nat) (hH : Is w hbk HA H) (hlH : H.length ≤ maxLen) (hoH : ∀ x ∈ H, -2147483648 ≤ x ∧ x ≤ 2147483647) (hr : rightB g = true) :
    Calls Tryd.prog 15 #[.agg (gmA g s), .int .u64 (sd : Int), .slice HA H.length hc] w fun e w' => e = .returned (.tuple #[.agg (stA ⟨startC g H, sd, 0⟩), .int .i64 0]) ∧ Below w.heap.size w w' := by
  have hp := right_parts hr
  have hin0 := Lib.hid hin
  have z1 : (w.alloc (.cells (gmA g s) 26)).heap.size = w.heap.size + 1 := by simp
  have z2 : ((w.alloc (.cells (gmA g s) 26)).alloc (.cells (stA zSt) 46)).heap.size = w.heap.size + 2 := by simp
  have hb := below_alloc2 w (.cells (gmA g s) 26) (.cells (stA zSt) 46)
  have h2 := below_alloc1 (w.alloc (.cells (gmA g s) 26)) (.cells (stA zSt) 46)
  have q3 := (GBox.new_ w g s).ext h2
  have q6 := BoxS.new_ (w.alloc (.cells (gmA g s) 26)) zSt
  rw [z1] at q6
  have hin1 := hin.ext hb
  have hT1 := hT.ext hb
  clear h2
  go_enter Tryd.func15, Tryd.ntmps15
  go_wp2_with ((with_reducible refine at_al 46 6 ?_); refine wpList_alS rfl rfl (some 6) rfl (w.heap.size + 1) z1 ?_)
  obtain ⟨wb, hwb⟩ : ∃ wb, wb = (w.alloc (.cells (gmA g s) 26)).alloc (.cells (stA zSt) 46) := ⟨_, rfl⟩
  rw [← hwb] at hb q3 q6 z2 hin1 hT1 ⊢
  obtain ⟨B, hB⟩ : ∃ B, B = w.heap.size := ⟨_, rfl⟩
  have HB := Lib.hid hB
  rw [← hB] at hb q3 q6 z2 ⊢
  clear hwb z1 hB
  refine (GRight_calls g s wb hin1 hok hT1).mono ?_
  rintro e wa ⟨rfl, ha⟩
  rw [hr]
  have q3 := q3.ext ha
  have q6 := q6.ext ha
  have hb := hb.trans (ha.mono (by rw [z2]; omega))
  have hza : B + 2 ≤ wa.heap.size := by have := ha.size; omega
  clear ha z2 hin1 hT1
  have hbw : Below w.heap.size w wa := by rw [← HB.out]; exact hb
  have hin1 := hin0.out.ext hbw
  have hH1 := Sl.ext hH hbw
  have hltH : 0 < H.length → hbk < w.heap.size := fun h => Sl.lt hH (by intro h0; have h5 := congrArg List.length h0; rw [iv_length, List.length_nil] at h5; omega)
  have hL48 : g.L.length ≤ 48 := by
    have h5 := hp.2.2.2.1
    unfold rcB at h5
    simp only [Bool.and_eq_true, decide_eq_true_eq] at h5
    exact h5.1
  have c4 := q3.c4
  have hcs := hok.hL
  have hoL := hok.oL
  have hnl := RowC.nil_ 39 wa wa.heap.size
  simp only [maxLen] at hlH
  have HOH := Lib.hid hoH
  have HOL := Lib.hid hoL
  have hsc := hin1.sc
  clear hbw hp hr hin1 hH hin hT hok hoH hoL
  go_wp2_with ((with_reducible refine at_ca 20 _ ?_); refine wpList_appC _ Tryd.underlying23 cellB_info rfl (.const (.slice none 0 0)) (.tmp 19) rfl wa.heap.size (.slice none 0 0) [] rfl hnl s.b s.A g.L.length s.c g.L rfl hsc rfl (by simp; omega) (Nat.le_refl _) ?_; intro v2 w8 hrow2 hmod2 hown2; rw [List.nil_append] at hrow2; obtain ⟨A9, c9, b9, rfl, hc9, hm9, -, hb9, hs9, hbk9⟩ := hrow2.sl)
  have hm8 : Below wa.heap.size wa w8 := hmod2.below (Nat.le_refl _) (fun i _ h => by cases h)
  have hb := hb.trans (hm8.mono (by omega))
  have hH1 := Sl.ext hH1 hm8
  have q6 := q6.ext hm8
  have hz8 := hm8.size
  have KB9 := Lib.hid hbk9
  have hrm : RowC 39 w8 wa.heap.size (.slice A9 g.L.length c9) (stK g.L H 0) := by rw [stK_zero]; exact hrow2
  have hlt9 : B ≤ wa.heap.size := by omega
  have hltH : 0 < H.length → hbk < B := fun h => by rw [HB.out]; exact hltH h
  clear hrow2 hmod2 hown2 hm8 hbk9 hs9 hb9 hm9 hc9 hsc hnl c4 hcs
  go_loopw [9, 10, 11, 23] (fun nx _ _ i wr => ∃ k : Nat, k ≤ g.L.length ∧ i = .int .i64 k ∧ nx = .int .i64 ((min (cntZ g.L k) H.length : Nat) : Int) ∧ RowC 39 wr wa.heap.size (.slice A9 g.L.length c9) (stK g.L H k) ∧ Is wr hbk HA H ∧ Below wa.heap.size w8 wr ∧ w8.heap.size ≤ wr.heap.size) (fun _ _ _ i _ => g.L.length - (intOf i).toNat)
  case atStart => exact ⟨0, Nat.zero_le _, rfl, by rw [cntZ_zero, Nat.zero_min]; rfl, hrm, hH1, Below.refl _ _, Nat.le_refl _⟩
  case round =>
    clear hrm hH1
    obtain ⟨k, hk, rfl, rfl, hrm, hH1, hbr, hz⟩ := hrel
    by_cases hlt : k < g.L.length
    · have hka : k < (stK g.L H k).length := by rw [stK_length]; exact hlt
      obtain ⟨gg, cap, hv, hg, hgl, hcap, k0, k1, kf, kset, -⟩ := hrm.set_ hka
      have hv0 := KB9.out
      injection hv with hvA hvn hvc
      rw [hvA] at hv0
      obtain rfl : gg = b9 := hv0 gg rfl
      clear hv0 hvn hvc
      rw [stK_at hlt (Nat.le_refl k)] at k0 k1 kset
      have HSAME := Lib.hid (stK_same (H := H) hlt)
      have HSET := Lib.hid (stK_set (H := H) hlt)
      have HAT := Lib.hid (show stAt g.L H g.L[k] k = if g.L[k].2 = 0 ∧ cntZ g.L k < H.length then (H.getD (cntZ g.L k) 0, g.L[k].2) else g.L[k] from rfl)
      have hcz := cntZ_succ hlt
      have hcl := cntZ_le g.L k
      obtain ⟨X, hX⟩ : ∃ X, X = g.L[k].1 := ⟨_, rfl⟩
      obtain ⟨Y, hY⟩ : ∃ Y, Y = g.L[k].2 := ⟨_, rfl⟩
      obtain ⟨z, hz9⟩ : ∃ z, z = cntZ g.L k := ⟨_, rfl⟩
      rw [← hX] at k0
      rw [← hY] at k1 kset HAT HSAME hcz
      rw [← hz9] at HAT HSAME hcz hcl ⊢
      have HKS := Lib.hid kset
      have HCZ := Lib.hid hcz
      have kf0 := kf (k * 2)
      have ej : (k : Int) < (g.L.length : Int) := by omega
      have hgw : B ≤ gg := by omega
      have hbr2 := hbr.alloc (by omega) (.cells #[.int .i32 X, .int .u32 (Y : Int)] 39)
      clear hX hY hka kset kf hcz hz9
      subst hvA
      by_cases hy0 : Y ≤ 0
      · obtain rfl : Y = 0 := by omega
        have ey : (((0 : Nat) : Int) == 0) = true := by simp
        by_cases hzh : z < H.length
        · have hmn : min z H.length = z := by omega
          rw [hmn]
          have ev : decide ((z : Int) < (H.length : Int)) = true := by simp; omega
          have ezh : (z : Int) < (H.length : Int) := by omega
          have hgH : hbk ≠ gg := by have := hltH (by omega); omega
          obtain ⟨hoff, rfl, hvc⟩ := hH1 (by intro h0; have h5 := congrArg List.length h0; rw [iv_length, List.length_nil] at h5; omega)
          have hvk := hvc z _ (iv_get H z hzh)
          obtain ⟨x, hx⟩ : ∃ x, x = H[z] := ⟨_, rfl⟩
          rw [← hx] at hvk
          have HX := Lib.hid hx
          have ha9 := below_alloc1 wr (.cells #[.int .i32 X, .int .u32 0] 39)
          have hvk := sl_same ha9 hvk
          have k0 := sl_same ha9 k0
          have kf0 := (ha9.frozen (p := ⟨gg, k * 2, none⟩) hgl).trans kf0
          clear hvc hx hmn ha9
          go_wp2_with fail
          have hr2 := HKS.out x ((wr.setCell ⟨gg, k * 2, none⟩ (.int .i32 x)).alloc (.cells #[.int .i32 X, .int .u32 ((0 : Nat) : Int)] 39)) (Below.heap_alloc _ _ gg (by simp; exact hgl))
          have e9 : stAt g.L H g.L[k] k = (x, 0) := by rw [HAT.out, if_pos ⟨by trivial, hzh⟩, HX.out]; simp [List.getD, hzh]
          rw [← e9, HSET.out] at hr2
          have hal1 := below_alloc1 (wr.setCell ⟨gg, k * 2, none⟩ (.int .i32 x)) (.cells #[.int .i32 X, .int .u32 ((0 : Nat) : Int)] 39)
          go_roundw
          case rel => exact ⟨k + 1, by omega, by go_num, by rw [HCZ.out]; simp; omega, hr2, Sl.ext (Sl.setCell hH1 hgH _) hal1, (hbr.setCell hg _).alloc (by simp; omega) _, by simp; omega⟩
          case measure => simp [intOf]; omega
        · have hmn : min z H.length = H.length := by omega
          have hmn2 : min (z + 1) H.length = H.length := by omega
          rw [hmn]
          have ev : decide ((H.length : Int) < (H.length : Int)) = false := by simp
          have HMN := Lib.hid hmn2
          clear hmn hmn2
          go_wp2_with fail
          go_roundw
          case rel => exact ⟨k + 1, by omega, by go_num, by rw [HCZ.out]; simp [HMN.out], by rw [← HSAME.out (fun h => hzh h.2)]; exact RowC.ext hrm (below_alloc1 _ _), Sl.alloc hH1 _, hbr2, by simp; omega⟩
          case measure => simp [intOf]; omega
      · have ey : ((Y : Int) == 0) = false := by simp; omega
        have hy9 : ¬ Y = 0 := by omega
        have HNY := Lib.hid hy9
        clear hy9
        go_wp2_with fail
        go_roundw
        case rel => exact ⟨k + 1, by omega, by go_num, by rw [HCZ.out, if_neg HNY.out]; rfl, by rw [← HSAME.out (fun h => HNY.out h.1)]; exact RowC.ext hrm (below_alloc1 _ _), Sl.alloc hH1 _, hbr2, by simp; omega⟩
        case measure => simp [intOf]; omega
    · obtain hke : k = g.L.length := by omega
      obtain ⟨C, hC⟩ : ∃ C, C = startC g H := ⟨_, rfl⟩
      have lC : C.length = g.L.length := by rw [hC]; exact stK_length _ _ _
      have hrm : RowC 39 wr wa.heap.size (.slice A9 g.L.length c9) C := by rw [hC]; unfold startC; rw [← hke]; rw [hke] at hrm ⊢; exact hrm
      obtain ⟨A9', c9', b9', hv9, hc9', -, -, -, hsC, -⟩ := hrm.sl
      rw [lC] at hv9 hc9'
      injection hv9 with h91 h92 h93
      subst h91 h93
      have LC := Lib.hid lC
      have HC := Lib.hid hC
      have q6 := q6.below hbr (by omega)
      have hb := hb.trans (hbr.mono (by omega))
      obtain ⟨wl, hwl⟩ : ∃ wl, wl = wr := ⟨_, rfl⟩
      rw [← hwl] at hsC hb hz q6 ⊢
      have ej : ¬ (k : Int) < (g.L.length : Int) := by omega
      clear hwl hrm h92 hH1 hbr KB9 lC hC hke
      go_wp2_with fail
      refine (New_in A9 C g.L.length c9 b9' wl hsC LC.out hL48).mono ?_
      rintro e w7 ⟨rfl, h7⟩
      have l7 := BoxL.new_ w7 C
      have h8 := below_alloc1 w7 (.cells (bdL C) 42)
      have q6 := (q6.ext h7).ext h8
      have hb := hb.trans (h7.mono (by omega))
      have hb := hb.trans (h8.mono (by have := h7.size; omega))
      obtain ⟨G, hG⟩ : ∃ G, G = w7.heap.size := ⟨_, rfl⟩
      rw [← hG] at l7
      have HG := Lib.hid hG.symm
      have hGz : B + 2 ≤ G := by have := h7.size; omega
      clear h7 h8 hG
      go_wp2_with (first | ((with_reducible refine at_al 42 12 ?_); refine wpList_al rfl rfl (some 12) rfl G HG.out ?_) | ((with_reducible refine at_st 42 12 51 ?_); refine wpList_put rfl (.tmp 12) (.tmp 51) rfl HG.out C rfl rfl ?_) | ((with_reducible refine at_ld 42 12 ?_); refine wpList_ld (by first | rfl | simp [Region.wanted, yielded]) (.tmp 12) rfl G rfl C l7 ?_) | ((with_reducible refine at_bd 46 56 _ ?_); refine wpList_bdS1 rfl (.tmp 53) (.tmp 55) C sd rfl rfl rfl ?_) | ((with_reducible refine at_st 46 6 56 ?_); refine wpList_stS rfl (.tmp 6) (.tmp 56) rfl (B + 1) ⟨C, sd, 0⟩ rfl rfl zSt q6 ?_))
      refine bodyPost_ret (results_ct (P := Tryd.prog) rfl _ _ (B + 1) _ _ (0, 0) _ rfl (q6.row_ ⟨C, sd, 0⟩) Tryd.underlying46 rfl (by rw [stA_size]; kernel_rfl)) rfl ⟨by rw [← HC.out]; rfl, ?_⟩
      rw [← HB.out]
      exact below_setRow hb _ _ (by omega)
end Go.Proofs.YtinkngjbfhkhnaaDoor
/- How an argument that came in reads, in the words of this seat's walks. No condition. -/
namespace Go.Proofs.YtinkngjbfhkhnaaDoor
open Go.ChangeShapes Go.WideShapes Go.ChangeAt Go.RowKit

theorem own : ownKnob Tryd.prog.godebug = none := by kernel_rfl
theorem laidOut : laidOutB Tryd.prog = true := by kernel_rfl
end Go.Proofs.YtinkngjbfhkhnaaDoor
/- How a list of instructions, and an instruction, that came in read, in the words of this seat's walks; a world in which the tables lie. No condition. -/
namespace Go.Proofs.YtinkngjbfhkhnaaDoor
open Go.ChangeShapes Go.WideShapes Go.ChangeAt Go.RowKit Go.Deep

theorem kcode_cells : Tryd.prog.cellsOf 102 = 6 := by kernel_rfl
theorem kcode_under : ∃ f0  f1  f2  f3  f4  f5 : Field, Tryd.prog.underlying 102 = some (.struct #[f0, f1, f2, f3, f4, f5]) ∧ oneCellFields Tryd.prog #[f0, f1, f2, f3, f4, f5] = true ∧ f0.type = 5 ∧ f1.type = 5 ∧ f2.type = 5 ∧ f3.type = 5 ∧ f4.type = 21 ∧ f5.type = 37 :=
  ⟨_, _, _, _, _, _, Tryd.underlying102, by kernel_rfl, rfl, rfl, rfl, rfl, rfl, rfl⟩
set_option maxRecDepth 100000 in
theorem trod_code {H : Type} {enc : TypeId × Value → H} {W : World} {b0 fuel : Nat} {spare : Nat → Bool} {held : Bool} {cs : List Value} {x : DataW H × List MemPlace} (hlen : cs.length = 6) (ht : DataW.trod enc Tryd.prog W b0 spare held fuel 102 cs = some x) :
    ∃ y : Cd, cs = (cdA y).toList ∧ y.Ok := by
  obtain ⟨f0, f1, f2, f3, f4, f5, hu, hone, h0, h1, h2, h3, h4, h5⟩ := kcode_under
  obtain ⟨ys, n', _, _, _, hyl, hf⟩ := DataW.trod_struct hu ht
  match cs, hlen with
  | [v0, v1, v2, v3, v4, v5], _ =>
    match ys, hyl with
    | [y0, y1, y2, y3, y4, y5], _ =>
      obtain ⟨o0, k0⟩ := hone_of hone 0 f0 rfl
      obtain ⟨o1, k1⟩ := hone_of hone 1 f1 rfl
      obtain ⟨o2, k2⟩ := hone_of hone 2 f2 rfl
      obtain ⟨o3, k3⟩ := hone_of hone 3 f3 rfl
      obtain ⟨o4, k4⟩ := hone_of hone 4 f4 rfl
      obtain ⟨o5, k5⟩ := hone_of hone 5 f5 rfl
      have g0 := hf 0 f0 rfl
      have g1 := hf 1 f1 rfl
      have g2 := hf 2 f2 rfl
      have g3 := hf 3 f3 rfl
      have g4 := hf 4 f4 rfl
      have g5 := hf 5 f5 rfl
      rw [o0, k0, h0] at g0
      rw [o1, k1, h1] at g1
      rw [o2, k2, h2] at g2
      rw [o3, k3, h3] at g3
      rw [o4, k4, h4] at g4
      rw [o5, k5, h5] at g5
      simp only [List.drop_zero, List.drop_succ_cons, List.take_succ_cons, List.take_zero, List.getElem?_cons_zero, List.getElem?_cons_succ] at g0 g1 g2 g3 g4 g5
      obtain ⟨a0, e0, -, w0⟩ := DataW.trod_int Tryd.underlying5 g0
      injection e0 with e0
      have c0 := bounds_u8 w0
      obtain ⟨a1, e1, -, w1⟩ := DataW.trod_int Tryd.underlying5 g1
      injection e1 with e1
      have c1 := bounds_u8 w1
      obtain ⟨a2, e2, -, w2⟩ := DataW.trod_int Tryd.underlying5 g2
      injection e2 with e2
      have c2 := bounds_u8 w2
      obtain ⟨a3, e3, -, w3⟩ := DataW.trod_int Tryd.underlying5 g3
      injection e3 with e3
      have c3 := bounds_u8 w3
      obtain ⟨a4, e4, -, w4⟩ := DataW.trod_int Tryd.underlying21 g4
      injection e4 with e4
      have c4 := bounds_i32 w4
      obtain ⟨a5, e5, -, w5⟩ := DataW.trod_int Tryd.underlying37 g5
      injection e5 with e5
      have c5 := bounds_u32 w5
      refine ⟨⟨a0.toNat, a1.toNat, a2.toNat, a3.toNat, a4, a5.toNat⟩, ?_, by simp only; omega, by simp only; omega, by simp only; omega, by simp only; omega, by simp only; omega, by simp only; omega, by simp only; omega⟩
      simp only [cdA]
      rw [e0, e1, e2, e3, e4, e5, Int.toNat_of_nonneg c0.1, Int.toNat_of_nonneg c1.1, Int.toNat_of_nonneg c2.1, Int.toNat_of_nonneg c3.1, Int.toNat_of_nonneg c5.1]
theorem klist_of {α : Type} {n : Nat} {P : Nat → α → Prop} (h : ∀ i, i < n → ∃ x, P i x) : ∃ l : List α, l.length = n ∧ ∀ i (hi : i < l.length), P i l[i] := by
  induction n with
  | zero => exact ⟨[], rfl, fun i hi => by simp at hi⟩
  | succ n ih =>
    obtain ⟨l, hl, hp⟩ := ih (fun i hi => h i (by omega))
    obtain ⟨x, hx⟩ := h n (by omega)
    refine ⟨l ++ [x], by simp [hl], fun i hi => ?_⟩
    by_cases hin : i < l.length
    · rw [List.getElem_append_left hin]; exact hp i hin
    · have : i = n := by simp at hi; omega
      subst this
      rw [List.getElem_append_right (by omega)]
      simpa using hx
set_option maxRecDepth 100000 in
theorem open_codes {H : Type} {enc : TypeId × Value → H} {W : World} {base b0 : Nat} {spare : Nat → Bool} {held : Bool} {r : Reach} {v : Value} {d : DataW H} {p : List MemPlace} (hv : Value.okWide Tryd.prog W r base 24 v) (h : DataW.Trod enc Tryd.prog W b0 spare held 24 v d p) :
    ∃ A n c b L, v = .slice A n c ∧ L.length = n ∧ n ≤ maxLen ∧ n ≤ c ∧ okK L ∧ Sl W b A (kv L) := by
  obtain ⟨a, len, cap, rfl⟩ := okWide_slice Tryd.underlying24 hv
  obtain ⟨fuel, hf⟩ := h
  rcases open_slice Tryd.underlying24 hf with ⟨hcs, _⟩ | ⟨x, l, c, m, n, D, Pl, hcs, _, hl, hm, hmm, _, hel⟩
  · simp [Value.cells] at hcs
    obtain ⟨rfl, rfl, rfl⟩ := hcs
    exact ⟨none, 0, 0, 0, [], rfl, rfl, by simp [maxLen], Nat.le_refl _, fun c hc => (by cases hc), Sl.nil_ _ _ _⟩
  · simp [Value.cells] at hcs
    obtain ⟨rfl, rfl, rfl⟩ := hcs
    have hlm : len ≤ m := by rw [hmm]; split <;> omega
    rw [kcode_cells] at hel
    obtain ⟨xs, hxl, hxs⟩ := klist_of (n := len) (P := fun i (y : Cd) => y.Ok ∧ ∀ r, r < 6 → W.cell? (x.add (i * 6 + r)) = (cdA y).toList[r]?) (fun i hi => by
      obtain ⟨cs', hc, ht⟩ := hel i (by omega)
      obtain ⟨_, hcl, hat⟩ := World.cells?_some hc
      obtain ⟨y, hy, hyin⟩ := trod_code hcl ht
      refine ⟨y, hyin, fun r hr => ?_⟩
      have a0 := hat r (by omega)
      rw [Go.Deep.add_add, hy] at a0
      exact a0)
    have hok : okK xs := fun y hy => by
      obtain ⟨i, hi, rfl⟩ := List.getElem_of_mem hy
      exact (hxs i hi).1
    by_cases h0 : len = 0
    · have hx0 : xs = [] := List.eq_nil_of_length_eq_zero (by omega)
      subst hx0
      exact ⟨_, _, _, 0, [], rfl, hxl, by omega, hl, hok, Sl.nil_ _ _ _⟩
    · obtain ⟨bb, off, spot⟩ := x
      have hc0 := (hxs 0 (by omega)).2 0 (by omega)
      have hspot : spot = none := by
        rw [show (cdA (xs[0]'(by omega))).toList[0]? = some (.int .u8 ((xs[0]'(by omega)).op : Int)) from rfl] at hc0
        simpa [Addr.add] using World.cell?_spot hc0
      subst hspot
      refine ⟨_, _, _, bb, xs, rfl, hxl, by omega, hl, hok, fun _ => ⟨off, rfl, fun j u hu => ?_⟩⟩
      have hj := (List.getElem?_eq_some_iff.1 hu).1
      rw [kv_length] at hj
      have h1 := (hxs (j / 6) (by omega)).2 (j % 6) (by omega)
      rw [Addr.add_lit] at h1
      have h2 := kv_get (l := xs) (i := j / 6) (by omega) (r := j % 6) (by omega)
      rw [show j / 6 * 6 + j % 6 = j by omega] at h1 h2
      rw [h1, ← h2]
      exact hu
set_option maxRecDepth 100000 in
/-- An instruction by value. -/
theorem open_code {H : Type} {enc : TypeId × Value → H} {W : World} {base b0 : Nat} {spare : Nat → Bool} {held : Bool} {r : Reach} {v : Value} {d : DataW H} {p : List MemPlace} (hv : Value.okWide Tryd.prog W r base 102 v) (h : DataW.Trod enc Tryd.prog W b0 spare held 102 v d p) :
    ∃ (op a b cc : Nat) (n : Int) (m : Nat), v = .agg #[.int .u8 (op : Int), .int .u8 (a : Int), .int .u8 (b : Int), .int .u8 (cc : Int), .int .i32 n, .int .u32 (m : Int)] ∧ (Cd.mk op a b cc n m).Ok := by
  obtain ⟨f0, f1, f2, f3, f4, f5, hu, -⟩ := kcode_under
  obtain ⟨cs, rfl, hsz⟩ := okWide_struct hu hv
  obtain ⟨fuel, hf⟩ := h
  obtain ⟨y, hy, hyin⟩ := trod_code (by simpa [Value.cells] using hsz.trans kcode_cells) hf
  have h2 : cs = cdA y := by simpa [Value.cells] using hy
  exact ⟨y.op, y.a, y.b, y.c, y.n, y.m, by rw [h2]; rfl, hyin⟩
/-- The table that the walks want. -/
theorem tab_of_laid {W : World} (h : laidMet Tryd.prog [("hoodwink/code.shapes", Rows.laid_hoodwink_code_shapes)] W) : CTab W := ctab_of_reads (Lib.laidMet.reads h (by simp))
/-- A row of numbers, laid. -/
noncomputable def layVals (zs : List Value) : Obj → Obj
  | .cells _ t frozen => .cells zs.toArray t frozen
  | o => o
/-- A world in which the tables lie as they are laid. -/
noncomputable def laidWorld (os : Os) : World :=
  { World.holding Tryd.prog os ⟨#[], #[], []⟩ with heap := (World.holding Tryd.prog os ⟨#[], #[], []⟩).heap.modify 0 (layVals (shapeT.flatMap fun r => [.string ⟨r.1.toArray⟩, .int .u8 (r.2.1 : Int), .int .u8 (r.2.2 : Int)])) }
end Go.Proofs.YtinkngjbfhkhnaaDoor
/- How a game that came in reads, in the words of this seat's walks. No condition. -/
namespace Go.Proofs.YtinkngjbfhkhnaaDoor
open Go.ChangeShapes Go.WideShapes Go.ChangeAt Go.RowKit Go.Deep
set_option linter.unusedVariables false

theorem bcell_cells : Tryd.prog.cellsOf 39 = 2 := by kernel_rfl
theorem bcell_under : ∃ f0 f1 : Field, Tryd.prog.underlying 39 = some (.struct #[f0, f1]) ∧ oneCellFields Tryd.prog #[f0, f1] = true ∧ f0.type = 21 ∧ f1.type = 37 :=
  ⟨_, _, Tryd.underlying39, by kernel_rfl, rfl, rfl⟩
set_option maxRecDepth 100000 in
theorem trod_cell {H : Type} {enc : TypeId × Value → H} {W : World} {b0 fuel : Nat} {spare : Nat → Bool} {held : Bool} {cs : List Value} {x : DataW H × List MemPlace} (hlen : cs.length = 2) (ht : DataW.trod enc Tryd.prog W b0 spare held fuel 39 cs = some x) :
    ∃ y : Int × Nat, cs = [.int .i32 y.1, .int .u32 ((y.2 : Nat) : Int)] ∧ ((-2147483648 ≤ y.1 ∧ y.1 ≤ 2147483647) ∧ y.2 < 4294967296) := by
  obtain ⟨f0, f1, hu, hone, h0, h1⟩ := bcell_under
  obtain ⟨ys, n', _, _, _, hyl, hf⟩ := DataW.trod_struct hu ht
  match cs, hlen with
  | [v0, v1], _ =>
    match ys, hyl with
    | [y0, y1], _ =>
      obtain ⟨o0, k0⟩ := hone_of hone 0 f0 rfl
      obtain ⟨o1, k1⟩ := hone_of hone 1 f1 rfl
      have g0 := hf 0 f0 rfl
      have g1 := hf 1 f1 rfl
      rw [o0, k0, h0] at g0
      rw [o1, k1, h1] at g1
      simp only [List.drop_zero, List.drop_succ_cons, List.take_succ_cons, List.take_zero, List.getElem?_cons_zero, List.getElem?_cons_succ] at g0 g1
      obtain ⟨a0, e0, _, w0⟩ := DataW.trod_int Tryd.underlying21 g0
      obtain ⟨a1, e1, _, w1⟩ := DataW.trod_int Tryd.underlying37 g1
      injection e0 with e0
      injection e1 with e1
      have c0 := bounds_i32 w0
      have c1 := bounds_u32 w1
      refine ⟨⟨a0, a1.toNat⟩, ?_, by simp only; omega, by simp only; omega⟩
      rw [e0, e1, Int.toNat_of_nonneg c1.1]
theorem clist_of {α : Type} {n : Nat} {P : Nat → α → Prop} (h : ∀ i, i < n → ∃ x, P i x) : ∃ l : List α, l.length = n ∧ ∀ i (hi : i < l.length), P i l[i] := by
  induction n with
  | zero => exact ⟨[], rfl, fun i hi => by simp at hi⟩
  | succ n ih =>
    obtain ⟨l, hl, hp⟩ := ih (fun i hi => h i (by omega))
    obtain ⟨x, hx⟩ := h n (by omega)
    refine ⟨l ++ [x], by simp [hl], fun i hi => ?_⟩
    by_cases hin : i < l.length
    · rw [List.getElem_append_left hin]; exact hp i hin
    · have : i = n := by simp at hi; omega
      subst this
      rw [List.getElem_append_right (by omega)]
      simpa using hx
set_option maxRecDepth 100000 in
theorem trod_cellsG {H : Type} {enc : TypeId × Value → H} {W : World} {b0 fuel : Nat} {spare : Nat → Bool} {held : Bool} {v : Value} {x0 : DataW H × List MemPlace} (hf : DataW.trod enc Tryd.prog W b0 spare held fuel 23 [v] = some x0) :
    ∃ A n c b L, v = .slice A n c ∧ L.length = n ∧ n ≤ maxLen ∧ n ≤ c ∧ okC L ∧ Sl W b A (cv L) := by
  rcases open_slice Tryd.underlying23 hf with ⟨hcs, _⟩ | ⟨x, len, cap, m, n, D, Pl, hcs, _, hl, hm, hmm, _, hel⟩
  · injection hcs with hcs _
    subst hcs
    exact ⟨none, 0, 0, 0, [], rfl, rfl, by simp [maxLen], Nat.le_refl _, fun c hc => (by cases hc), Sl.nil_ _ _ _⟩
  · injection hcs with hcs _
    subst hcs
    have hlm : len ≤ m := by rw [hmm]; split <;> omega
    rw [bcell_cells] at hel
    obtain ⟨xs, hxl, hxs⟩ := clist_of (n := len) (P := fun i (y : Int × Nat) => ((-2147483648 ≤ y.1 ∧ y.1 ≤ 2147483647) ∧ y.2 < 4294967296) ∧ W.cell? (x.add (i * 2)) = some (.int .i32 y.1) ∧ W.cell? (x.add (i * 2 + 1)) = some (.int .u32 ((y.2 : Nat) : Int))) (fun i hi => by
      obtain ⟨cs', hc, ht⟩ := hel i (by omega)
      obtain ⟨_, hcl, hat⟩ := World.cells?_some hc
      obtain ⟨y, hy, hyin⟩ := trod_cell hcl ht
      have a0 := hat 0 (by omega)
      have a1 := hat 1 (by omega)
      rw [Go.Deep.add_add, hy] at a0 a1
      exact ⟨y, hyin, a0, a1⟩)
    have hok : okC xs := fun y hy => by
      obtain ⟨i, hi, rfl⟩ := List.getElem_of_mem hy
      exact (hxs i hi).1
    by_cases h0 : len = 0
    · have hx0 : xs = [] := List.eq_nil_of_length_eq_zero (by omega)
      subst hx0
      exact ⟨_, _, _, 0, [], rfl, hxl, by omega, hl, hok, Sl.nil_ _ _ _⟩
    · obtain ⟨bb, off, spot⟩ := x
      have hc0 := (hxs 0 (by omega)).2.1
      have hspot : spot = none := by
        simpa [Addr.add] using World.cell?_spot hc0
      subst hspot
      refine ⟨_, _, _, bb, xs, rfl, hxl, by omega, hl, hok, fun _ => ⟨off, rfl, fun j u hu => ?_⟩⟩
      have hj := (List.getElem?_eq_some_iff.1 hu).1
      rw [cv_length] at hj
      have h1 := (hxs (j / 2) (by omega)).2
      rw [Addr.add_lit, Addr.add_lit] at h1
      rcases Nat.mod_two_eq_zero_or_one j with he | he
      · have e : j / 2 * 2 = j := by omega
        have h2 := cv_val (L := xs) (i := j / 2) (by omega)
        rw [e] at h1 h2
        rw [h1.1, ← h2]
        exact hu
      · have e : j / 2 * 2 + 1 = j := by omega
        have h2 := cv_lab (L := xs) (i := j / 2) (by omega)
        rw [e] at h1 h2
        rw [h1.2, ← h2]
        exact hu
set_option maxRecDepth 100000 in
theorem trod_codesG {H : Type} {enc : TypeId × Value → H} {W : World} {b0 fuel : Nat} {spare : Nat → Bool} {held : Bool} {v : Value} {x0 : DataW H × List MemPlace} (hf : DataW.trod enc Tryd.prog W b0 spare held fuel 24 [v] = some x0) :
    ∃ A n c b L, v = .slice A n c ∧ L.length = n ∧ n ≤ maxLen ∧ n ≤ c ∧ okK L ∧ Sl W b A (kv L) := by
  rcases open_slice Tryd.underlying24 hf with ⟨hcs, _⟩ | ⟨x, len, cap, m, n, D, Pl, hcs, _, hl, hm, hmm, _, hel⟩
  · injection hcs with hcs _
    subst hcs
    exact ⟨none, 0, 0, 0, [], rfl, rfl, by simp [maxLen], Nat.le_refl _, fun c hc => (by cases hc), Sl.nil_ _ _ _⟩
  · injection hcs with hcs _
    subst hcs
    have hlm : len ≤ m := by rw [hmm]; split <;> omega
    rw [kcode_cells] at hel
    obtain ⟨xs, hxl, hxs⟩ := klist_of (n := len) (P := fun i (y : Cd) => y.Ok ∧ ∀ r, r < 6 → W.cell? (x.add (i * 6 + r)) = (cdA y).toList[r]?) (fun i hi => by
      obtain ⟨cs', hc, ht⟩ := hel i (by omega)
      obtain ⟨_, hcl, hat⟩ := World.cells?_some hc
      obtain ⟨y, hy, hyin⟩ := trod_code hcl ht
      refine ⟨y, hyin, fun r hr => ?_⟩
      have a0 := hat r (by omega)
      rw [Go.Deep.add_add, hy] at a0
      exact a0)
    have hok : okK xs := fun y hy => by
      obtain ⟨i, hi, rfl⟩ := List.getElem_of_mem hy
      exact (hxs i hi).1
    by_cases h0 : len = 0
    · have hx0 : xs = [] := List.eq_nil_of_length_eq_zero (by omega)
      subst hx0
      exact ⟨_, _, _, 0, [], rfl, hxl, by omega, hl, hok, Sl.nil_ _ _ _⟩
    · obtain ⟨bb, off, spot⟩ := x
      have hc0 := (hxs 0 (by omega)).2 0 (by omega)
      have hspot : spot = none := by
        rw [show (cdA (xs[0]'(by omega))).toList[0]? = some (.int .u8 ((xs[0]'(by omega)).op : Int)) from rfl] at hc0
        simpa [Addr.add] using World.cell?_spot hc0
      subst hspot
      refine ⟨_, _, _, bb, xs, rfl, hxl, by omega, hl, hok, fun _ => ⟨off, rfl, fun j u hu => ?_⟩⟩
      have hj := (List.getElem?_eq_some_iff.1 hu).1
      rw [kv_length] at hj
      have h1 := (hxs (j / 6) (by omega)).2 (j % 6) (by omega)
      rw [Addr.add_lit] at h1
      have h2 := kv_get (l := xs) (i := j / 6) (by omega) (r := j % 6) (by omega)
      rw [show j / 6 * 6 + j % 6 = j by omega] at h1 h2
      rw [h1, ← h2]
      exact hu

/-- A game as it came: its numbers fit, its slices are slices. -/
structure GRaw (g : Gm) (s : Gs) : Prop where
  o0 : -9223372036854775808 ≤ g.ob
  o1 : g.ob ≤ 9223372036854775807
  p0 : -9223372036854775808 ≤ g.pl
  p1 : g.pl ≤ 9223372036854775807
  m1 : g.mv ≤ 4294967295
  d1 : g.df ≤ 4294967295
  lL : g.L.length ≤ maxLen
  lK : g.K.length ≤ maxLen
  hL : g.L.length ≤ s.c
  hK : g.K.length ≤ s.c'
  oL : okC g.L
  oK : okK g.K
set_option maxRecDepth 100000 in
theorem game_fields : ∃ f0 f1 f2 f3 f4 f5 : Field, Tryd.prog.underlying 26 = some (.struct #[f0, f1, f2, f3, f4, f5]) ∧ (f0.type = 3 ∧ f1.type = 3 ∧ f2.type = 22 ∧ f3.type = 22 ∧ f4.type = 23 ∧ f5.type = 24) ∧ (f0.offset = 0 ∧ f1.offset = 1 ∧ f2.offset = 2 ∧ f3.offset = 3 ∧ f4.offset = 4 ∧ f5.offset = 5) :=
  ⟨_, _, _, _, _, _, Tryd.underlying26, ⟨rfl, rfl, rfl, rfl, rfl, rfl⟩, ⟨rfl, rfl, rfl, rfl, rfl, rfl⟩⟩
theorem cellsG_int : Tryd.prog.cellsOf 3 = 1 := by kernel_rfl
theorem cellsG_u32 : Tryd.prog.cellsOf 22 = 1 := by kernel_rfl
theorem cellsG_cells : Tryd.prog.cellsOf 23 = 1 := by kernel_rfl
theorem cellsG_codes : Tryd.prog.cellsOf 24 = 1 := by kernel_rfl
theorem cellsG_game : Tryd.prog.cellsOf 26 = 6 := by kernel_rfl
set_option maxHeartbeats 1000000 in
set_option maxRecDepth 100000 in
theorem trod_game {H : Type} {enc : TypeId × Value → H} {W : World} {b0 fuel : Nat} {spare : Nat → Bool} {held : Bool} {cs : List Value} {x : DataW H × List MemPlace} (hlen : cs.length = 6) (ht : DataW.trod enc Tryd.prog W b0 spare held fuel 26 cs = some x) :
    ∃ (g : Gm) (s : Gs), cs = (gmA g s).toList ∧ GRaw g s ∧ GIn W g s := by
  obtain ⟨f0, f1, f2, f3, f4, f5, hu, ⟨t0, t1, t2, t3, t4, t5⟩, ⟨o0, o1, o2, o3, o4, o5⟩⟩ := game_fields
  obtain ⟨ys, n', _, _, _, hyl, hf⟩ := DataW.trod_struct hu ht
  match cs, hlen with
  | [v0, v1, v2, v3, v4, v5], _ =>
    match ys, hyl with
    | [y0, y1, y2, y3, y4, y5], _ =>
      have g0 := hf 0 f0 rfl
      have g1 := hf 1 f1 rfl
      have g2 := hf 2 f2 rfl
      have g3 := hf 3 f3 rfl
      have g4 := hf 4 f4 rfl
      have g5 := hf 5 f5 rfl
      rw [o0, t0, cellsG_int] at g0
      rw [o1, t1, cellsG_int] at g1
      rw [o2, t2, cellsG_u32] at g2
      rw [o3, t3, cellsG_u32] at g3
      rw [o4, t4, cellsG_cells] at g4
      rw [o5, t5, cellsG_codes] at g5
      simp only [List.drop_zero, List.drop_succ_cons, List.take_succ_cons, List.take_zero, List.getElem?_cons_zero, List.getElem?_cons_succ] at g0 g1 g2 g3 g4 g5
      obtain ⟨a0, e0, _, w0⟩ := DataW.trod_int Tryd.underlying3 g0
      obtain ⟨a1, e1, _, w1⟩ := DataW.trod_int Tryd.underlying3 g1
      obtain ⟨a2, e2, _, w2⟩ := DataW.trod_int Tryd.underlying22 g2
      obtain ⟨a3, e3, _, w3⟩ := DataW.trod_int Tryd.underlying22 g3
      obtain ⟨A, n, c, b, L, e4, hl, hm, hc, ho, hs⟩ := trod_cellsG g4
      obtain ⟨A', n', c', b', K, e5, hl', hm', hc', ho', hs'⟩ := trod_codesG g5
      injection e0 with e0
      injection e1 with e1
      injection e2 with e2
      injection e3 with e3
      have c0 := bounds_i64 w0
      have c1 := bounds_i64 w1
      have c2 := bounds_u32 w2
      have c3 := bounds_u32 w3
      subst hl hl'
      refine ⟨⟨a0, a1, a2.toNat, a3.toNat, L, K⟩, ⟨A, c, b, A', c', b'⟩, ?_, ⟨c0.1, c0.2, c1.1, c1.2, by simp only; omega, by simp only; omega, hm, hm', hc, hc', ho, ho'⟩, ⟨hs, hs'⟩⟩
      simp only
      rw [e0, e1, e2, e3, e4, e5, Int.toNat_of_nonneg c2.1, Int.toNat_of_nonneg c3.1]
set_option maxRecDepth 100000 in
theorem open_game {H : Type} {enc : TypeId × Value → H} {W : World} {base b0 : Nat} {spare : Nat → Bool} {held : Bool} {r : Reach} {v : Value} {d : DataW H} {p : List MemPlace} (hv : Value.okWide Tryd.prog W r base 26 v) (h : DataW.Trod enc Tryd.prog W b0 spare held 26 v d p) :
    ∃ (g : Gm) (s : Gs), v = .agg (gmA g s) ∧ GRaw g s ∧ GIn W g s := by
  obtain ⟨f0, f1, f2, f3, f4, f5, hu, _, _⟩ := game_fields
  obtain ⟨cs, rfl, hsz⟩ := okWide_struct hu hv
  obtain ⟨fuel, hf⟩ := h
  obtain ⟨g, s, hy, hr, hi⟩ := trod_game (by simpa [Value.cells] using hsz.trans cellsG_game) hf
  refine ⟨g, s, ?_, hr, hi⟩
  congr 1
  apply Array.ext'
  simpa [Value.cells] using hy
end Go.Proofs.YtinkngjbfhkhnaaDoor
/- The document's example, of rules. Condition: the table lies. -/
namespace Go.Proofs.YtinkngjbfhkhnaaDoor
open Go.RowKit
set_option linter.unusedVariables false

section
variable {ops : Array Oper} {rest : List Oper} {o : Oper} {a : Act} {w : World} {Q : Exit → Act → World → Prop} {s : St}
theorem wpList_ldSB (hw : Region.wanted o (yielded ops a.tmps) = true) (x : Operand) (ho : o.op = .load 42 x) (g : Nat) (hx : a.eval x = .pointer (some ⟨g, 0, none⟩)) (h : BoxS w g s)
    (k : wpList Tryd.prog ops Q rest (a.put o.dst (.agg (bdL s.L))) w) : wpList Tryd.prog ops Q (o :: rest) a w :=
  BigFrame.wpList_want hw fun _ hK => wp_load_mid _ x ho g 0 hx (bdL s.L).toList _ h.rangeB Tryd.underlying42 rfl (bd_sizeL _) (by rw [Array.toArray_toList]; exact hK _ _ k)
theorem wpList_ldSw (hw : Region.wanted o (yielded ops a.tmps) = true) (x : Operand) (ho : o.op = .load 46 x) (g : Nat) (hx : a.eval x = .pointer (some ⟨g, 0, none⟩)) (h : BoxS w g s)
    (k : wpList Tryd.prog ops Q rest (a.put o.dst (.agg (stA s))) w) : wpList Tryd.prog ops Q (o :: rest) a w :=
  BigFrame.wpList_want hw fun _ hK => wp_load_mid _ x ho g 0 hx (stL s) _ h.rangeA Tryd.underlying46 rfl (st_size _) (hK _ _ k)
end
def aG : Gm := ⟨2, 1, 1, 0, [(4, 0)], []⟩
theorem aG_right : rightB aG = true := by decide +kernel
theorem aG_start : startC aG [] = [(4, 0)] := by decide +kernel
theorem aG_step : (wholeV compN (stepP aG ⟨[(4, 0)], 7, 0⟩ []) [(4, 0)] 7).L = [(4, 0)] ∧ (wholeV compN (stepP aG ⟨[(4, 0)], 7, 0⟩ []) [(4, 0)] 7).e = 0 := by decide +kernel
abbrev aS (b : Nat) : Gs := ⟨some ⟨b, 0, none⟩, 1, b, none, 0, 0⟩
theorem aG_ok (b : Nat) : GOk aG (aS b) :=
  ⟨by decide, by decide, by decide, by decide, by decide, by decide, by decide, by decide, by show (1 : Nat) ≤ 1; omega, by show (0 : Nat) ≤ 0; omega, fun c hc => by simp [aG] at hc; subst hc; decide, fun c hc => by simp [aG] at hc⟩
theorem dbox_extR {w w' : World} {g : Nat} {o : Obj} (h : w.heap[g]? = some o) (hm : Below w.heap.size w w') : w'.heap[g]? = some o := (hm.block g (Array.getElem?_eq_some_iff.1 h).1).trans h
theorem gbox_all {w : World} {g : Nat} {t : TypeId} {c0 c1 c2 c3 c4 c5 : Value} (h : w.heap[g]? = some (.cells #[c0, c1, c2, c3, c4, c5] t (0, 0))) : w.cell? ⟨g, 0, none⟩ = some c0 ∧ w.cell? ⟨g, 1, none⟩ = some c1 ∧ w.cell? ⟨g, 2, none⟩ = some c2 ∧ w.cell? ⟨g, 3, none⟩ = some c3 ∧ w.cell? ⟨g, 4, none⟩ = some c4 ∧ w.cell? ⟨g, 5, none⟩ = some c5 := by
  refine ⟨?_, ?_, ?_, ?_, ?_, ?_⟩ <;> (rw [cell_of_row w g _ _ _ _ h]; rfl)
set_option maxHeartbeats 4000000 in
set_option maxRecDepth 20000 in
theorem awake_calls (w : World) (hT : CTab w) : Calls Tryd.prog 12 #[] w fun e w' => e = .returned (.bool true) ∧ Below w.heap.size w w' := by
  have h1 := below_alloc1 w (.cells #[.int .i32 4, .int .u32 0] 39)
  have hs : Sl (w.alloc (.cells #[.int .i32 4, .int .u32 0] 39)) w.heap.size (some ⟨w.heap.size, 0, none⟩) (cv [(4, 0)]) := Sl.cells_new w #[.int .i32 4, .int .u32 0] _
  have h2 := below_alloc1 (w.alloc (.cells #[.int .i32 4, .int .u32 0] 39)) (.cells #[.int .i64 2, .int .i64 1, .int .u32 1, .int .u32 0, .slice (some ⟨w.heap.size, 0, none⟩) 1 1, .slice none 0 0] 26)
  have hq : ((w.alloc (.cells #[.int .i32 4, .int .u32 0] 39)).alloc (.cells #[.int .i64 2, .int .i64 1, .int .u32 1, .int .u32 0, .slice (some ⟨w.heap.size, 0, none⟩) 1 1, .slice none 0 0] 26)).heap[w.heap.size + 1]? = some (.cells #[.int .i64 2, .int .i64 1, .int .u32 1, .int .u32 0, .slice (some ⟨w.heap.size, 0, none⟩) 1 1, .slice none 0 0] 26 (0, 0)) := by
    have h := heap_alloc_new (w.alloc (.cells #[.int .i32 4, .int .u32 0] 39)) (.cells #[.int .i64 2, .int .i64 1, .int .u32 1, .int .u32 0, .slice (some ⟨w.heap.size, 0, none⟩) 1 1, .slice none 0 0] 26)
    rwa [World.size_alloc] at h
  replace hs := Sl.ext hs h2
  have hb := h1.trans (h2.mono h1.size)
  have hi : GIn ((w.alloc (.cells #[.int .i32 4, .int .u32 0] 39)).alloc (.cells #[.int .i64 2, .int .i64 1, .int .u32 1, .int .u32 0, .slice (some ⟨w.heap.size, 0, none⟩) 1 1, .slice none 0 0] 26)) aG (aS w.heap.size) := ⟨hs, Sl.nil_ _ _ _⟩
  obtain ⟨c0, c1, c2, c3, c4, c5⟩ := gbox_all hq
  have hS : Calls Tryd.prog 15 #[.agg #[.int .i64 2, .int .i64 1, .int .u32 1, .int .u32 0, .slice (some ⟨w.heap.size, 0, none⟩) 1 1, .slice none 0 0], .int .u64 7, .slice none 0 0] ((w.alloc (.cells #[.int .i32 4, .int .u32 0] 39)).alloc (.cells #[.int .i64 2, .int .i64 1, .int .u32 1, .int .u32 0, .slice (some ⟨w.heap.size, 0, none⟩) 1 1, .slice none 0 0] 26)) _ := Start_good aG (aS w.heap.size) 7 [] none 0 _ hi (aG_ok _) (hT.ext hb) 0 (Sl.nil_ _ _ _) (by simp [maxLen]) (fun x hx => by cases hx) aG_right
  rw [aG_start] at hS
  clear h1 h2 hs
  go_enter Tryd.func12, Tryd.ntmps12
  go_wp2_with fail
  refine hS.mono ?_
  rintro e w2 ⟨rfl, h3⟩
  replace hq := dbox_extR hq h3
  replace hi := hi.ext h3
  have hb := hb.trans (h3.mono hb.size)
  clear hS h3 c0 c1 c2 c3 c4 c5
  go_upto_region 3 with (first | ((with_reducible refine at_al 46 2 ?_); refine wpList_alS rfl rfl (some 2) rfl w2.heap.size rfl ?_) | ((with_reducible refine at_st 46 2 12 ?_); refine wpList_stS rfl (.tmp 2) (.tmp 12) rfl w2.heap.size ⟨[(4, 0)], 7, 0⟩ rfl rfl zSt (BoxS.new_ _ _) ?_))
  rw [made_row]
  have h3 := below_alloc1 w2 (.cells (stA ⟨[(4, 0)], 7, 0⟩) 46)
  have hx := BoxS.new_ w2 ⟨[(4, 0)], 7, 0⟩
  replace hq := dbox_extR hq h3
  replace hi := hi.ext h3
  have hb := hb.trans (h3.mono hb.size)
  obtain ⟨X, hX⟩ : ∃ X, X = w2.heap.size := ⟨_, rfl⟩
  obtain ⟨w3, hw3⟩ : ∃ w3, w3 = w2.alloc (.cells (stA ⟨[(4, 0)], 7, 0⟩) 46) := ⟨_, rfl⟩
  rw [← hw3] at hx hq hi hb ⊢
  rw [← hX] at hx ⊢
  clear h3 hw3 hX
  obtain ⟨c0, c1, c2, c3, c4, c5⟩ := gbox_all hq
  obtain ⟨F, hF⟩ : ∃ F, F = wholeV compN (stepP aG ⟨[(4, 0)], 7, 0⟩ []) [(4, 0)] 7 := ⟨_, rfl⟩
  have hP : Calls Tryd.prog 17 #[.agg #[.int .i64 2, .int .i64 1, .int .u32 1, .int .u32 0, .slice (some ⟨w.heap.size, 0, none⟩) 1 1, .slice none 0 0], .agg (stA ⟨[(4, 0)], 7, 0⟩), .slice none 0 0] w3 _ := Step_good aG (aS w.heap.size) ⟨[(4, 0)], 7, 0⟩ [] none 0 0 w3 hi (aG_ok _) (hT.ext hb) (Sl.nil_ _ _ _) aG_right (fun x hx => by cases hx) (by simp [maxLen]) (by decide) (fun c hc => by simp at hc; subst hc; decide) (by decide) hF
  obtain ⟨hFL, hFe⟩ := aG_step
  rw [← hF] at hFL hFe
  rw [hFL, hFe] at hP
  clear hF hFL hFe
  go_wp2_with ((with_reducible refine at_ld 46 2 ?_); refine wpList_ldS rfl (.tmp 2) rfl X rfl hx ?_)
  refine hP.mono ?_
  rintro e w4 ⟨sh, rfl, hsh, h3⟩
  replace hq := dbox_extR hq h3
  replace hx := hx.ext h3
  have hb := hb.trans (h3.mono hb.size)
  have hs1 : sh.oneCell' = true := by
    rcases hsh.2 with ⟨rfl, -⟩ | ⟨_, _, _, rfl, -⟩ <;> rfl
  clear hP h3 hsh hi c0 c1 c2 c3 c4 c5 hT
  obtain ⟨fd, hfd⟩ : ∃ n, n = F.d := ⟨_, rfl⟩
  obtain ⟨ft, hft⟩ : ∃ n, n = F.t := ⟨_, rfl⟩
  rw [← hfd, ← hft]
  clear hfd hft
  have h4 := below_alloc1 w4 (.cells (stA zSt) 46)
  have h5 := below_alloc1 (w4.alloc (.cells (stA zSt) 46)) (.cells #[.int .u64 0, .slice none 0 0, .int .i64 0] 53)
  have y4 := (BoxS.new_ w4 zSt).ext h5
  have y5 : OBox ((w4.alloc (.cells (stA zSt) 46)).alloc (.cells #[.int .u64 0, .slice none 0 0, .int .i64 0] 53)) (w4.heap.size + 1) 0 (.slice none 0 0) 0 := by
    have h := OBox.new_ (w4.alloc (.cells (stA zSt) 46)) 0 (.slice none 0 0) 0
    rw [World.size_alloc] at h
    exact h
  have hx5 := (hx.ext h4).ext h5
  have hb5 := (hb.trans (h4.mono hb.size)).trans (h5.mono (Nat.le_trans hb.size h4.size))
  go_upto_region 4 with (first | ((with_reducible refine at_al 46 4 ?_); refine wpList_alS rfl rfl (some 4) rfl w4.heap.size rfl ?_) | ((with_reducible refine at_st 46 4 18 ?_); refine wpList_stS rfl (.tmp 4) (.tmp 18) rfl w4.heap.size ⟨[(4, 0)], fd, 1⟩ rfl rfl zSt y4 ?_) | ((with_reducible refine at_st 53 5 19 ?_); refine wpList_stO rfl (.tmp 5) (.tmp 19) rfl (w4.heap.size + 1) ft sh 0 rfl rfl hs1 (y5.mod (mod_setRow _ w4.heap.size _) (by show ¬ w4.heap.size + 1 = w4.heap.size; omega)) ?_))
  have hxl := hx.lt
  have hwz := hb.size
  have z4 := (y4.row_ ⟨[(4, 0)], fd, 1⟩).mod (mod_setRow (((w4.alloc (.cells (stA zSt) 46)).alloc (.cells #[.int .u64 0, .slice none 0 0, .int .i64 0] 53)).setRow w4.heap.size (stA ⟨[(4, 0)], fd, 1⟩)) (w4.heap.size + 1) (otA ft sh 0)) (by show ¬ w4.heap.size = w4.heap.size + 1; omega)
  have z5 := (y5.mod (mod_setRow ((w4.alloc (.cells (stA zSt) 46)).alloc (.cells #[.int .u64 0, .slice none 0 0, .int .i64 0] 53)) w4.heap.size (stA ⟨[(4, 0)], fd, 1⟩)) (by show ¬ w4.heap.size + 1 = w4.heap.size; omega)).row_ ft sh 0
  have zx := (hx5.mod (mod_setRow ((w4.alloc (.cells (stA zSt) 46)).alloc (.cells #[.int .u64 0, .slice none 0 0, .int .i64 0] 53)) w4.heap.size (stA ⟨[(4, 0)], fd, 1⟩)) (by show ¬ X = w4.heap.size; omega)).mod (mod_setRow (((w4.alloc (.cells (stA zSt) 46)).alloc (.cells #[.int .u64 0, .slice none 0 0, .int .i64 0] 53)).setRow w4.heap.size (stA ⟨[(4, 0)], fd, 1⟩)) (w4.heap.size + 1) (otA ft sh 0)) (by show ¬ X = w4.heap.size + 1; omega)
  have zb := below_setRow (below_setRow hb5 w4.heap.size (stA ⟨[(4, 0)], fd, 1⟩) hwz) (w4.heap.size + 1) (otA ft sh 0) (by omega)
  obtain ⟨w9, hw9⟩ : ∃ w9, w9 = ((((w4.alloc (.cells (stA zSt) 46)).alloc (.cells #[.int .u64 0, .slice none 0 0, .int .i64 0] 53)).setRow w4.heap.size (stA ⟨[(4, 0)], fd, 1⟩)).setRow (w4.heap.size + 1) (otA ft sh 0)) := ⟨_, rfl⟩
  rw [← hw9] at z4 z5 zx zb
  go_frame
  rw [← hw9]
  clear hw9 y4 y5 hx5 hb5 hx hb h4 h5 hq hwz
  obtain ⟨Y, hY⟩ : ∃ Y, Y = w4.heap.size := ⟨_, rfl⟩
  rw [← hY] at z4 z5 ⊢
  have zo : w9.cell? ⟨Y + 1, 2, none⟩ = some (.int .i64 0) := by rw [cell_of_row w9 (Y + 1) 2 _ _ _ z5]; rfl
  have zk := z4.cK
  have hL := fun W => Len_calls [(4, 0)] W
  clear hY z5 hxl hs1
  go_wp2_with (first | ((with_reducible refine at_ld 42 33 ?_); refine wpList_ldSB (by first | rfl | simp [Region.wanted, yielded]) (.tmp 33) rfl Y rfl z4 ?_) | ((with_reducible refine at_ld 42 35 ?_); refine wpList_ldSB (by first | rfl | simp [Region.wanted, yielded]) (.tmp 35) rfl X rfl zx ?_) | ((with_reducible refine at_bi 37 .eql 42 42 (.tmp 34) (.tmp 36) ?_); refine wpList_eql_bd (by first | rfl | simp [Region.wanted, yielded]) (.tmp 34) (.tmp 36) rfl [(4, 0)] [(4, 0)] rfl rfl (by decide) true (by decide) ?_) | ((with_reducible refine at_ld 42 40 ?_); refine wpList_ldSB (by first | rfl | simp [Region.wanted, yielded]) (.tmp 40) rfl Y rfl z4 ?_))
  refine (hL _).mono ?_
  rintro e w10 ⟨rfl, h1⟩
  have hb := zb.trans (h1.mono zb.size)
  clear h1 zb z4 zx zo zk hL
  go_wp2_with fail
  go_ret
  exact ⟨rfl, hb⟩
end Go.Proofs.YtinkngjbfhkhnaaDoor
/- A game that isn't too great, apart. Conditions: the numbers fit. -/
namespace Go.Proofs.YtinkngjbfhkhnaaDoor
open Go.RowKit
set_option linter.unusedVariables false

/-- What few makes of it. -/
def fewG (g : Gm) : Gm := { g with L := g.L.take 55, K := g.K.take 100 }
structure StopG (p : Prop) : Prop where
  out : p
theorem stop_atG {p : Prop} (h : StopG p) : p := h.out
theorem own_slG {w : World} {B n sz : Nat} {e : TypeId} {v : Value} {xs : List Value} (h : w.ownsRow B e sz v n xs) : ∃ A c b, v = .slice A n c ∧ n ≤ c ∧ B ≤ b ∧ Sl w b A xs ∧ (∀ k, v.ownBlock = some k → k = b) := by
  rcases h.2 with ⟨rfl, rfl⟩ | ⟨g, cap, cur, rfl, hb, _, hnc, hcm, _⟩
  · have hx : xs = [] := List.eq_nil_of_length_eq_zero (by simpa using h.1)
    subst hx
    exact ⟨none, 0, B, rfl, Nat.le_refl _, Nat.le_refl _, Sl.nil_ _ _ _, by simp [Value.ownBlock]⟩
  · refine ⟨_, cap, g, rfl, hnc, hb, fun _ => ⟨0, rfl, fun j u hu => ?_⟩, by simp [Value.ownBlock]⟩
    have := h.cells (g := g) rfl j u hu
    simpa [Addr.add_lit] using this
theorem cellG_info : (Tryd.prog.info? 39).map (fun i => (i.zero, i.size, i.bytes)) = some (some (.agg #[.int .i32 0, .int .u32 0]), 2, 8) := by kernel_rfl
theorem codeG_info : (Tryd.prog.info? 102).map (fun i => (i.zero, i.size, i.bytes)) = some (some (.agg #[.int .u8 0, .int .u8 0, .int .u8 0, .int .u8 0, .int .i32 0, .int .u32 0]), 6, 12) := by kernel_rfl
theorem kvG_one (l : List Cd) : ∀ u ∈ kv l, u.oneCell' = true := by
  intro u hu
  obtain ⟨c, _, hu⟩ := List.mem_flatMap.1 hu
  simp only [cdA, List.mem_cons, List.not_mem_nil, or_false] at hu
  rcases hu with rfl | rfl | rfl | rfl | rfl | rfl <;> rfl
theorem kvG_take : ∀ (l : List Cd) (k : Nat), (kv l).take (k * 6) = kv (l.take k) := by
  intro l
  induction l with
  | nil => intro k; simp
  | cons c l ih =>
    intro k
    cases k with
    | zero => simp
    | succ k =>
      rw [kv_cons, show (k + 1) * 6 = (cdA c).toList.length + k * 6 by rw [cdA_len]; omega, List.take_length_add_append, ih, List.take_succ_cons, kv_cons]
theorem GBox.modG {w w' : World} {k : Nat} {g : Gm} {s : Gs} {S : Nat → Prop} (h : GBox w k g s) (hm : Mod S w w') (hs : ¬ S k) : GBox w' k g s := (hm.block k h.lt hs).trans h
theorem GBox.s4 {w : World} {k : Nat} {g : Gm} {s : Gs} (h : GBox w k g s) (L : List (Int × Nat)) (n : Nat) (hn : L.length = n) (A : Option Addr) (c b : Nat) : GBox (w.setCell ⟨k, 4, none⟩ (.slice A n c)) k { g with L := L } { s with A := A, c := c, b := b } := by
  unfold GBox
  rw [heap_setCell_same w k 4 _ _ _ h]
  subst hn
  rfl
theorem GBox.s5 {w : World} {k : Nat} {g : Gm} {s : Gs} (h : GBox w k g s) (K : List Cd) (n : Nat) (hn : K.length = n) (A : Option Addr) (c b : Nat) : GBox (w.setCell ⟨k, 5, none⟩ (.slice A n c)) k { g with K := K } { s with A' := A, c' := c, b' := b } := by
  unfold GBox
  rw [heap_setCell_same w k 5 _ _ _ h]
  subst hn
  rfl
theorem six_set6 {w : World} {b : Nat} {t : TypeId} {c0 c1 c2 c3 c4 c5 : Value} (v0 v1 v2 v3 v4 v5 : Value) (h : w.heap[b]? = some (.cells #[c0, c1, c2, c3, c4, c5] t (0, 0))) :
    ((((((w.setCell ⟨b, 0, none⟩ v0).setCell ⟨b, 1, none⟩ v1).setCell ⟨b, 2, none⟩ v2).setCell ⟨b, 3, none⟩ v3).setCell ⟨b, 4, none⟩ v4).setCell ⟨b, 5, none⟩ v5).heap[b]? = some (.cells #[v0, v1, v2, v3, v4, v5] t (0, 0)) ∧
    Mod (fun i => i = b) w ((((((w.setCell ⟨b, 0, none⟩ v0).setCell ⟨b, 1, none⟩ v1).setCell ⟨b, 2, none⟩ v2).setCell ⟨b, 3, none⟩ v3).setCell ⟨b, 4, none⟩ v4).setCell ⟨b, 5, none⟩ v5) := by
  have h0 := heap_setCell_same w b 0 _ _ v0 h
  have h1 := heap_setCell_same _ b 1 _ _ v1 h0
  have h2 := heap_setCell_same _ b 2 _ _ v2 h1
  have h3 := heap_setCell_same _ b 3 _ _ v3 h2
  have h4 := heap_setCell_same _ b 4 _ _ v4 h3
  have h5 := heap_setCell_same _ b 5 _ _ v5 h4
  refine ⟨h5, ?_⟩
  have id : ∀ (x : World) (i : Nat), i < x.heap.size → i = b → i = b := fun _ _ _ h => h
  exact ((((((Mod.setCell w ⟨b, 0, none⟩ v0).trans (Mod.setCell _ ⟨b, 1, none⟩ v1) (id _) (id _)).trans (Mod.setCell _ ⟨b, 2, none⟩ v2) (id _) (id _)).trans (Mod.setCell _ ⟨b, 3, none⟩ v3) (id _) (id _)).trans (Mod.setCell _ ⟨b, 4, none⟩ v4) (id _) (id _)).trans (Mod.setCell _ ⟨b, 5, none⟩ v5) (id _) (id _))
theorem fewG_raw {g : Gm} {s : Gs} (h : GRaw g s) (s' : Gs) (h1 : (fewG g).L.length ≤ s'.c) (h2 : (fewG g).K.length ≤ s'.c') : GOk (fewG g) s' :=
  ⟨h.o0, h.o1, h.p0, h.p1, h.m1, h.d1, by show (g.L.take 55).length ≤ 55; rw [List.length_take]; omega, by show (g.K.take 100).length ≤ 100; rw [List.length_take]; omega, h1, h2, okC_take h.oL 55, fun c hc => h.oK c (List.mem_of_mem_take hc)⟩
set_option maxHeartbeats 8000000 in
set_option maxRecDepth 20000 in
theorem FewG_calls (g : Gm) (s : Gs) (w : World) (hin : GIn w g s) (hraw : GRaw g s) :
    Calls Tryd.prog 13 #[.agg (gmA g s)] w fun e w' => ∃ s', e = .returned (.agg (gmA (fewG g) s')) ∧ GIn w' (fewG g) s' ∧ GOk (fewG g) s' ∧ (w.heap.size ≤ s'.b ∧ w.heap.size ≤ s'.b') ∧ Below w.heap.size w w' := by
  have hb := below_alloc2 w (.cells (gmA g s) 26) (.cells #[.int .i64 0, .int .i64 0, .int .u32 0, .int .u32 0, .slice none 0 0, .slice none 0 0] 26)
  have hin1 := hin.ext hb
  have hcL := hraw.hL
  have hcK := hraw.hK
  have hmL := hraw.lL
  have hmK := hraw.lK
  obtain ⟨K1, hK1⟩ : ∃ K, K = min g.L.length 55 := ⟨_, rfl⟩
  have m1 : (if (55 : Int) < (g.L.length : Int) then (55 : Int) else (g.L.length : Int)) = (K1 : Int) := by split <;> omega
  have m2 : min (g.L.length : Int) 55 = (K1 : Int) := by omega
  have m5 : (if (g.L.length : Int) ≤ 55 then (g.L.length : Int) else (55 : Int)) = (K1 : Int) := by split <;> omega
  obtain ⟨K2, hK2⟩ : ∃ K, K = min g.K.length 100 := ⟨_, rfl⟩
  have m3 : (if (100 : Int) < (g.K.length : Int) then (100 : Int) else (g.K.length : Int)) = (K2 : Int) := by split <;> omega
  have m4 : min (g.K.length : Int) 100 = (K2 : Int) := by omega
  have m6 : (if (g.K.length : Int) ≤ 100 then (g.K.length : Int) else (100 : Int)) = (K2 : Int) := by split <;> omega
  have hc1 : (K1 : Int) ≤ (s.c : Int) := by omega
  have hc2 : (K2 : Int) ≤ (s.c' : Int) := by omega
  have l1 : (g.L.take K1).length = K1 := by rw [List.length_take]; omega
  have l2 : (g.K.take K2).length = K2 := by rw [List.length_take]; omega
  have t1 : g.L.take 55 = g.L.take K1 := by
    rw [hK1]
    rcases Nat.le_total g.L.length 55 with h | h
    · rw [Nat.min_eq_left h, List.take_of_length_le h, List.take_length]
    · rw [Nat.min_eq_right h]
  have t2 : g.K.take 100 = g.K.take K2 := by
    rw [hK2]
    rcases Nat.le_total g.K.length 100 with h | h
    · rw [Nat.min_eq_left h, List.take_of_length_le h, List.take_length]
    · rw [Nat.min_eq_right h]
  have hf : fewG g = { g with L := g.L.take K1, K := g.K.take K2 } := by unfold fewG; rw [t1, t2]
  have hK155 : K1 ≤ 55 := by omega
  have hK2100 : K2 ≤ 100 := by omega
  have HOKK := Lib.hid (fun s' => fewG_raw hraw s')
  rw [hf] at HOKK ⊢
  simp only [maxLen] at hmL hmK
  have ha3 := below_alloc1 ((w.alloc (.cells (gmA g s) 26)).alloc (.cells #[.int .i64 0, .int .i64 0, .int .u32 0, .int .u32 0, .slice none 0 0, .slice none 0 0] 26)) (.cells #[] 39)
  have hs1 : Sl (((w.alloc (.cells (gmA g s) 26)).alloc (.cells #[.int .i64 0, .int .i64 0, .int .u32 0, .int .u32 0, .slice none 0 0, .slice none 0 0] 26)).alloc (.cells #[] 39)) s.b s.A (cv (g.L.take K1)) := by
    have h1 := Sl.take (Sl.ext hin1.sc ha3) (K1 * 2)
    rwa [cv_take] at h1
  have ho1 : World.ownsRow (((w.alloc (.cells (gmA g s) 26)).alloc (.cells #[.int .i64 0, .int .i64 0, .int .u32 0, .int .u32 0, .slice none 0 0, .slice none 0 0] 26)).alloc (.cells #[] 39)) (w.heap.size + 1 + 1) 39 2 (.slice (some ⟨w.heap.size + 1 + 1, 0, none⟩) 0 0) 0 [] := by
    have h := World.ownsRow_made ((w.alloc (.cells (gmA g s) 26)).alloc (.cells #[.int .i64 0, .int .i64 0, .int .u32 0, .int .u32 0, .slice none 0 0, .slice none 0 0] 26)) (e := 39) (size := 2) #[] 0 (Nat.le_refl _) (by simp [maxLen]) rfl
    rw [World.size_alloc, World.size_alloc] at h
    exact h
  have q1 : GBox (((w.alloc (.cells (gmA g s) 26)).alloc (.cells #[.int .i64 0, .int .i64 0, .int .u32 0, .int .u32 0, .slice none 0 0, .slice none 0 0] 26)).alloc (.cells #[] 39)) w.heap.size g s := ((GBox.new_ w g s).ext (below_alloc1 _ _)).ext ha3
  have q2 : GBox (((w.alloc (.cells (gmA g s) 26)).alloc (.cells #[.int .i64 0, .int .i64 0, .int .u32 0, .int .u32 0, .slice none 0 0, .slice none 0 0] 26)).alloc (.cells #[] 39)) (w.heap.size + 1) ⟨0, 0, 0, 0, [], []⟩ ⟨none, 0, 0, none, 0, 0⟩ := by
    have h := GBox.new_ (w.alloc (.cells (gmA g s) 26)) ⟨0, 0, 0, 0, [], []⟩ ⟨none, 0, 0, none, 0, 0⟩
    rw [World.size_alloc] at h
    exact h.ext ha3
  have hbb := hb.trans (ha3.mono hb.size)
  have hin3 := hin1.ext ha3
  obtain ⟨i0, hi0, hz0, hz1, hz2⟩ := info_parts cellG_info
  obtain ⟨j0, hj0, hy0, hy1, hy2⟩ := info_parts codeG_info
  have HI := Lib.hid (And.intro hi0 (And.intro hz0 (And.intro hz1 hz2)))
  have HJ := Lib.hid (And.intro hj0 (And.intro hy0 (And.intro hy1 hy2)))
  clear hK1 hK2 t1 t2 hin1 hb ha3 hf hcL hcK hi0 hz0 hz1 hz2 hj0 hy0 hy1 hy2 hraw
  have k4 := q1.c4
  go_enter Tryd.func13, Tryd.ntmps13
  go_wp2_with ((with_reducible refine at_ca 11 _ ?_); refine stop_atG ?_)
  refine ⟨?_⟩
  refine wpList_append_sl (P := Tryd.prog) _ rfl (.tmp 3) (.tmp 10) 23 rfl (w.heap.size + 1 + 1) 39 i0 _ 2 8 Tryd.underlying23 HI.out.1 HI.out.2.1 HI.out.2.2.1 HI.out.2.2.2 rfl (by omega) (.slice (some ⟨w.heap.size + 1 + 1, 0, none⟩) 0 0) 0 [] rfl ho1 s.b s.A K1 s.c (cv (g.L.take K1)) rfl hs1 (by simp [l1]) (fun hA => by have := Sl.none_len hs1 rfl hA; simp [l1] at this; omega) (cv_one _) (by simp only [maxLen]; omega) (by omega) (by simp) ?_
  intro v2 w2 hrow2 hgr2 hloc2
  rw [List.nil_append, Nat.zero_add] at hrow2
  have hm2 := Mod.of_grown hgr2
  have hsz2 := hgr2.size
  simp only [World.size_alloc] at hsz2
  have hob : ∀ i, (Value.slice (some ⟨w.heap.size + 1 + 1, 0, none⟩) 0 0).ownBlock = some i → i = w.heap.size + 1 + 1 := fun i h => by simpa [Value.ownBlock] using h.symm
  replace q1 := q1.modG hm2 (fun e => by have := hob _ e; omega)
  replace q2 := q2.modG hm2 (fun e => by have := hob _ e; omega)
  have hb2 : Below w.heap.size w w2 := hbb.trans (hm2.below hbb.size (fun i hi e => by have := hob _ e; omega))
  replace hin3 : Sl w2 s.b' s.A' (kv g.K) := Sl.ext hin.sk hb2
  obtain ⟨A5, c5, b5, rfl, hc5, hB5, hs5, hk5⟩ := own_slG hrow2
  have f4 := q1.free 4
  have k4' := q1.c4
  have hs5' : cv (g.L.take K1) = cv (g.L.take K1) := rfl
  clear hs1 ho1 hm2 hgr2 hloc2 hbb k4 HI hs5'
  go_upto_region 2 with fail
  have q3 := q1.s4 (g.L.take K1) K1 l1 A5 c5 b5
  have hsm := Mod.setCell w2 ⟨w.heap.size, 4, none⟩ (.slice A5 K1 c5)
  obtain ⟨w3, hw3⟩ : ∃ w3, w3 = w2.setCell ⟨w.heap.size, 4, none⟩ (.slice A5 K1 c5) := ⟨_, rfl⟩
  have hz3 : w3.heap.size = w2.heap.size := by rw [hw3]; simp [World.setCell]
  rw [← hw3] at q3 hsm ⊢
  replace q2 := q2.modG hsm (by show ¬ w.heap.size + 1 = w.heap.size; omega)
  replace hs5 : Sl w3 b5 A5 (cv (g.L.take K1)) := hs5.mod hsm (by show ¬ b5 = w.heap.size; omega)
  replace hb2 : Below w.heap.size w w3 := hb2.trans (hsm.below (by omega) (fun i hi e => by have e : i = w.heap.size := e; omega))
  replace hin3 : Sl w3 s.b' s.A' (kv g.K) := Sl.ext hin.sk hb2
  clear hw3 q1 f4 k4' hsm hrow2
  have ha3 := below_alloc1 w3 (.cells #[] 102)
  have hs1 : Sl (w3.alloc (.cells #[] 102)) s.b' s.A' (kv (g.K.take K2)) := by
    have h1 := Sl.take (Sl.ext hin3 ha3) (K2 * 6)
    rwa [kvG_take] at h1
  have ho1 : World.ownsRow (w3.alloc (.cells #[] 102)) w3.heap.size 102 6 (.slice (some ⟨w3.heap.size, 0, none⟩) 0 0) 0 [] :=
    World.ownsRow_made w3 (e := 102) (size := 6) #[] 0 (Nat.le_refl _) (by simp [maxLen]) rfl
  replace q3 := q3.ext ha3
  replace q2 := q2.ext ha3
  have HZ := Lib.hid hz3
  have hbz : w.heap.size ≤ w3.heap.size := hb2.size
  replace hb2 := hb2.trans (ha3.mono hbz)
  clear hin3 hz3
  have k5 := q3.c5
  simp only at k5
  go_wp2_with ((with_reducible refine at_ca 21 _ ?_); refine stop_atG ?_)
  refine ⟨?_⟩
  refine wpList_append_sl (P := Tryd.prog) _ rfl (.tmp 13) (.tmp 20) 24 rfl w3.heap.size 102 j0 _ 6 12 Tryd.underlying24 HJ.out.1 HJ.out.2.1 HJ.out.2.2.1 HJ.out.2.2.2 rfl (by omega) (.slice (some ⟨w3.heap.size, 0, none⟩) 0 0) 0 [] rfl ho1 s.b' s.A' K2 s.c' (kv (g.K.take K2)) rfl hs1 (by simp [l2]) (fun hA => by have := Sl.none_len hs1 rfl hA; simp [l2] at this; omega) (kvG_one _) (by simp only [maxLen]; omega) (by omega) (by simp) ?_
  intro v4 w4 hrow4 hgr4 hloc4
  rw [List.nil_append, Nat.zero_add] at hrow4
  have hm4 := Mod.of_grown hgr4
  have hsz4 := hgr4.size
  simp only [World.size_alloc] at hsz4
  have hob4 : ∀ i, (Value.slice (some ⟨w3.heap.size, 0, none⟩) 0 0).ownBlock = some i → i = w3.heap.size := fun i h => by simpa [Value.ownBlock] using h.symm
  have hq3 := q3.lt
  have hq2 := q2.lt
  have hz9 := HZ.out
  replace q3 := q3.modG hm4 (fun e => by have := hob4 _ e; omega)
  replace q2 := q2.modG hm4 (fun e => by have := hob4 _ e; omega)
  have hb34 : Below w3.heap.size w3 w4 := ha3.trans (hm4.below (by simp) (fun i hi e => by have := hob4 _ e; omega))
  replace hs5 : Sl w4 b5 A5 (cv (g.L.take K1)) := Sl.ext hs5 hb34
  have hb4 : Below w.heap.size w w4 := hb2.trans (hm4.below hb2.size (fun i hi e => by have := hob4 _ e; omega))
  obtain ⟨A6, c6, b6, rfl, hc6, hB6, hs6, hk6⟩ := own_slG hrow4
  have hb6 : w.heap.size + 2 < b6 := by have := HZ.out; omega
  have f5 := q3.free 5
  have k5' := q3.c5
  simp only at k5'
  clear hs1 ho1 hm4 hgr4 hloc4 hb2 k5 HJ hq3 hq2 hz9 hb34 ha3
  go_upto_region 3 with fail
  have q5 := q3.s5 (g.K.take K2) K2 l2 A6 c6 b6
  have hsm := Mod.setCell w4 ⟨w.heap.size, 5, none⟩ (.slice A6 K2 c6)
  obtain ⟨w5, hw5⟩ : ∃ w5, w5 = w4.setCell ⟨w.heap.size, 5, none⟩ (.slice A6 K2 c6) := ⟨_, rfl⟩
  rw [← hw5] at q5 hsm ⊢
  replace q2 := q2.modG hsm (by show ¬ w.heap.size + 1 = w.heap.size; omega)
  replace hs5 : Sl w5 b5 A5 (cv (g.L.take K1)) := hs5.mod hsm (by show ¬ b5 = w.heap.size; omega)
  replace hs6 : Sl w5 b6 A6 (kv (g.K.take K2)) := hs6.mod hsm (by show ¬ b6 = w.heap.size; omega)
  replace hb4 : Below w.heap.size w w5 := hb4.trans (hsm.below hb4.size (fun i hi e => by have e : i = w.heap.size := e; omega))
  clear hw5 q3 f5 k5' hsm hrow4
  have z0 := q5.c0
  have z1 := q5.c1
  have z2 := q5.c2
  have z3 := q5.c3
  have z4 := q5.c4
  have z5 := q5.c5
  have y0 := q2.c0
  have y1 := q2.c1
  have y2 := q2.c2
  have y3 := q2.c3
  have y4 := q2.c4
  have y5 := q2.c5
  have hfz := q2.free
  simp only [l1, l2] at z0 z1 z2 z3 z4 z5
  simp only at y0 y1 y2 y3 y4 y5
  go_wp2_with fail
  obtain ⟨h9, m9⟩ := six_set6 (.int .i64 g.ob) (.int .i64 g.pl) (.int .u32 (g.mv : Int)) (.int .u32 (g.df : Int)) (.slice A5 K1 c5) (.slice A6 K2 c6) q2
  refine bodyPost_ret (results_cell_row (P := Tryd.prog) rfl _ _ (w.heap.size + 1) _ _ (0, 0) _ rfl h9 Tryd.underlying26 rfl (by kernel_rfl)) rfl ?_
  have hb9 := hb4.trans (m9.below hb4.size (fun i hi e => by have e : i = w.heap.size + 1 := e; omega))
  refine ⟨⟨A5, c5, b5, A6, c6, b6⟩, ?_, ⟨?_, ?_⟩, ?_, ⟨by show w.heap.size ≤ b5; omega, by show w.heap.size ≤ b6; omega⟩, hb9⟩
  · simp only [gmA, l1, l2]
  · exact hs5.mod m9 (by show ¬ b5 = w.heap.size + 1; omega)
  · exact hs6.mod m9 (by show ¬ b6 = w.heap.size + 1; omega)
  · exact HOKK.out ⟨A5, c5, b5, A6, c6, b6⟩ (by show (g.L.take K1).length ≤ c5; rw [l1]; exact hc5) (by show (g.K.take K2).length ≤ c6; rw [l2]; exact hc6)
end Go.Proofs.YtinkngjbfhkhnaaDoor
/- How a list of int32 that came in reads, in the words of this seat's walks. No condition. -/
namespace Go.Proofs.YtinkngjbfhkhnaaDoor
open Go.ChangeShapes Go.WideShapes Go.ChangeAt Go.RowKit Go.Deep

theorem ints_is {w : World} {x : Addr} {len : Nat} {zs : List Int} (hz : len ≤ zs.length) (hc : ∀ i, i < zs.length → w.cell? (x.add i) = some (.int .i32 (zs.getD i 0))) :
    Is w x.block (some x) (zs.take len) := by
  refine fun hne => ?_
  have h0 : 0 < zs.length := by
    rcases Nat.eq_zero_or_pos len with h | h
    · subst h; simp at hne
    · omega
  obtain ⟨bb, off, spot⟩ := x
  have hspot : spot = none := by simpa [Addr.add] using World.cell?_spot (hc 0 h0)
  subst hspot
  refine ⟨off, rfl, fun j u hu => ?_⟩
  have hj : j < len := by
    have := (List.getElem?_eq_some_iff.1 hu).1
    simp [iv] at this
    omega
  have hjz : j < zs.length := by omega
  have h1 := hc j hjz
  rw [Addr.add_lit] at h1
  rw [h1]
  have hm : zs.getD j 0 = zs[j] := by simp [List.getD, hjz]
  have h2 : (iv (zs.take len))[j]? = some (.int .i32 zs[j]) := by
    simp [iv, hj, hjz]
  rw [h2] at hu
  injection hu with hu
  rw [← hu, hm]
set_option maxRecDepth 100000 in
theorem open_i32s {H : Type} {enc : TypeId × Value → H} {W : World} {base b0 : Nat} {spare : Nat → Bool} {held : Bool} {r : Reach} {v : Value} {d : DataW H} {p : List MemPlace} (hv : Value.okWide Tryd.prog W r base 28 v) (h : DataW.Trod enc Tryd.prog W b0 spare held 28 v d p) :
    ∃ A n c b l, v = .slice A n c ∧ l.length = n ∧ n ≤ maxLen ∧ n ≤ c ∧ (∀ x ∈ l, -2147483648 ≤ x ∧ x ≤ 2147483647) ∧ Is W b A l := by
  obtain ⟨a, len, cap, rfl⟩ := okWide_slice Tryd.underlying28 hv
  obtain ⟨fuel, hf⟩ := h
  rcases open_ints Tryd.underlying28 Tryd.underlying21 (by kernel_rfl) hf with ⟨hcs, _⟩ | ⟨x, l, c, zs, hcs, _, hl, hm, hz, _, hcell, hwf⟩
  · simp [Value.cells] at hcs
    obtain ⟨rfl, rfl, rfl⟩ := hcs
    exact ⟨none, 0, 0, 0, [], rfl, rfl, by simp [maxLen], Nat.le_refl _, (fun _ h => by cases h), Sl.nil_ _ _ _⟩
  · simp [Value.cells] at hcs
    obtain ⟨rfl, rfl, rfl⟩ := hcs
    have hlz : len ≤ zs.length := by rw [hz]; split <;> omega
    exact ⟨_, _, _, x.block, zs.take len, rfl, by rw [List.length_take]; omega, by omega, hl, fun y hy => bounds_i32 (hwf y (List.mem_of_mem_take hy)), ints_is hlz hcell⟩
end Go.Proofs.YtinkngjbfhkhnaaDoor
