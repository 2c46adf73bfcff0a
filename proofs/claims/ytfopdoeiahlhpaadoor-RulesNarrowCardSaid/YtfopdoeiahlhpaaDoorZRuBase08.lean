/- Parts of one proof, in their order. -/
import Derived.Test.YtfopdoeiahlhpaaDoorZRuBase07
import Derived.Test.YtfopdoeiahlhpaaDoorRows
import Derived.ProofKit
import Derived.OpenShut
import Derived.ShutString
import Derived.ChangeOld
import Derived.Deep.Slices
import Derived.Deep.Fields
import Derived.Lib.SmallJoins
import Derived.LaidSub
import Derived.Deep.DeepCutAuto
import Derived.SizedLaws
/- Start. Conditions: the numbers fit; the table lies. -/
namespace Go.Proofs.YtfopdoeiahlhpaaDoor
open Go.RowKit

set_option maxRecDepth 40000 in
theorem st_built0 : Tryd.prog.built 46 [] = some (stA zSt) := by kernel_rfl
theorem wpList_bdS0 {ops : Array Oper} {rest : List Oper} {o : Oper} {a : Act} {w : World} {Q : Exit → Act → World → Prop} (hgd : o.guard = none) (ho : o.op = .build 46 #[])
    (h : wpList Tryd.prog ops Q rest (a.put o.dst (.agg (stA zSt))) w) : wpList Tryd.prog ops Q (o :: rest) a w := by
  have e : Tryd.prog.built 46 ((#[] : Array (Nat × Operand)).map fun (i, x) => (i, a.eval x)).toList = some (stA zSt) := by
    simpa using st_built0
  exact wpList_build hgd _ _ ho (by rw [e]; rfl) (by rw [e]; exact h)
set_option maxHeartbeats 8000000 in
set_option maxRecDepth 20000 in
theorem Start_bad (g : Gm) (s : Gs) (sd : Nat) (H : List Int) (HA : Option Addr) (hc : Nat) (w : World) (hin : GIn w g s) (hok : GOk g s) (hT : CTab w) (hr : rightB g = false) :
    Calls Tryd.prog 15 #[.agg (gmA g s), .int .u64 (sd : Int), .slice HA H.length hc] w fun e w' => e = .returned (.tuple #[.agg (stA zSt), .int .i64 2]) ∧ Below w.heap.size w w' := by
  have z1 : (w.alloc (.cells (gmA g s) 26)).heap.size = w.heap.size + 1 := by simp
  have z2 : ((w.alloc (.cells (gmA g s) 26)).alloc (.cells (stA zSt) 46)).heap.size = w.heap.size + 2 := by simp
  have hb := below_alloc2 w (.cells (gmA g s) 26) (.cells (stA zSt) 46)
  have h2 := below_alloc1 (w.alloc (.cells (gmA g s) 26)) (.cells (stA zSt) 46)
  have q3 := (GBox.new_ w g s).ext h2
  have q6 := BoxS.new_ (w.alloc (.cells (gmA g s) 26)) zSt
  rw [z1] at q6
  have hin1 := hin.ext hb
  have hT1 := hT.ext hb
  clear h2
  go_enter Tryd.func15, Tryd.ntmps15
  go_wp2_with ((with_reducible refine at_al 46 6 ?_); refine wpList_alS rfl rfl (some 6) rfl (w.heap.size + 1) z1 ?_)
  obtain ⟨wb, hwb⟩ : ∃ wb, wb = (w.alloc (.cells (gmA g s) 26)).alloc (.cells (stA zSt) 46) := ⟨_, rfl⟩
  rw [← hwb] at hb q3 q6 z2 hin1 hT1 ⊢
  obtain ⟨B, hB⟩ : ∃ B, B = w.heap.size := ⟨_, rfl⟩
  have HB := Lib.hid hB
  rw [← hB] at hb q3 q6 z2 ⊢
  clear hwb z1 hB
  refine (GRight_calls g s wb hin1 hok hT1).mono ?_
  rintro e wa ⟨rfl, ha⟩
  rw [hr]
  have q3 := q3.ext ha
  have q6 := q6.ext ha
  have hb := hb.trans (ha.mono (by rw [z2]; omega))
  have hza : B + 2 ≤ wa.heap.size := by have := ha.size; omega
  clear ha z2 hin1 hT1
  go_wp2_with (first | ((with_reducible refine at_bd 46 17 _ ?_); refine wpList_bdS0 rfl rfl ?_) | ((with_reducible refine at_st 46 6 17 ?_); refine wpList_stS rfl (.tmp 6) (.tmp 17) rfl (B + 1) zSt rfl rfl zSt q6 ?_))
  refine bodyPost_ret (results_ct (P := Tryd.prog) rfl _ _ (B + 1) _ _ (0, 0) _ rfl (q6.row_ zSt) Tryd.underlying46 rfl (by rw [stA_size]; kernel_rfl)) rfl ⟨rfl, ?_⟩
  rw [← HB.out]
  exact below_setRow hb _ _ (by omega)
set_option maxHeartbeats 8000000 in
set_option maxRecDepth 20000 in
theorem Start_good (g : Gm) (s : Gs) (sd : Nat) (H : List Int) (HA : Option Addr) (hc : Nat) (w : World) (hin : GIn w g s) (hok : GOk g s) (hT : CTab w) (hbk : Nat) (hH : Is w hbk HA H) (hlH : H.length ≤ maxLen) (hoH : ∀ x ∈ H, -2147483648 ≤ x ∧ x ≤ 2147483647) (hr : rightB g = true) :
    Calls Tryd.prog 15 #[.agg (gmA g s), .int .u64 (sd : Int), .slice HA H.length hc] w fun e w' => e = .returned (.tuple #[.agg (stA ⟨startC g H, sd, 0⟩), .int .i64 0]) ∧ Below w.heap.size w w' := by
  have hp := right_parts hr
  have hin0 := Lib.hid hin
  have z1 : (w.alloc (.cells (gmA g s) 26)).heap.size = w.heap.size + 1 := by simp
  have z2 : ((w.alloc (.cells (gmA g s) 26)).alloc (.cells (stA zSt) 46)).heap.size = w.heap.size + 2 := by simp
  have hb := below_alloc2 w (.cells (gmA g s) 26) (.cells (stA zSt) 46)
  have h2 := below_alloc1 (w.alloc (.cells (gmA g s) 26)) (.cells (stA zSt) 46)
  have q3 := (GBox.new_ w g s).ext h2
  have q6 := BoxS.new_ (w.alloc (.cells (gmA g s) 26)) zSt
  rw [z1] at q6
  have hin1 := hin.ext hb
  have hT1 := hT.ext hb
  clear h2
  go_enter Tryd.func15, Tryd.ntmps15
  go_wp2_with ((with_reducible refine at_al 46 6 ?_); refine wpList_alS rfl rfl (some 6) rfl (w.heap.size + 1) z1 ?_)
  obtain ⟨wb, hwb⟩ : ∃ wb, wb = (w.alloc (.cells (gmA g s) 26)).alloc (.cells (stA zSt) 46) := ⟨_, rfl⟩
  rw [← hwb] at hb q3 q6 z2 hin1 hT1 ⊢
  obtain ⟨B, hB⟩ : ∃ B, B = w.heap.size := ⟨_, rfl⟩
  have HB := Lib.hid hB
  rw [← hB] at hb q3 q6 z2 ⊢
  clear hwb z1 hB
  refine (GRight_calls g s wb hin1 hok hT1).mono ?_
  rintro e wa ⟨rfl, ha⟩
  rw [hr]
  have q3 := q3.ext ha
  have q6 := q6.ext ha
  have hb := hb.trans (ha.mono (by rw [z2]; omega))
  have hza : B + 2 ≤ wa.heap.size := by have := ha.size; omega
  clear ha z2 hin1 hT1
  have hbw : Below w.heap.size w wa := by rw [← HB.out]; exact hb
  have hin1 := hin0.out.ext hbw
  have hH1 := Sl.ext hH hbw
  have hltH : 0 < H.length → hbk < w.heap.size := fun h => Sl.lt hH (by intro h0; have h5 := congrArg List.length h0; rw [iv_length, List.length_nil] at h5; omega)
  have hL48 : g.L.length ≤ 48 := by
    have h5 := hp.2.2.2.1
    unfold rcB at h5
    simp only [Bool.and_eq_true, decide_eq_true_eq] at h5
    exact h5.1
  have c4 := q3.c4
  have hcs := hok.hL
  have hoL := hok.oL
  have hnl := RowC.nil_ 39 wa wa.heap.size
  simp only [maxLen] at hlH
  have HOH := Lib.hid hoH
  have HOL := Lib.hid hoL
  have hsc := hin1.sc
  clear hbw hp hr hin1 hH hin hT hok hoH hoL
  go_wp2_with ((with_reducible refine at_ca 20 _ ?_); refine wpList_appC _ Tryd.underlying23 cellB_info rfl (.const (.slice none 0 0)) (.tmp 19) rfl wa.heap.size (.slice none 0 0) [] rfl hnl s.b s.A g.L.length s.c g.L rfl hsc rfl (by simp; omega) (Nat.le_refl _) ?_; intro v2 w8 hrow2 hmod2 hown2; rw [List.nil_append] at hrow2; obtain ⟨A9, c9, b9, rfl, hc9, hm9, -, hb9, hs9, hbk9⟩ := hrow2.sl)
  have hm8 : Below wa.heap.size wa w8 := hmod2.below (Nat.le_refl _) (fun i _ h => by cases h)
  have hb := hb.trans (hm8.mono (by omega))
  have hH1 := Sl.ext hH1 hm8
  have q6 := q6.ext hm8
  have hz8 := hm8.size
  have KB9 := Lib.hid hbk9
  have hrm : RowC 39 w8 wa.heap.size (.slice A9 g.L.length c9) (stK g.L H 0) := by rw [stK_zero]; exact hrow2
  have hlt9 : B ≤ wa.heap.size := by omega
  have hltH : 0 < H.length → hbk < B := fun h => by rw [HB.out]; exact hltH h
  clear hrow2 hmod2 hown2 hm8 hbk9 hs9 hb9 hm9 hc9 hsc hnl c4 hcs
  go_loopw [9, 10, 11, 23] (fun nx _ _ i wr => ∃ k : Nat, k ≤ g.L.length ∧ i = .int .i64 k ∧ nx = .int .i64 ((min (cntZ g.L k) H.length : Nat) : Int) ∧ RowC 39 wr wa.heap.size (.slice A9 g.L.length c9) (stK g.L H k) ∧ Is wr hbk HA H ∧ Below wa.heap.size w8 wr ∧ w8.heap.size ≤ wr.heap.size) (fun _ _ _ i _ => g.L.length - (intOf i).toNat)
  case atStart => exact ⟨0, Nat.zero_le _, rfl, by rw [cntZ_zero, Nat.zero_min]; rfl, hrm, hH1, Below.refl _ _, Nat.le_refl _⟩
  case round =>
    clear hrm hH1
    obtain ⟨k, hk, rfl, rfl, hrm, hH1, hbr, hz⟩ := hrel
    by_cases hlt : k < g.L.length
    · have hka : k < (stK g.L H k).length := by rw [stK_length]; exact hlt
      obtain ⟨gg, cap, hv, hg, hgl, hcap, k0, k1, kf, kset, -⟩ := hrm.set_ hka
      have hv0 := KB9.out
      injection hv with hvA hvn hvc
      rw [hvA] at hv0
      obtain rfl : gg = b9 := hv0 gg rfl
      clear hv0 hvn hvc
      rw [stK_at hlt (Nat.le_refl k)] at k0 k1 kset
      have HSAME := Lib.hid (stK_same (H := H) hlt)
      have HSET := Lib.hid (stK_set (H := H) hlt)
      have HAT := Lib.hid (show stAt g.L H g.L[k] k = if g.L[k].2 = 0 ∧ cntZ g.L k < H.length then (H.getD (cntZ g.L k) 0, g.L[k].2) else g.L[k] from rfl)
      have hcz := cntZ_succ hlt
      have hcl := cntZ_le g.L k
      obtain ⟨X, hX⟩ : ∃ X, X = g.L[k].1 := ⟨_, rfl⟩
      obtain ⟨Y, hY⟩ : ∃ Y, Y = g.L[k].2 := ⟨_, rfl⟩
      obtain ⟨z, hz9⟩ : ∃ z, z = cntZ g.L k := ⟨_, rfl⟩
      rw [← hX] at k0
      rw [← hY] at k1 kset HAT HSAME hcz
      rw [← hz9] at HAT HSAME hcz hcl ⊢
      have HKS := Lib.hid kset
      have HCZ := Lib.hid hcz
      have kf0 := kf (k * 2)
      have ej : (k : Int) < (g.L.length : Int) := by omega
      have hgw : B ≤ gg := by omega
      have hbr2 := hbr.alloc (by omega) (.cells #[.int .i32 X, .int .u32 (Y : Int)] 39)
      clear hX hY hka kset kf hcz hz9
      subst hvA
      by_cases hy0 : Y ≤ 0
      · obtain rfl : Y = 0 := by omega
        have ey : (((0 : Nat) : Int) == 0) = true := by simp
        by_cases hzh : z < H.length
        · have hmn : min z H.length = z := by omega
          rw [hmn]
          have ev : decide ((z : Int) < (H.length : Int)) = true := by simp; omega
          have ezh : (z : Int) < (H.length : Int) := by omega
          have hgH : hbk ≠ gg := by have := hltH (by omega); omega
          obtain ⟨hoff, rfl, hvc⟩ := hH1 (by intro h0; have h5 := congrArg List.length h0; rw [iv_length, List.length_nil] at h5; omega)
          have hvk := hvc z _ (iv_get H z hzh)
          obtain ⟨x, hx⟩ : ∃ x, x = H[z] := ⟨_, rfl⟩
          rw [← hx] at hvk
          have HX := Lib.hid hx
          have ha9 := below_alloc1 wr (.cells #[.int .i32 X, .int .u32 0] 39)
          have hvk := sl_same ha9 hvk
          have k0 := sl_same ha9 k0
          have kf0 := (ha9.frozen (p := ⟨gg, k * 2, none⟩) hgl).trans kf0
          clear hvc hx hmn ha9
          go_wp2_with fail
          have hr2 := HKS.out x ((wr.setCell ⟨gg, k * 2, none⟩ (.int .i32 x)).alloc (.cells #[.int .i32 X, .int .u32 ((0 : Nat) : Int)] 39)) (Below.heap_alloc _ _ gg (by simp; exact hgl))
          have e9 : stAt g.L H g.L[k] k = (x, 0) := by rw [HAT.out, if_pos ⟨by trivial, hzh⟩, HX.out]; simp [List.getD, hzh]
          rw [← e9, HSET.out] at hr2
          have hal1 := below_alloc1 (wr.setCell ⟨gg, k * 2, none⟩ (.int .i32 x)) (.cells #[.int .i32 X, .int .u32 ((0 : Nat) : Int)] 39)
          go_roundw
          case rel => exact ⟨k + 1, by omega, by go_num, by rw [HCZ.out]; simp; omega, hr2, Sl.ext (Sl.setCell hH1 hgH _) hal1, (hbr.setCell hg _).alloc (by simp; omega) _, by simp; omega⟩
          case measure => simp [intOf]; omega
        · have hmn : min z H.length = H.length := by omega
          have hmn2 : min (z + 1) H.length = H.length := by omega
          rw [hmn]
          have ev : decide ((H.length : Int) < (H.length : Int)) = false := by simp
          have HMN := Lib.hid hmn2
          clear hmn hmn2
          go_wp2_with fail
          go_roundw
          case rel => exact ⟨k + 1, by omega, by go_num, by rw [HCZ.out]; simp [HMN.out], by rw [← HSAME.out (fun h => hzh h.2)]; exact RowC.ext hrm (below_alloc1 _ _), Sl.alloc hH1 _, hbr2, by simp; omega⟩
          case measure => simp [intOf]; omega
      · have ey : ((Y : Int) == 0) = false := by simp; omega
        have hy9 : ¬ Y = 0 := by omega
        have HNY := Lib.hid hy9
        clear hy9
        go_wp2_with fail
        go_roundw
        case rel => exact ⟨k + 1, by omega, by go_num, by rw [HCZ.out, if_neg HNY.out]; rfl, by rw [← HSAME.out (fun h => HNY.out h.1)]; exact RowC.ext hrm (below_alloc1 _ _), Sl.alloc hH1 _, hbr2, by simp; omega⟩
        case measure => simp [intOf]; omega
    · obtain hke : k = g.L.length := by omega
      obtain ⟨C, hC⟩ : ∃ C, C = startC g H := ⟨_, rfl⟩
      have lC : C.length = g.L.length := by rw [hC]; exact stK_length _ _ _
      have hrm : RowC 39 wr wa.heap.size (.slice A9 g.L.length c9) C := by rw [hC]; unfold startC; rw [← hke]; rw [hke] at hrm ⊢; exact hrm
      obtain ⟨A9', c9', b9', hv9, hc9', -, -, -, hsC, -⟩ := hrm.sl
      rw [lC] at hv9 hc9'
      injection hv9 with h91 h92 h93
      subst h91 h93
      have LC := Lib.hid lC
      have HC := Lib.hid hC
      have q6 := q6.below hbr (by omega)
      have hb := hb.trans (hbr.mono (by omega))
      obtain ⟨wl, hwl⟩ : ∃ wl, wl = wr := ⟨_, rfl⟩
      rw [← hwl] at hsC hb hz q6 ⊢
      have ej : ¬ (k : Int) < (g.L.length : Int) := by omega
      clear hwl hrm h92 hH1 hbr KB9 lC hC hke
      go_wp2_with fail
      refine (New_in A9 C g.L.length c9 b9' wl hsC LC.out hL48).mono ?_
      rintro e w7 ⟨rfl, h7⟩
      have l7 := BoxL.new_ w7 C
      have h8 := below_alloc1 w7 (.cells (bdL C) 42)
      have q6 := (q6.ext h7).ext h8
      have hb := hb.trans (h7.mono (by omega))
      have hb := hb.trans (h8.mono (by have := h7.size; omega))
      obtain ⟨G, hG⟩ : ∃ G, G = w7.heap.size := ⟨_, rfl⟩
      rw [← hG] at l7
      have HG := Lib.hid hG.symm
      have hGz : B + 2 ≤ G := by have := h7.size; omega
      clear h7 h8 hG
      go_wp2_with (first | ((with_reducible refine at_al 42 12 ?_); refine wpList_al rfl rfl (some 12) rfl G HG.out ?_) | ((with_reducible refine at_st 42 12 51 ?_); refine wpList_put rfl (.tmp 12) (.tmp 51) rfl HG.out C rfl rfl ?_) | ((with_reducible refine at_ld 42 12 ?_); refine wpList_ld (by first | rfl | simp [Region.wanted, yielded]) (.tmp 12) rfl G rfl C l7 ?_) | ((with_reducible refine at_bd 46 56 _ ?_); refine wpList_bdS1 rfl (.tmp 53) (.tmp 55) C sd rfl rfl rfl ?_) | ((with_reducible refine at_st 46 6 56 ?_); refine wpList_stS rfl (.tmp 6) (.tmp 56) rfl (B + 1) ⟨C, sd, 0⟩ rfl rfl zSt q6 ?_))
      refine bodyPost_ret (results_ct (P := Tryd.prog) rfl _ _ (B + 1) _ _ (0, 0) _ rfl (q6.row_ ⟨C, sd, 0⟩) Tryd.underlying46 rfl (by rw [stA_size]; kernel_rfl)) rfl ⟨by rw [← HC.out]; rfl, ?_⟩
      rw [← HB.out]
      exact below_setRow hb _ _ (by omega)
end Go.Proofs.YtfopdoeiahlhpaaDoor
/- How an argument that came in reads, in the words of this seat's walks. No condition. -/
namespace Go.Proofs.YtfopdoeiahlhpaaDoor
open Go.ChangeShapes Go.WideShapes Go.ChangeAt Go.RowKit

theorem own : ownKnob Tryd.prog.godebug = none := by kernel_rfl
theorem laidOut : laidOutB Tryd.prog = true := by kernel_rfl
end Go.Proofs.YtfopdoeiahlhpaaDoor
/- How a list of instructions, and an instruction, that came in read, in the words of this seat's walks; a world in which the tables lie. No condition. -/
namespace Go.Proofs.YtfopdoeiahlhpaaDoor
open Go.ChangeShapes Go.WideShapes Go.ChangeAt Go.RowKit Go.Deep

theorem kcode_cells : Tryd.prog.cellsOf 102 = 6 := by kernel_rfl
theorem kcode_under : ∃ f0  f1  f2  f3  f4  f5 : Field, Tryd.prog.underlying 102 = some (.struct #[f0, f1, f2, f3, f4, f5]) ∧ oneCellFields Tryd.prog #[f0, f1, f2, f3, f4, f5] = true ∧ f0.type = 5 ∧ f1.type = 5 ∧ f2.type = 5 ∧ f3.type = 5 ∧ f4.type = 21 ∧ f5.type = 37 :=
  ⟨_, _, _, _, _, _, Tryd.underlying102, by kernel_rfl, rfl, rfl, rfl, rfl, rfl, rfl⟩
set_option maxRecDepth 100000 in
theorem trod_code {H : Type} {enc : TypeId × Value → H} {W : World} {b0 fuel : Nat} {spare : Nat → Bool} {held : Bool} {cs : List Value} {x : DataW H × List MemPlace} (hlen : cs.length = 6) (ht : DataW.trod enc Tryd.prog W b0 spare held fuel 102 cs = some x) :
    ∃ y : Cd, cs = (cdA y).toList ∧ y.Ok := by
  obtain ⟨f0, f1, f2, f3, f4, f5, hu, hone, h0, h1, h2, h3, h4, h5⟩ := kcode_under
  obtain ⟨ys, n', _, _, _, hyl, hf⟩ := DataW.trod_struct hu ht
  match cs, hlen with
  | [v0, v1, v2, v3, v4, v5], _ =>
    match ys, hyl with
    | [y0, y1, y2, y3, y4, y5], _ =>
      obtain ⟨o0, k0⟩ := hone_of hone 0 f0 rfl
      obtain ⟨o1, k1⟩ := hone_of hone 1 f1 rfl
      obtain ⟨o2, k2⟩ := hone_of hone 2 f2 rfl
      obtain ⟨o3, k3⟩ := hone_of hone 3 f3 rfl
      obtain ⟨o4, k4⟩ := hone_of hone 4 f4 rfl
      obtain ⟨o5, k5⟩ := hone_of hone 5 f5 rfl
      have g0 := hf 0 f0 rfl
      have g1 := hf 1 f1 rfl
      have g2 := hf 2 f2 rfl
      have g3 := hf 3 f3 rfl
      have g4 := hf 4 f4 rfl
      have g5 := hf 5 f5 rfl
      rw [o0, k0, h0] at g0
      rw [o1, k1, h1] at g1
      rw [o2, k2, h2] at g2
      rw [o3, k3, h3] at g3
      rw [o4, k4, h4] at g4
      rw [o5, k5, h5] at g5
      simp only [List.drop_zero, List.drop_succ_cons, List.take_succ_cons, List.take_zero, List.getElem?_cons_zero, List.getElem?_cons_succ] at g0 g1 g2 g3 g4 g5
      obtain ⟨a0, e0, -, w0⟩ := DataW.trod_int Tryd.underlying5 g0
      injection e0 with e0
      have c0 := bounds_u8 w0
      obtain ⟨a1, e1, -, w1⟩ := DataW.trod_int Tryd.underlying5 g1
      injection e1 with e1
      have c1 := bounds_u8 w1
      obtain ⟨a2, e2, -, w2⟩ := DataW.trod_int Tryd.underlying5 g2
      injection e2 with e2
      have c2 := bounds_u8 w2
      obtain ⟨a3, e3, -, w3⟩ := DataW.trod_int Tryd.underlying5 g3
      injection e3 with e3
      have c3 := bounds_u8 w3
      obtain ⟨a4, e4, -, w4⟩ := DataW.trod_int Tryd.underlying21 g4
      injection e4 with e4
      have c4 := bounds_i32 w4
      obtain ⟨a5, e5, -, w5⟩ := DataW.trod_int Tryd.underlying37 g5
      injection e5 with e5
      have c5 := bounds_u32 w5
      refine ⟨⟨a0.toNat, a1.toNat, a2.toNat, a3.toNat, a4, a5.toNat⟩, ?_, by simp only; omega, by simp only; omega, by simp only; omega, by simp only; omega, by simp only; omega, by simp only; omega, by simp only; omega⟩
      simp only [cdA]
      rw [e0, e1, e2, e3, e4, e5, Int.toNat_of_nonneg c0.1, Int.toNat_of_nonneg c1.1, Int.toNat_of_nonneg c2.1, Int.toNat_of_nonneg c3.1, Int.toNat_of_nonneg c5.1]
theorem klist_of {α : Type} {n : Nat} {P : Nat → α → Prop} (h : ∀ i, i < n → ∃ x, P i x) : ∃ l : List α, l.length = n ∧ ∀ i (hi : i < l.length), P i l[i] := by
  induction n with
  | zero => exact ⟨[], rfl, fun i hi => by simp at hi⟩
  | succ n ih =>
    obtain ⟨l, hl, hp⟩ := ih (fun i hi => h i (by omega))
    obtain ⟨x, hx⟩ := h n (by omega)
    refine ⟨l ++ [x], by simp [hl], fun i hi => ?_⟩
    by_cases hin : i < l.length
    · rw [List.getElem_append_left hin]; exact hp i hin
    · have : i = n := by simp at hi; omega
      subst this
      rw [List.getElem_append_right (by omega)]
      simpa using hx
set_option maxRecDepth 100000 in
theorem open_codes {H : Type} {enc : TypeId × Value → H} {W : World} {base b0 : Nat} {spare : Nat → Bool} {held : Bool} {r : Reach} {v : Value} {d : DataW H} {p : List MemPlace} (hv : Value.okWide Tryd.prog W r base 24 v) (h : DataW.Trod enc Tryd.prog W b0 spare held 24 v d p) :
    ∃ A n c b L, v = .slice A n c ∧ L.length = n ∧ n ≤ maxLen ∧ n ≤ c ∧ okK L ∧ Sl W b A (kv L) := by
  obtain ⟨a, len, cap, rfl⟩ := okWide_slice Tryd.underlying24 hv
  obtain ⟨fuel, hf⟩ := h
  rcases open_slice Tryd.underlying24 hf with ⟨hcs, _⟩ | ⟨x, l, c, m, n, D, Pl, hcs, _, hl, hm, hmm, _, hel⟩
  · simp [Value.cells] at hcs
    obtain ⟨rfl, rfl, rfl⟩ := hcs
    exact ⟨none, 0, 0, 0, [], rfl, rfl, by simp [maxLen], Nat.le_refl _, fun c hc => (by cases hc), Sl.nil_ _ _ _⟩
  · simp [Value.cells] at hcs
    obtain ⟨rfl, rfl, rfl⟩ := hcs
    have hlm : len ≤ m := by rw [hmm]; split <;> omega
    rw [kcode_cells] at hel
    obtain ⟨xs, hxl, hxs⟩ := klist_of (n := len) (P := fun i (y : Cd) => y.Ok ∧ ∀ r, r < 6 → W.cell? (x.add (i * 6 + r)) = (cdA y).toList[r]?) (fun i hi => by
      obtain ⟨cs', hc, ht⟩ := hel i (by omega)
      obtain ⟨_, hcl, hat⟩ := World.cells?_some hc
      obtain ⟨y, hy, hyin⟩ := trod_code hcl ht
      refine ⟨y, hyin, fun r hr => ?_⟩
      have a0 := hat r (by omega)
      rw [Go.Deep.add_add, hy] at a0
      exact a0)
    have hok : okK xs := fun y hy => by
      obtain ⟨i, hi, rfl⟩ := List.getElem_of_mem hy
      exact (hxs i hi).1
    by_cases h0 : len = 0
    · have hx0 : xs = [] := List.eq_nil_of_length_eq_zero (by omega)
      subst hx0
      exact ⟨_, _, _, 0, [], rfl, hxl, by omega, hl, hok, Sl.nil_ _ _ _⟩
    · obtain ⟨bb, off, spot⟩ := x
      have hc0 := (hxs 0 (by omega)).2 0 (by omega)
      have hspot : spot = none := by
        rw [show (cdA (xs[0]'(by omega))).toList[0]? = some (.int .u8 ((xs[0]'(by omega)).op : Int)) from rfl] at hc0
        simpa [Addr.add] using World.cell?_spot hc0
      subst hspot
      refine ⟨_, _, _, bb, xs, rfl, hxl, by omega, hl, hok, fun _ => ⟨off, rfl, fun j u hu => ?_⟩⟩
      have hj := (List.getElem?_eq_some_iff.1 hu).1
      rw [kv_length] at hj
      have h1 := (hxs (j / 6) (by omega)).2 (j % 6) (by omega)
      rw [Addr.add_lit] at h1
      have h2 := kv_get (l := xs) (i := j / 6) (by omega) (r := j % 6) (by omega)
      rw [show j / 6 * 6 + j % 6 = j by omega] at h1 h2
      rw [h1, ← h2]
      exact hu
set_option maxRecDepth 100000 in
/-- An instruction by value. -/
theorem open_code {H : Type} {enc : TypeId × Value → H} {W : World} {base b0 : Nat} {spare : Nat → Bool} {held : Bool} {r : Reach} {v : Value} {d : DataW H} {p : List MemPlace} (hv : Value.okWide Tryd.prog W r base 102 v) (h : DataW.Trod enc Tryd.prog W b0 spare held 102 v d p) :
    ∃ (op a b cc : Nat) (n : Int) (m : Nat), v = .agg #[.int .u8 (op : Int), .int .u8 (a : Int), .int .u8 (b : Int), .int .u8 (cc : Int), .int .i32 n, .int .u32 (m : Int)] ∧ (Cd.mk op a b cc n m).Ok := by
  obtain ⟨f0, f1, f2, f3, f4, f5, hu, -⟩ := kcode_under
  obtain ⟨cs, rfl, hsz⟩ := okWide_struct hu hv
  obtain ⟨fuel, hf⟩ := h
  obtain ⟨y, hy, hyin⟩ := trod_code (by simpa [Value.cells] using hsz.trans kcode_cells) hf
  have h2 : cs = cdA y := by simpa [Value.cells] using hy
  exact ⟨y.op, y.a, y.b, y.c, y.n, y.m, by rw [h2]; rfl, hyin⟩
/-- The table that the walks want. -/
theorem tab_of_laid {W : World} (h : laidMet Tryd.prog [("hoodwink/code.shapes", Rows.laid_hoodwink_code_shapes)] W) : CTab W := ctab_of_reads (Lib.laidMet.reads h (by simp))
/-- A row of numbers, laid. -/
noncomputable def layVals (zs : List Value) : Obj → Obj
  | .cells _ t frozen => .cells zs.toArray t frozen
  | o => o
/-- A world in which the tables lie as they are laid. -/
noncomputable def laidWorld (os : Os) : World :=
  { World.holding Tryd.prog os ⟨#[], #[], []⟩ with heap := (World.holding Tryd.prog os ⟨#[], #[], []⟩).heap.modify 0 (layVals (shapeT.flatMap fun r => [.string ⟨r.1.toArray⟩, .int .u8 (r.2.1 : Int), .int .u8 (r.2.2 : Int)])) }
end Go.Proofs.YtfopdoeiahlhpaaDoor
/- How a game that came in reads, in the words of this seat's walks. No condition. -/
namespace Go.Proofs.YtfopdoeiahlhpaaDoor
open Go.ChangeShapes Go.WideShapes Go.ChangeAt Go.RowKit Go.Deep
set_option linter.unusedVariables false

theorem bcell_cells : Tryd.prog.cellsOf 39 = 2 := by kernel_rfl
theorem bcell_under : ∃ f0 f1 : Field, Tryd.prog.underlying 39 = some (.struct #[f0, f1]) ∧ oneCellFields Tryd.prog #[f0, f1] = true ∧ f0.type = 21 ∧ f1.type = 37 :=
  ⟨_, _, Tryd.underlying39, by kernel_rfl, rfl, rfl⟩
set_option maxRecDepth 100000 in
theorem trod_cell {H : Type} {enc : TypeId × Value → H} {W : World} {b0 fuel : Nat} {spare : Nat → Bool} {held : Bool} {cs : List Value} {x : DataW H × List MemPlace} (hlen : cs.length = 2) (ht : DataW.trod enc Tryd.prog W b0 spare held fuel 39 cs = some x) :
    ∃ y : Int × Nat, cs = [.int .i32 y.1, .int .u32 ((y.2 : Nat) : Int)] ∧ ((-2147483648 ≤ y.1 ∧ y.1 ≤ 2147483647) ∧ y.2 < 4294967296) := by
  obtain ⟨f0, f1, hu, hone, h0, h1⟩ := bcell_under
  obtain ⟨ys, n', _, _, _, hyl, hf⟩ := DataW.trod_struct hu ht
  match cs, hlen with
  | [v0, v1], _ =>
    match ys, hyl with
    | [y0, y1], _ =>
      obtain ⟨o0, k0⟩ := hone_of hone 0 f0 rfl
      obtain ⟨o1, k1⟩ := hone_of hone 1 f1 rfl
      have g0 := hf 0 f0 rfl
      have g1 := hf 1 f1 rfl
      rw [o0, k0, h0] at g0
      rw [o1, k1, h1] at g1
      simp only [List.drop_zero, List.drop_succ_cons, List.take_succ_cons, List.take_zero, List.getElem?_cons_zero, List.getElem?_cons_succ] at g0 g1
      obtain ⟨a0, e0, _, w0⟩ := DataW.trod_int Tryd.underlying21 g0
      obtain ⟨a1, e1, _, w1⟩ := DataW.trod_int Tryd.underlying37 g1
      injection e0 with e0
      injection e1 with e1
      have c0 := bounds_i32 w0
      have c1 := bounds_u32 w1
      refine ⟨⟨a0, a1.toNat⟩, ?_, by simp only; omega, by simp only; omega⟩
      rw [e0, e1, Int.toNat_of_nonneg c1.1]
theorem clist_of {α : Type} {n : Nat} {P : Nat → α → Prop} (h : ∀ i, i < n → ∃ x, P i x) : ∃ l : List α, l.length = n ∧ ∀ i (hi : i < l.length), P i l[i] := by
  induction n with
  | zero => exact ⟨[], rfl, fun i hi => by simp at hi⟩
  | succ n ih =>
    obtain ⟨l, hl, hp⟩ := ih (fun i hi => h i (by omega))
    obtain ⟨x, hx⟩ := h n (by omega)
    refine ⟨l ++ [x], by simp [hl], fun i hi => ?_⟩
    by_cases hin : i < l.length
    · rw [List.getElem_append_left hin]; exact hp i hin
    · have : i = n := by simp at hi; omega
      subst this
      rw [List.getElem_append_right (by omega)]
      simpa using hx
set_option maxRecDepth 100000 in
theorem trod_cellsG {H : Type} {enc : TypeId × Value → H} {W : World} {b0 fuel : Nat} {spare : Nat → Bool} {held : Bool} {v : Value} {x0 : DataW H × List MemPlace} (hf : DataW.trod enc Tryd.prog W b0 spare held fuel 23 [v] = some x0) :
    ∃ A n c b L, v = .slice A n c ∧ L.length = n ∧ n ≤ maxLen ∧ n ≤ c ∧ okC L ∧ Sl W b A (cv L) := by
  rcases open_slice Tryd.underlying23 hf with ⟨hcs, _⟩ | ⟨x, len, cap, m, n, D, Pl, hcs, _, hl, hm, hmm, _, hel⟩
  · injection hcs with hcs _
    subst hcs
    exact ⟨none, 0, 0, 0, [], rfl, rfl, by simp [maxLen], Nat.le_refl _, fun c hc => (by cases hc), Sl.nil_ _ _ _⟩
  · injection hcs with hcs _
    subst hcs
    have hlm : len ≤ m := by rw [hmm]; split <;> omega
    rw [bcell_cells] at hel
    obtain ⟨xs, hxl, hxs⟩ := clist_of (n := len) (P := fun i (y : Int × Nat) => ((-2147483648 ≤ y.1 ∧ y.1 ≤ 2147483647) ∧ y.2 < 4294967296) ∧ W.cell? (x.add (i * 2)) = some (.int .i32 y.1) ∧ W.cell? (x.add (i * 2 + 1)) = some (.int .u32 ((y.2 : Nat) : Int))) (fun i hi => by
      obtain ⟨cs', hc, ht⟩ := hel i (by omega)
      obtain ⟨_, hcl, hat⟩ := World.cells?_some hc
      obtain ⟨y, hy, hyin⟩ := trod_cell hcl ht
      have a0 := hat 0 (by omega)
      have a1 := hat 1 (by omega)
      rw [Go.Deep.add_add, hy] at a0 a1
      exact ⟨y, hyin, a0, a1⟩)
    have hok : okC xs := fun y hy => by
      obtain ⟨i, hi, rfl⟩ := List.getElem_of_mem hy
      exact (hxs i hi).1
    by_cases h0 : len = 0
    · have hx0 : xs = [] := List.eq_nil_of_length_eq_zero (by omega)
      subst hx0
      exact ⟨_, _, _, 0, [], rfl, hxl, by omega, hl, hok, Sl.nil_ _ _ _⟩
    · obtain ⟨bb, off, spot⟩ := x
      have hc0 := (hxs 0 (by omega)).2.1
      have hspot : spot = none := by
        simpa [Addr.add] using World.cell?_spot hc0
      subst hspot
      refine ⟨_, _, _, bb, xs, rfl, hxl, by omega, hl, hok, fun _ => ⟨off, rfl, fun j u hu => ?_⟩⟩
      have hj := (List.getElem?_eq_some_iff.1 hu).1
      rw [cv_length] at hj
      have h1 := (hxs (j / 2) (by omega)).2
      rw [Addr.add_lit, Addr.add_lit] at h1
      rcases Nat.mod_two_eq_zero_or_one j with he | he
      · have e : j / 2 * 2 = j := by omega
        have h2 := cv_val (L := xs) (i := j / 2) (by omega)
        rw [e] at h1 h2
        rw [h1.1, ← h2]
        exact hu
      · have e : j / 2 * 2 + 1 = j := by omega
        have h2 := cv_lab (L := xs) (i := j / 2) (by omega)
        rw [e] at h1 h2
        rw [h1.2, ← h2]
        exact hu
set_option maxRecDepth 100000 in
theorem trod_codesG {H : Type} {enc : TypeId × Value → H} {W : World} {b0 fuel : Nat} {spare : Nat → Bool} {held : Bool} {v : Value} {x0 : DataW H × List MemPlace} (hf : DataW.trod enc Tryd.prog W b0 spare held fuel 24 [v] = some x0) :
    ∃ A n c b L, v = .slice A n c ∧ L.length = n ∧ n ≤ maxLen ∧ n ≤ c ∧ okK L ∧ Sl W b A (kv L) := by
  rcases open_slice Tryd.underlying24 hf with ⟨hcs, _⟩ | ⟨x, len, cap, m, n, D, Pl, hcs, _, hl, hm, hmm, _, hel⟩
  · injection hcs with hcs _
    subst hcs
    exact ⟨none, 0, 0, 0, [], rfl, rfl, by simp [maxLen], Nat.le_refl _, fun c hc => (by cases hc), Sl.nil_ _ _ _⟩
  · injection hcs with hcs _
    subst hcs
    have hlm : len ≤ m := by rw [hmm]; split <;> omega
    rw [kcode_cells] at hel
    obtain ⟨xs, hxl, hxs⟩ := klist_of (n := len) (P := fun i (y : Cd) => y.Ok ∧ ∀ r, r < 6 → W.cell? (x.add (i * 6 + r)) = (cdA y).toList[r]?) (fun i hi => by
      obtain ⟨cs', hc, ht⟩ := hel i (by omega)
      obtain ⟨_, hcl, hat⟩ := World.cells?_some hc
      obtain ⟨y, hy, hyin⟩ := trod_code hcl ht
      refine ⟨y, hyin, fun r hr => ?_⟩
      have a0 := hat r (by omega)
      rw [Go.Deep.add_add, hy] at a0
      exact a0)
    have hok : okK xs := fun y hy => by
      obtain ⟨i, hi, rfl⟩ := List.getElem_of_mem hy
      exact (hxs i hi).1
    by_cases h0 : len = 0
    · have hx0 : xs = [] := List.eq_nil_of_length_eq_zero (by omega)
      subst hx0
      exact ⟨_, _, _, 0, [], rfl, hxl, by omega, hl, hok, Sl.nil_ _ _ _⟩
    · obtain ⟨bb, off, spot⟩ := x
      have hc0 := (hxs 0 (by omega)).2 0 (by omega)
      have hspot : spot = none := by
        rw [show (cdA (xs[0]'(by omega))).toList[0]? = some (.int .u8 ((xs[0]'(by omega)).op : Int)) from rfl] at hc0
        simpa [Addr.add] using World.cell?_spot hc0
      subst hspot
      refine ⟨_, _, _, bb, xs, rfl, hxl, by omega, hl, hok, fun _ => ⟨off, rfl, fun j u hu => ?_⟩⟩
      have hj := (List.getElem?_eq_some_iff.1 hu).1
      rw [kv_length] at hj
      have h1 := (hxs (j / 6) (by omega)).2 (j % 6) (by omega)
      rw [Addr.add_lit] at h1
      have h2 := kv_get (l := xs) (i := j / 6) (by omega) (r := j % 6) (by omega)
      rw [show j / 6 * 6 + j % 6 = j by omega] at h1 h2
      rw [h1, ← h2]
      exact hu

/-- A game as it came: its numbers fit, its slices are slices. -/
structure GRaw (g : Gm) (s : Gs) : Prop where
  o0 : -9223372036854775808 ≤ g.ob
  o1 : g.ob ≤ 9223372036854775807
  p0 : -9223372036854775808 ≤ g.pl
  p1 : g.pl ≤ 9223372036854775807
  m1 : g.mv ≤ 4294967295
  d1 : g.df ≤ 4294967295
  lL : g.L.length ≤ maxLen
  lK : g.K.length ≤ maxLen
  hL : g.L.length ≤ s.c
  hK : g.K.length ≤ s.c'
  oL : okC g.L
  oK : okK g.K
set_option maxRecDepth 100000 in
theorem game_fields : ∃ f0 f1 f2 f3 f4 f5 : Field, Tryd.prog.underlying 26 = some (.struct #[f0, f1, f2, f3, f4, f5]) ∧ (f0.type = 3 ∧ f1.type = 3 ∧ f2.type = 22 ∧ f3.type = 22 ∧ f4.type = 23 ∧ f5.type = 24) ∧ (f0.offset = 0 ∧ f1.offset = 1 ∧ f2.offset = 2 ∧ f3.offset = 3 ∧ f4.offset = 4 ∧ f5.offset = 5) :=
  ⟨_, _, _, _, _, _, Tryd.underlying26, ⟨rfl, rfl, rfl, rfl, rfl, rfl⟩, ⟨rfl, rfl, rfl, rfl, rfl, rfl⟩⟩
theorem cellsG_int : Tryd.prog.cellsOf 3 = 1 := by kernel_rfl
theorem cellsG_u32 : Tryd.prog.cellsOf 22 = 1 := by kernel_rfl
theorem cellsG_cells : Tryd.prog.cellsOf 23 = 1 := by kernel_rfl
theorem cellsG_codes : Tryd.prog.cellsOf 24 = 1 := by kernel_rfl
theorem cellsG_game : Tryd.prog.cellsOf 26 = 6 := by kernel_rfl
set_option maxHeartbeats 1000000 in
set_option maxRecDepth 100000 in
theorem trod_game {H : Type} {enc : TypeId × Value → H} {W : World} {b0 fuel : Nat} {spare : Nat → Bool} {held : Bool} {cs : List Value} {x : DataW H × List MemPlace} (hlen : cs.length = 6) (ht : DataW.trod enc Tryd.prog W b0 spare held fuel 26 cs = some x) :
    ∃ (g : Gm) (s : Gs), cs = (gmA g s).toList ∧ GRaw g s ∧ GIn W g s := by
  obtain ⟨f0, f1, f2, f3, f4, f5, hu, ⟨t0, t1, t2, t3, t4, t5⟩, ⟨o0, o1, o2, o3, o4, o5⟩⟩ := game_fields
  obtain ⟨ys, n', _, _, _, hyl, hf⟩ := DataW.trod_struct hu ht
  match cs, hlen with
  | [v0, v1, v2, v3, v4, v5], _ =>
    match ys, hyl with
    | [y0, y1, y2, y3, y4, y5], _ =>
      have g0 := hf 0 f0 rfl
      have g1 := hf 1 f1 rfl
      have g2 := hf 2 f2 rfl
      have g3 := hf 3 f3 rfl
      have g4 := hf 4 f4 rfl
      have g5 := hf 5 f5 rfl
      rw [o0, t0, cellsG_int] at g0
      rw [o1, t1, cellsG_int] at g1
      rw [o2, t2, cellsG_u32] at g2
      rw [o3, t3, cellsG_u32] at g3
      rw [o4, t4, cellsG_cells] at g4
      rw [o5, t5, cellsG_codes] at g5
      simp only [List.drop_zero, List.drop_succ_cons, List.take_succ_cons, List.take_zero, List.getElem?_cons_zero, List.getElem?_cons_succ] at g0 g1 g2 g3 g4 g5
      obtain ⟨a0, e0, _, w0⟩ := DataW.trod_int Tryd.underlying3 g0
      obtain ⟨a1, e1, _, w1⟩ := DataW.trod_int Tryd.underlying3 g1
      obtain ⟨a2, e2, _, w2⟩ := DataW.trod_int Tryd.underlying22 g2
      obtain ⟨a3, e3, _, w3⟩ := DataW.trod_int Tryd.underlying22 g3
      obtain ⟨A, n, c, b, L, e4, hl, hm, hc, ho, hs⟩ := trod_cellsG g4
      obtain ⟨A', n', c', b', K, e5, hl', hm', hc', ho', hs'⟩ := trod_codesG g5
      injection e0 with e0
      injection e1 with e1
      injection e2 with e2
      injection e3 with e3
      have c0 := bounds_i64 w0
      have c1 := bounds_i64 w1
      have c2 := bounds_u32 w2
      have c3 := bounds_u32 w3
      subst hl hl'
      refine ⟨⟨a0, a1, a2.toNat, a3.toNat, L, K⟩, ⟨A, c, b, A', c', b'⟩, ?_, ⟨c0.1, c0.2, c1.1, c1.2, by simp only; omega, by simp only; omega, hm, hm', hc, hc', ho, ho'⟩, ⟨hs, hs'⟩⟩
      simp only
      rw [e0, e1, e2, e3, e4, e5, Int.toNat_of_nonneg c2.1, Int.toNat_of_nonneg c3.1]
set_option maxRecDepth 100000 in
theorem open_game {H : Type} {enc : TypeId × Value → H} {W : World} {base b0 : Nat} {spare : Nat → Bool} {held : Bool} {r : Reach} {v : Value} {d : DataW H} {p : List MemPlace} (hv : Value.okWide Tryd.prog W r base 26 v) (h : DataW.Trod enc Tryd.prog W b0 spare held 26 v d p) :
    ∃ (g : Gm) (s : Gs), v = .agg (gmA g s) ∧ GRaw g s ∧ GIn W g s := by
  obtain ⟨f0, f1, f2, f3, f4, f5, hu, _, _⟩ := game_fields
  obtain ⟨cs, rfl, hsz⟩ := okWide_struct hu hv
  obtain ⟨fuel, hf⟩ := h
  obtain ⟨g, s, hy, hr, hi⟩ := trod_game (by simpa [Value.cells] using hsz.trans cellsG_game) hf
  refine ⟨g, s, ?_, hr, hi⟩
  congr 1
  apply Array.ext'
  simpa [Value.cells] using hy
end Go.Proofs.YtfopdoeiahlhpaaDoor
/- The document's example, of rules. Condition: the table lies. -/
namespace Go.Proofs.YtfopdoeiahlhpaaDoor
open Go.RowKit
set_option linter.unusedVariables false

section
variable {ops : Array Oper} {rest : List Oper} {o : Oper} {a : Act} {w : World} {Q : Exit → Act → World → Prop} {s : St}
theorem wpList_ldSB (hw : Region.wanted o (yielded ops a.tmps) = true) (x : Operand) (ho : o.op = .load 42 x) (g : Nat) (hx : a.eval x = .pointer (some ⟨g, 0, none⟩)) (h : BoxS w g s)
    (k : wpList Tryd.prog ops Q rest (a.put o.dst (.agg (bdL s.L))) w) : wpList Tryd.prog ops Q (o :: rest) a w :=
  BigFrame.wpList_want hw fun _ hK => wp_load_mid _ x ho g 0 hx (bdL s.L).toList _ h.rangeB Tryd.underlying42 rfl (bd_sizeL _) (by rw [Array.toArray_toList]; exact hK _ _ k)
theorem wpList_ldSw (hw : Region.wanted o (yielded ops a.tmps) = true) (x : Operand) (ho : o.op = .load 46 x) (g : Nat) (hx : a.eval x = .pointer (some ⟨g, 0, none⟩)) (h : BoxS w g s)
    (k : wpList Tryd.prog ops Q rest (a.put o.dst (.agg (stA s))) w) : wpList Tryd.prog ops Q (o :: rest) a w :=
  BigFrame.wpList_want hw fun _ hK => wp_load_mid _ x ho g 0 hx (stL s) _ h.rangeA Tryd.underlying46 rfl (st_size _) (hK _ _ k)
end
def aG : Gm := ⟨2, 1, 1, 0, [(4, 0)], []⟩
theorem aG_right : rightB aG = true := by decide +kernel
theorem aG_start : startC aG [] = [(4, 0)] := by decide +kernel
theorem aG_step : (wholeV compN (stepP aG ⟨[(4, 0)], 7, 0⟩ []) [(4, 0)] 7).L = [(4, 0)] ∧ (wholeV compN (stepP aG ⟨[(4, 0)], 7, 0⟩ []) [(4, 0)] 7).e = 0 := by decide +kernel
abbrev aS (b : Nat) : Gs := ⟨some ⟨b, 0, none⟩, 1, b, none, 0, 0⟩
theorem aG_ok (b : Nat) : GOk aG (aS b) :=
  ⟨by decide, by decide, by decide, by decide, by decide, by decide, by decide, by decide, by show (1 : Nat) ≤ 1; omega, by show (0 : Nat) ≤ 0; omega, fun c hc => by simp [aG] at hc; subst hc; decide, fun c hc => by simp [aG] at hc⟩
theorem dbox_extR {w w' : World} {g : Nat} {o : Obj} (h : w.heap[g]? = some o) (hm : Below w.heap.size w w') : w'.heap[g]? = some o := (hm.block g (Array.getElem?_eq_some_iff.1 h).1).trans h
theorem gbox_all {w : World} {g : Nat} {t : TypeId} {c0 c1 c2 c3 c4 c5 : Value} (h : w.heap[g]? = some (.cells #[c0, c1, c2, c3, c4, c5] t (0, 0))) : w.cell? ⟨g, 0, none⟩ = some c0 ∧ w.cell? ⟨g, 1, none⟩ = some c1 ∧ w.cell? ⟨g, 2, none⟩ = some c2 ∧ w.cell? ⟨g, 3, none⟩ = some c3 ∧ w.cell? ⟨g, 4, none⟩ = some c4 ∧ w.cell? ⟨g, 5, none⟩ = some c5 := by
  refine ⟨?_, ?_, ?_, ?_, ?_, ?_⟩ <;> (rw [cell_of_row w g _ _ _ _ h]; rfl)
set_option maxHeartbeats 4000000 in
set_option maxRecDepth 20000 in
theorem awake_calls (w : World) (hT : CTab w) : Calls Tryd.prog 12 #[] w fun e w' => e = .returned (.bool true) ∧ Below w.heap.size w w' := by
  have h1 := below_alloc1 w (.cells #[.int .i32 4, .int .u32 0] 39)
  have hs : Sl (w.alloc (.cells #[.int .i32 4, .int .u32 0] 39)) w.heap.size (some ⟨w.heap.size, 0, none⟩) (cv [(4, 0)]) := Sl.cells_new w #[.int .i32 4, .int .u32 0] _
  have h2 := below_alloc1 (w.alloc (.cells #[.int .i32 4, .int .u32 0] 39)) (.cells #[.int .i64 2, .int .i64 1, .int .u32 1, .int .u32 0, .slice (some ⟨w.heap.size, 0, none⟩) 1 1, .slice none 0 0] 26)
  have hq : ((w.alloc (.cells #[.int .i32 4, .int .u32 0] 39)).alloc (.cells #[.int .i64 2, .int .i64 1, .int .u32 1, .int .u32 0, .slice (some ⟨w.heap.size, 0, none⟩) 1 1, .slice none 0 0] 26)).heap[w.heap.size + 1]? = some (.cells #[.int .i64 2, .int .i64 1, .int .u32 1, .int .u32 0, .slice (some ⟨w.heap.size, 0, none⟩) 1 1, .slice none 0 0] 26 (0, 0)) := by
    have h := heap_alloc_new (w.alloc (.cells #[.int .i32 4, .int .u32 0] 39)) (.cells #[.int .i64 2, .int .i64 1, .int .u32 1, .int .u32 0, .slice (some ⟨w.heap.size, 0, none⟩) 1 1, .slice none 0 0] 26)
    rwa [World.size_alloc] at h
  replace hs := Sl.ext hs h2
  have hb := h1.trans (h2.mono h1.size)
  have hi : GIn ((w.alloc (.cells #[.int .i32 4, .int .u32 0] 39)).alloc (.cells #[.int .i64 2, .int .i64 1, .int .u32 1, .int .u32 0, .slice (some ⟨w.heap.size, 0, none⟩) 1 1, .slice none 0 0] 26)) aG (aS w.heap.size) := ⟨hs, Sl.nil_ _ _ _⟩
  obtain ⟨c0, c1, c2, c3, c4, c5⟩ := gbox_all hq
  have hS : Calls Tryd.prog 15 #[.agg #[.int .i64 2, .int .i64 1, .int .u32 1, .int .u32 0, .slice (some ⟨w.heap.size, 0, none⟩) 1 1, .slice none 0 0], .int .u64 7, .slice none 0 0] ((w.alloc (.cells #[.int .i32 4, .int .u32 0] 39)).alloc (.cells #[.int .i64 2, .int .i64 1, .int .u32 1, .int .u32 0, .slice (some ⟨w.heap.size, 0, none⟩) 1 1, .slice none 0 0] 26)) _ := Start_good aG (aS w.heap.size) 7 [] none 0 _ hi (aG_ok _) (hT.ext hb) 0 (Sl.nil_ _ _ _) (by simp [maxLen]) (fun x hx => by cases hx) aG_right
  rw [aG_start] at hS
  clear h1 h2 hs
  go_enter Tryd.func12, Tryd.ntmps12
  go_wp2_with fail
  refine hS.mono ?_
  rintro e w2 ⟨rfl, h3⟩
  replace hq := dbox_extR hq h3
  replace hi := hi.ext h3
  have hb := hb.trans (h3.mono hb.size)
  clear hS h3 c0 c1 c2 c3 c4 c5
  go_upto_region 3 with (first | ((with_reducible refine at_al 46 2 ?_); refine wpList_alS rfl rfl (some 2) rfl w2.heap.size rfl ?_) | ((with_reducible refine at_st 46 2 12 ?_); refine wpList_stS rfl (.tmp 2) (.tmp 12) rfl w2.heap.size ⟨[(4, 0)], 7, 0⟩ rfl rfl zSt (BoxS.new_ _ _) ?_))
  rw [made_row]
  have h3 := below_alloc1 w2 (.cells (stA ⟨[(4, 0)], 7, 0⟩) 46)
  have hx := BoxS.new_ w2 ⟨[(4, 0)], 7, 0⟩
  replace hq := dbox_extR hq h3
  replace hi := hi.ext h3
  have hb := hb.trans (h3.mono hb.size)
  obtain ⟨X, hX⟩ : ∃ X, X = w2.heap.size := ⟨_, rfl⟩
  obtain ⟨w3, hw3⟩ : ∃ w3, w3 = w2.alloc (.cells (stA ⟨[(4, 0)], 7, 0⟩) 46) := ⟨_, rfl⟩
  rw [← hw3] at hx hq hi hb ⊢
  rw [← hX] at hx ⊢
  clear h3 hw3 hX
  obtain ⟨c0, c1, c2, c3, c4, c5⟩ := gbox_all hq
  obtain ⟨F, hF⟩ : ∃ F, F = wholeV compN (stepP aG ⟨[(4, 0)], 7, 0⟩ []) [(4, 0)] 7 := ⟨_, rfl⟩
  have hP : Calls Tryd.prog 17 #[.agg #[.int .i64 2, .int .i64 1, .int .u32 1, .int .u32 0, .slice (some ⟨w.heap.size, 0, none⟩) 1 1, .slice none 0 0], .agg (stA ⟨[(4, 0)], 7, 0⟩), .slice none 0 0] w3 _ := Step_good aG (aS w.heap.size) ⟨[(4, 0)], 7, 0⟩ [] none 0 0 w3 hi (aG_ok _) (hT.ext hb) (Sl.nil_ _ _ _) aG_right (fun x hx => by cases hx) (by simp [maxLen]) (by decide) (fun c hc => by simp at hc; subst hc; decide) (by decide) hF
  obtain ⟨hFL, hFe⟩ := aG_step
  rw [← hF] at hFL hFe
  rw [hFL, hFe] at hP
  clear hF hFL hFe
  go_wp2_with ((with_reducible refine at_ld 46 2 ?_); refine wpList_ldS rfl (.tmp 2) rfl X rfl hx ?_)
  refine hP.mono ?_
  rintro e w4 ⟨sh, rfl, hsh, h3⟩
  replace hq := dbox_extR hq h3
  replace hx := hx.ext h3
  have hb := hb.trans (h3.mono hb.size)
  have hs1 : sh.oneCell' = true := by
    rcases hsh.2 with ⟨rfl, -⟩ | ⟨_, _, _, rfl, -⟩ <;> rfl
  clear hP h3 hsh hi c0 c1 c2 c3 c4 c5 hT
  obtain ⟨fd, hfd⟩ : ∃ n, n = F.d := ⟨_, rfl⟩
  obtain ⟨ft, hft⟩ : ∃ n, n = F.t := ⟨_, rfl⟩
  rw [← hfd, ← hft]
  clear hfd hft
  have h4 := below_alloc1 w4 (.cells (stA zSt) 46)
  have h5 := below_alloc1 (w4.alloc (.cells (stA zSt) 46)) (.cells #[.int .u64 0, .slice none 0 0, .int .i64 0] 53)
  have y4 := (BoxS.new_ w4 zSt).ext h5
  have y5 : OBox ((w4.alloc (.cells (stA zSt) 46)).alloc (.cells #[.int .u64 0, .slice none 0 0, .int .i64 0] 53)) (w4.heap.size + 1) 0 (.slice none 0 0) 0 := by
    have h := OBox.new_ (w4.alloc (.cells (stA zSt) 46)) 0 (.slice none 0 0) 0
    rw [World.size_alloc] at h
    exact h
  have hx5 := (hx.ext h4).ext h5
  have hb5 := (hb.trans (h4.mono hb.size)).trans (h5.mono (Nat.le_trans hb.size h4.size))
  go_upto_region 4 with (first | ((with_reducible refine at_al 46 4 ?_); refine wpList_alS rfl rfl (some 4) rfl w4.heap.size rfl ?_) | ((with_reducible refine at_st 46 4 18 ?_); refine wpList_stS rfl (.tmp 4) (.tmp 18) rfl w4.heap.size ⟨[(4, 0)], fd, 1⟩ rfl rfl zSt y4 ?_) | ((with_reducible refine at_st 53 5 19 ?_); refine wpList_stO rfl (.tmp 5) (.tmp 19) rfl (w4.heap.size + 1) ft sh 0 rfl rfl hs1 (y5.mod (mod_setRow _ w4.heap.size _) (by show ¬ w4.heap.size + 1 = w4.heap.size; omega)) ?_))
  have hxl := hx.lt
  have hwz := hb.size
  have z4 := (y4.row_ ⟨[(4, 0)], fd, 1⟩).mod (mod_setRow (((w4.alloc (.cells (stA zSt) 46)).alloc (.cells #[.int .u64 0, .slice none 0 0, .int .i64 0] 53)).setRow w4.heap.size (stA ⟨[(4, 0)], fd, 1⟩)) (w4.heap.size + 1) (otA ft sh 0)) (by show ¬ w4.heap.size = w4.heap.size + 1; omega)
  have z5 := (y5.mod (mod_setRow ((w4.alloc (.cells (stA zSt) 46)).alloc (.cells #[.int .u64 0, .slice none 0 0, .int .i64 0] 53)) w4.heap.size (stA ⟨[(4, 0)], fd, 1⟩)) (by show ¬ w4.heap.size + 1 = w4.heap.size; omega)).row_ ft sh 0
  have zx := (hx5.mod (mod_setRow ((w4.alloc (.cells (stA zSt) 46)).alloc (.cells #[.int .u64 0, .slice none 0 0, .int .i64 0] 53)) w4.heap.size (stA ⟨[(4, 0)], fd, 1⟩)) (by show ¬ X = w4.heap.size; omega)).mod (mod_setRow (((w4.alloc (.cells (stA zSt) 46)).alloc (.cells #[.int .u64 0, .slice none 0 0, .int .i64 0] 53)).setRow w4.heap.size (stA ⟨[(4, 0)], fd, 1⟩)) (w4.heap.size + 1) (otA ft sh 0)) (by show ¬ X = w4.heap.size + 1; omega)
  have zb := below_setRow (below_setRow hb5 w4.heap.size (stA ⟨[(4, 0)], fd, 1⟩) hwz) (w4.heap.size + 1) (otA ft sh 0) (by omega)
  obtain ⟨w9, hw9⟩ : ∃ w9, w9 = ((((w4.alloc (.cells (stA zSt) 46)).alloc (.cells #[.int .u64 0, .slice none 0 0, .int .i64 0] 53)).setRow w4.heap.size (stA ⟨[(4, 0)], fd, 1⟩)).setRow (w4.heap.size + 1) (otA ft sh 0)) := ⟨_, rfl⟩
  rw [← hw9] at z4 z5 zx zb
  go_frame
  rw [← hw9]
  clear hw9 y4 y5 hx5 hb5 hx hb h4 h5 hq hwz
  obtain ⟨Y, hY⟩ : ∃ Y, Y = w4.heap.size := ⟨_, rfl⟩
  rw [← hY] at z4 z5 ⊢
  have zo : w9.cell? ⟨Y + 1, 2, none⟩ = some (.int .i64 0) := by rw [cell_of_row w9 (Y + 1) 2 _ _ _ z5]; rfl
  have zk := z4.cK
  have hL := fun W => Len_calls [(4, 0)] W
  clear hY z5 hxl hs1
  go_wp2_with (first | ((with_reducible refine at_ld 42 33 ?_); refine wpList_ldSB (by first | rfl | simp [Region.wanted, yielded]) (.tmp 33) rfl Y rfl z4 ?_) | ((with_reducible refine at_ld 42 35 ?_); refine wpList_ldSB (by first | rfl | simp [Region.wanted, yielded]) (.tmp 35) rfl X rfl zx ?_) | ((with_reducible refine at_bi 37 .eql 42 42 (.tmp 34) (.tmp 36) ?_); refine wpList_eql_bd (by first | rfl | simp [Region.wanted, yielded]) (.tmp 34) (.tmp 36) rfl [(4, 0)] [(4, 0)] rfl rfl (by decide) true (by decide) ?_) | ((with_reducible refine at_ld 42 40 ?_); refine wpList_ldSB (by first | rfl | simp [Region.wanted, yielded]) (.tmp 40) rfl Y rfl z4 ?_))
  refine (hL _).mono ?_
  rintro e w10 ⟨rfl, h1⟩
  have hb := zb.trans (h1.mono zb.size)
  clear h1 zb z4 zx zo zk hL
  go_wp2_with fail
  go_ret
  exact ⟨rfl, hb⟩
end Go.Proofs.YtfopdoeiahlhpaaDoor
/- A game that isn't too great, apart. Conditions: the numbers fit. -/
namespace Go.Proofs.YtfopdoeiahlhpaaDoor
open Go.RowKit
set_option linter.unusedVariables false

/-- What few makes of it. -/
def fewG (g : Gm) : Gm := { g with L := g.L.take 55, K := g.K.take 100 }
structure StopG (p : Prop) : Prop where
  out : p
theorem stop_atG {p : Prop} (h : StopG p) : p := h.out
theorem own_slG {w : World} {B n sz : Nat} {e : TypeId} {v : Value} {xs : List Value} (h : w.ownsRow B e sz v n xs) : ∃ A c b, v = .slice A n c ∧ n ≤ c ∧ B ≤ b ∧ Sl w b A xs ∧ (∀ k, v.ownBlock = some k → k = b) := by
  rcases h.2 with ⟨rfl, rfl⟩ | ⟨g, cap, cur, rfl, hb, _, hnc, hcm, _⟩
  · have hx : xs = [] := List.eq_nil_of_length_eq_zero (by simpa using h.1)
    subst hx
    exact ⟨none, 0, B, rfl, Nat.le_refl _, Nat.le_refl _, Sl.nil_ _ _ _, by simp [Value.ownBlock]⟩
  · refine ⟨_, cap, g, rfl, hnc, hb, fun _ => ⟨0, rfl, fun j u hu => ?_⟩, by simp [Value.ownBlock]⟩
    have := h.cells (g := g) rfl j u hu
    simpa [Addr.add_lit] using this
theorem cellG_info : (Tryd.prog.info? 39).map (fun i => (i.zero, i.size, i.bytes)) = some (some (.agg #[.int .i32 0, .int .u32 0]), 2, 8) := by kernel_rfl
theorem codeG_info : (Tryd.prog.info? 102).map (fun i => (i.zero, i.size, i.bytes)) = some (some (.agg #[.int .u8 0, .int .u8 0, .int .u8 0, .int .u8 0, .int .i32 0, .int .u32 0]), 6, 12) := by kernel_rfl
theorem kvG_one (l : List Cd) : ∀ u ∈ kv l, u.oneCell' = true := by
  intro u hu
  obtain ⟨c, _, hu⟩ := List.mem_flatMap.1 hu
  simp only [cdA, List.mem_cons, List.not_mem_nil, or_false] at hu
  rcases hu with rfl | rfl | rfl | rfl | rfl | rfl <;> rfl
theorem kvG_take : ∀ (l : List Cd) (k : Nat), (kv l).take (k * 6) = kv (l.take k) := by
  intro l
  induction l with
  | nil => intro k; simp
  | cons c l ih =>
    intro k
    cases k with
    | zero => simp
    | succ k =>
      rw [kv_cons, show (k + 1) * 6 = (cdA c).toList.length + k * 6 by rw [cdA_len]; omega, List.take_length_add_append, ih, List.take_succ_cons, kv_cons]
theorem GBox.modG {w w' : World} {k : Nat} {g : Gm} {s : Gs} {S : Nat → Prop} (h : GBox w k g s) (hm : Mod S w w') (hs : ¬ S k) : GBox w' k g s := (hm.block k h.lt hs).trans h
theorem GBox.s4 {w : World} {k : Nat} {g : Gm} {s : Gs} (h : GBox w k g s) (L : List (Int × Nat)) (n : Nat) (hn : L.length = n) (A : Option Addr) (c b : Nat) : GBox (w.setCell ⟨k, 4, none⟩ (.slice A n c)) k { g with L := L } { s with A := A, c := c, b := b } := by
  unfold GBox
  rw [heap_setCell_same w k 4 _ _ _ h]
  subst hn
  rfl
theorem GBox.s5 {w : World} {k : Nat} {g : Gm} {s : Gs} (h : GBox w k g s) (K : List Cd) (n : Nat) (hn : K.length = n) (A : Option Addr) (c b : Nat) : GBox (w.setCell ⟨k, 5, none⟩ (.slice A n c)) k { g with K := K } { s with A' := A, c' := c, b' := b } := by
  unfold GBox
  rw [heap_setCell_same w k 5 _ _ _ h]
  subst hn
  rfl
theorem six_set6 {w : World} {b : Nat} {t : TypeId} {c0 c1 c2 c3 c4 c5 : Value} (v0 v1 v2 v3 v4 v5 : Value) (h : w.heap[b]? = some (.cells #[c0, c1, c2, c3, c4, c5] t (0, 0))) :
    ((((((w.setCell ⟨b, 0, none⟩ v0).setCell ⟨b, 1, none⟩ v1).setCell ⟨b, 2, none⟩ v2).setCell ⟨b, 3, none⟩ v3).setCell ⟨b, 4, none⟩ v4).setCell ⟨b, 5, none⟩ v5).heap[b]? = some (.cells #[v0, v1, v2, v3, v4, v5] t (0, 0)) ∧
    Mod (fun i => i = b) w ((((((w.setCell ⟨b, 0, none⟩ v0).setCell ⟨b, 1, none⟩ v1).setCell ⟨b, 2, none⟩ v2).setCell ⟨b, 3, none⟩ v3).setCell ⟨b, 4, none⟩ v4).setCell ⟨b, 5, none⟩ v5) := by
  have h0 := heap_setCell_same w b 0 _ _ v0 h
  have h1 := heap_setCell_same _ b 1 _ _ v1 h0
  have h2 := heap_setCell_same _ b 2 _ _ v2 h1
  have h3 := heap_setCell_same _ b 3 _ _ v3 h2
  have h4 := heap_setCell_same _ b 4 _ _ v4 h3
  have h5 := heap_setCell_same _ b 5 _ _ v5 h4
  refine ⟨h5, ?_⟩
  have id : ∀ (x : World) (i : Nat), i < x.heap.size → i = b → i = b := fun _ _ _ h => h
  exact ((((((Mod.setCell w ⟨b, 0, none⟩ v0).trans (Mod.setCell _ ⟨b, 1, none⟩ v1) (id _) (id _)).trans (Mod.setCell _ ⟨b, 2, none⟩ v2) (id _) (id _)).trans (Mod.setCell _ ⟨b, 3, none⟩ v3) (id _) (id _)).trans (Mod.setCell _ ⟨b, 4, none⟩ v4) (id _) (id _)).trans (Mod.setCell _ ⟨b, 5, none⟩ v5) (id _) (id _))
theorem fewG_raw {g : Gm} {s : Gs} (h : GRaw g s) (s' : Gs) (h1 : (fewG g).L.length ≤ s'.c) (h2 : (fewG g).K.length ≤ s'.c') : GOk (fewG g) s' :=
  ⟨h.o0, h.o1, h.p0, h.p1, h.m1, h.d1, by show (g.L.take 55).length ≤ 55; rw [List.length_take]; omega, by show (g.K.take 100).length ≤ 100; rw [List.length_take]; omega, h1, h2, okC_take h.oL 55, fun c hc => h.oK c (List.mem_of_mem_take hc)⟩
set_option maxHeartbeats 8000000 in
set_option maxRecDepth 20000 in
theorem FewG_calls (g : Gm) (s : Gs) (w : World) (hin : GIn w g s) (hraw : GRaw g s) :
    Calls Tryd.prog 13 #[.agg (gmA g s)] w fun e w' => ∃ s', e = .returned (.agg (gmA (fewG g) s')) ∧ GIn w' (fewG g) s' ∧ GOk (fewG g) s' ∧ (w.heap.size ≤ s'.b ∧ w.heap.size ≤ s'.b') ∧ Below w.heap.size w w' := by
  have hb := below_alloc2 w (.cells (gmA g s) 26) (.cells #[.int .i64 0, .int .i64 0, .int .u32 0, .int .u32 0, .slice none 0 0, .slice none 0 0] 26)
  have hin1 := hin.ext hb
  have hcL := hraw.hL
  have hcK := hraw.hK
  have hmL := hraw.lL
  have hmK := hraw.lK
  obtain ⟨K1, hK1⟩ : ∃ K, K = min g.L.length 55 := ⟨_, rfl⟩
  have m1 : (if (55 : Int) < (g.L.length : Int) then (55 : Int) else (g.L.length : Int)) = (K1 : Int) := by split <;> omega
  have m2 : min (g.L.length : Int) 55 = (K1 : Int) := by omega
  have m5 : (if (g.L.length : Int) ≤ 55 then (g.L.length : Int) else (55 : Int)) = (K1 : Int) := by split <;> omega
  obtain ⟨K2, hK2⟩ : ∃ K, K = min g.K.length 100 := ⟨_, rfl⟩
  have m3 : (if (100 : Int) < (g.K.length : Int) then (100 : Int) else (g.K.length : Int)) = (K2 : Int) := by split <;> omega
  have m4 : min (g.K.length : Int) 100 = (K2 : Int) := by omega
  have m6 : (if (g.K.length : Int) ≤ 100 then (g.K.length : Int) else (100 : Int)) = (K2 : Int) := by split <;> omega
  have hc1 : (K1 : Int) ≤ (s.c : Int) := by omega
  have hc2 : (K2 : Int) ≤ (s.c' : Int) := by omega
  have l1 : (g.L.take K1).length = K1 := by rw [List.length_take]; omega
  have l2 : (g.K.take K2).length = K2 := by rw [List.length_take]; omega
  have t1 : g.L.take 55 = g.L.take K1 := by
    rw [hK1]
    rcases Nat.le_total g.L.length 55 with h | h
    · rw [Nat.min_eq_left h, List.take_of_length_le h, List.take_length]
    · rw [Nat.min_eq_right h]
  have t2 : g.K.take 100 = g.K.take K2 := by
    rw [hK2]
    rcases Nat.le_total g.K.length 100 with h | h
    · rw [Nat.min_eq_left h, List.take_of_length_le h, List.take_length]
    · rw [Nat.min_eq_right h]
  have hf : fewG g = { g with L := g.L.take K1, K := g.K.take K2 } := by unfold fewG; rw [t1, t2]
  have hK155 : K1 ≤ 55 := by omega
  have hK2100 : K2 ≤ 100 := by omega
  have HOKK := Lib.hid (fun s' => fewG_raw hraw s')
  rw [hf] at HOKK ⊢
  simp only [maxLen] at hmL hmK
  have ha3 := below_alloc1 ((w.alloc (.cells (gmA g s) 26)).alloc (.cells #[.int .i64 0, .int .i64 0, .int .u32 0, .int .u32 0, .slice none 0 0, .slice none 0 0] 26)) (.cells #[] 39)
  have hs1 : Sl (((w.alloc (.cells (gmA g s) 26)).alloc (.cells #[.int .i64 0, .int .i64 0, .int .u32 0, .int .u32 0, .slice none 0 0, .slice none 0 0] 26)).alloc (.cells #[] 39)) s.b s.A (cv (g.L.take K1)) := by
    have h1 := Sl.take (Sl.ext hin1.sc ha3) (K1 * 2)
    rwa [cv_take] at h1
  have ho1 : World.ownsRow (((w.alloc (.cells (gmA g s) 26)).alloc (.cells #[.int .i64 0, .int .i64 0, .int .u32 0, .int .u32 0, .slice none 0 0, .slice none 0 0] 26)).alloc (.cells #[] 39)) (w.heap.size + 1 + 1) 39 2 (.slice (some ⟨w.heap.size + 1 + 1, 0, none⟩) 0 0) 0 [] := by
    have h := World.ownsRow_made ((w.alloc (.cells (gmA g s) 26)).alloc (.cells #[.int .i64 0, .int .i64 0, .int .u32 0, .int .u32 0, .slice none 0 0, .slice none 0 0] 26)) (e := 39) (size := 2) #[] 0 (Nat.le_refl _) (by simp [maxLen]) rfl
    rw [World.size_alloc, World.size_alloc] at h
    exact h
  have q1 : GBox (((w.alloc (.cells (gmA g s) 26)).alloc (.cells #[.int .i64 0, .int .i64 0, .int .u32 0, .int .u32 0, .slice none 0 0, .slice none 0 0] 26)).alloc (.cells #[] 39)) w.heap.size g s := ((GBox.new_ w g s).ext (below_alloc1 _ _)).ext ha3
  have q2 : GBox (((w.alloc (.cells (gmA g s) 26)).alloc (.cells #[.int .i64 0, .int .i64 0, .int .u32 0, .int .u32 0, .slice none 0 0, .slice none 0 0] 26)).alloc (.cells #[] 39)) (w.heap.size + 1) ⟨0, 0, 0, 0, [], []⟩ ⟨none, 0, 0, none, 0, 0⟩ := by
    have h := GBox.new_ (w.alloc (.cells (gmA g s) 26)) ⟨0, 0, 0, 0, [], []⟩ ⟨none, 0, 0, none, 0, 0⟩
    rw [World.size_alloc] at h
    exact h.ext ha3
  have hbb := hb.trans (ha3.mono hb.size)
  have hin3 := hin1.ext ha3
  obtain ⟨i0, hi0, hz0, hz1, hz2⟩ := info_parts cellG_info
  obtain ⟨j0, hj0, hy0, hy1, hy2⟩ := info_parts codeG_info
  have HI := Lib.hid (And.intro hi0 (And.intro hz0 (And.intro hz1 hz2)))
  have HJ := Lib.hid (And.intro hj0 (And.intro hy0 (And.intro hy1 hy2)))
  clear hK1 hK2 t1 t2 hin1 hb ha3 hf hcL hcK hi0 hz0 hz1 hz2 hj0 hy0 hy1 hy2 hraw
  have k4 := q1.c4
  go_enter Tryd.func13, Tryd.ntmps13
  go_wp2_with ((with_reducible refine at_ca 11 _ ?_); refine stop_atG ?_)
  refine ⟨?_⟩
  refine wpList_append_sl (P := Tryd.prog) _ rfl (.tmp 3) (.tmp 10) 23 rfl (w.heap.size + 1 + 1) 39 i0 _ 2 8 Tryd.underlying23 HI.out.1 HI.out.2.1 HI.out.2.2.1 HI.out.2.2.2 rfl (by omega) (.slice (some ⟨w.heap.size + 1 + 1, 0, none⟩) 0 0) 0 [] rfl ho1 s.b s.A K1 s.c (cv (g.L.take K1)) rfl hs1 (by simp [l1]) (fun hA => by have := Sl.none_len hs1 rfl hA; simp [l1] at this; omega) (cv_one _) (by simp only [maxLen]; omega) (by omega) (by simp) ?_
  intro v2 w2 hrow2 hgr2 hloc2
  rw [List.nil_append, Nat.zero_add] at hrow2
  have hm2 := Mod.of_grown hgr2
  have hsz2 := hgr2.size
  simp only [World.size_alloc] at hsz2
  have hob : ∀ i, (Value.slice (some ⟨w.heap.size + 1 + 1, 0, none⟩) 0 0).ownBlock = some i → i = w.heap.size + 1 + 1 := fun i h => by simpa [Value.ownBlock] using h.symm
  replace q1 := q1.modG hm2 (fun e => by have := hob _ e; omega)
  replace q2 := q2.modG hm2 (fun e => by have := hob _ e; omega)
  have hb2 : Below w.heap.size w w2 := hbb.trans (hm2.below hbb.size (fun i hi e => by have := hob _ e; omega))
  replace hin3 : Sl w2 s.b' s.A' (kv g.K) := Sl.ext hin.sk hb2
  obtain ⟨A5, c5, b5, rfl, hc5, hB5, hs5, hk5⟩ := own_slG hrow2
  have f4 := q1.free 4
  have k4' := q1.c4
  have hs5' : cv (g.L.take K1) = cv (g.L.take K1) := rfl
  clear hs1 ho1 hm2 hgr2 hloc2 hbb k4 HI hs5'
  go_upto_region 2 with fail
  have q3 := q1.s4 (g.L.take K1) K1 l1 A5 c5 b5
  have hsm := Mod.setCell w2 ⟨w.heap.size, 4, none⟩ (.slice A5 K1 c5)
  obtain ⟨w3, hw3⟩ : ∃ w3, w3 = w2.setCell ⟨w.heap.size, 4, none⟩ (.slice A5 K1 c5) := ⟨_, rfl⟩
  have hz3 : w3.heap.size = w2.heap.size := by rw [hw3]; simp [World.setCell]
  rw [← hw3] at q3 hsm ⊢
  replace q2 := q2.modG hsm (by show ¬ w.heap.size + 1 = w.heap.size; omega)
  replace hs5 : Sl w3 b5 A5 (cv (g.L.take K1)) := hs5.mod hsm (by show ¬ b5 = w.heap.size; omega)
  replace hb2 : Below w.heap.size w w3 := hb2.trans (hsm.below (by omega) (fun i hi e => by have e : i = w.heap.size := e; omega))
  replace hin3 : Sl w3 s.b' s.A' (kv g.K) := Sl.ext hin.sk hb2
  clear hw3 q1 f4 k4' hsm hrow2
  have ha3 := below_alloc1 w3 (.cells #[] 102)
  have hs1 : Sl (w3.alloc (.cells #[] 102)) s.b' s.A' (kv (g.K.take K2)) := by
    have h1 := Sl.take (Sl.ext hin3 ha3) (K2 * 6)
    rwa [kvG_take] at h1
  have ho1 : World.ownsRow (w3.alloc (.cells #[] 102)) w3.heap.size 102 6 (.slice (some ⟨w3.heap.size, 0, none⟩) 0 0) 0 [] :=
    World.ownsRow_made w3 (e := 102) (size := 6) #[] 0 (Nat.le_refl _) (by simp [maxLen]) rfl
  replace q3 := q3.ext ha3
  replace q2 := q2.ext ha3
  have HZ := Lib.hid hz3
  have hbz : w.heap.size ≤ w3.heap.size := hb2.size
  replace hb2 := hb2.trans (ha3.mono hbz)
  clear hin3 hz3
  have k5 := q3.c5
  simp only at k5
  go_wp2_with ((with_reducible refine at_ca 21 _ ?_); refine stop_atG ?_)
  refine ⟨?_⟩
  refine wpList_append_sl (P := Tryd.prog) _ rfl (.tmp 13) (.tmp 20) 24 rfl w3.heap.size 102 j0 _ 6 12 Tryd.underlying24 HJ.out.1 HJ.out.2.1 HJ.out.2.2.1 HJ.out.2.2.2 rfl (by omega) (.slice (some ⟨w3.heap.size, 0, none⟩) 0 0) 0 [] rfl ho1 s.b' s.A' K2 s.c' (kv (g.K.take K2)) rfl hs1 (by simp [l2]) (fun hA => by have := Sl.none_len hs1 rfl hA; simp [l2] at this; omega) (kvG_one _) (by simp only [maxLen]; omega) (by omega) (by simp) ?_
  intro v4 w4 hrow4 hgr4 hloc4
  rw [List.nil_append, Nat.zero_add] at hrow4
  have hm4 := Mod.of_grown hgr4
  have hsz4 := hgr4.size
  simp only [World.size_alloc] at hsz4
  have hob4 : ∀ i, (Value.slice (some ⟨w3.heap.size, 0, none⟩) 0 0).ownBlock = some i → i = w3.heap.size := fun i h => by simpa [Value.ownBlock] using h.symm
  have hq3 := q3.lt
  have hq2 := q2.lt
  have hz9 := HZ.out
  replace q3 := q3.modG hm4 (fun e => by have := hob4 _ e; omega)
  replace q2 := q2.modG hm4 (fun e => by have := hob4 _ e; omega)
  have hb34 : Below w3.heap.size w3 w4 := ha3.trans (hm4.below (by simp) (fun i hi e => by have := hob4 _ e; omega))
  replace hs5 : Sl w4 b5 A5 (cv (g.L.take K1)) := Sl.ext hs5 hb34
  have hb4 : Below w.heap.size w w4 := hb2.trans (hm4.below hb2.size (fun i hi e => by have := hob4 _ e; omega))
  obtain ⟨A6, c6, b6, rfl, hc6, hB6, hs6, hk6⟩ := own_slG hrow4
  have hb6 : w.heap.size + 2 < b6 := by have := HZ.out; omega
  have f5 := q3.free 5
  have k5' := q3.c5
  simp only at k5'
  clear hs1 ho1 hm4 hgr4 hloc4 hb2 k5 HJ hq3 hq2 hz9 hb34 ha3
  go_upto_region 3 with fail
  have q5 := q3.s5 (g.K.take K2) K2 l2 A6 c6 b6
  have hsm := Mod.setCell w4 ⟨w.heap.size, 5, none⟩ (.slice A6 K2 c6)
  obtain ⟨w5, hw5⟩ : ∃ w5, w5 = w4.setCell ⟨w.heap.size, 5, none⟩ (.slice A6 K2 c6) := ⟨_, rfl⟩
  rw [← hw5] at q5 hsm ⊢
  replace q2 := q2.modG hsm (by show ¬ w.heap.size + 1 = w.heap.size; omega)
  replace hs5 : Sl w5 b5 A5 (cv (g.L.take K1)) := hs5.mod hsm (by show ¬ b5 = w.heap.size; omega)
  replace hs6 : Sl w5 b6 A6 (kv (g.K.take K2)) := hs6.mod hsm (by show ¬ b6 = w.heap.size; omega)
  replace hb4 : Below w.heap.size w w5 := hb4.trans (hsm.below hb4.size (fun i hi e => by have e : i = w.heap.size := e; omega))
  clear hw5 q3 f5 k5' hsm hrow4
  have z0 := q5.c0
  have z1 := q5.c1
  have z2 := q5.c2
  have z3 := q5.c3
  have z4 := q5.c4
  have z5 := q5.c5
  have y0 := q2.c0
  have y1 := q2.c1
  have y2 := q2.c2
  have y3 := q2.c3
  have y4 := q2.c4
  have y5 := q2.c5
  have hfz := q2.free
  simp only [l1, l2] at z0 z1 z2 z3 z4 z5
  simp only at y0 y1 y2 y3 y4 y5
  go_wp2_with fail
  obtain ⟨h9, m9⟩ := six_set6 (.int .i64 g.ob) (.int .i64 g.pl) (.int .u32 (g.mv : Int)) (.int .u32 (g.df : Int)) (.slice A5 K1 c5) (.slice A6 K2 c6) q2
  refine bodyPost_ret (results_cell_row (P := Tryd.prog) rfl _ _ (w.heap.size + 1) _ _ (0, 0) _ rfl h9 Tryd.underlying26 rfl (by kernel_rfl)) rfl ?_
  have hb9 := hb4.trans (m9.below hb4.size (fun i hi e => by have e : i = w.heap.size + 1 := e; omega))
  refine ⟨⟨A5, c5, b5, A6, c6, b6⟩, ?_, ⟨?_, ?_⟩, ?_, ⟨by show w.heap.size ≤ b5; omega, by show w.heap.size ≤ b6; omega⟩, hb9⟩
  · simp only [gmA, l1, l2]
  · exact hs5.mod m9 (by show ¬ b5 = w.heap.size + 1; omega)
  · exact hs6.mod m9 (by show ¬ b6 = w.heap.size + 1; omega)
  · exact HOKK.out ⟨A5, c5, b5, A6, c6, b6⟩ (by show (g.L.take K1).length ≤ c5; rw [l1]; exact hc5) (by show (g.K.take K2).length ≤ c6; rw [l2]; exact hc6)
end Go.Proofs.YtfopdoeiahlhpaaDoor
/- How a list of int32 that came in reads, in the words of this seat's walks. No condition. -/
namespace Go.Proofs.YtfopdoeiahlhpaaDoor
open Go.ChangeShapes Go.WideShapes Go.ChangeAt Go.RowKit Go.Deep

theorem ints_is {w : World} {x : Addr} {len : Nat} {zs : List Int} (hz : len ≤ zs.length) (hc : ∀ i, i < zs.length → w.cell? (x.add i) = some (.int .i32 (zs.getD i 0))) :
    Is w x.block (some x) (zs.take len) := by
  refine fun hne => ?_
  have h0 : 0 < zs.length := by
    rcases Nat.eq_zero_or_pos len with h | h
    · subst h; simp at hne
    · omega
  obtain ⟨bb, off, spot⟩ := x
  have hspot : spot = none := by simpa [Addr.add] using World.cell?_spot (hc 0 h0)
  subst hspot
  refine ⟨off, rfl, fun j u hu => ?_⟩
  have hj : j < len := by
    have := (List.getElem?_eq_some_iff.1 hu).1
    simp [iv] at this
    omega
  have hjz : j < zs.length := by omega
  have h1 := hc j hjz
  rw [Addr.add_lit] at h1
  rw [h1]
  have hm : zs.getD j 0 = zs[j] := by simp [List.getD, hjz]
  have h2 : (iv (zs.take len))[j]? = some (.int .i32 zs[j]) := by
    simp [iv, hj, hjz]
  rw [h2] at hu
  injection hu with hu
  rw [← hu, hm]
set_option maxRecDepth 100000 in
theorem open_i32s {H : Type} {enc : TypeId × Value → H} {W : World} {base b0 : Nat} {spare : Nat → Bool} {held : Bool} {r : Reach} {v : Value} {d : DataW H} {p : List MemPlace} (hv : Value.okWide Tryd.prog W r base 28 v) (h : DataW.Trod enc Tryd.prog W b0 spare held 28 v d p) :
    ∃ A n c b l, v = .slice A n c ∧ l.length = n ∧ n ≤ maxLen ∧ n ≤ c ∧ (∀ x ∈ l, -2147483648 ≤ x ∧ x ≤ 2147483647) ∧ Is W b A l := by
  obtain ⟨a, len, cap, rfl⟩ := okWide_slice Tryd.underlying28 hv
  obtain ⟨fuel, hf⟩ := h
  rcases open_ints Tryd.underlying28 Tryd.underlying21 (by kernel_rfl) hf with ⟨hcs, _⟩ | ⟨x, l, c, zs, hcs, _, hl, hm, hz, _, hcell, hwf⟩
  · simp [Value.cells] at hcs
    obtain ⟨rfl, rfl, rfl⟩ := hcs
    exact ⟨none, 0, 0, 0, [], rfl, rfl, by simp [maxLen], Nat.le_refl _, (fun _ h => by cases h), Sl.nil_ _ _ _⟩
  · simp [Value.cells] at hcs
    obtain ⟨rfl, rfl, rfl⟩ := hcs
    have hlz : len ≤ zs.length := by rw [hz]; split <;> omega
    exact ⟨_, _, _, x.block, zs.take len, rfl, by rw [List.length_take]; omega, by omega, hl, fun y hy => bounds_i32 (hwf y (List.mem_of_mem_take hy)), ints_is hlz hcell⟩
end Go.Proofs.YtfopdoeiahlhpaaDoor
/- When two states are the same to Go's own test; what moves count, however many there are. No condition. -/
namespace Go.Proofs.YtfopdoeiahlhpaaDoor
open Go.RowKit

theorem st_under : ∃ f0 f1 f2 : Field, Tryd.prog.underlying 46 = some (.struct #[f0, f1, f2]) ∧ f0.name ≠ "_" ∧ f1.name ≠ "_" ∧ f2.name ≠ "_" ∧ f0.type = 42 ∧ f1.type = 44 ∧ f2.type = 22 ∧ f0.offset = 0 ∧ f1.offset = 97 ∧ f2.offset = 98 :=
  ⟨_, _, _, Tryd.underlying46, by decide, by decide, by decide, rfl, rfl, rfl, rfl, rfl, rfl⟩
theorem dice_under : ∃ f0 : Field, Tryd.prog.underlying 44 = some (.struct #[f0]) ∧ f0.name ≠ "_" ∧ f0.type = 27 ∧ f0.offset = 0 :=
  ⟨_, Tryd.underlying44, by decide, rfl, rfl⟩
theorem st_held : Tryd.prog.stoodInHeld 46 = false := by kernel_rfl
theorem dice_held : Tryd.prog.stoodInHeld 44 = false := by kernel_rfl
theorem bd_info97 : ∃ i : TypeInfo, Tryd.prog.info? 42 = some i ∧ i.size = 97 := by
  have hz : (Tryd.prog.info? 42).map (·.size) = some 97 := by kernel_rfl
  cases hi : Tryd.prog.info? 42 with
  | none => rw [hi] at hz; cases hz
  | some i => exact ⟨i, rfl, by rw [hi] at hz; simpa using hz⟩
theorem dice_info1 : ∃ i : TypeInfo, Tryd.prog.info? 44 = some i ∧ i.size = 1 := by
  have hz : (Tryd.prog.info? 44).map (·.size) = some 1 := by kernel_rfl
  cases hi : Tryd.prog.info? 44 with
  | none => rw [hi] at hz; cases hz
  | some i => exact ⟨i, rfl, by rw [hi] at hz; simpa using hz⟩
section
variable (w : World)
theorem stA_bd (s : St) : (stA s).extract 0 97 = bdL s.L := by
  apply Array.ext'
  simp only [stA, stL, List.extract_toArray, List.extract_eq_take_drop]
  rw [List.drop_zero, show 97 - 0 = (bdL s.L).toList.length by rw [bdL_list], List.take_left' rfl]
theorem stA_dice (s : St) : (stA s).extract 97 98 = #[.int .u64 (s.d : Int)] := by
  apply Array.ext'
  simp only [stA, stL, stE, List.extract_toArray, List.extract_eq_take_drop]
  rw [List.drop_append_of_le_length (by rw [bdL_list]; omega), show (bdL s.L).toList.drop 97 = [] from List.drop_eq_nil_of_le (by rw [bdL_list]; omega)]
  rfl
theorem stA_tk (s : St) : (stA s)[98]? = some (.int .u32 (s.tk : Int)) := by
  have h := stL_at (s := s) (k := 1) (v := .int .u32 (s.tk : Int)) rfl
  unfold stA
  rw [List.getElem?_toArray]
  exact h
theorem part_bd (s : St) : (part 42 (stA s) 0).run Tryd.prog w = .ok (.agg (bdL s.L)) w := by
  obtain ⟨i, hi, hs⟩ := bd_info97
  have e := stA_bd s
  obtain ⟨X, hX⟩ : ∃ X, X = stA s := ⟨_, rfl⟩
  obtain ⟨Y, hY⟩ : ∃ Y, Y = bdL s.L := ⟨_, rfl⟩
  rw [← hX, ← hY] at e
  rw [← hX, ← hY]
  clear hX hY
  simp [part, isAgg, run_underlying Tryd.underlying42, sizeOf, typeInfo, hi, hs, e]
theorem part_dice (s : St) : (part 44 (stA s) 97).run Tryd.prog w = .ok (.agg #[.int .u64 (s.d : Int)]) w := by
  obtain ⟨i, hi, hs⟩ := dice_info1
  have e := stA_dice s
  obtain ⟨X, hX⟩ : ∃ X, X = stA s := ⟨_, rfl⟩
  rw [← hX] at e
  rw [← hX]
  clear hX
  simp [part, isAgg, run_underlying Tryd.underlying44, sizeOf, typeInfo, hi, hs, e]
theorem part_tk (s : St) : (part 22 (stA s) 98).run Tryd.prog w = .ok (.int .u32 (s.tk : Int)) w := by
  have e := stA_tk s
  obtain ⟨X, hX⟩ : ∃ X, X = stA s := ⟨_, rfl⟩
  rw [← hX] at e
  rw [← hX]
  clear hX
  simp [part, isAgg, run_underlying Tryd.underlying22, e]
theorem run_equal_dice (d : Nat) (x y : Nat) : (Op.equalIn (d + 2) 44 (.agg #[.int .u64 (x : Int)]) (.agg #[.int .u64 (y : Int)])).run Tryd.prog w = .ok ((x : Int) == (y : Int)) w := by
  obtain ⟨f0, hu, h0, t0, o0⟩ := dice_under
  have hf : Tryd.prog.fieldsOf 44 = #[f0] := by simp [Program.fieldsOf, hu]
  rw [run_equalIn_struct w (d + 1) _ _ _ (by rw [hf]; exact hu) dice_held, hf]
  simp [Op.eqFields, h0, t0, o0, part, isAgg, run_underlying Tryd.underlying27, run_equalIn_int w d _ .u64 .u64 _ _ Tryd.underlying27]
  by_cases e : (x : Int) = (y : Int)
  · rw [if_pos e, e, beq_self_eq_true]
  · rw [if_neg e, beq_eq_false_iff_ne.2 e]
/-- A state is itself. -/
theorem run_equal_st (d : Nat) (s : St) : (Op.equalIn (d + 5) 46 (.agg (stA s)) (.agg (stA s))).run Tryd.prog w = .ok true w := by
  obtain ⟨f0, f1, f2, hu, h0, h1, h2, t0, t1, t2, o0, o1, o2⟩ := st_under
  have hf : Tryd.prog.fieldsOf 46 = #[f0, f1, f2] := by simp [Program.fieldsOf, hu]
  rw [run_equalIn_struct w (d + 4) _ _ _ (by rw [hf]; exact hu) st_held, hf]
  have q0 := part_bd w s
  have q1 := part_dice w s
  have q2 := part_tk w s
  have r0 : (Op.equalIn (d + 4) 42 (.agg (bdL s.L)) (.agg (bdL s.L))).run Tryd.prog w = .ok true w := run_equal_bd w d _ _ _ _ _ _ true (by simp)
  have r1 : (Op.equalIn (d + 4) 44 (.agg #[.int .u64 (s.d : Int)]) (.agg #[.int .u64 (s.d : Int)])).run Tryd.prog w = .ok true w := by
    have h := run_equal_dice w (d + 2) s.d s.d
    rw [show ((s.d : Int) == (s.d : Int)) = true by simp] at h
    exact h
  have r2 : (Op.equalIn (d + 4) 22 (.int .u32 (s.tk : Int)) (.int .u32 (s.tk : Int))).run Tryd.prog w = .ok true w := by
    have h := run_equalIn_int w (d + 3) 22 .u32 .u32 (s.tk : Int) (s.tk : Int) Tryd.underlying22
    rw [show ((s.tk : Int) == (s.tk : Int)) = true by simp] at h
    exact h
  clear hu hf
  obtain ⟨X, hX⟩ : ∃ X, X = stA s := ⟨_, rfl⟩
  obtain ⟨Y, hY⟩ : ∃ Y, Y = bdL s.L := ⟨_, rfl⟩
  rw [← hX] at q0 q1 q2 ⊢
  rw [← hY] at q0 r0
  clear hX hY
  show (Op.eqFields (d + 4) X X [f0, f1, f2]).run Tryd.prog w = _
  simp only [Op.eqFields, h0, h1, h2, t0, t1, t2, o0, o1, o2, ne_eq, not_false_eq_true, if_true, Sem.run_bind, q0, q1, q2, r0, r1, r2, Result.andThen_ok, Bool.not_true, Bool.false_eq_true, if_false, Sem.run_pure]
theorem run_eql_st (s : St) : (binOp .eql 46 (.agg (stA s)) (.agg (stA s))).run Tryd.prog w = .ok (.bool true) w := by
  rw [run_eql_struct, run_equal_st w 9995]
  rfl
end
theorem st_guard (b : BinOp) (x y : Operand) (xs ys : Array Value) (w : World) : (eqGuard b 46 x y (.agg xs) (.agg ys)).run Tryd.prog w = .ok () w := run_eqGuard_agg w b _ x y xs ys (by kernel_rfl)
theorem yk_eqSt {ops : Array Oper} {S : World → Prop} {op : Oper} {a : Act} (hw : Region.wanted op (yielded ops a.tmps) = true) (x y : Operand) (ho : op.op = .binOp .eql 46 x y 46) (s : St) (hx : a.eval x = .agg (stA s)) (hy : a.eval y = .agg (stA s)) : YieldsIf Tryd.prog ops S op (.bool true) a :=
  .inl ⟨hw, fun w _ => by
    simp only [execOp, ho, hx, hy, Sem.run_bind, st_guard, Result.andThen_ok, run_eql_st w s, Sem.run_pure]⟩
section
variable {o : Oper} {a : Act} {w : World} {Q : Exit → Act → World → Prop} {K : Act → World → Prop}
theorem wp_alSt (ho : o.op = .alloc 46) (h : K (a.put o.dst (.pointer (some ⟨w.heap.size, 0, none⟩))) (w.alloc (.cells (stA zSt) 46))) : o.wp Tryd.prog a w K Q := by
  have hz : (zeroValue 46).run Tryd.prog w = .ok (.agg (stA zSt)) w := by kernel_rfl
  unfold Oper.wp execOp
  simp only [ho, Instr.alloc, newVar, newRow, run_newObj_alloc, Sem.run_bind, Sem.run_pure, Result.andThen_ok, hz, Value.cells]
  exact h
theorem wp_alO (ho : o.op = .alloc 53) (h : K (a.put o.dst (.pointer (some ⟨w.heap.size, 0, none⟩))) (w.alloc (.cells (otA 0 (.slice none 0 0) 0) 53))) : o.wp Tryd.prog a w K Q := by
  have hz : (zeroValue 53).run Tryd.prog w = .ok (.agg (otA 0 (.slice none 0 0) 0)) w := by kernel_rfl
  unfold Oper.wp execOp
  simp only [ho, Instr.alloc, newVar, newRow, run_newObj_alloc, Sem.run_bind, Sem.run_pure, Result.andThen_ok, hz, Value.cells]
  exact h
end
/-- All moves of the players that there are, each one that counts. -/
def wholeM (g : Gm) (M : List Nat) : List Nat := (List.range g.pl.toNat).map (mvAt g M)
theorem mvAt_lt {g : Gm} (h : g.df < g.mv) (M : List Nat) (i : Nat) : mvAt g M i < g.mv := by
  unfold mvAt
  split
  · rename_i h1; exact h1.2
  · exact h
theorem mvAt_take (g : Gm) (M : List Nat) {i n : Nat} (h : i < n) : mvAt g (M.take n) i = mvAt g M i := by
  unfold mvAt
  have e : (M.take n).getD i 0 = M.getD i 0 := by simp [List.getD, h]
  rw [e, List.length_take]
  have : (i < min n M.length ∧ M.getD i 0 < g.mv) ↔ (i < M.length ∧ M.getD i 0 < g.mv) := by omega
  simp only [this]
theorem mvAt_whole {g : Gm} (h : g.df < g.mv) (M N : List Nat) {i : Nat} (hi : i < g.pl.toNat) : mvAt g (wholeM g M ++ N) i = mvAt g M i := by
  have e : (wholeM g M ++ N).getD i 0 = mvAt g M i := by
    simp [List.getD, wholeM, List.getElem?_append, hi]
  have h1 := mvAt_lt h M i
  unfold mvAt
  rw [e, if_pos ⟨by simp [wholeM]; omega, h1⟩]
  rfl
theorem cntL_take (g : Gm) (M : List Nat) : cntL g (M.take g.pl.toNat) = cntL g M := by
  unfold cntL
  apply List.map_congr_left
  intro i hi
  rw [mvAt_take g M (List.mem_range.1 hi)]
theorem cntL_whole {g : Gm} (h : g.df < g.mv) (M N : List Nat) : cntL g (wholeM g M ++ N) = cntL g M := by
  unfold cntL
  apply List.map_congr_left
  intro i hi
  rw [mvAt_whole h M N (List.mem_range.1 hi)]
theorem right48 {g : Gm} (h : rightB g = true) : g.L.length ≤ 48 := by
  have h4 := (right_parts h).2.2.2.1
  unfold rcB at h4
  simp only [Bool.and_eq_true, decide_eq_true_eq] at h4
  exact h4.1
theorem gin_mod1 {w w' : World} {g : Gm} {s : Gs} {X B : Nat} (h : GIn w g s) (hm : Mod (fun i => i = X) w w') (h1 : B ≤ s.b) (h2 : B ≤ s.b') (hX : X < B) : GIn w' g s :=
  ⟨h.sc.mod hm (by show ¬ s.b = X; omega), h.sk.mod hm (by show ¬ s.b' = X; omega)⟩
theorem u32_infoR : (Tryd.prog.info? 22).map (fun i => (i.zero, i.size, i.bytes)) = some (some (.int .u32 0), 1, 4) := by kernel_rfl
theorem ms_oneR (l : List Nat) : ∀ u ∈ ms l, u.oneCell' = true := by
  intro u hu
  obtain ⟨_, _, rfl⟩ := List.mem_map.1 hu
  rfl
structure StopU (p : Prop) : Prop where
  out : p
theorem stop_atU {p : Prop} (h : StopU p) : p := h.out
theorem wp_appU {w : World} {o : Oper} {a : Act} {K : Act → World → Prop} {Q : Exit → Act → World → Prop} (s x : Operand)
    (ho : o.op = .call { callee := .builtin .append, args := #[s, x], argTypes := #[60, 60] })
    (B n : Nat) (v : Value) (l : List Nat) (hs : a.eval s = v) (hown : w.ownsRow B 22 1 v n (ms l))
    (b : Nat) (A : Option Addr) (m c : Nat) (news : List Nat) (hx : a.eval x = .slice A m c) (hr : Sl w b A (ms news)) (hm : news.length = m)
    (hlen : (n + m) * 4 ≤ 140737488355328) (hbase : B ≤ w.heap.size)
    (h : ∀ v' w', w'.ownsRow B 22 1 v' (n + m) (ms (l ++ news)) → w.grownBy w' v.ownBlock → (v'.ownBlock = v.ownBlock ∨ v'.ownBlock = some w.heap.size) → K (a.put o.dst v') w') : o.wp Tryd.prog a w K Q := by
  obtain ⟨i0, hi0, hz0, hz1, hz2⟩ := info_parts u32_infoR
  refine wp_append_sl (P := Tryd.prog) w s x _ ho B 22 i0 _ 1 4 Tryd.underlying60 hi0 hz0 hz1 hz2 rfl (by omega) v n (ms l) hs hown b A m c (ms news) hx hr (by simp [hm]) (Sl.none_len hr (by simp [hm])) (ms_oneR _)
    (by simp only [maxLen]; omega) (by omega) hbase ?_
  intro v' w' h1 h2 h3
  exact h v' w' (by rw [ms, List.map_append]; exact h1) h2 h3
theorem wpList_appU (w : World) {ops : Array Oper} {rest : List Oper} {o : Oper} {a : Act} {Q : Exit → Act → World → Prop} (hgd : o.guard = none) (s x : Operand)
    (ho : o.op = .call { callee := .builtin .append, args := #[s, x], argTypes := #[60, 60] })
    (B n : Nat) (v : Value) (l : List Nat) (hs : a.eval s = v) (hown : w.ownsRow B 22 1 v n (ms l))
    (b : Nat) (A : Option Addr) (m c : Nat) (news : List Nat) (hx : a.eval x = .slice A m c) (hr : Sl w b A (ms news)) (hm : news.length = m)
    (hlen : n + m ≤ 1000000000000) (hbase : B ≤ w.heap.size)
    (h : ∀ v' w', w'.ownsRow B 22 1 v' (n + m) (ms (l ++ news)) → w.grownBy w' v.ownBlock → (v'.ownBlock = v.ownBlock ∨ v'.ownBlock = some w.heap.size) → wpList Tryd.prog ops Q rest (a.put o.dst v') w') : wpList Tryd.prog ops Q (o :: rest) a w := by
  obtain ⟨i0, hi0, hz0, hz1, hz2⟩ := info_parts u32_infoR
  refine wpList_append_sl (P := Tryd.prog) w hgd s x _ ho B 22 i0 _ 1 4 Tryd.underlying60 hi0 hz0 hz1 hz2 rfl (by omega) v n (ms l) hs hown b A m c (ms news) hx hr (by simp [hm]) (Sl.none_len hr (by simp [hm])) (ms_oneR _)
    (by simp only [maxLen]; omega) (by omega) hbase ?_
  intro v' w' h1 h2 h3
  exact h v' w' (by rw [ms, List.map_append]; exact h1) h2 h3
end Go.Proofs.YtfopdoeiahlhpaaDoor
/- More steps of regions: boards, dice that are (or are not) the same; words that are added; a slice of slices. Conditions: those said. -/
namespace Go.Proofs.YtfopdoeiahlhpaaDoor
open Go.RowKit

section
variable {ops : Array Oper} {S : World → Prop} {op : Oper} {a : Act}
theorem yk_neBd (hw : Region.wanted op (yielded ops a.tmps) = true) (x y : Operand) (ho : op.op = .binOp .neq 42 x y 42) (L M : List (Int × Nat)) (hx : a.eval x = .agg (bdL L)) (hy : a.eval y = .agg (bdL M)) (h : L = M) : YieldsIf Tryd.prog ops S op (.bool false) a :=
  .inl ⟨hw, fun w _ => by
    subst h
    have e : (binOp .neq 42 (.agg (bdL L)) (.agg (bdL L))).run Tryd.prog w = .ok (.bool false) w := run_neq_bd w (bdF L) (bdF L) (bdG L) (bdG L) L.length L.length true (by simp)
    simp only [execOp, ho, hx, hy, Sem.run_bind, eq_guard, Result.andThen_ok, e, Sem.run_pure]⟩
theorem run_neq_dice (w : World) (x y : Nat) : (binOp .neq 44 (.agg #[.int .u64 (x : Int)]) (.agg #[.int .u64 (y : Int)])).run Tryd.prog w = .ok (.bool (!((x : Int) == (y : Int)))) w := by
  rw [run_neq_struct, run_equal_dice w 9998]
  rfl
theorem dice_guard (b : BinOp) (x y : Operand) (xs ys : Array Value) (w : World) : (eqGuard b 44 x y (.agg xs) (.agg ys)).run Tryd.prog w = .ok () w := run_eqGuard_agg w b _ x y xs ys (by kernel_rfl)
theorem yk_neDi (hw : Region.wanted op (yielded ops a.tmps) = true) (x y : Operand) (ho : op.op = .binOp .neq 44 x y 44) (d d' : Nat) (hx : a.eval x = .agg #[.int .u64 (d : Int)]) (hy : a.eval y = .agg #[.int .u64 (d' : Int)]) (h : d = d') : YieldsIf Tryd.prog ops S op (.bool false) a :=
  .inl ⟨hw, fun w _ => by
    subst h
    have e : (!((d : Int) == (d : Int))) = false := by simp
    simp only [execOp, ho, hx, hy, Sem.run_bind, dice_guard, Result.andThen_ok, run_neq_dice, e, Sem.run_pure]⟩
theorem yk_addW (hw : Region.wanted op (yielded ops a.tmps) = true) (x y : Operand) (ho : op.op = .binOp .add 22 x y 22) (n m z : Int) (hx : a.eval x = .int .u32 n) (hy : a.eval y = .int .u32 m) (hz : IntKind.u32.wrap (n + m) = z) : YieldsIf Tryd.prog ops S op (.int .u32 z) a :=
  .inl ⟨hw, fun w _ => by
    unfold execOp
    simp only [ho, hx, hy]
    rw [← hz]
    go_simp⟩
theorem run_neq_st (w : World) (s : St) : (binOp .neq 46 (.agg (stA s)) (.agg (stA s))).run Tryd.prog w = .ok (.bool false) w := by
  rw [run_neq_struct, run_equal_st w 9995]
  rfl
theorem yk_neSt (hw : Region.wanted op (yielded ops a.tmps) = true) (x y : Operand) (ho : op.op = .binOp .neq 46 x y 46) (s : St) (hx : a.eval x = .agg (stA s)) (hy : a.eval y = .agg (stA s)) : YieldsIf Tryd.prog ops S op (.bool false) a :=
  .inl ⟨hw, fun w _ => by
    simp only [execOp, ho, hx, hy, Sem.run_bind, st_guard, Result.andThen_ok, run_neq_st w s, Sem.run_pure]⟩
end
theorem ob_t {w : World} {k t e : Nat} {sh : Value} (h : OBox w k t sh e) : w.cell? ⟨k, 0, none⟩ = some (.int .u64 (t : Int)) := by rw [cell_of_row w k _ _ _ _ h]; rfl
theorem ob_s {w : World} {k t e : Nat} {sh : Value} (h : OBox w k t sh e) : w.cell? ⟨k, 1, none⟩ = some sh := by rw [cell_of_row w k _ _ _ _ h]; rfl
theorem ob_e {w : World} {k t e : Nat} {sh : Value} (h : OBox w k t sh e) : w.cell? ⟨k, 2, none⟩ = some (.int .i64 (e : Int)) := by rw [cell_of_row w k _ _ _ _ h]; rfl
end Go.Proofs.YtfopdoeiahlhpaaDoor
/- What is shown in a run: it is a cell's value, shown to those who hadn't seen it, and who see it then. Conditions: the instructions may be; the numbers fit. -/
namespace Go.Proofs.YtfopdoeiahlhpaaDoor
open Go.RowKit

structure ShIn (L0 : List (Int × Nat)) (al : Nat) (quiet : Prop) (s : VS) : Prop where
  sh : ∀ x ∈ s.sh, x.1 < L0.length ∧ x.2.1 ≠ 0 ∧ x.2.1 < 4294967296 ∧ lessN x.2.1 al = 0
  q : quiet → ∀ x ∈ s.sh, x.2.1 &&& (L0.getD x.1 (0, 0)).2 = 0 ∧ x.2.2 = (L0.getD x.1 (0, 0)).1
  now : quiet → ∀ x ∈ s.sh, ∀ j, j < 32 → x.2.1.testBit j = true → (s.cl x.1).2.testBit j = true
theorem follow_shin (comp : Nat → Int → Int → Int) (P : VP) {L0 : List (Int × Nat)} {quiet : Prop} {s : VS} (hal : P.al < 4294967296) (hl : LOk s L0.length) (hk : Keep L0 quiet s) (h : ShIn L0 P.al quiet s) (c : Cd) (hq : quiet → stores c = false) : ShIn L0 P.al quiet (followV comp P s c) := by
  have K' : Keep s.L quiet (followV comp P s c) := follow_keep comp P (L0 := s.L) (quiet := quiet) ⟨fun _ _ => rfl, fun _ _ => ⟨rfl, fun _ _ h => h⟩⟩ c hq
  have hsame : (followV comp P s c).sh = s.sh → ShIn L0 P.al quiet (followV comp P s c) := fun e =>
    ⟨by rw [e]; exact h.sh, by rw [e]; exact h.q, fun hqq x hx j hj hb => by
      rw [e] at hx
      exact (K'.same hqq x.1).2 j hj (h.now hqq x hx j hj hb)⟩
  by_cases e22 : c.op = 22
  · by_cases hp : (s.place P.al c).1 = 0
    · have hF : followV comp P s c = s.reveal (s.place P.al c).2 (c.m &&& P.al) := by
        unfold followV
        simp [e22, hp]
      have hi := place_lt hp
      obtain ⟨i, hi'⟩ : ∃ i, i = (s.place P.al c).2 := ⟨_, rfl⟩
      obtain ⟨m, hm⟩ : ∃ m, m = c.m &&& P.al := ⟨_, rfl⟩
      rw [← hi', ← hm] at hF
      rw [← hi'] at hi
      have hm32 : m < 4294967296 := by rw [hm]; exact Nat.lt_of_le_of_lt Nat.and_le_right hal
      have hmal : ∀ j, m.testBit j = true → P.al.testBit j = true := fun j hb => by
        rw [hm, Nat.testBit_and, Bool.and_eq_true] at hb
        exact hb.2
      have hq32 : (s.cl i).2 < 4294967296 := (getD_fit hl.okL i).2
      by_cases hl0 : lessN m (s.cl i).2 = 0
      · exact hsame (by rw [hF]; unfold VS.reveal; simp [hl0])
      · have hsh : (followV comp P s c).sh = s.sh ++ [(i, lessN m (s.cl i).2, (s.cl i).1)] := by rw [hF]; unfold VS.reveal; simp [hl0]
        have hbit := lessN_bit m hq32
        refine ⟨?_, ?_, ?_⟩
        · rw [hsh]
          intro x hx
          rcases List.mem_append.1 hx with hx | hx
          · exact h.sh x hx
          · rw [List.mem_singleton.1 hx]
            refine ⟨by rw [← hl.L]; exact hi, hl0, lessN_lt _ hm32, ?_⟩
            refine ext32 (lessN_lt _ (lessN_lt _ hm32)) (by omega) fun j hj => ?_
            rw [lessN_bit _ hal j hj, hbit j hj, Nat.zero_testBit]
            cases hb : m.testBit j with
            | false => rfl
            | true => rw [hmal j hb]; simp
        · rw [hsh]
          intro hqq x hx
          rcases List.mem_append.1 hx with hx | hx
          · exact h.q hqq x hx
          · rw [List.mem_singleton.1 hx]
            obtain ⟨h1, h2⟩ := hk.same hqq i
            refine ⟨?_, h1⟩
            refine ext32 (Nat.lt_of_le_of_lt Nat.and_le_left (lessN_lt _ hm32)) (by omega) fun j hj => ?_
            rw [Nat.testBit_and, hbit j hj, Nat.zero_testBit]
            cases hb : (L0.getD i (0, 0)).2.testBit j with
            | false => simp
            | true => rw [h2 j hj hb]; simp
        · intro hqq
          rw [hsh]
          intro x hx j hj hb
          rcases List.mem_append.1 hx with hx | hx
          · exact (K'.same hqq x.1).2 j hj (h.now hqq x hx j hj hb)
          · rw [List.mem_singleton.1 hx] at hb ⊢
            have hb : (lessN m (s.cl i).2).testBit j = true := hb
            rw [hbit j hj, Bool.and_eq_true] at hb
            have hc : (followV comp P s c).cl i = ((s.cl i).1, (s.cl i).2 ||| m) := by
              rw [hF]
              unfold VS.reveal VS.put VS.cl
              simp [List.getD, hi]
            show ((followV comp P s c).cl i).2.testBit j = true
            rw [hc]
            show ((s.cl i).2 ||| m).testBit j = true
            rw [Nat.testBit_or, hb.1, Bool.or_true]
    · refine hsame ?_
      unfold followV
      simp [e22, hp, VS.fail]
  · exact hsame (follow_quiet comp P s c e22)
theorem run_shin (comp : Nat → Int → Int → Int) (P : VP) {L0 : List (Int × Nat)} {quiet : Prop} (hal : P.al < 4294967296) (hP : POk comp P L0.length) (hq : quiet → ∀ c ∈ P.code, stores c = false) : ∀ (k : Nat) {s : VS}, TOk s L0.length → Keep L0 quiet s → ShIn L0 P.al quiet s → ShIn L0 P.al quiet (runV comp P k s)
  | 0, _, _, _, h => h
  | k + 1, s, ht, hk, h => by
    unfold runV
    by_cases h1 : s.nx < P.code.length ∧ s.e = 0
    · rw [if_pos h1]
      by_cases h2 : s.u = 400
      · rw [if_pos h2]; exact ⟨h.sh, h.q, h.now⟩
      · rw [if_neg h2]
        have hq1 : quiet → stores P.code[s.nx] = false := fun hqq => hq hqq _ (List.getElem_mem h1.1)
        have hk1 : Keep L0 quiet ({ s with nx := s.nx + 1, u := s.u + 1 } : VS) := ⟨hk.still, hk.same⟩
        have e1 : stepV comp P s = followV comp P { s with nx := s.nx + 1, u := s.u + 1 } P.code[s.nx] := by unfold stepV; rw [codeAt_in P h1.1]
        refine run_shin comp P hal hP hq k (step_ok comp P hP ht h1.1 (by have := ht.u; omega)) ?_ ?_
        · rw [e1]; exact follow_keep comp P hk1 _ hq1
        · rw [e1]; exact follow_shin comp P (s := { s with nx := s.nx + 1, u := s.u + 1 }) hal { ht.l with } hk1 ⟨h.sh, h.q, h.now⟩ _ hq1
    · rw [if_neg h1]; exact h
theorem less_of_bits {m q : Nat} (hm : m < 4294967296) (hq : q < 4294967296) (h : ∀ j, j < 32 → m.testBit j = true → q.testBit j = true) : lessN m q = 0 :=
  ext32 (lessN_lt _ hm) (by omega) fun j hj => by
    rw [lessN_bit _ hq j hj, Nat.zero_testBit]
    cases hb : m.testBit j with
    | false => rfl
    | true => rw [h j hj hb]; rfl
theorem whole_shin {comp : Nat → Int → Int → Int} {P : VP} {L : List (Int × Nat)} {d : Nat} (hcf : CompFit comp) (hal : P.al < 4294967296) (hmvf : ∀ x ∈ P.mv, -2147483648 ≤ x ∧ x ≤ 2147483647) (hok : okK P.code) (hL : okC L) :
    (∀ x ∈ (wholeV comp P L d).sh, x.1 < L.length ∧ x.2.1 ≠ 0 ∧ x.2.1 < 4294967296 ∧ lessN x.2.1 P.al = 0) ∧
    ((∀ c ∈ P.code, stores c = false) → ∀ x ∈ (wholeV comp P L d).sh, x.2.1 &&& (L.getD x.1 (0, 0)).2 = 0 ∧ x.2.2 = (L.getD x.1 (0, 0)).1 ∧ ((wholeV comp P L d).e = 0 → lessN x.2.1 ((wholeV comp P L d).L.getD x.1 (0, 0)).2 = 0)) := by
  have hS : Keep L (∀ c ∈ P.code, stores c = false) (startV P L d) := ⟨fun _ _ => rfl, fun _ _ => ⟨rfl, fun _ _ h => h⟩⟩
  by_cases hck : (checkV P.code L.length P.mv.length).2 = true
  · have hcp := check_parts hck
    have hP : POk comp P L.length := ⟨hcf, hal, hmvf, hcp.1, fun c hc => ⟨hok c hc, hcp.2 c hc⟩⟩
    have hT0 : TOk (startV P L d) L.length := ⟨start_ok d hL hal, Nat.zero_le _, Nat.le_refl _, Nat.zero_le _⟩
    have ht := run_tok comp P hP 402 hT0
    have hk := run_shin comp P (quiet := ∀ c ∈ P.code, stores c = false) hal hP (fun h => h) 402 hT0 hS ⟨fun x hx => (by cases hx), fun _ x hx => (by cases hx), fun _ x hx => (by cases hx)⟩
    have e1 : wholeV comp P L d = endV L d (runV comp P 402 (startV P L d)) := if_pos hck
    rw [e1]
    generalize runV comp P 402 (startV P L d) = z at *
    unfold endV
    by_cases he : z.e = 0
    · rw [if_pos he]
      exact ⟨hk.sh, fun hq x hx => ⟨(hk.q hq x hx).1, (hk.q hq x hx).2, fun _ => less_of_bits (hk.sh x hx).2.2.1 (getD_fit ht.l.okL x.1).2 (hk.now hq x hx)⟩⟩
    · rw [if_neg he]
      exact ⟨hk.sh, fun hq x hx => ⟨(hk.q hq x hx).1, (hk.q hq x hx).2, fun h => absurd h he⟩⟩
  · have e1 : wholeV comp P L d = { startV P L d with e := 2 } := if_neg hck
    rw [e1]
    exact ⟨fun x hx => (by cases hx), fun _ x hx => (by cases hx)⟩
end Go.Proofs.YtfopdoeiahlhpaaDoor
/- How a list of uint32 that came in reads, in the words of this seat's walks; how long it may be. No condition. -/
namespace Go.Proofs.YtfopdoeiahlhpaaDoor
open Go.ChangeShapes Go.WideShapes Go.ChangeAt Go.RowKit Go.Deep

theorem nats_is {w : World} {x : Addr} {len : Nat} {zs : List Int} (hz : len ≤ zs.length) (hc : ∀ i, i < zs.length → w.cell? (x.add i) = some (.int .u32 (zs.getD i 0))) (h0 : ∀ z ∈ zs, 0 ≤ z) :
    Sl w x.block (some x) (ms ((zs.take len).map Int.toNat)) := by
  refine fun hne => ?_
  have h1 : 0 < zs.length := by
    rcases Nat.eq_zero_or_pos len with h | h
    · subst h; simp [ms] at hne
    · omega
  obtain ⟨bb, off, spot⟩ := x
  have hspot : spot = none := by simpa [Addr.add] using World.cell?_spot (hc 0 h1)
  subst hspot
  refine ⟨off, rfl, fun j u hu => ?_⟩
  have hj : j < len := by
    have := (List.getElem?_eq_some_iff.1 hu).1
    simp [ms] at this
    omega
  have hjz : j < zs.length := by omega
  have h1 := hc j hjz
  rw [Addr.add_lit] at h1
  rw [h1]
  have hm : zs.getD j 0 = zs[j] := by simp [List.getD, hjz]
  have hp := h0 _ (List.getElem_mem hjz)
  have h2 : (ms ((zs.take len).map Int.toNat))[j]? = some (.int .u32 zs[j]) := by
    simp [ms, hj, hjz, Int.toNat_of_nonneg hp]
  rw [h2] at hu
  injection hu with hu
  rw [← hu, hm]
set_option maxRecDepth 100000 in
theorem open_u32s {H : Type} {enc : TypeId × Value → H} {W : World} {base b0 : Nat} {spare : Nat → Bool} {held : Bool} {r : Reach} {v : Value} {d : DataW H} {p : List MemPlace} (hv : Value.okWide Tryd.prog W r base 60 v) (h : DataW.Trod enc Tryd.prog W b0 spare held 60 v d p) :
    ∃ A n c b l, v = .slice A n c ∧ l.length = n ∧ n ≤ maxLen ∧ n ≤ c ∧ (∀ x ∈ l, x ≤ 4294967295) ∧ Sl W b A (ms l) ∧ (n = 0 ∨ ∃ el sp, d = .slice el sp ∧ el.length = n) := by
  obtain ⟨a, len, cap, rfl⟩ := okWide_slice Tryd.underlying60 hv
  obtain ⟨fuel, hf⟩ := h
  rcases open_ints Tryd.underlying60 Tryd.underlying22 (by kernel_rfl) hf with ⟨hcs, _⟩ | ⟨x, l, c, zs, hcs, _, hl, hm, hz, hd, hcell, hwf⟩
  · simp [Value.cells] at hcs
    obtain ⟨rfl, rfl, rfl⟩ := hcs
    exact ⟨none, 0, 0, 0, [], rfl, rfl, by simp [maxLen], Nat.le_refl _, (fun _ h => by cases h), Sl.nil_ _ _ _, Or.inl rfl⟩
  · simp [Value.cells] at hcs
    obtain ⟨rfl, rfl, rfl⟩ := hcs
    have hlz : len ≤ zs.length := by rw [hz]; split <;> omega
    have hb : ∀ z ∈ zs, 0 ≤ z ∧ z ≤ 4294967295 := fun z hz => bounds_u32 (hwf z hz)
    injection hd with hd _
    refine ⟨_, _, _, x.block, (zs.take len).map Int.toNat, rfl, by rw [List.length_map, List.length_take]; omega, by omega, hl, fun y hy => ?_, nats_is hlz hcell (fun z hz => (hb z hz).1), Or.inr ⟨_, _, hd, by simp [lits]; omega⟩⟩
    obtain ⟨z, hz, rfl⟩ := List.mem_map.1 hy
    have := hb z (List.mem_of_mem_take hz)
    omega
/-- As long as may be: what of words may come in. -/
theorem sized_u32 {H : Type} {ts : List TypeId} {ds : List (DataW H)} (h : (DataW.weightsEach Tryd.prog ts ds).all (· ≤ reachBytes) = true) {j n : Nat} {d : DataW H} (ht : ts[j]? = some 60) (hd : ds[j]? = some d) (hs : n = 0 ∨ ∃ el sp, d = .slice el sp ∧ el.length = n) : n * 4 ≤ 140737488351232 := by
  rcases hs with rfl | ⟨el, sp, rfl, rfl⟩
  · decide
  · have h1 := sized_slice h ht hd Tryd.underlying60
    rw [show Tryd.prog.bytesOf 22 = 4 by kernel_rfl] at h1
    simp only [reachBytes] at h1
    omega
end Go.Proofs.YtfopdoeiahlhpaaDoor
/- How a list of lists of uint32 that came in reads, in the words of this seat's walks. No condition. -/
namespace Go.Proofs.YtfopdoeiahlhpaaDoor
open Go.ChangeShapes Go.WideShapes Go.ChangeAt Go.RowKit Go.Deep

/-- Lists of words, each where its slice says. -/
def Mss (w : World) (vs : List Value) (ls : List (List Nat)) : Prop :=
  vs.length = ls.length ∧ ∀ (i : Nat) (l : List Nat), ls[i]? = some l → ∃ A c b, vs[i]? = some (.slice A l.length c) ∧ Sl w b A (ms l)
theorem Mss.nil_ (w : World) : Mss w [] [] := ⟨rfl, fun i l h => by simp at h⟩
theorem Mss.ext {w w' : World} {vs : List Value} {ls : List (List Nat)} (h : Mss w vs ls) (hb : Below w.heap.size w w') : Mss w' vs ls :=
  ⟨h.1, fun i l hl => by obtain ⟨A, c, b, h1, h2⟩ := h.2 i l hl; exact ⟨A, c, b, h1, Sl.ext h2 hb⟩⟩
set_option maxRecDepth 100000 in
theorem trod_u32s {H : Type} {enc : TypeId × Value → H} {W : World} {b0 fuel : Nat} {spare : Nat → Bool} {held : Bool} {v : Value} {x : DataW H × List MemPlace} (hf : DataW.trod enc Tryd.prog W b0 spare held fuel 60 [v] = some x) :
    ∃ A n c b l, v = .slice A n c ∧ l.length = n ∧ n ≤ maxLen ∧ (∀ x ∈ l, x ≤ 4294967295) ∧ Sl W b A (ms l) := by
  rcases open_ints Tryd.underlying60 Tryd.underlying22 (by kernel_rfl) hf with ⟨hcs, _⟩ | ⟨x, l, c, zs, hcs, _, hl, hm, hz, _, hcell, hwf⟩
  · injection hcs with hcs
    exact ⟨none, 0, 0, 0, [], hcs, rfl, by simp [maxLen], (fun _ h => by cases h), Sl.nil_ _ _ _⟩
  · injection hcs with hcs
    have hlz : l ≤ zs.length := by rw [hz]; split <;> omega
    have hb : ∀ z ∈ zs, 0 ≤ z ∧ z ≤ 4294967295 := fun z hz => bounds_u32 (hwf z hz)
    refine ⟨_, _, _, x.block, (zs.take l).map Int.toNat, hcs, by rw [List.length_map, List.length_take]; omega, by omega, fun y hy => ?_, nats_is hlz hcell (fun z hz => (hb z hz).1)⟩
    obtain ⟨z, hz, rfl⟩ := List.mem_map.1 hy
    have := hb z (List.mem_of_mem_take hz)
    omega
set_option maxRecDepth 100000 in
theorem open_script {H : Type} {enc : TypeId × Value → H} {W : World} {base b0 : Nat} {spare : Nat → Bool} {held : Bool} {r : Reach} {v : Value} {d : DataW H} {p : List MemPlace} (hv : Value.okWide Tryd.prog W r base 29 v) (h : DataW.Trod enc Tryd.prog W b0 spare held 29 v d p) :
    ∃ A n c b ls vs, v = .slice A n c ∧ List.length ls = n ∧ n ≤ maxLen ∧ Sl W b A vs ∧ Mss W vs ls ∧ (∀ l ∈ ls, l.length ≤ maxLen ∧ ∀ x ∈ l, x ≤ 4294967295) := by
  obtain ⟨a, len, cap, rfl⟩ := okWide_slice Tryd.underlying29 hv
  obtain ⟨fuel, hf⟩ := h
  rcases open_slice1 Tryd.underlying29 (by kernel_rfl) hf with ⟨hcs, _⟩ | ⟨x, l, c, m, n, V, D, Pl, hcs, _, hl, hm, hmm, _, hel⟩
  · simp [Value.cells] at hcs
    obtain ⟨rfl, rfl, rfl⟩ := hcs
    exact ⟨none, 0, 0, 0, [], [], rfl, rfl, by simp [maxLen], Sl.nil_ _ _ _, Mss.nil_ _, by simp⟩
  · simp [Value.cells] at hcs
    obtain ⟨rfl, rfl, rfl⟩ := hcs
    have hlm : len ≤ m := by rw [hmm]; split <;> omega
    obtain ⟨L, hL⟩ := choose_lt (α := List Nat) (n := len) (p := fun i y => (y.length ≤ maxLen ∧ ∀ x ∈ y, x ≤ 4294967295) ∧ ∃ A c b, V i = .slice A y.length c ∧ Sl W b A (ms y)) (fun i hi => by
      obtain ⟨_, ht⟩ := hel i (by omega)
      obtain ⟨A, n, c, b, y, e, hy, hn, hx, hs⟩ := trod_u32s ht
      exact ⟨y, ⟨by omega, hx⟩, A, c, b, by rw [e, hy], hs⟩)
    by_cases h0 : len = 0
    · subst h0
      exact ⟨_, _, _, 0, [], [], rfl, rfl, by simp [maxLen], Sl.nil_ _ _ _, Mss.nil_ _, by simp⟩
    · obtain ⟨bb, off, spot⟩ := x
      have hc0 := (hel 0 (by omega)).1
      have hspot : spot = none := by simpa [Addr.add] using World.cell?_spot hc0
      subst hspot
      refine ⟨_, _, _, bb, (List.range len).map L, (List.range len).map V, rfl, by simp, by omega, fun _ => ⟨off, rfl, fun j u hu => ?_⟩, ⟨by simp, fun i l hi => ?_⟩, fun y hy => ?_⟩
      · have hj : j < len := by
          have := (List.getElem?_eq_some_iff.1 hu).1
          simpa using this
        have h1 := (hel j (by omega)).1
        rw [Addr.add_lit] at h1
        rw [h1]
        rw [List.getElem?_map, List.getElem?_range hj] at hu
        exact hu
      · have hj : i < len := by
          have := (List.getElem?_eq_some_iff.1 hi).1
          simpa using this
        rw [List.getElem?_map, List.getElem?_range hj] at hi
        injection hi with hi
        subst hi
        obtain ⟨_, A, c, b, h1, h2⟩ := hL i hj
        exact ⟨A, c, b, by rw [List.getElem?_map, List.getElem?_range hj]; exact congrArg some h1, h2⟩
      · obtain ⟨i, hi, rfl⟩ := List.mem_map.1 hy
        exact (hL i (List.mem_range.1 hi)).1
end Go.Proofs.YtfopdoeiahlhpaaDoor
