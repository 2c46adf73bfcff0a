/- Parts of one proof, in their order. -/
import Derived.Test.YtnbbglhpjpebhaaDoorZTrBase07
import Derived.Test.YtnbbglhpjpebhaaDoorRows
import Derived.ProofKit
import Derived.OpenShut
import Derived.ShutString
import Derived.ChangeOld
import Derived.Deep.Slices
import Derived.Deep.Fields
import Derived.Lib.SmallJoins
import Derived.LaidSub
/- Start. Conditions: the numbers fit; the table lies. -/
namespace Go.Proofs.YtnbbglhpjpebhaaDoor
open Go.RowKit

set_option maxRecDepth 40000 in
theorem st_built0 : Tryd.prog.built 40 [] = some (stA zSt) := by kernel_rfl
theorem wpList_bdS0 {ops : Array Oper} {rest : List Oper} {o : Oper} {a : Act} {w : World} {Q : Exit → Act → World → Prop} (hgd : o.guard = none) (ho : o.op = .build 40 #[])
    (h : wpList Tryd.prog ops Q rest (a.put o.dst (.agg (stA zSt))) w) : wpList Tryd.prog ops Q (o :: rest) a w := by
  have e : Tryd.prog.built 40 ((#[] : Array (Nat × Operand)).map fun (i, x) => (i, a.eval x)).toList = some (stA zSt) := by
    simpa using st_built0
  exact wpList_build hgd _ _ ho (by rw [e]; rfl) (by rw [e]; exact h)
set_option maxHeartbeats 8000000 in
set_option maxRecDepth 20000 in
theorem Start_bad (g : Gm) (s : Gs) (sd : Nat) (H : List Int) (HA : Option Addr) (hc : Nat) (w : World) (hin : GIn w g s) (hok : GOk g s) (hT : CTab w) (hr : rightB g = false) :
    Calls Tryd.prog 11 #[.agg (gmA g s), .int .u64 (sd : Int), .slice HA H.length hc] w fun e w' => e = .returned (.tuple #[.agg (stA zSt), .int .i64 2]) ∧ Below w.heap.size w w' := by
  have z1 : (w.alloc (.cells (gmA g s) 26)).heap.size = w.heap.size + 1 := by simp
  have z2 : ((w.alloc (.cells (gmA g s) 26)).alloc (.cells (stA zSt) 40)).heap.size = w.heap.size + 2 := by simp
  have hb := below_alloc2 w (.cells (gmA g s) 26) (.cells (stA zSt) 40)
  have h2 := below_alloc1 (w.alloc (.cells (gmA g s) 26)) (.cells (stA zSt) 40)
  have q3 := (GBox.new_ w g s).ext h2
  have q6 := BoxS.new_ (w.alloc (.cells (gmA g s) 26)) zSt
  rw [z1] at q6
  have hin1 := hin.ext hb
  have hT1 := hT.ext hb
  clear h2
  go_enter Tryd.func11, Tryd.ntmps11
  go_wp2_with ((with_reducible refine at_al 40 6 ?_); refine wpList_alS rfl rfl (some 6) rfl (w.heap.size + 1) z1 ?_)
  obtain ⟨wb, hwb⟩ : ∃ wb, wb = (w.alloc (.cells (gmA g s) 26)).alloc (.cells (stA zSt) 40) := ⟨_, rfl⟩
  rw [← hwb] at hb q3 q6 z2 hin1 hT1 ⊢
  obtain ⟨B, hB⟩ : ∃ B, B = w.heap.size := ⟨_, rfl⟩
  have HB := Lib.hid hB
  rw [← hB] at hb q3 q6 z2 ⊢
  clear hwb z1 hB
  refine (GRight_calls g s wb hin1 hok hT1).mono ?_
  rintro e wa ⟨rfl, ha⟩
  rw [hr]
  have q3 := q3.ext ha
  have q6 := q6.ext ha
  have hb := hb.trans (ha.mono (by rw [z2]; omega))
  have hza : B + 2 ≤ wa.heap.size := by have := ha.size; omega
  clear ha z2 hin1 hT1
  go_wp2_with (first | ((with_reducible refine at_bd 40 17 _ ?_); refine wpList_bdS0 rfl rfl ?_) | ((with_reducible refine at_st 40 6 17 ?_); refine wpList_stS rfl (.tmp 6) (.tmp 17) rfl (B + 1) zSt rfl rfl zSt q6 ?_))
  refine bodyPost_ret (results_ct (P := Tryd.prog) rfl _ _ (B + 1) _ _ (0, 0) _ rfl (q6.row_ zSt) Tryd.underlying40 rfl (by rw [stA_size]; kernel_rfl)) rfl ⟨rfl, ?_⟩
  rw [← HB.out]
  exact below_setRow hb _ _ (by omega)
set_option maxHeartbeats 8000000 in
set_option maxRecDepth 20000 in
theorem Start_good (g : Gm) (s : Gs) (sd : Nat) (H : List Int) (HA : Option Addr) (hc : Nat) (w : World) (hin : GIn w g s) (hok : GOk g s) (hT : CTab w) (hbk : Nat) (hH : Is w hbk HA H) (hlH : H.length ≤ maxLen) (hoH : ∀ x ∈ H, -2147483648 ≤ x ∧ x ≤ 2147483647) (hr : rightB g = true) :
    Calls Tryd.prog 11 #[.agg (gmA g s), .int .u64 (sd : Int), .slice HA H.length hc] w fun e w' => e = .returned (.tuple #[.agg (stA ⟨startC g H, sd, 0⟩), .int .i64 0]) ∧ Below w.heap.size w w' := by
  have hp := right_parts hr
  have hin0 := Lib.hid hin
  have z1 : (w.alloc (.cells (gmA g s) 26)).heap.size = w.heap.size + 1 := by simp
  have z2 : ((w.alloc (.cells (gmA g s) 26)).alloc (.cells (stA zSt) 40)).heap.size = w.heap.size + 2 := by simp
  have hb := below_alloc2 w (.cells (gmA g s) 26) (.cells (stA zSt) 40)
  have h2 := below_alloc1 (w.alloc (.cells (gmA g s) 26)) (.cells (stA zSt) 40)
  have q3 := (GBox.new_ w g s).ext h2
  have q6 := BoxS.new_ (w.alloc (.cells (gmA g s) 26)) zSt
  rw [z1] at q6
  have hin1 := hin.ext hb
  have hT1 := hT.ext hb
  clear h2
  go_enter Tryd.func11, Tryd.ntmps11
  go_wp2_with ((with_reducible refine at_al 40 6 ?_); refine wpList_alS rfl rfl (some 6) rfl (w.heap.size + 1) z1 ?_)
  obtain ⟨wb, hwb⟩ : ∃ wb, wb = (w.alloc (.cells (gmA g s) 26)).alloc (.cells (stA zSt) 40) := ⟨_, rfl⟩
  rw [← hwb] at hb q3 q6 z2 hin1 hT1 ⊢
  obtain ⟨B, hB⟩ : ∃ B, B = w.heap.size := ⟨_, rfl⟩
  have HB := Lib.hid hB
  rw [← hB] at hb q3 q6 z2 ⊢
  clear hwb z1 hB
  refine (GRight_calls g s wb hin1 hok hT1).mono ?_
  rintro e wa ⟨rfl, ha⟩
  rw [hr]
  have q3 := q3.ext ha
  have q6 := q6.ext ha
  have hb := hb.trans (ha.mono (by rw [z2]; omega))
  have hza : B + 2 ≤ wa.heap.size := by have := ha.size; omega
  clear ha z2 hin1 hT1
  have hbw : Below w.heap.size w wa := by rw [← HB.out]; exact hb
  have hin1 := hin0.out.ext hbw
  have hH1 := Sl.ext hH hbw
  have hltH : 0 < H.length → hbk < w.heap.size := fun h => Sl.lt hH (by intro h0; have h5 := congrArg List.length h0; rw [iv_length, List.length_nil] at h5; omega)
  have hL48 : g.L.length ≤ 48 := by
    have h5 := hp.2.2.2.1
    unfold rcB at h5
    simp only [Bool.and_eq_true, decide_eq_true_eq] at h5
    exact h5.1
  have c4 := q3.c4
  have hcs := hok.hL
  have hoL := hok.oL
  have hnl := RowC.nil_ 33 wa wa.heap.size
  simp only [maxLen] at hlH
  have HOH := Lib.hid hoH
  have HOL := Lib.hid hoL
  have hsc := hin1.sc
  clear hbw hp hr hin1 hH hin hT hok hoH hoL
  go_wp2_with ((with_reducible refine at_ca 20 _ ?_); refine wpList_appC _ Tryd.underlying23 cellB_info rfl (.const (.slice none 0 0)) (.tmp 19) rfl wa.heap.size (.slice none 0 0) [] rfl hnl s.b s.A g.L.length s.c g.L rfl hsc rfl (by simp; omega) (Nat.le_refl _) ?_; intro v2 w8 hrow2 hmod2 hown2; rw [List.nil_append] at hrow2; obtain ⟨A9, c9, b9, rfl, hc9, hm9, -, hb9, hs9, hbk9⟩ := hrow2.sl)
  have hm8 : Below wa.heap.size wa w8 := hmod2.below (Nat.le_refl _) (fun i _ h => by cases h)
  have hb := hb.trans (hm8.mono (by omega))
  have hH1 := Sl.ext hH1 hm8
  have q6 := q6.ext hm8
  have hz8 := hm8.size
  have KB9 := Lib.hid hbk9
  have hrm : RowC 33 w8 wa.heap.size (.slice A9 g.L.length c9) (stK g.L H 0) := by rw [stK_zero]; exact hrow2
  have hlt9 : B ≤ wa.heap.size := by omega
  have hltH : 0 < H.length → hbk < B := fun h => by rw [HB.out]; exact hltH h
  clear hrow2 hmod2 hown2 hm8 hbk9 hs9 hb9 hm9 hc9 hsc hnl c4 hcs
  go_loopw [9, 10, 11, 23] (fun nx _ _ i wr => ∃ k : Nat, k ≤ g.L.length ∧ i = .int .i64 k ∧ nx = .int .i64 ((min (cntZ g.L k) H.length : Nat) : Int) ∧ RowC 33 wr wa.heap.size (.slice A9 g.L.length c9) (stK g.L H k) ∧ Is wr hbk HA H ∧ Below wa.heap.size w8 wr ∧ w8.heap.size ≤ wr.heap.size) (fun _ _ _ i _ => g.L.length - (intOf i).toNat)
  case atStart => exact ⟨0, Nat.zero_le _, rfl, by rw [cntZ_zero, Nat.zero_min]; rfl, hrm, hH1, Below.refl _ _, Nat.le_refl _⟩
  case round =>
    clear hrm hH1
    obtain ⟨k, hk, rfl, rfl, hrm, hH1, hbr, hz⟩ := hrel
    by_cases hlt : k < g.L.length
    · have hka : k < (stK g.L H k).length := by rw [stK_length]; exact hlt
      obtain ⟨gg, cap, hv, hg, hgl, hcap, k0, k1, kf, kset, -⟩ := hrm.set_ hka
      have hv0 := KB9.out
      injection hv with hvA hvn hvc
      rw [hvA] at hv0
      obtain rfl : gg = b9 := hv0 gg rfl
      clear hv0 hvn hvc
      rw [stK_at hlt (Nat.le_refl k)] at k0 k1 kset
      have HSAME := Lib.hid (stK_same (H := H) hlt)
      have HSET := Lib.hid (stK_set (H := H) hlt)
      have HAT := Lib.hid (show stAt g.L H g.L[k] k = if g.L[k].2 = 0 ∧ cntZ g.L k < H.length then (H.getD (cntZ g.L k) 0, g.L[k].2) else g.L[k] from rfl)
      have hcz := cntZ_succ hlt
      have hcl := cntZ_le g.L k
      obtain ⟨X, hX⟩ : ∃ X, X = g.L[k].1 := ⟨_, rfl⟩
      obtain ⟨Y, hY⟩ : ∃ Y, Y = g.L[k].2 := ⟨_, rfl⟩
      obtain ⟨z, hz9⟩ : ∃ z, z = cntZ g.L k := ⟨_, rfl⟩
      rw [← hX] at k0
      rw [← hY] at k1 kset HAT HSAME hcz
      rw [← hz9] at HAT HSAME hcz hcl ⊢
      have HKS := Lib.hid kset
      have HCZ := Lib.hid hcz
      have kf0 := kf (k * 2)
      have ej : (k : Int) < (g.L.length : Int) := by omega
      have hgw : B ≤ gg := by omega
      have hbr2 := hbr.alloc (by omega) (.cells #[.int .i32 X, .int .u32 (Y : Int)] 33)
      clear hX hY hka kset kf hcz hz9
      subst hvA
      by_cases hy0 : Y ≤ 0
      · obtain rfl : Y = 0 := by omega
        have ey : (((0 : Nat) : Int) == 0) = true := by simp
        by_cases hzh : z < H.length
        · have hmn : min z H.length = z := by omega
          rw [hmn]
          have ev : decide ((z : Int) < (H.length : Int)) = true := by simp; omega
          have ezh : (z : Int) < (H.length : Int) := by omega
          have hgH : hbk ≠ gg := by have := hltH (by omega); omega
          obtain ⟨hoff, rfl, hvc⟩ := hH1 (by intro h0; have h5 := congrArg List.length h0; rw [iv_length, List.length_nil] at h5; omega)
          have hvk := hvc z _ (iv_get H z hzh)
          obtain ⟨x, hx⟩ : ∃ x, x = H[z] := ⟨_, rfl⟩
          rw [← hx] at hvk
          have HX := Lib.hid hx
          have ha9 := below_alloc1 wr (.cells #[.int .i32 X, .int .u32 0] 33)
          have hvk := sl_same ha9 hvk
          have k0 := sl_same ha9 k0
          have kf0 := (ha9.frozen (p := ⟨gg, k * 2, none⟩) hgl).trans kf0
          clear hvc hx hmn ha9
          go_wp2_with fail
          have hr2 := HKS.out x ((wr.setCell ⟨gg, k * 2, none⟩ (.int .i32 x)).alloc (.cells #[.int .i32 X, .int .u32 ((0 : Nat) : Int)] 33)) (Below.heap_alloc _ _ gg (by simp; exact hgl))
          have e9 : stAt g.L H g.L[k] k = (x, 0) := by rw [HAT.out, if_pos ⟨by trivial, hzh⟩, HX.out]; simp [List.getD, hzh]
          rw [← e9, HSET.out] at hr2
          have hal1 := below_alloc1 (wr.setCell ⟨gg, k * 2, none⟩ (.int .i32 x)) (.cells #[.int .i32 X, .int .u32 ((0 : Nat) : Int)] 33)
          go_roundw
          case rel => exact ⟨k + 1, by omega, by go_num, by rw [HCZ.out]; simp; omega, hr2, Sl.ext (Sl.setCell hH1 hgH _) hal1, (hbr.setCell hg _).alloc (by simp; omega) _, by simp; omega⟩
          case measure => simp [intOf]; omega
        · have hmn : min z H.length = H.length := by omega
          have hmn2 : min (z + 1) H.length = H.length := by omega
          rw [hmn]
          have ev : decide ((H.length : Int) < (H.length : Int)) = false := by simp
          have HMN := Lib.hid hmn2
          clear hmn hmn2
          go_wp2_with fail
          go_roundw
          case rel => exact ⟨k + 1, by omega, by go_num, by rw [HCZ.out]; simp [HMN.out], by rw [← HSAME.out (fun h => hzh h.2)]; exact RowC.ext hrm (below_alloc1 _ _), Sl.alloc hH1 _, hbr2, by simp; omega⟩
          case measure => simp [intOf]; omega
      · have ey : ((Y : Int) == 0) = false := by simp; omega
        have hy9 : ¬ Y = 0 := by omega
        have HNY := Lib.hid hy9
        clear hy9
        go_wp2_with fail
        go_roundw
        case rel => exact ⟨k + 1, by omega, by go_num, by rw [HCZ.out, if_neg HNY.out]; rfl, by rw [← HSAME.out (fun h => HNY.out h.1)]; exact RowC.ext hrm (below_alloc1 _ _), Sl.alloc hH1 _, hbr2, by simp; omega⟩
        case measure => simp [intOf]; omega
    · obtain hke : k = g.L.length := by omega
      obtain ⟨C, hC⟩ : ∃ C, C = startC g H := ⟨_, rfl⟩
      have lC : C.length = g.L.length := by rw [hC]; exact stK_length _ _ _
      have hrm : RowC 33 wr wa.heap.size (.slice A9 g.L.length c9) C := by rw [hC]; unfold startC; rw [← hke]; rw [hke] at hrm ⊢; exact hrm
      obtain ⟨A9', c9', b9', hv9, hc9', -, -, -, hsC, -⟩ := hrm.sl
      rw [lC] at hv9 hc9'
      injection hv9 with h91 h92 h93
      subst h91 h93
      have LC := Lib.hid lC
      have HC := Lib.hid hC
      have q6 := q6.below hbr (by omega)
      have hb := hb.trans (hbr.mono (by omega))
      obtain ⟨wl, hwl⟩ : ∃ wl, wl = wr := ⟨_, rfl⟩
      rw [← hwl] at hsC hb hz q6 ⊢
      have ej : ¬ (k : Int) < (g.L.length : Int) := by omega
      clear hwl hrm h92 hH1 hbr KB9 lC hC hke
      go_wp2_with fail
      refine (New_in A9 C g.L.length c9 b9' wl hsC LC.out hL48).mono ?_
      rintro e w7 ⟨rfl, h7⟩
      have l7 := BoxL.new_ w7 C
      have h8 := below_alloc1 w7 (.cells (bdL C) 36)
      have q6 := (q6.ext h7).ext h8
      have hb := hb.trans (h7.mono (by omega))
      have hb := hb.trans (h8.mono (by have := h7.size; omega))
      obtain ⟨G, hG⟩ : ∃ G, G = w7.heap.size := ⟨_, rfl⟩
      rw [← hG] at l7
      have HG := Lib.hid hG.symm
      have hGz : B + 2 ≤ G := by have := h7.size; omega
      clear h7 h8 hG
      go_wp2_with (first | ((with_reducible refine at_al 36 12 ?_); refine wpList_al rfl rfl (some 12) rfl G HG.out ?_) | ((with_reducible refine at_st 36 12 51 ?_); refine wpList_put rfl (.tmp 12) (.tmp 51) rfl HG.out C rfl rfl ?_) | ((with_reducible refine at_ld 36 12 ?_); refine wpList_ld (by first | rfl | simp [Region.wanted, yielded]) (.tmp 12) rfl G rfl C l7 ?_) | ((with_reducible refine at_bd 40 56 _ ?_); refine wpList_bdS1 rfl (.tmp 53) (.tmp 55) C sd rfl rfl rfl ?_) | ((with_reducible refine at_st 40 6 56 ?_); refine wpList_stS rfl (.tmp 6) (.tmp 56) rfl (B + 1) ⟨C, sd, 0⟩ rfl rfl zSt q6 ?_))
      refine bodyPost_ret (results_ct (P := Tryd.prog) rfl _ _ (B + 1) _ _ (0, 0) _ rfl (q6.row_ ⟨C, sd, 0⟩) Tryd.underlying40 rfl (by rw [stA_size]; kernel_rfl)) rfl ⟨by rw [← HC.out]; rfl, ?_⟩
      rw [← HB.out]
      exact below_setRow hb _ _ (by omega)
end Go.Proofs.YtnbbglhpjpebhaaDoor
/- How an argument that came in reads, in the words of this seat's walks. No condition. -/
namespace Go.Proofs.YtnbbglhpjpebhaaDoor
open Go.ChangeShapes Go.WideShapes Go.ChangeAt Go.RowKit

theorem own : ownKnob Tryd.prog.godebug = none := by kernel_rfl
theorem laidOut : laidOutB Tryd.prog = true := by kernel_rfl
end Go.Proofs.YtnbbglhpjpebhaaDoor
/- How a list of instructions, and an instruction, that came in read, in the words of this seat's walks; a world in which the tables lie. No condition. -/
namespace Go.Proofs.YtnbbglhpjpebhaaDoor
open Go.ChangeShapes Go.WideShapes Go.ChangeAt Go.RowKit Go.Deep

theorem kcode_cells : Tryd.prog.cellsOf 80 = 6 := by kernel_rfl
theorem kcode_under : ∃ f0  f1  f2  f3  f4  f5 : Field, Tryd.prog.underlying 80 = some (.struct #[f0, f1, f2, f3, f4, f5]) ∧ oneCellFields Tryd.prog #[f0, f1, f2, f3, f4, f5] = true ∧ f0.type = 5 ∧ f1.type = 5 ∧ f2.type = 5 ∧ f3.type = 5 ∧ f4.type = 21 ∧ f5.type = 31 :=
  ⟨_, _, _, _, _, _, Tryd.underlying80, by kernel_rfl, rfl, rfl, rfl, rfl, rfl, rfl⟩
set_option maxRecDepth 100000 in
theorem trod_code {H : Type} {enc : TypeId × Value → H} {W : World} {b0 fuel : Nat} {spare : Nat → Bool} {held : Bool} {cs : List Value} {x : DataW H × List MemPlace} (hlen : cs.length = 6) (ht : DataW.trod enc Tryd.prog W b0 spare held fuel 80 cs = some x) :
    ∃ y : Cd, cs = (cdA y).toList ∧ y.Ok := by
  obtain ⟨f0, f1, f2, f3, f4, f5, hu, hone, h0, h1, h2, h3, h4, h5⟩ := kcode_under
  obtain ⟨ys, n', _, _, _, hyl, hf⟩ := DataW.trod_struct hu ht
  match cs, hlen with
  | [v0, v1, v2, v3, v4, v5], _ =>
    match ys, hyl with
    | [y0, y1, y2, y3, y4, y5], _ =>
      obtain ⟨o0, k0⟩ := hone_of hone 0 f0 rfl
      obtain ⟨o1, k1⟩ := hone_of hone 1 f1 rfl
      obtain ⟨o2, k2⟩ := hone_of hone 2 f2 rfl
      obtain ⟨o3, k3⟩ := hone_of hone 3 f3 rfl
      obtain ⟨o4, k4⟩ := hone_of hone 4 f4 rfl
      obtain ⟨o5, k5⟩ := hone_of hone 5 f5 rfl
      have g0 := hf 0 f0 rfl
      have g1 := hf 1 f1 rfl
      have g2 := hf 2 f2 rfl
      have g3 := hf 3 f3 rfl
      have g4 := hf 4 f4 rfl
      have g5 := hf 5 f5 rfl
      rw [o0, k0, h0] at g0
      rw [o1, k1, h1] at g1
      rw [o2, k2, h2] at g2
      rw [o3, k3, h3] at g3
      rw [o4, k4, h4] at g4
      rw [o5, k5, h5] at g5
      simp only [List.drop_zero, List.drop_succ_cons, List.take_succ_cons, List.take_zero, List.getElem?_cons_zero, List.getElem?_cons_succ] at g0 g1 g2 g3 g4 g5
      obtain ⟨a0, e0, -, w0⟩ := DataW.trod_int Tryd.underlying5 g0
      injection e0 with e0
      have c0 := bounds_u8 w0
      obtain ⟨a1, e1, -, w1⟩ := DataW.trod_int Tryd.underlying5 g1
      injection e1 with e1
      have c1 := bounds_u8 w1
      obtain ⟨a2, e2, -, w2⟩ := DataW.trod_int Tryd.underlying5 g2
      injection e2 with e2
      have c2 := bounds_u8 w2
      obtain ⟨a3, e3, -, w3⟩ := DataW.trod_int Tryd.underlying5 g3
      injection e3 with e3
      have c3 := bounds_u8 w3
      obtain ⟨a4, e4, -, w4⟩ := DataW.trod_int Tryd.underlying21 g4
      injection e4 with e4
      have c4 := bounds_i32 w4
      obtain ⟨a5, e5, -, w5⟩ := DataW.trod_int Tryd.underlying31 g5
      injection e5 with e5
      have c5 := bounds_u32 w5
      refine ⟨⟨a0.toNat, a1.toNat, a2.toNat, a3.toNat, a4, a5.toNat⟩, ?_, by simp only; omega, by simp only; omega, by simp only; omega, by simp only; omega, by simp only; omega, by simp only; omega, by simp only; omega⟩
      simp only [cdA]
      rw [e0, e1, e2, e3, e4, e5, Int.toNat_of_nonneg c0.1, Int.toNat_of_nonneg c1.1, Int.toNat_of_nonneg c2.1, Int.toNat_of_nonneg c3.1, Int.toNat_of_nonneg c5.1]
theorem klist_of {α : Type} {n : Nat} {P : Nat → α → Prop} (h : ∀ i, i < n → ∃ x, P i x) : ∃ l : List α, l.length = n ∧ ∀ i (hi : i < l.length), P i l[i] := by
  induction n with
  | zero => exact ⟨[], rfl, fun i hi => by simp at hi⟩
  | succ n ih =>
    obtain ⟨l, hl, hp⟩ := ih (fun i hi => h i (by omega))
    obtain ⟨x, hx⟩ := h n (by omega)
    refine ⟨l ++ [x], by simp [hl], fun i hi => ?_⟩
    by_cases hin : i < l.length
    · rw [List.getElem_append_left hin]; exact hp i hin
    · have : i = n := by simp at hi; omega
      subst this
      rw [List.getElem_append_right (by omega)]
      simpa using hx
set_option maxRecDepth 100000 in
theorem open_codes {H : Type} {enc : TypeId × Value → H} {W : World} {base b0 : Nat} {spare : Nat → Bool} {held : Bool} {r : Reach} {v : Value} {d : DataW H} {p : List MemPlace} (hv : Value.okWide Tryd.prog W r base 24 v) (h : DataW.Trod enc Tryd.prog W b0 spare held 24 v d p) :
    ∃ A n c b L, v = .slice A n c ∧ L.length = n ∧ n ≤ maxLen ∧ n ≤ c ∧ okK L ∧ Sl W b A (kv L) := by
  obtain ⟨a, len, cap, rfl⟩ := okWide_slice Tryd.underlying24 hv
  obtain ⟨fuel, hf⟩ := h
  rcases open_slice Tryd.underlying24 hf with ⟨hcs, _⟩ | ⟨x, l, c, m, n, D, Pl, hcs, _, hl, hm, hmm, _, hel⟩
  · simp [Value.cells] at hcs
    obtain ⟨rfl, rfl, rfl⟩ := hcs
    exact ⟨none, 0, 0, 0, [], rfl, rfl, by simp [maxLen], Nat.le_refl _, fun c hc => (by cases hc), Sl.nil_ _ _ _⟩
  · simp [Value.cells] at hcs
    obtain ⟨rfl, rfl, rfl⟩ := hcs
    have hlm : len ≤ m := by rw [hmm]; split <;> omega
    rw [kcode_cells] at hel
    obtain ⟨xs, hxl, hxs⟩ := klist_of (n := len) (P := fun i (y : Cd) => y.Ok ∧ ∀ r, r < 6 → W.cell? (x.add (i * 6 + r)) = (cdA y).toList[r]?) (fun i hi => by
      obtain ⟨cs', hc, ht⟩ := hel i (by omega)
      obtain ⟨_, hcl, hat⟩ := World.cells?_some hc
      obtain ⟨y, hy, hyin⟩ := trod_code hcl ht
      refine ⟨y, hyin, fun r hr => ?_⟩
      have a0 := hat r (by omega)
      rw [Go.Deep.add_add, hy] at a0
      exact a0)
    have hok : okK xs := fun y hy => by
      obtain ⟨i, hi, rfl⟩ := List.getElem_of_mem hy
      exact (hxs i hi).1
    by_cases h0 : len = 0
    · have hx0 : xs = [] := List.eq_nil_of_length_eq_zero (by omega)
      subst hx0
      exact ⟨_, _, _, 0, [], rfl, hxl, by omega, hl, hok, Sl.nil_ _ _ _⟩
    · obtain ⟨bb, off, spot⟩ := x
      have hc0 := (hxs 0 (by omega)).2 0 (by omega)
      have hspot : spot = none := by
        rw [show (cdA (xs[0]'(by omega))).toList[0]? = some (.int .u8 ((xs[0]'(by omega)).op : Int)) from rfl] at hc0
        simpa [Addr.add] using World.cell?_spot hc0
      subst hspot
      refine ⟨_, _, _, bb, xs, rfl, hxl, by omega, hl, hok, fun _ => ⟨off, rfl, fun j u hu => ?_⟩⟩
      have hj := (List.getElem?_eq_some_iff.1 hu).1
      rw [kv_length] at hj
      have h1 := (hxs (j / 6) (by omega)).2 (j % 6) (by omega)
      rw [Addr.add_lit] at h1
      have h2 := kv_get (l := xs) (i := j / 6) (by omega) (r := j % 6) (by omega)
      rw [show j / 6 * 6 + j % 6 = j by omega] at h1 h2
      rw [h1, ← h2]
      exact hu
set_option maxRecDepth 100000 in
/-- An instruction by value. -/
theorem open_code {H : Type} {enc : TypeId × Value → H} {W : World} {base b0 : Nat} {spare : Nat → Bool} {held : Bool} {r : Reach} {v : Value} {d : DataW H} {p : List MemPlace} (hv : Value.okWide Tryd.prog W r base 80 v) (h : DataW.Trod enc Tryd.prog W b0 spare held 80 v d p) :
    ∃ (op a b cc : Nat) (n : Int) (m : Nat), v = .agg #[.int .u8 (op : Int), .int .u8 (a : Int), .int .u8 (b : Int), .int .u8 (cc : Int), .int .i32 n, .int .u32 (m : Int)] ∧ (Cd.mk op a b cc n m).Ok := by
  obtain ⟨f0, f1, f2, f3, f4, f5, hu, -⟩ := kcode_under
  obtain ⟨cs, rfl, hsz⟩ := okWide_struct hu hv
  obtain ⟨fuel, hf⟩ := h
  obtain ⟨y, hy, hyin⟩ := trod_code (by simpa [Value.cells] using hsz.trans kcode_cells) hf
  have h2 : cs = cdA y := by simpa [Value.cells] using hy
  exact ⟨y.op, y.a, y.b, y.c, y.n, y.m, by rw [h2]; rfl, hyin⟩
/-- The table that the walks want. -/
theorem tab_of_laid {W : World} (h : laidMet Tryd.prog [("hoodwink/code.shapes", Rows.laid_hoodwink_code_shapes)] W) : CTab W := ctab_of_reads (Lib.laidMet.reads h (by simp))
/-- A row of numbers, laid. -/
noncomputable def layVals (zs : List Value) : Obj → Obj
  | .cells _ t frozen => .cells zs.toArray t frozen
  | o => o
/-- A world in which the tables lie as they are laid. -/
noncomputable def laidWorld (os : Os) : World :=
  { World.holding Tryd.prog os ⟨#[], #[], []⟩ with heap := (World.holding Tryd.prog os ⟨#[], #[], []⟩).heap.modify 0 (layVals (shapeT.flatMap fun r => [.string ⟨r.1.toArray⟩, .int .u8 (r.2.1 : Int), .int .u8 (r.2.2 : Int)])) }
end Go.Proofs.YtnbbglhpjpebhaaDoor
/- How a game that came in reads, in the words of this seat's walks. No condition. -/
namespace Go.Proofs.YtnbbglhpjpebhaaDoor
open Go.ChangeShapes Go.WideShapes Go.ChangeAt Go.RowKit Go.Deep
set_option linter.unusedVariables false

theorem bcell_cells : Tryd.prog.cellsOf 33 = 2 := by kernel_rfl
theorem bcell_under : ∃ f0 f1 : Field, Tryd.prog.underlying 33 = some (.struct #[f0, f1]) ∧ oneCellFields Tryd.prog #[f0, f1] = true ∧ f0.type = 21 ∧ f1.type = 31 :=
  ⟨_, _, Tryd.underlying33, by kernel_rfl, rfl, rfl⟩
set_option maxRecDepth 100000 in
theorem trod_cell {H : Type} {enc : TypeId × Value → H} {W : World} {b0 fuel : Nat} {spare : Nat → Bool} {held : Bool} {cs : List Value} {x : DataW H × List MemPlace} (hlen : cs.length = 2) (ht : DataW.trod enc Tryd.prog W b0 spare held fuel 33 cs = some x) :
    ∃ y : Int × Nat, cs = [.int .i32 y.1, .int .u32 ((y.2 : Nat) : Int)] ∧ ((-2147483648 ≤ y.1 ∧ y.1 ≤ 2147483647) ∧ y.2 < 4294967296) := by
  obtain ⟨f0, f1, hu, hone, h0, h1⟩ := bcell_under
  obtain ⟨ys, n', _, _, _, hyl, hf⟩ := DataW.trod_struct hu ht
  match cs, hlen with
  | [v0, v1], _ =>
    match ys, hyl with
    | [y0, y1], _ =>
      obtain ⟨o0, k0⟩ := hone_of hone 0 f0 rfl
      obtain ⟨o1, k1⟩ := hone_of hone 1 f1 rfl
      have g0 := hf 0 f0 rfl
      have g1 := hf 1 f1 rfl
      rw [o0, k0, h0] at g0
      rw [o1, k1, h1] at g1
      simp only [List.drop_zero, List.drop_succ_cons, List.take_succ_cons, List.take_zero, List.getElem?_cons_zero, List.getElem?_cons_succ] at g0 g1
      obtain ⟨a0, e0, _, w0⟩ := DataW.trod_int Tryd.underlying21 g0
      obtain ⟨a1, e1, _, w1⟩ := DataW.trod_int Tryd.underlying31 g1
      injection e0 with e0
      injection e1 with e1
      have c0 := bounds_i32 w0
      have c1 := bounds_u32 w1
      refine ⟨⟨a0, a1.toNat⟩, ?_, by simp only; omega, by simp only; omega⟩
      rw [e0, e1, Int.toNat_of_nonneg c1.1]
theorem clist_of {α : Type} {n : Nat} {P : Nat → α → Prop} (h : ∀ i, i < n → ∃ x, P i x) : ∃ l : List α, l.length = n ∧ ∀ i (hi : i < l.length), P i l[i] := by
  induction n with
  | zero => exact ⟨[], rfl, fun i hi => by simp at hi⟩
  | succ n ih =>
    obtain ⟨l, hl, hp⟩ := ih (fun i hi => h i (by omega))
    obtain ⟨x, hx⟩ := h n (by omega)
    refine ⟨l ++ [x], by simp [hl], fun i hi => ?_⟩
    by_cases hin : i < l.length
    · rw [List.getElem_append_left hin]; exact hp i hin
    · have : i = n := by simp at hi; omega
      subst this
      rw [List.getElem_append_right (by omega)]
      simpa using hx
set_option maxRecDepth 100000 in
theorem trod_cellsG {H : Type} {enc : TypeId × Value → H} {W : World} {b0 fuel : Nat} {spare : Nat → Bool} {held : Bool} {v : Value} {x0 : DataW H × List MemPlace} (hf : DataW.trod enc Tryd.prog W b0 spare held fuel 23 [v] = some x0) :
    ∃ A n c b L, v = .slice A n c ∧ L.length = n ∧ n ≤ maxLen ∧ n ≤ c ∧ okC L ∧ Sl W b A (cv L) := by
  rcases open_slice Tryd.underlying23 hf with ⟨hcs, _⟩ | ⟨x, len, cap, m, n, D, Pl, hcs, _, hl, hm, hmm, _, hel⟩
  · injection hcs with hcs _
    subst hcs
    exact ⟨none, 0, 0, 0, [], rfl, rfl, by simp [maxLen], Nat.le_refl _, fun c hc => (by cases hc), Sl.nil_ _ _ _⟩
  · injection hcs with hcs _
    subst hcs
    have hlm : len ≤ m := by rw [hmm]; split <;> omega
    rw [bcell_cells] at hel
    obtain ⟨xs, hxl, hxs⟩ := clist_of (n := len) (P := fun i (y : Int × Nat) => ((-2147483648 ≤ y.1 ∧ y.1 ≤ 2147483647) ∧ y.2 < 4294967296) ∧ W.cell? (x.add (i * 2)) = some (.int .i32 y.1) ∧ W.cell? (x.add (i * 2 + 1)) = some (.int .u32 ((y.2 : Nat) : Int))) (fun i hi => by
      obtain ⟨cs', hc, ht⟩ := hel i (by omega)
      obtain ⟨_, hcl, hat⟩ := World.cells?_some hc
      obtain ⟨y, hy, hyin⟩ := trod_cell hcl ht
      have a0 := hat 0 (by omega)
      have a1 := hat 1 (by omega)
      rw [Go.Deep.add_add, hy] at a0 a1
      exact ⟨y, hyin, a0, a1⟩)
    have hok : okC xs := fun y hy => by
      obtain ⟨i, hi, rfl⟩ := List.getElem_of_mem hy
      exact (hxs i hi).1
    by_cases h0 : len = 0
    · have hx0 : xs = [] := List.eq_nil_of_length_eq_zero (by omega)
      subst hx0
      exact ⟨_, _, _, 0, [], rfl, hxl, by omega, hl, hok, Sl.nil_ _ _ _⟩
    · obtain ⟨bb, off, spot⟩ := x
      have hc0 := (hxs 0 (by omega)).2.1
      have hspot : spot = none := by
        simpa [Addr.add] using World.cell?_spot hc0
      subst hspot
      refine ⟨_, _, _, bb, xs, rfl, hxl, by omega, hl, hok, fun _ => ⟨off, rfl, fun j u hu => ?_⟩⟩
      have hj := (List.getElem?_eq_some_iff.1 hu).1
      rw [cv_length] at hj
      have h1 := (hxs (j / 2) (by omega)).2
      rw [Addr.add_lit, Addr.add_lit] at h1
      rcases Nat.mod_two_eq_zero_or_one j with he | he
      · have e : j / 2 * 2 = j := by omega
        have h2 := cv_val (L := xs) (i := j / 2) (by omega)
        rw [e] at h1 h2
        rw [h1.1, ← h2]
        exact hu
      · have e : j / 2 * 2 + 1 = j := by omega
        have h2 := cv_lab (L := xs) (i := j / 2) (by omega)
        rw [e] at h1 h2
        rw [h1.2, ← h2]
        exact hu
set_option maxRecDepth 100000 in
theorem trod_codesG {H : Type} {enc : TypeId × Value → H} {W : World} {b0 fuel : Nat} {spare : Nat → Bool} {held : Bool} {v : Value} {x0 : DataW H × List MemPlace} (hf : DataW.trod enc Tryd.prog W b0 spare held fuel 24 [v] = some x0) :
    ∃ A n c b L, v = .slice A n c ∧ L.length = n ∧ n ≤ maxLen ∧ n ≤ c ∧ okK L ∧ Sl W b A (kv L) := by
  rcases open_slice Tryd.underlying24 hf with ⟨hcs, _⟩ | ⟨x, len, cap, m, n, D, Pl, hcs, _, hl, hm, hmm, _, hel⟩
  · injection hcs with hcs _
    subst hcs
    exact ⟨none, 0, 0, 0, [], rfl, rfl, by simp [maxLen], Nat.le_refl _, fun c hc => (by cases hc), Sl.nil_ _ _ _⟩
  · injection hcs with hcs _
    subst hcs
    have hlm : len ≤ m := by rw [hmm]; split <;> omega
    rw [kcode_cells] at hel
    obtain ⟨xs, hxl, hxs⟩ := klist_of (n := len) (P := fun i (y : Cd) => y.Ok ∧ ∀ r, r < 6 → W.cell? (x.add (i * 6 + r)) = (cdA y).toList[r]?) (fun i hi => by
      obtain ⟨cs', hc, ht⟩ := hel i (by omega)
      obtain ⟨_, hcl, hat⟩ := World.cells?_some hc
      obtain ⟨y, hy, hyin⟩ := trod_code hcl ht
      refine ⟨y, hyin, fun r hr => ?_⟩
      have a0 := hat r (by omega)
      rw [Go.Deep.add_add, hy] at a0
      exact a0)
    have hok : okK xs := fun y hy => by
      obtain ⟨i, hi, rfl⟩ := List.getElem_of_mem hy
      exact (hxs i hi).1
    by_cases h0 : len = 0
    · have hx0 : xs = [] := List.eq_nil_of_length_eq_zero (by omega)
      subst hx0
      exact ⟨_, _, _, 0, [], rfl, hxl, by omega, hl, hok, Sl.nil_ _ _ _⟩
    · obtain ⟨bb, off, spot⟩ := x
      have hc0 := (hxs 0 (by omega)).2 0 (by omega)
      have hspot : spot = none := by
        rw [show (cdA (xs[0]'(by omega))).toList[0]? = some (.int .u8 ((xs[0]'(by omega)).op : Int)) from rfl] at hc0
        simpa [Addr.add] using World.cell?_spot hc0
      subst hspot
      refine ⟨_, _, _, bb, xs, rfl, hxl, by omega, hl, hok, fun _ => ⟨off, rfl, fun j u hu => ?_⟩⟩
      have hj := (List.getElem?_eq_some_iff.1 hu).1
      rw [kv_length] at hj
      have h1 := (hxs (j / 6) (by omega)).2 (j % 6) (by omega)
      rw [Addr.add_lit] at h1
      have h2 := kv_get (l := xs) (i := j / 6) (by omega) (r := j % 6) (by omega)
      rw [show j / 6 * 6 + j % 6 = j by omega] at h1 h2
      rw [h1, ← h2]
      exact hu

/-- A game as it came: its numbers fit, its slices are slices. -/
structure GRaw (g : Gm) (s : Gs) : Prop where
  o0 : -9223372036854775808 ≤ g.ob
  o1 : g.ob ≤ 9223372036854775807
  p0 : -9223372036854775808 ≤ g.pl
  p1 : g.pl ≤ 9223372036854775807
  m1 : g.mv ≤ 4294967295
  d1 : g.df ≤ 4294967295
  lL : g.L.length ≤ maxLen
  lK : g.K.length ≤ maxLen
  hL : g.L.length ≤ s.c
  hK : g.K.length ≤ s.c'
  oL : okC g.L
  oK : okK g.K
set_option maxRecDepth 100000 in
theorem game_fields : ∃ f0 f1 f2 f3 f4 f5 : Field, Tryd.prog.underlying 26 = some (.struct #[f0, f1, f2, f3, f4, f5]) ∧ (f0.type = 3 ∧ f1.type = 3 ∧ f2.type = 22 ∧ f3.type = 22 ∧ f4.type = 23 ∧ f5.type = 24) ∧ (f0.offset = 0 ∧ f1.offset = 1 ∧ f2.offset = 2 ∧ f3.offset = 3 ∧ f4.offset = 4 ∧ f5.offset = 5) :=
  ⟨_, _, _, _, _, _, Tryd.underlying26, ⟨rfl, rfl, rfl, rfl, rfl, rfl⟩, ⟨rfl, rfl, rfl, rfl, rfl, rfl⟩⟩
theorem cellsG_int : Tryd.prog.cellsOf 3 = 1 := by kernel_rfl
theorem cellsG_u32 : Tryd.prog.cellsOf 22 = 1 := by kernel_rfl
theorem cellsG_cells : Tryd.prog.cellsOf 23 = 1 := by kernel_rfl
theorem cellsG_codes : Tryd.prog.cellsOf 24 = 1 := by kernel_rfl
theorem cellsG_game : Tryd.prog.cellsOf 26 = 6 := by kernel_rfl
set_option maxHeartbeats 1000000 in
set_option maxRecDepth 100000 in
theorem trod_game {H : Type} {enc : TypeId × Value → H} {W : World} {b0 fuel : Nat} {spare : Nat → Bool} {held : Bool} {cs : List Value} {x : DataW H × List MemPlace} (hlen : cs.length = 6) (ht : DataW.trod enc Tryd.prog W b0 spare held fuel 26 cs = some x) :
    ∃ (g : Gm) (s : Gs), cs = (gmA g s).toList ∧ GRaw g s ∧ GIn W g s := by
  obtain ⟨f0, f1, f2, f3, f4, f5, hu, ⟨t0, t1, t2, t3, t4, t5⟩, ⟨o0, o1, o2, o3, o4, o5⟩⟩ := game_fields
  obtain ⟨ys, n', _, _, _, hyl, hf⟩ := DataW.trod_struct hu ht
  match cs, hlen with
  | [v0, v1, v2, v3, v4, v5], _ =>
    match ys, hyl with
    | [y0, y1, y2, y3, y4, y5], _ =>
      have g0 := hf 0 f0 rfl
      have g1 := hf 1 f1 rfl
      have g2 := hf 2 f2 rfl
      have g3 := hf 3 f3 rfl
      have g4 := hf 4 f4 rfl
      have g5 := hf 5 f5 rfl
      rw [o0, t0, cellsG_int] at g0
      rw [o1, t1, cellsG_int] at g1
      rw [o2, t2, cellsG_u32] at g2
      rw [o3, t3, cellsG_u32] at g3
      rw [o4, t4, cellsG_cells] at g4
      rw [o5, t5, cellsG_codes] at g5
      simp only [List.drop_zero, List.drop_succ_cons, List.take_succ_cons, List.take_zero, List.getElem?_cons_zero, List.getElem?_cons_succ] at g0 g1 g2 g3 g4 g5
      obtain ⟨a0, e0, _, w0⟩ := DataW.trod_int Tryd.underlying3 g0
      obtain ⟨a1, e1, _, w1⟩ := DataW.trod_int Tryd.underlying3 g1
      obtain ⟨a2, e2, _, w2⟩ := DataW.trod_int Tryd.underlying22 g2
      obtain ⟨a3, e3, _, w3⟩ := DataW.trod_int Tryd.underlying22 g3
      obtain ⟨A, n, c, b, L, e4, hl, hm, hc, ho, hs⟩ := trod_cellsG g4
      obtain ⟨A', n', c', b', K, e5, hl', hm', hc', ho', hs'⟩ := trod_codesG g5
      injection e0 with e0
      injection e1 with e1
      injection e2 with e2
      injection e3 with e3
      have c0 := bounds_i64 w0
      have c1 := bounds_i64 w1
      have c2 := bounds_u32 w2
      have c3 := bounds_u32 w3
      subst hl hl'
      refine ⟨⟨a0, a1, a2.toNat, a3.toNat, L, K⟩, ⟨A, c, b, A', c', b'⟩, ?_, ⟨c0.1, c0.2, c1.1, c1.2, by simp only; omega, by simp only; omega, hm, hm', hc, hc', ho, ho'⟩, ⟨hs, hs'⟩⟩
      simp only
      rw [e0, e1, e2, e3, e4, e5, Int.toNat_of_nonneg c2.1, Int.toNat_of_nonneg c3.1]
set_option maxRecDepth 100000 in
theorem open_game {H : Type} {enc : TypeId × Value → H} {W : World} {base b0 : Nat} {spare : Nat → Bool} {held : Bool} {r : Reach} {v : Value} {d : DataW H} {p : List MemPlace} (hv : Value.okWide Tryd.prog W r base 26 v) (h : DataW.Trod enc Tryd.prog W b0 spare held 26 v d p) :
    ∃ (g : Gm) (s : Gs), v = .agg (gmA g s) ∧ GRaw g s ∧ GIn W g s := by
  obtain ⟨f0, f1, f2, f3, f4, f5, hu, _, _⟩ := game_fields
  obtain ⟨cs, rfl, hsz⟩ := okWide_struct hu hv
  obtain ⟨fuel, hf⟩ := h
  obtain ⟨g, s, hy, hr, hi⟩ := trod_game (by simpa [Value.cells] using hsz.trans cellsG_game) hf
  refine ⟨g, s, ?_, hr, hi⟩
  congr 1
  apply Array.ext'
  simpa [Value.cells] using hy
end Go.Proofs.YtnbbglhpjpebhaaDoor
/- The document's example, of rules. Condition: the table lies. -/
namespace Go.Proofs.YtnbbglhpjpebhaaDoor
open Go.RowKit
set_option linter.unusedVariables false

section
variable {ops : Array Oper} {rest : List Oper} {o : Oper} {a : Act} {w : World} {Q : Exit → Act → World → Prop} {s : St}
theorem wpList_ldSB (hw : Region.wanted o (yielded ops a.tmps) = true) (x : Operand) (ho : o.op = .load 36 x) (g : Nat) (hx : a.eval x = .pointer (some ⟨g, 0, none⟩)) (h : BoxS w g s)
    (k : wpList Tryd.prog ops Q rest (a.put o.dst (.agg (bdL s.L))) w) : wpList Tryd.prog ops Q (o :: rest) a w :=
  BigFrame.wpList_want hw fun _ hK => wp_load_mid _ x ho g 0 hx (bdL s.L).toList _ h.rangeB Tryd.underlying36 rfl (bd_sizeL _) (by rw [Array.toArray_toList]; exact hK _ _ k)
theorem wpList_ldSw (hw : Region.wanted o (yielded ops a.tmps) = true) (x : Operand) (ho : o.op = .load 40 x) (g : Nat) (hx : a.eval x = .pointer (some ⟨g, 0, none⟩)) (h : BoxS w g s)
    (k : wpList Tryd.prog ops Q rest (a.put o.dst (.agg (stA s))) w) : wpList Tryd.prog ops Q (o :: rest) a w :=
  BigFrame.wpList_want hw fun _ hK => wp_load_mid _ x ho g 0 hx (stL s) _ h.rangeA Tryd.underlying40 rfl (st_size _) (hK _ _ k)
end
theorem dbox_extR {w w' : World} {g : Nat} {o : Obj} (h : w.heap[g]? = some o) (hm : Below w.heap.size w w') : w'.heap[g]? = some o := (hm.block g (Array.getElem?_eq_some_iff.1 h).1).trans h
theorem gbox_all {w : World} {g : Nat} {t : TypeId} {c0 c1 c2 c3 c4 c5 : Value} (h : w.heap[g]? = some (.cells #[c0, c1, c2, c3, c4, c5] t (0, 0))) : w.cell? ⟨g, 0, none⟩ = some c0 ∧ w.cell? ⟨g, 1, none⟩ = some c1 ∧ w.cell? ⟨g, 2, none⟩ = some c2 ∧ w.cell? ⟨g, 3, none⟩ = some c3 ∧ w.cell? ⟨g, 4, none⟩ = some c4 ∧ w.cell? ⟨g, 5, none⟩ = some c5 := by
  refine ⟨?_, ?_, ?_, ?_, ?_, ?_⟩ <;> (rw [cell_of_row w g _ _ _ _ h]; rfl)
end Go.Proofs.YtnbbglhpjpebhaaDoor
/- When two states are the same to Go's own test; what moves count, however many there are. No condition. -/
namespace Go.Proofs.YtnbbglhpjpebhaaDoor
open Go.RowKit

theorem st_under : ∃ f0 f1 f2 : Field, Tryd.prog.underlying 40 = some (.struct #[f0, f1, f2]) ∧ f0.name ≠ "_" ∧ f1.name ≠ "_" ∧ f2.name ≠ "_" ∧ f0.type = 36 ∧ f1.type = 38 ∧ f2.type = 22 ∧ f0.offset = 0 ∧ f1.offset = 97 ∧ f2.offset = 98 :=
  ⟨_, _, _, Tryd.underlying40, by decide, by decide, by decide, rfl, rfl, rfl, rfl, rfl, rfl⟩
theorem dice_under : ∃ f0 : Field, Tryd.prog.underlying 38 = some (.struct #[f0]) ∧ f0.name ≠ "_" ∧ f0.type = 27 ∧ f0.offset = 0 :=
  ⟨_, Tryd.underlying38, by decide, rfl, rfl⟩
theorem st_held : Tryd.prog.stoodInHeld 40 = false := by kernel_rfl
theorem dice_held : Tryd.prog.stoodInHeld 38 = false := by kernel_rfl
theorem bd_info97 : ∃ i : TypeInfo, Tryd.prog.info? 36 = some i ∧ i.size = 97 := by
  have hz : (Tryd.prog.info? 36).map (·.size) = some 97 := by kernel_rfl
  cases hi : Tryd.prog.info? 36 with
  | none => rw [hi] at hz; cases hz
  | some i => exact ⟨i, rfl, by rw [hi] at hz; simpa using hz⟩
theorem dice_info1 : ∃ i : TypeInfo, Tryd.prog.info? 38 = some i ∧ i.size = 1 := by
  have hz : (Tryd.prog.info? 38).map (·.size) = some 1 := by kernel_rfl
  cases hi : Tryd.prog.info? 38 with
  | none => rw [hi] at hz; cases hz
  | some i => exact ⟨i, rfl, by rw [hi] at hz; simpa using hz⟩
section
variable (w : World)
theorem stA_bd (s : St) : (stA s).extract 0 97 = bdL s.L := by
  apply Array.ext'
  simp only [stA, stL, List.extract_toArray, List.extract_eq_take_drop]
  rw [List.drop_zero, show 97 - 0 = (bdL s.L).toList.length by rw [bdL_list], List.take_left' rfl]
theorem stA_dice (s : St) : (stA s).extract 97 98 = #[.int .u64 (s.d : Int)] := by
  apply Array.ext'
  simp only [stA, stL, stE, List.extract_toArray, List.extract_eq_take_drop]
  rw [List.drop_append_of_le_length (by rw [bdL_list]; omega), show (bdL s.L).toList.drop 97 = [] from List.drop_eq_nil_of_le (by rw [bdL_list]; omega)]
  rfl
theorem stA_tk (s : St) : (stA s)[98]? = some (.int .u32 (s.tk : Int)) := by
  have h := stL_at (s := s) (k := 1) (v := .int .u32 (s.tk : Int)) rfl
  unfold stA
  rw [List.getElem?_toArray]
  exact h
theorem part_bd (s : St) : (part 36 (stA s) 0).run Tryd.prog w = .ok (.agg (bdL s.L)) w := by
  obtain ⟨i, hi, hs⟩ := bd_info97
  have e := stA_bd s
  obtain ⟨X, hX⟩ : ∃ X, X = stA s := ⟨_, rfl⟩
  obtain ⟨Y, hY⟩ : ∃ Y, Y = bdL s.L := ⟨_, rfl⟩
  rw [← hX, ← hY] at e
  rw [← hX, ← hY]
  clear hX hY
  simp [part, isAgg, run_underlying Tryd.underlying36, sizeOf, typeInfo, hi, hs, e]
theorem part_dice (s : St) : (part 38 (stA s) 97).run Tryd.prog w = .ok (.agg #[.int .u64 (s.d : Int)]) w := by
  obtain ⟨i, hi, hs⟩ := dice_info1
  have e := stA_dice s
  obtain ⟨X, hX⟩ : ∃ X, X = stA s := ⟨_, rfl⟩
  rw [← hX] at e
  rw [← hX]
  clear hX
  simp [part, isAgg, run_underlying Tryd.underlying38, sizeOf, typeInfo, hi, hs, e]
theorem part_tk (s : St) : (part 22 (stA s) 98).run Tryd.prog w = .ok (.int .u32 (s.tk : Int)) w := by
  have e := stA_tk s
  obtain ⟨X, hX⟩ : ∃ X, X = stA s := ⟨_, rfl⟩
  rw [← hX] at e
  rw [← hX]
  clear hX
  simp [part, isAgg, run_underlying Tryd.underlying22, e]
theorem run_equal_dice (d : Nat) (x y : Nat) : (Op.equalIn (d + 2) 38 (.agg #[.int .u64 (x : Int)]) (.agg #[.int .u64 (y : Int)])).run Tryd.prog w = .ok ((x : Int) == (y : Int)) w := by
  obtain ⟨f0, hu, h0, t0, o0⟩ := dice_under
  have hf : Tryd.prog.fieldsOf 38 = #[f0] := by simp [Program.fieldsOf, hu]
  rw [run_equalIn_struct w (d + 1) _ _ _ (by rw [hf]; exact hu) dice_held, hf]
  simp [Op.eqFields, h0, t0, o0, part, isAgg, run_underlying Tryd.underlying27, run_equalIn_int w d _ .u64 .u64 _ _ Tryd.underlying27]
  by_cases e : (x : Int) = (y : Int)
  · rw [if_pos e, e, beq_self_eq_true]
  · rw [if_neg e, beq_eq_false_iff_ne.2 e]
/-- A state is itself. -/
theorem run_equal_st (d : Nat) (s : St) : (Op.equalIn (d + 5) 40 (.agg (stA s)) (.agg (stA s))).run Tryd.prog w = .ok true w := by
  obtain ⟨f0, f1, f2, hu, h0, h1, h2, t0, t1, t2, o0, o1, o2⟩ := st_under
  have hf : Tryd.prog.fieldsOf 40 = #[f0, f1, f2] := by simp [Program.fieldsOf, hu]
  rw [run_equalIn_struct w (d + 4) _ _ _ (by rw [hf]; exact hu) st_held, hf]
  have q0 := part_bd w s
  have q1 := part_dice w s
  have q2 := part_tk w s
  have r0 : (Op.equalIn (d + 4) 36 (.agg (bdL s.L)) (.agg (bdL s.L))).run Tryd.prog w = .ok true w := run_equal_bd w d _ _ _ _ _ _ true (by simp)
  have r1 : (Op.equalIn (d + 4) 38 (.agg #[.int .u64 (s.d : Int)]) (.agg #[.int .u64 (s.d : Int)])).run Tryd.prog w = .ok true w := by
    have h := run_equal_dice w (d + 2) s.d s.d
    rw [show ((s.d : Int) == (s.d : Int)) = true by simp] at h
    exact h
  have r2 : (Op.equalIn (d + 4) 22 (.int .u32 (s.tk : Int)) (.int .u32 (s.tk : Int))).run Tryd.prog w = .ok true w := by
    have h := run_equalIn_int w (d + 3) 22 .u32 .u32 (s.tk : Int) (s.tk : Int) Tryd.underlying22
    rw [show ((s.tk : Int) == (s.tk : Int)) = true by simp] at h
    exact h
  clear hu hf
  obtain ⟨X, hX⟩ : ∃ X, X = stA s := ⟨_, rfl⟩
  obtain ⟨Y, hY⟩ : ∃ Y, Y = bdL s.L := ⟨_, rfl⟩
  rw [← hX] at q0 q1 q2 ⊢
  rw [← hY] at q0 r0
  clear hX hY
  show (Op.eqFields (d + 4) X X [f0, f1, f2]).run Tryd.prog w = _
  simp only [Op.eqFields, h0, h1, h2, t0, t1, t2, o0, o1, o2, ne_eq, not_false_eq_true, if_true, Sem.run_bind, q0, q1, q2, r0, r1, r2, Result.andThen_ok, Bool.not_true, Bool.false_eq_true, if_false, Sem.run_pure]
theorem run_eql_st (s : St) : (binOp .eql 40 (.agg (stA s)) (.agg (stA s))).run Tryd.prog w = .ok (.bool true) w := by
  rw [run_eql_struct, run_equal_st w 9995]
  rfl
end
theorem st_guard (b : BinOp) (x y : Operand) (xs ys : Array Value) (w : World) : (eqGuard b 40 x y (.agg xs) (.agg ys)).run Tryd.prog w = .ok () w := run_eqGuard_agg w b _ x y xs ys (by kernel_rfl)
theorem yk_eqSt {ops : Array Oper} {S : World → Prop} {op : Oper} {a : Act} (hw : Region.wanted op (yielded ops a.tmps) = true) (x y : Operand) (ho : op.op = .binOp .eql 40 x y 40) (s : St) (hx : a.eval x = .agg (stA s)) (hy : a.eval y = .agg (stA s)) : YieldsIf Tryd.prog ops S op (.bool true) a :=
  .inl ⟨hw, fun w _ => by
    simp only [execOp, ho, hx, hy, Sem.run_bind, st_guard, Result.andThen_ok, run_eql_st w s, Sem.run_pure]⟩
section
variable {o : Oper} {a : Act} {w : World} {Q : Exit → Act → World → Prop} {K : Act → World → Prop}
theorem wp_alSt (ho : o.op = .alloc 40) (h : K (a.put o.dst (.pointer (some ⟨w.heap.size, 0, none⟩))) (w.alloc (.cells (stA zSt) 40))) : o.wp Tryd.prog a w K Q := by
  have hz : (zeroValue 40).run Tryd.prog w = .ok (.agg (stA zSt)) w := by kernel_rfl
  unfold Oper.wp execOp
  simp only [ho, Instr.alloc, newVar, newRow, run_newObj_alloc, Sem.run_bind, Sem.run_pure, Result.andThen_ok, hz, Value.cells]
  exact h
theorem wp_alO (ho : o.op = .alloc 52) (h : K (a.put o.dst (.pointer (some ⟨w.heap.size, 0, none⟩))) (w.alloc (.cells (otA 0 (.slice none 0 0) 0) 52))) : o.wp Tryd.prog a w K Q := by
  have hz : (zeroValue 52).run Tryd.prog w = .ok (.agg (otA 0 (.slice none 0 0) 0)) w := by kernel_rfl
  unfold Oper.wp execOp
  simp only [ho, Instr.alloc, newVar, newRow, run_newObj_alloc, Sem.run_bind, Sem.run_pure, Result.andThen_ok, hz, Value.cells]
  exact h
end
/-- All moves of the players that there are, each one that counts. -/
def wholeM (g : Gm) (M : List Nat) : List Nat := (List.range g.pl.toNat).map (mvAt g M)
theorem mvAt_lt {g : Gm} (h : g.df < g.mv) (M : List Nat) (i : Nat) : mvAt g M i < g.mv := by
  unfold mvAt
  split
  · rename_i h1; exact h1.2
  · exact h
theorem mvAt_take (g : Gm) (M : List Nat) {i n : Nat} (h : i < n) : mvAt g (M.take n) i = mvAt g M i := by
  unfold mvAt
  have e : (M.take n).getD i 0 = M.getD i 0 := by simp [List.getD, h]
  rw [e, List.length_take]
  have : (i < min n M.length ∧ M.getD i 0 < g.mv) ↔ (i < M.length ∧ M.getD i 0 < g.mv) := by omega
  simp only [this]
theorem mvAt_whole {g : Gm} (h : g.df < g.mv) (M N : List Nat) {i : Nat} (hi : i < g.pl.toNat) : mvAt g (wholeM g M ++ N) i = mvAt g M i := by
  have e : (wholeM g M ++ N).getD i 0 = mvAt g M i := by
    simp [List.getD, wholeM, List.getElem?_append, hi]
  have h1 := mvAt_lt h M i
  unfold mvAt
  rw [e, if_pos ⟨by simp [wholeM]; omega, h1⟩]
  rfl
theorem cntL_take (g : Gm) (M : List Nat) : cntL g (M.take g.pl.toNat) = cntL g M := by
  unfold cntL
  apply List.map_congr_left
  intro i hi
  rw [mvAt_take g M (List.mem_range.1 hi)]
theorem cntL_whole {g : Gm} (h : g.df < g.mv) (M N : List Nat) : cntL g (wholeM g M ++ N) = cntL g M := by
  unfold cntL
  apply List.map_congr_left
  intro i hi
  rw [mvAt_whole h M N (List.mem_range.1 hi)]
theorem right48 {g : Gm} (h : rightB g = true) : g.L.length ≤ 48 := by
  have h4 := (right_parts h).2.2.2.1
  unfold rcB at h4
  simp only [Bool.and_eq_true, decide_eq_true_eq] at h4
  exact h4.1
theorem gin_mod1 {w w' : World} {g : Gm} {s : Gs} {X B : Nat} (h : GIn w g s) (hm : Mod (fun i => i = X) w w') (h1 : B ≤ s.b) (h2 : B ≤ s.b') (hX : X < B) : GIn w' g s :=
  ⟨h.sc.mod hm (by show ¬ s.b = X; omega), h.sk.mod hm (by show ¬ s.b' = X; omega)⟩
theorem u32_infoR : (Tryd.prog.info? 22).map (fun i => (i.zero, i.size, i.bytes)) = some (some (.int .u32 0), 1, 4) := by kernel_rfl
theorem ms_oneR (l : List Nat) : ∀ u ∈ ms l, u.oneCell' = true := by
  intro u hu
  obtain ⟨_, _, rfl⟩ := List.mem_map.1 hu
  rfl
structure StopU (p : Prop) : Prop where
  out : p
theorem stop_atU {p : Prop} (h : StopU p) : p := h.out
theorem wp_appU {w : World} {o : Oper} {a : Act} {K : Act → World → Prop} {Q : Exit → Act → World → Prop} (s x : Operand)
    (ho : o.op = .call { callee := .builtin .append, args := #[s, x], argTypes := #[28, 28] })
    (B n : Nat) (v : Value) (l : List Nat) (hs : a.eval s = v) (hown : w.ownsRow B 22 1 v n (ms l))
    (b : Nat) (A : Option Addr) (m c : Nat) (news : List Nat) (hx : a.eval x = .slice A m c) (hr : Sl w b A (ms news)) (hm : news.length = m)
    (hlen : (n + m) * 4 ≤ 140737488355328) (hbase : B ≤ w.heap.size)
    (h : ∀ v' w', w'.ownsRow B 22 1 v' (n + m) (ms (l ++ news)) → w.grownBy w' v.ownBlock → (v'.ownBlock = v.ownBlock ∨ v'.ownBlock = some w.heap.size) → K (a.put o.dst v') w') : o.wp Tryd.prog a w K Q := by
  obtain ⟨i0, hi0, hz0, hz1, hz2⟩ := info_parts u32_infoR
  refine wp_append_sl (P := Tryd.prog) w s x _ ho B 22 i0 _ 1 4 Tryd.underlying28 hi0 hz0 hz1 hz2 rfl (by omega) v n (ms l) hs hown b A m c (ms news) hx hr (by simp [hm]) (Sl.none_len hr (by simp [hm])) (ms_oneR _)
    (by simp only [maxLen]; omega) (by omega) hbase ?_
  intro v' w' h1 h2 h3
  exact h v' w' (by rw [ms, List.map_append]; exact h1) h2 h3
theorem wpList_appU (w : World) {ops : Array Oper} {rest : List Oper} {o : Oper} {a : Act} {Q : Exit → Act → World → Prop} (hgd : o.guard = none) (s x : Operand)
    (ho : o.op = .call { callee := .builtin .append, args := #[s, x], argTypes := #[28, 28] })
    (B n : Nat) (v : Value) (l : List Nat) (hs : a.eval s = v) (hown : w.ownsRow B 22 1 v n (ms l))
    (b : Nat) (A : Option Addr) (m c : Nat) (news : List Nat) (hx : a.eval x = .slice A m c) (hr : Sl w b A (ms news)) (hm : news.length = m)
    (hlen : n + m ≤ 1000000000000) (hbase : B ≤ w.heap.size)
    (h : ∀ v' w', w'.ownsRow B 22 1 v' (n + m) (ms (l ++ news)) → w.grownBy w' v.ownBlock → (v'.ownBlock = v.ownBlock ∨ v'.ownBlock = some w.heap.size) → wpList Tryd.prog ops Q rest (a.put o.dst v') w') : wpList Tryd.prog ops Q (o :: rest) a w := by
  obtain ⟨i0, hi0, hz0, hz1, hz2⟩ := info_parts u32_infoR
  refine wpList_append_sl (P := Tryd.prog) w hgd s x _ ho B 22 i0 _ 1 4 Tryd.underlying28 hi0 hz0 hz1 hz2 rfl (by omega) v n (ms l) hs hown b A m c (ms news) hx hr (by simp [hm]) (Sl.none_len hr (by simp [hm])) (ms_oneR _)
    (by simp only [maxLen]; omega) (by omega) hbase ?_
  intro v' w' h1 h2 h3
  exact h v' w' (by rw [ms, List.map_append]; exact h1) h2 h3
end Go.Proofs.YtnbbglhpjpebhaaDoor
/- More steps of regions: boards, dice that are (or are not) the same; words that are added; a slice of slices. Conditions: those said. -/
namespace Go.Proofs.YtnbbglhpjpebhaaDoor
open Go.RowKit

section
variable {ops : Array Oper} {S : World → Prop} {op : Oper} {a : Act}
theorem yk_neBd (hw : Region.wanted op (yielded ops a.tmps) = true) (x y : Operand) (ho : op.op = .binOp .neq 36 x y 36) (L M : List (Int × Nat)) (hx : a.eval x = .agg (bdL L)) (hy : a.eval y = .agg (bdL M)) (h : L = M) : YieldsIf Tryd.prog ops S op (.bool false) a :=
  .inl ⟨hw, fun w _ => by
    subst h
    have e : (binOp .neq 36 (.agg (bdL L)) (.agg (bdL L))).run Tryd.prog w = .ok (.bool false) w := run_neq_bd w (bdF L) (bdF L) (bdG L) (bdG L) L.length L.length true (by simp)
    simp only [execOp, ho, hx, hy, Sem.run_bind, eq_guard, Result.andThen_ok, e, Sem.run_pure]⟩
theorem run_neq_dice (w : World) (x y : Nat) : (binOp .neq 38 (.agg #[.int .u64 (x : Int)]) (.agg #[.int .u64 (y : Int)])).run Tryd.prog w = .ok (.bool (!((x : Int) == (y : Int)))) w := by
  rw [run_neq_struct, run_equal_dice w 9998]
  rfl
theorem dice_guard (b : BinOp) (x y : Operand) (xs ys : Array Value) (w : World) : (eqGuard b 38 x y (.agg xs) (.agg ys)).run Tryd.prog w = .ok () w := run_eqGuard_agg w b _ x y xs ys (by kernel_rfl)
theorem yk_neDi (hw : Region.wanted op (yielded ops a.tmps) = true) (x y : Operand) (ho : op.op = .binOp .neq 38 x y 38) (d d' : Nat) (hx : a.eval x = .agg #[.int .u64 (d : Int)]) (hy : a.eval y = .agg #[.int .u64 (d' : Int)]) (h : d = d') : YieldsIf Tryd.prog ops S op (.bool false) a :=
  .inl ⟨hw, fun w _ => by
    subst h
    have e : (!((d : Int) == (d : Int))) = false := by simp
    simp only [execOp, ho, hx, hy, Sem.run_bind, dice_guard, Result.andThen_ok, run_neq_dice, e, Sem.run_pure]⟩
theorem yk_addW (hw : Region.wanted op (yielded ops a.tmps) = true) (x y : Operand) (ho : op.op = .binOp .add 22 x y 22) (n m z : Int) (hx : a.eval x = .int .u32 n) (hy : a.eval y = .int .u32 m) (hz : IntKind.u32.wrap (n + m) = z) : YieldsIf Tryd.prog ops S op (.int .u32 z) a :=
  .inl ⟨hw, fun w _ => by
    unfold execOp
    simp only [ho, hx, hy]
    rw [← hz]
    go_simp⟩
theorem run_neq_st (w : World) (s : St) : (binOp .neq 40 (.agg (stA s)) (.agg (stA s))).run Tryd.prog w = .ok (.bool false) w := by
  rw [run_neq_struct, run_equal_st w 9995]
  rfl
theorem yk_neSt (hw : Region.wanted op (yielded ops a.tmps) = true) (x y : Operand) (ho : op.op = .binOp .neq 40 x y 40) (s : St) (hx : a.eval x = .agg (stA s)) (hy : a.eval y = .agg (stA s)) : YieldsIf Tryd.prog ops S op (.bool false) a :=
  .inl ⟨hw, fun w _ => by
    simp only [execOp, ho, hx, hy, Sem.run_bind, st_guard, Result.andThen_ok, run_neq_st w s, Sem.run_pure]⟩
end
theorem ob_t {w : World} {k t e : Nat} {sh : Value} (h : OBox w k t sh e) : w.cell? ⟨k, 0, none⟩ = some (.int .u64 (t : Int)) := by rw [cell_of_row w k _ _ _ _ h]; rfl
theorem ob_s {w : World} {k t e : Nat} {sh : Value} (h : OBox w k t sh e) : w.cell? ⟨k, 1, none⟩ = some sh := by rw [cell_of_row w k _ _ _ _ h]; rfl
theorem ob_e {w : World} {k t e : Nat} {sh : Value} (h : OBox w k t sh e) : w.cell? ⟨k, 2, none⟩ = some (.int .i64 (e : Int)) := by rw [cell_of_row w k _ _ _ _ h]; rfl
end Go.Proofs.YtnbbglhpjpebhaaDoor
