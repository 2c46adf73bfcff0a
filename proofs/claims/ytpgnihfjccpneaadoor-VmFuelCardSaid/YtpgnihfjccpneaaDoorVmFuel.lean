/- VmFuel: the walk. Conditions: the numbers fit; the table lies. -/
import Derived.Test.YtpgnihfjccpneaaDoorVmX
namespace Go.Proofs.YtpgnihfjccpneaaDoor
open Go.RowKit

set_option maxHeartbeats 8000000 in
set_option maxRecDepth 20000 in
theorem VmFuel_walk (n k : Nat) (w : World) (hT : CTab w) (hn : n ≤ 65535) (hk : k ≤ 255) :
    Calls Tryd.prog 8 #[.int .u16 (n : Int), .int .u8 (k : Int)] w fun e w' => e = .returned (.bool true) ∧ Below w.heap.size w w' := by
  obtain ⟨r, hr⟩ : ∃ r, r = n % 200 := ⟨_, rfl⟩
  have hr2 : r < 200 := by omega
  have er : (n : Int).tmod 200 = (r : Int) := by rw [Int.tmod_eq_emod_of_nonneg (by omega)]; omega
  have ew1 : IntKind.i32.wrap (r : Int) = (r : Int) := IntWalk.i32_in _ (by omega)
  have ew2 : wrap32 (r : Int) = (r : Int) := wrap32_in (by omega) (by omega)
  have ek : IntKind.u32.wrap (k : Int) = (k : Int) := IntWalk.u32_in _ (by omega)
  have eq : IntKind.i64.wrap (r : Int) = (r : Int) := IntWalk.i64_in _ (by omega)
  have e3 : IntKind.i64.wrap (3 * (r : Int)) = 3 * (r : Int) := IntWalk.i64_in _ (by omega)
  have e4 : IntKind.i64.wrap (3 + 3 * (r : Int)) = 3 + 3 * (r : Int) := IntWalk.i64_in _ (by omega)
  have e5 : IntKind.i64.wrap (400 - (3 + 3 * (r : Int))) = 400 - (3 + 3 * (r : Int)) := IntWalk.i64_in _ (by omega)
  have hFS := fuel_says r k hr2
  have hJ := jump_all
  obtain ⟨L0, hL0⟩ : ∃ L0, L0 = [((0 : Int), (1 : Nat))] := ⟨_, rfl⟩
  have hN := fun W => New_in (some ⟨W.heap.size, 0, none⟩) [(0, 1)] 1 1 W.heap.size (W.alloc (.cells #[.int .i32 0, .int .u32 1] 38)) (sl_new W (cv [(0, 1)]) _) rfl (by omega)
  rw [← hL0] at hFS hJ
  simp only [← hL0] at hN
  have HL0 := Lib.hid hL0
  clear hL0 hr
  obtain ⟨j1, j2, j3⟩ := hJ
  obtain ⟨F1, hF1⟩ : ∃ F1, F1 = wholeV compN PJ L0 0 := ⟨_, rfl⟩
  obtain ⟨F2, hF2⟩ : ∃ F2, F2 = wholeV compN (PF (r : Int) k) L0 0 := ⟨_, rfl⟩
  rw [← hF1] at j1 j2 j3
  rw [← hF2] at hFS
  have H1 := Lib.hid hF1
  have H2 := Lib.hid hF2
  clear hF1 hF2
  go_enter Tryd.func8, Tryd.ntmps8
  go_wp2_with fail
  refine (Awake_calls _ hT).mono ?_
  rintro e w1 ⟨rfl, hb1⟩
  have hT1 := (hT.ext hb1).ext (below_alloc1 w1 (.cells #[.int .i32 0, .int .u32 1] 38))
  have hb1 := hb1.alloc hb1.size (.cells #[.int .i32 0, .int .u32 1] 38)
  clear hT
  go_wp2_with fail
  refine (hN w1).mono ?_
  rintro e w2 ⟨rfl, h2⟩
  have l1 := BoxL.new_ w2 L0
  have hT2 := (hT1.ext h2).ext (below_alloc1 w2 (.cells (bdL L0) 44))
  have hb2 := hb1.trans (h2.mono hb1.size)
  have hb2 := hb2.alloc hb2.size (.cells (bdL L0) 44)
  obtain ⟨G, hG⟩ : ∃ G, G = w2.heap.size := ⟨_, rfl⟩
  rw [← hG] at l1
  have HG := Lib.hid hG.symm
  clear hN hT1 hb1 h2 hG
  go_wp2_with (first | ((with_reducible refine at_al 44 5 ?_); refine wpList_al rfl rfl (some 5) rfl G HG.out ?_) | ((with_reducible refine at_st 44 5 17 ?_); refine wpList_put rfl (.tmp 5) (.tmp 17) rfl HG.out L0 rfl rfl ?_) | ((with_reducible refine at_ld 44 5 ?_); refine wpList_ld (by first | rfl | simp [Region.wanted, yielded]) (.tmp 5) rfl G rfl L0 (BoxL.alloc l1 _) ?_))
  have z1 : (w2.alloc (.cells (bdL L0) 44)).heap.size = G + 1 := by rw [← HG.out]; simp
  have s1 := kv_new (w2.alloc (.cells (bdL L0) 44)) PJ.code (.cells #[.int .i32 0] 21) 60
  have s2 := iv_new (w2.alloc (.cells (bdL L0) 44)) PJ.mv (.cells #[.int .u8 20, .int .u8 0, .int .u8 0, .int .u8 0, .int .i32 0, .int .u32 0] 60) 21
  rw [z1] at s1 s2
  have hb3 := (hb2.alloc hb2.size (.cells #[.int .u8 20, .int .u8 0, .int .u8 0, .int .u8 0, .int .i32 0, .int .u32 0] 60)).alloc (by simp; have := hb2.size; simp at this; omega) (.cells #[.int .i32 0] 21)
  have hT3 := (hT2.ext (below_alloc1 _ (.cells #[.int .u8 20, .int .u8 0, .int .u8 0, .int .u8 0, .int .i32 0, .int .u32 0] 60))).ext (below_alloc1 _ (.cells #[.int .i32 0] 21))
  have l3 := (l1.alloc (.cells #[.int .u8 20, .int .u8 0, .int .u8 0, .int .u8 0, .int .i32 0, .int .u32 0] 60)).alloc (.cells #[.int .i32 0] 21)
  have z3 : (((w2.alloc (.cells (bdL L0) 44)).alloc (.cells #[.int .u8 20, .int .u8 0, .int .u8 0, .int .u8 0, .int .i32 0, .int .u32 0] 60)).alloc (.cells #[.int .i32 0] 21)).heap.size = G + 3 := by rw [← HG.out]; simp
  obtain ⟨wz, hwz⟩ : ∃ wz, wz = ((w2.alloc (.cells (bdL L0) 44)).alloc (.cells #[.int .u8 20, .int .u8 0, .int .u8 0, .int .u8 0, .int .i32 0, .int .u32 0] 60)).alloc (.cells #[.int .i32 0] 21) := ⟨_, rfl⟩
  have s1 : Sl (((w2.alloc (.cells (bdL L0) 44)).alloc (.cells #[.int .u8 20, .int .u8 0, .int .u8 0, .int .u8 0, .int .i32 0, .int .u32 0] 60)).alloc (.cells #[.int .i32 0] 21)) (G + 1) (some ⟨G + 1, 0, none⟩) (kv PJ.code) := s1
  have s2 : Is (((w2.alloc (.cells (bdL L0) 44)).alloc (.cells #[.int .u8 20, .int .u8 0, .int .u8 0, .int .u8 0, .int .i32 0, .int .u32 0] 60)).alloc (.cells #[.int .i32 0] 21)) (G + 1 + 1) (some ⟨G + 1 + 1, 0, none⟩) PJ.mv := s2
  rw [HG.out]
  rw [← hwz] at s1 s2 hb3 hT3 l3 z3 ⊢
  have hR1 : Calls Tryd.prog 21 #[.slice (some ⟨G + 1, 0, none⟩) 1 1, .agg (bdL L0), .agg #[.int .u64 0], .slice (some ⟨G + 1 + 1, 0, none⟩) 1 1, .int .u32 1, .int .u32 1] wz fun e w' => ∃ sh, e = .returned (.agg (resA sh (wholeV compN PJ L0 0))) ∧ RowS w' wz.heap.size sh (wholeV compN PJ L0 0).sh ∧ Below wz.heap.size wz w' :=
    Run_calls compN comp_ok comp_fit PJ _ 1 (G + 1) _ 1 (G + 1 + 1) L0 0 wz (runIn_new s1 s2 (by intro c hc; simp only [PJ, List.mem_cons, List.not_mem_nil, or_false] at hc; subst hc; exact ok_cd (by decide) (by decide) (by decide) (by decide) (by decide) (by decide) (by decide)) (by decide) (by decide) (by intro x hx; simp only [PJ, List.mem_cons, List.not_mem_nil, or_false] at hx; rw [hx]; exact ⟨by decide, by decide⟩) (by rw [HL0.out]; decide) (by rw [HL0.out]; intro c hc; simp only [List.mem_cons, List.not_mem_nil, or_false] at hc; subst hc; decide) (by decide) hT3 (by omega) (by omega))
  rw [← H1.out] at hR1
  clear hwz s1 s2 l1 hb2 hT2 z1
  refine hR1.mono ?_
  rintro e w3 ⟨sh1, rfl, hS1, h3⟩
  have hone1 := rowS_one hS1
  have r1 := BoxR.new_ w3 sh1 F1
  have l4 := (l3.ext h3).alloc (.cells (resA sh1 F1) 50)
  have hT4 := (hT3.ext h3).ext (below_alloc1 w3 (.cells (resA sh1 F1) 50))
  have hb4 := hb3.trans (h3.mono hb3.size)
  have hb4 := hb4.alloc hb4.size (.cells (resA sh1 F1) 50)
  obtain ⟨K1, hK1⟩ : ∃ K1, K1 = w3.heap.size := ⟨_, rfl⟩
  rw [← hK1] at r1
  have HK1 := Lib.hid hK1.symm
  clear hR1 l3 hT3 hb3 h3 hS1 z3 hK1
  go_wp2_with (first | ((with_reducible refine at_al 50 7 ?_); refine wpList_alR rfl rfl (some 7) rfl K1 HK1.out ?_) | ((with_reducible refine at_st 50 7 24 ?_); refine wpList_putR rfl (.tmp 7) (.tmp 24) rfl HK1.out sh1 F1 hone1 rfl rfl ?_) | ((with_reducible refine at_ld 44 5 ?_); refine wpList_ld (by first | rfl | simp [Region.wanted, yielded]) (.tmp 5) rfl G rfl L0 (BoxL.alloc l4 _) ?_))
  have z4 : (w3.alloc (.cells (resA sh1 F1) 50)).heap.size = K1 + 1 := by rw [← HK1.out]; simp
  have s1 := kv_new (w3.alloc (.cells (resA sh1 F1) 50)) (PF (r : Int) k).code (.cells #[.int .i32 0] 21) 60
  have s2 := iv_new (w3.alloc (.cells (resA sh1 F1) 50)) (PF (r : Int) k).mv (.cells #[.int .u8 1, .int .u8 1, .int .u8 0, .int .u8 0, .int .i32 (r : Int), .int .u32 0, .int .u8 1, .int .u8 2, .int .u8 0, .int .u8 0, .int .i32 1, .int .u32 0, .int .u8 19, .int .u8 1, .int .u8 0, .int .u8 0, .int .i32 5, .int .u32 0, .int .u8 7, .int .u8 1, .int .u8 1, .int .u8 2, .int .i32 0, .int .u32 0, .int .u8 20, .int .u8 0, .int .u8 0, .int .u8 0, .int .i32 2, .int .u32 0] 60) 21
  rw [z4] at s1 s2
  have hb5 := (hb4.alloc hb4.size (.cells #[.int .u8 1, .int .u8 1, .int .u8 0, .int .u8 0, .int .i32 (r : Int), .int .u32 0, .int .u8 1, .int .u8 2, .int .u8 0, .int .u8 0, .int .i32 1, .int .u32 0, .int .u8 19, .int .u8 1, .int .u8 0, .int .u8 0, .int .i32 5, .int .u32 0, .int .u8 7, .int .u8 1, .int .u8 1, .int .u8 2, .int .i32 0, .int .u32 0, .int .u8 20, .int .u8 0, .int .u8 0, .int .u8 0, .int .i32 2, .int .u32 0] 60)).alloc (by simp; have := hb4.size; simp at this; omega) (.cells #[.int .i32 0] 21)
  have hT5 := (hT4.ext (below_alloc1 _ (.cells #[.int .u8 1, .int .u8 1, .int .u8 0, .int .u8 0, .int .i32 (r : Int), .int .u32 0, .int .u8 1, .int .u8 2, .int .u8 0, .int .u8 0, .int .i32 1, .int .u32 0, .int .u8 19, .int .u8 1, .int .u8 0, .int .u8 0, .int .i32 5, .int .u32 0, .int .u8 7, .int .u8 1, .int .u8 1, .int .u8 2, .int .i32 0, .int .u32 0, .int .u8 20, .int .u8 0, .int .u8 0, .int .u8 0, .int .i32 2, .int .u32 0] 60))).ext (below_alloc1 _ (.cells #[.int .i32 0] 21))
  have l5 := (l4.alloc (.cells #[.int .u8 1, .int .u8 1, .int .u8 0, .int .u8 0, .int .i32 (r : Int), .int .u32 0, .int .u8 1, .int .u8 2, .int .u8 0, .int .u8 0, .int .i32 1, .int .u32 0, .int .u8 19, .int .u8 1, .int .u8 0, .int .u8 0, .int .i32 5, .int .u32 0, .int .u8 7, .int .u8 1, .int .u8 1, .int .u8 2, .int .i32 0, .int .u32 0, .int .u8 20, .int .u8 0, .int .u8 0, .int .u8 0, .int .i32 2, .int .u32 0] 60)).alloc (.cells #[.int .i32 0] 21)
  have r5 := (r1.al (.cells #[.int .u8 1, .int .u8 1, .int .u8 0, .int .u8 0, .int .i32 (r : Int), .int .u32 0, .int .u8 1, .int .u8 2, .int .u8 0, .int .u8 0, .int .i32 1, .int .u32 0, .int .u8 19, .int .u8 1, .int .u8 0, .int .u8 0, .int .i32 5, .int .u32 0, .int .u8 7, .int .u8 1, .int .u8 1, .int .u8 2, .int .i32 0, .int .u32 0, .int .u8 20, .int .u8 0, .int .u8 0, .int .u8 0, .int .i32 2, .int .u32 0] 60)).al (.cells #[.int .i32 0] 21)
  have z5 : (((w3.alloc (.cells (resA sh1 F1) 50)).alloc (.cells #[.int .u8 1, .int .u8 1, .int .u8 0, .int .u8 0, .int .i32 (r : Int), .int .u32 0, .int .u8 1, .int .u8 2, .int .u8 0, .int .u8 0, .int .i32 1, .int .u32 0, .int .u8 19, .int .u8 1, .int .u8 0, .int .u8 0, .int .i32 5, .int .u32 0, .int .u8 7, .int .u8 1, .int .u8 1, .int .u8 2, .int .i32 0, .int .u32 0, .int .u8 20, .int .u8 0, .int .u8 0, .int .u8 0, .int .i32 2, .int .u32 0] 60)).alloc (.cells #[.int .i32 0] 21)).heap.size = K1 + 3 := by rw [← HK1.out]; simp
  obtain ⟨wy, hwy⟩ : ∃ wy, wy = ((w3.alloc (.cells (resA sh1 F1) 50)).alloc (.cells #[.int .u8 1, .int .u8 1, .int .u8 0, .int .u8 0, .int .i32 (r : Int), .int .u32 0, .int .u8 1, .int .u8 2, .int .u8 0, .int .u8 0, .int .i32 1, .int .u32 0, .int .u8 19, .int .u8 1, .int .u8 0, .int .u8 0, .int .i32 5, .int .u32 0, .int .u8 7, .int .u8 1, .int .u8 1, .int .u8 2, .int .i32 0, .int .u32 0, .int .u8 20, .int .u8 0, .int .u8 0, .int .u8 0, .int .i32 2, .int .u32 0] 60)).alloc (.cells #[.int .i32 0] 21) := ⟨_, rfl⟩
  have s1 : Sl (((w3.alloc (.cells (resA sh1 F1) 50)).alloc (.cells #[.int .u8 1, .int .u8 1, .int .u8 0, .int .u8 0, .int .i32 (r : Int), .int .u32 0, .int .u8 1, .int .u8 2, .int .u8 0, .int .u8 0, .int .i32 1, .int .u32 0, .int .u8 19, .int .u8 1, .int .u8 0, .int .u8 0, .int .i32 5, .int .u32 0, .int .u8 7, .int .u8 1, .int .u8 1, .int .u8 2, .int .i32 0, .int .u32 0, .int .u8 20, .int .u8 0, .int .u8 0, .int .u8 0, .int .i32 2, .int .u32 0] 60)).alloc (.cells #[.int .i32 0] 21)) (K1 + 1) (some ⟨K1 + 1, 0, none⟩) (kv (PF (r : Int) k).code) := s1
  have s2 : Is (((w3.alloc (.cells (resA sh1 F1) 50)).alloc (.cells #[.int .u8 1, .int .u8 1, .int .u8 0, .int .u8 0, .int .i32 (r : Int), .int .u32 0, .int .u8 1, .int .u8 2, .int .u8 0, .int .u8 0, .int .i32 1, .int .u32 0, .int .u8 19, .int .u8 1, .int .u8 0, .int .u8 0, .int .i32 5, .int .u32 0, .int .u8 7, .int .u8 1, .int .u8 1, .int .u8 2, .int .i32 0, .int .u32 0, .int .u8 20, .int .u8 0, .int .u8 0, .int .u8 0, .int .i32 2, .int .u32 0] 60)).alloc (.cells #[.int .i32 0] 21)) (K1 + 1 + 1) (some ⟨K1 + 1 + 1, 0, none⟩) (PF (r : Int) k).mv := s2
  rw [HK1.out]
  rw [← hwy] at s1 s2 hb5 hT5 l5 r5 z5 ⊢
  have hR2 : Calls Tryd.prog 21 #[.slice (some ⟨K1 + 1, 0, none⟩) 5 5, .agg (bdL L0), .agg #[.int .u64 0], .slice (some ⟨K1 + 1 + 1, 0, none⟩) 1 1, .int .u32 (k : Int), .int .u32 1] wy fun e w' => ∃ sh, e = .returned (.agg (resA sh (wholeV compN (PF (r : Int) k) L0 0))) ∧ RowS w' wy.heap.size sh (wholeV compN (PF (r : Int) k) L0 0).sh ∧ Below wy.heap.size wy w' :=
    Run_calls compN comp_ok comp_fit (PF (r : Int) k) _ 5 (K1 + 1) _ 1 (K1 + 1 + 1) L0 0 wy (runIn_new s1 s2 (by intro c hc; simp only [PF, List.mem_cons, List.not_mem_nil, or_false] at hc; rcases hc with rfl | rfl | rfl | rfl | rfl <;> refine ok_cd (by decide) (by decide) (by decide) (by decide) ?_ ?_ (by decide) <;> omega) (by simp [PF]) (by simp [PF]) (by intro x hx; simp only [PF, List.mem_cons, List.not_mem_nil, or_false] at hx; rw [hx]; exact ⟨by decide, by decide⟩) (by rw [HL0.out]; decide) (by rw [HL0.out]; intro c hc; simp only [List.mem_cons, List.not_mem_nil, or_false] at hc; subst hc; decide) (by simp [PF]) hT5 (by omega) (by omega))
  rw [← H2.out] at hR2
  clear hwy s1 s2 l4 hb4 hT4 z4 r1
  refine hR2.mono ?_
  rintro e w4 ⟨sh2, rfl, hS2, h4⟩
  have hone2 := rowS_one hS2
  have r6 := (r5.ext h4).al (.cells (resA sh2 F2) 50)
  have r2 := BoxR.new_ w4 sh2 F2
  have l6 := (l5.ext h4).alloc (.cells (resA sh2 F2) 50)
  have hb6 := hb5.trans (h4.mono hb5.size)
  have hb6 := hb6.alloc hb6.size (.cells (resA sh2 F2) 50)
  obtain ⟨K2, hK2⟩ : ∃ K2, K2 = w4.heap.size := ⟨_, rfl⟩
  rw [← hK2] at r2
  have HK2 := Lib.hid hK2.symm
  have a1 := r6.cE
  have a2 := r6.cU
  rw [j3] at a1
  rw [j2] at a2
  have b1 := r2.cE
  have b2 := r2.cU
  have hFl : F1.L.length ≤ 48 := by rw [j1, HL0.out]; decide
  have hFu : F2.u ≤ 400 := by
    by_cases hbig : 400 < 3 + 3 * r
    · rw [if_pos hbig] at hFS; omega
    · rw [if_neg hbig] at hFS; omega
  have hFuel := fun W => Fuel_calls sh2 F2 W hFu
  have J1 := Lib.hid j1
  clear hR2 l5 r5 hT5 hb5 h4 hS2 z5 hK2 j1 j2 j3 hFu
  by_cases hbig : 400 < 3 + 3 * r
  · rw [if_pos hbig] at hFS
    obtain ⟨f1, f2⟩ := hFS
    rw [f1] at b1
    rw [f2] at b2
    have eg : decide (400 < 3 + 3 * (r : Int)) = true := by simp; omega
    clear hFuel f1 f2 hbig
    go_wp2_with (first | ((with_reducible refine at_al 50 9 ?_); refine wpList_alR rfl rfl (some 9) rfl K2 HK2.out ?_) | ((with_reducible refine at_st 50 9 40 ?_); refine wpList_putR rfl (.tmp 9) (.tmp 40) rfl HK2.out sh2 F2 hone2 rfl rfl ?_) | ((with_reducible refine at_ld 44 5 ?_); refine wpList_ld (by first | rfl | simp [Region.wanted, yielded]) (.tmp 5) rfl G rfl L0 l6 ?_) | ((with_reducible refine at_ld 44 54 ?_); refine wpList_ldRBw (by first | rfl | simp [Region.wanted, yielded]) (.tmp 54) rfl K1 rfl r6 ?_) | ((with_reducible refine at_bi 57 .neq 44 44 _ _ ?_); refine wpList_neq_bd (by first | rfl | simp [Region.wanted, yielded]) (.tmp 55) (.tmp 56) rfl F1.L L0 rfl rfl hFl true (by rw [J1.out]; simp) ?_))
    go_ret
    exact ⟨rfl, hb6⟩
  · rw [if_neg hbig] at hFS
    obtain ⟨f1, f2⟩ := hFS
    rw [f1] at b1
    rw [f2] at b2
    have eg : decide (400 < 3 + 3 * (r : Int)) = false := by simp; omega
    rw [f2] at hFuel
    have b2 : (w4.alloc (.cells (resA sh2 F2) 50)).cell? ⟨K2, 100, none⟩ = some (.int .i64 (3 + 3 * (r : Int))) := by rw [b2]; congr 2
    have hFuel : ∀ W, Calls Tryd.prog 30 #[.agg (resA sh2 F2)] W fun e w' => e = .returned (.int .i64 (400 - (3 + 3 * (r : Int)))) ∧ Below W.heap.size W w' := fun W => (hFuel W).mono fun e w' h => ⟨h.1.trans (by congr 2), h.2⟩
    clear f1 f2 hbig
    go_wp2_with (first | ((with_reducible refine at_al 50 9 ?_); refine wpList_alR rfl rfl (some 9) rfl K2 HK2.out ?_) | ((with_reducible refine at_st 50 9 40 ?_); refine wpList_putR rfl (.tmp 9) (.tmp 40) rfl HK2.out sh2 F2 hone2 rfl rfl ?_) | ((with_reducible refine at_ld 44 5 ?_); refine wpList_ld (by first | rfl | simp [Region.wanted, yielded]) (.tmp 5) rfl G rfl L0 l6 ?_) | ((with_reducible refine at_ld 44 54 ?_); refine wpList_ldRBw (by first | rfl | simp [Region.wanted, yielded]) (.tmp 54) rfl K1 rfl r6 ?_) | ((with_reducible refine at_bi 57 .neq 44 44 _ _ ?_); refine wpList_neq_bd (by first | rfl | simp [Region.wanted, yielded]) (.tmp 55) (.tmp 56) rfl F1.L L0 rfl rfl hFl true (by rw [J1.out]; simp) ?_) | ((with_reducible refine at_ld 50 9 ?_); refine wpList_ldRAw (by first | rfl | simp [Region.wanted, yielded]) (.tmp 9) rfl K2 rfl r2 ?_))
    skip -- LOOK
    refine (hFuel _).mono ?_
    rintro e w5 ⟨rfl, h5⟩
    go_wp2_with fail
    go_ret
    exact ⟨rfl, hb6.trans (h5.mono hb6.size)⟩
end Go.Proofs.YtpgnihfjccpneaaDoor
