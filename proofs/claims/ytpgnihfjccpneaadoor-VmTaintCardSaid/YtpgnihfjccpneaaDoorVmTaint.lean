/- VmTaint: the walk. Conditions: the numbers fit; the table lies. -/
import Derived.Test.YtpgnihfjccpneaaDoorVmTaintN
namespace Go.Proofs.YtpgnihfjccpneaaDoor
open Go.RowKit

theorem taint_ok : ∀ q, q < 4 → (tC q).Ok := by
  intro q hq
  have hcases : q = 0 ∨ q = 1 ∨ q = 2 ∨ q = 3 := by omega
  rcases hcases with rfl | rfl | rfl | rfl <;> exact ok_cd (by decide) (by decide) (by decide) (by decide) (by decide) (by decide) (by decide)
set_option maxHeartbeats 16000000 in
set_option maxRecDepth 20000 in
theorem VmTaint_walk (se : Nat) (x : Int) (p : Nat) (y : Int) (w : World) (hT : CTab w) (hs : se ≤ 4294967295) (hx : -2147483648 ≤ x ∧ x ≤ 2147483647) (hp : p ≤ 255) (hy : -2147483648 ≤ y ∧ y ≤ 2147483647) :
    Calls Tryd.prog 9 #[.int .u32 (se : Int), .int .i32 x, .int .u8 (p : Int), .int .i32 y] w fun e w' => e = .returned (.bool true) ∧ Below w.heap.size w w' := by
  obtain ⟨q, hq⟩ : ∃ q, q = p % 4 := ⟨_, rfl⟩
  have hq4 : q < 4 := by omega
  have er : (p : Int).tmod 4 = (q : Int) := by rw [Int.tmod_eq_emod_of_nonneg (by omega)]; omega
  have eq4 : (q : Int) < 4 := by omega
  have hok := taint_ok q hq4
  have hS1 := taint_says q hq4 x se
  have hS2 := taint_says q hq4 y se
  have hqt : q < tL.length := hq4
  have htq : tL[q] = tC q := by simp [tC, List.getD, hqt]
  have hkv := fun r v (h : r < 6) (h2 : (cdA (tC q)).toList[r]? = some v) => (show (kv tL)[q * 6 + r]? = some v from (kv_get (l := tL) (i := q) hqt h).trans (by rw [htq]; exact h2))
  obtain ⟨La, hLa⟩ : ∃ La, La = [((x : Int), se), (0, 7)] := ⟨_, rfl⟩
  obtain ⟨Lb, hLb⟩ : ∃ Lb, Lb = [((y : Int), se), (0, 7)] := ⟨_, rfl⟩
  have hNa := fun W => New_in (some ⟨W.heap.size, 0, none⟩) [(x, se), (0, 7)] 2 2 W.heap.size (W.alloc (.cells #[.int .i32 x, .int .u32 (se : Int), .int .i32 0, .int .u32 7] 38)) (sl_new W (cv [(x, se), (0, 7)]) _) rfl (by omega)
  have hNb := fun W => New_in (some ⟨W.heap.size, 0, none⟩) [(y, se), (0, 7)] 2 2 W.heap.size (W.alloc (.cells #[.int .i32 y, .int .u32 (se : Int), .int .i32 0, .int .u32 7] 38)) (sl_new W (cv [(y, se), (0, 7)]) _) rfl (by omega)
  rw [← hLa] at hS1
  rw [← hLb] at hS2
  simp only [← hLa] at hNa
  simp only [← hLb] at hNb
  have oA : okC La := by rw [hLa]; intro c hc; simp only [List.mem_cons, List.not_mem_nil, or_false] at hc; rcases hc with rfl | rfl; exact ⟨hx, by show se < 4294967296; omega⟩; exact ⟨⟨by decide, by decide⟩, by decide⟩
  have oB : okC Lb := by rw [hLb]; intro c hc; simp only [List.mem_cons, List.not_mem_nil, or_false] at hc; rcases hc with rfl | rfl; exact ⟨hy, by show se < 4294967296; omega⟩; exact ⟨⟨by decide, by decide⟩, by decide⟩
  have lA : La.length ≤ 48 := by rw [hLa]; show 2 ≤ 48; decide
  have lB : Lb.length ≤ 48 := by rw [hLb]; show 2 ≤ 48; decide
  obtain ⟨F1, hF1⟩ : ∃ F1, F1 = wholeV compN (PT (tC q)) La 0 := ⟨_, rfl⟩
  obtain ⟨F2, hF2⟩ : ∃ F2, F2 = wholeV compN (PT (tC q)) Lb 0 := ⟨_, rfl⟩
  rw [← hF1] at hS1
  rw [← hF2] at hS2
  have HS1 := Lib.hid hS1
  have HS2 := Lib.hid hS2
  have hWi := fun W => MWithin_calls 7 se W (by omega) (by omega)
  obtain ⟨c, hc⟩ : ∃ c, c = tC q := ⟨_, rfl⟩
  rw [← hc] at hkv hok hF1 hF2
  obtain ⟨op, a, bb, cc, n, m⟩ := c
  have hPT : kv (PT ⟨op, a, bb, cc, n, m⟩).code = kv [⟨2, 1, 0, 0, 0, 0⟩, ⟨op, a, bb, cc, n, m⟩] := rfl
  have H1 := Lib.hid hF1
  have H2 := Lib.hid hF2
  have HK := Lib.hid hkv
  have OK := Lib.hid hok
  have OA := Lib.hid oA
  have OB := Lib.hid oB
  clear hF1 hF2 hkv hS1 hS2 hLa hLb hc hok oA oB hPT htq hqt hq
  go_enter Tryd.func9, Tryd.ntmps9
  go_wp2_with fail
  refine (Awake_calls _ hT).mono ?_
  rintro e w1 ⟨rfl, hb1⟩
  have hT1 := hT.ext hb1
  clear hT
  have hcell : ∀ r v, r < 6 → (cdA ⟨op, a, bb, cc, n, m⟩).toList[r]? = some v → (w1.alloc (.cells #[.int .u8 19, .int .u8 1, .int .u8 0, .int .u8 0, .int .i32 2, .int .u32 0, .int .u8 4, .int .u8 2, .int .u8 1, .int .u8 0, .int .i32 0, .int .u32 0, .int .u8 5, .int .u8 2, .int .u8 1, .int .u8 0, .int .i32 0, .int .u32 0, .int .u8 22, .int .u8 0, .int .u8 1, .int .u8 0, .int .i32 0, .int .u32 7] 60)).cell? ⟨w1.heap.size, q * 6 + r, none⟩ = some v := fun r v h h2 => by
    rw [cell_of_row _ _ _ _ _ _ (heap_alloc_new w1 (.cells #[.int .u8 19, .int .u8 1, .int .u8 0, .int .u8 0, .int .i32 2, .int .u32 0, .int .u8 4, .int .u8 2, .int .u8 1, .int .u8 0, .int .i32 0, .int .u32 0, .int .u8 5, .int .u8 2, .int .u8 1, .int .u8 0, .int .i32 0, .int .u32 0, .int .u8 22, .int .u8 0, .int .u8 1, .int .u8 0, .int .i32 0, .int .u32 7] 60))]
    have h3 := HK.out r v h h2
    have h4 : (kv tL).toArray[q * 6 + r]? = some v := by simpa using h3
    exact h4
  have k0 := hcell 0 (.int .u8 (op : Int)) (by omega) rfl
  have k1 := hcell 1 (.int .u8 (a : Int)) (by omega) rfl
  have k2 := hcell 2 (.int .u8 (bb : Int)) (by omega) rfl
  have k3 := hcell 3 (.int .u8 (cc : Int)) (by omega) rfl
  have k4 := hcell 4 (.int .i32 n) (by omega) rfl
  have k5 := hcell 5 (.int .u32 (m : Int)) (by omega) rfl
  rw [Nat.add_zero] at k0
  clear hcell
  have t1 := (((hT1.ext (below_alloc1 _ (.cells #[.int .u8 19, .int .u8 1, .int .u8 0, .int .u8 0, .int .i32 2, .int .u32 0, .int .u8 4, .int .u8 2, .int .u8 1, .int .u8 0, .int .i32 0, .int .u32 0, .int .u8 5, .int .u8 2, .int .u8 1, .int .u8 0, .int .i32 0, .int .u32 0, .int .u8 22, .int .u8 0, .int .u8 1, .int .u8 0, .int .i32 0, .int .u32 7] 60))).ext (below_alloc1 _ (.cells #[.int .u8 (op : Int), .int .u8 (a : Int), .int .u8 (bb : Int), .int .u8 (cc : Int), .int .i32 n, .int .u32 (m : Int)] 60))).ext (below_alloc1 _ (.cells #[.int .u8 2, .int .u8 1, .int .u8 0, .int .u8 0, .int .i32 0, .int .u32 0, .int .u8 (op : Int), .int .u8 (a : Int), .int .u8 (bb : Int), .int .u8 (cc : Int), .int .i32 n, .int .u32 (m : Int)] 60))).ext (below_alloc1 _ (.cells #[.int .i32 x, .int .u32 (se : Int), .int .i32 0, .int .u32 7] 38))
  have z3 : (((w1.alloc (.cells #[.int .u8 19, .int .u8 1, .int .u8 0, .int .u8 0, .int .i32 2, .int .u32 0, .int .u8 4, .int .u8 2, .int .u8 1, .int .u8 0, .int .i32 0, .int .u32 0, .int .u8 5, .int .u8 2, .int .u8 1, .int .u8 0, .int .i32 0, .int .u32 0, .int .u8 22, .int .u8 0, .int .u8 1, .int .u8 0, .int .i32 0, .int .u32 7] 60)).alloc (.cells #[.int .u8 (op : Int), .int .u8 (a : Int), .int .u8 (bb : Int), .int .u8 (cc : Int), .int .i32 n, .int .u32 (m : Int)] 60)).alloc (.cells #[.int .u8 2, .int .u8 1, .int .u8 0, .int .u8 0, .int .i32 0, .int .u32 0, .int .u8 (op : Int), .int .u8 (a : Int), .int .u8 (bb : Int), .int .u8 (cc : Int), .int .i32 n, .int .u32 (m : Int)] 60)).heap.size = w1.heap.size + 3 := by simp
  have z2 : ((w1.alloc (.cells #[.int .u8 19, .int .u8 1, .int .u8 0, .int .u8 0, .int .i32 2, .int .u32 0, .int .u8 4, .int .u8 2, .int .u8 1, .int .u8 0, .int .i32 0, .int .u32 0, .int .u8 5, .int .u8 2, .int .u8 1, .int .u8 0, .int .i32 0, .int .u32 0, .int .u8 22, .int .u8 0, .int .u8 1, .int .u8 0, .int .i32 0, .int .u32 7] 60)).alloc (.cells #[.int .u8 (op : Int), .int .u8 (a : Int), .int .u8 (bb : Int), .int .u8 (cc : Int), .int .i32 n, .int .u32 (m : Int)] 60)).heap.size = w1.heap.size + 2 := by simp
  have z1 : (w1.alloc (.cells #[.int .u8 19, .int .u8 1, .int .u8 0, .int .u8 0, .int .i32 2, .int .u32 0, .int .u8 4, .int .u8 2, .int .u8 1, .int .u8 0, .int .i32 0, .int .u32 0, .int .u8 5, .int .u8 2, .int .u8 1, .int .u8 0, .int .i32 0, .int .u32 0, .int .u8 22, .int .u8 0, .int .u8 1, .int .u8 0, .int .i32 0, .int .u32 7] 60)).heap.size = w1.heap.size + 1 := by simp
  have b3 := (((hb1.alloc hb1.size (.cells #[.int .u8 19, .int .u8 1, .int .u8 0, .int .u8 0, .int .i32 2, .int .u32 0, .int .u8 4, .int .u8 2, .int .u8 1, .int .u8 0, .int .i32 0, .int .u32 0, .int .u8 5, .int .u8 2, .int .u8 1, .int .u8 0, .int .i32 0, .int .u32 0, .int .u8 22, .int .u8 0, .int .u8 1, .int .u8 0, .int .i32 0, .int .u32 7] 60)).alloc (by rw [z1]; have := hb1.size; omega) (.cells #[.int .u8 (op : Int), .int .u8 (a : Int), .int .u8 (bb : Int), .int .u8 (cc : Int), .int .i32 n, .int .u32 (m : Int)] 60)).alloc (by rw [z2]; have := hb1.size; omega) (.cells #[.int .u8 2, .int .u8 1, .int .u8 0, .int .u8 0, .int .i32 0, .int .u32 0, .int .u8 (op : Int), .int .u8 (a : Int), .int .u8 (bb : Int), .int .u8 (cc : Int), .int .i32 n, .int .u32 (m : Int)] 60)).alloc (by rw [z3]; have := hb1.size; omega) (.cells #[.int .i32 x, .int .u32 (se : Int), .int .i32 0, .int .u32 7] 38)
  have sc : Sl ((((w1.alloc (.cells #[.int .u8 19, .int .u8 1, .int .u8 0, .int .u8 0, .int .i32 2, .int .u32 0, .int .u8 4, .int .u8 2, .int .u8 1, .int .u8 0, .int .i32 0, .int .u32 0, .int .u8 5, .int .u8 2, .int .u8 1, .int .u8 0, .int .i32 0, .int .u32 0, .int .u8 22, .int .u8 0, .int .u8 1, .int .u8 0, .int .i32 0, .int .u32 7] 60)).alloc (.cells #[.int .u8 (op : Int), .int .u8 (a : Int), .int .u8 (bb : Int), .int .u8 (cc : Int), .int .i32 n, .int .u32 (m : Int)] 60)).alloc (.cells #[.int .u8 2, .int .u8 1, .int .u8 0, .int .u8 0, .int .i32 0, .int .u32 0, .int .u8 (op : Int), .int .u8 (a : Int), .int .u8 (bb : Int), .int .u8 (cc : Int), .int .i32 n, .int .u32 (m : Int)] 60)).alloc (.cells #[.int .i32 x, .int .u32 (se : Int), .int .i32 0, .int .u32 7] 38)) (w1.heap.size + 2) (some ⟨w1.heap.size + 2, 0, none⟩) (kv (PT ⟨op, a, bb, cc, n, m⟩).code) := by
    have h := kv_new ((w1.alloc (.cells #[.int .u8 19, .int .u8 1, .int .u8 0, .int .u8 0, .int .i32 2, .int .u32 0, .int .u8 4, .int .u8 2, .int .u8 1, .int .u8 0, .int .i32 0, .int .u32 0, .int .u8 5, .int .u8 2, .int .u8 1, .int .u8 0, .int .i32 0, .int .u32 0, .int .u8 22, .int .u8 0, .int .u8 1, .int .u8 0, .int .i32 0, .int .u32 7] 60)).alloc (.cells #[.int .u8 (op : Int), .int .u8 (a : Int), .int .u8 (bb : Int), .int .u8 (cc : Int), .int .i32 n, .int .u32 (m : Int)] 60)) (PT ⟨op, a, bb, cc, n, m⟩).code (.cells #[.int .i32 x, .int .u32 (se : Int), .int .i32 0, .int .u32 7] 38) 60
    rw [z2] at h
    exact h
  have hNa := hNa (((w1.alloc (.cells #[.int .u8 19, .int .u8 1, .int .u8 0, .int .u8 0, .int .i32 2, .int .u32 0, .int .u8 4, .int .u8 2, .int .u8 1, .int .u8 0, .int .i32 0, .int .u32 0, .int .u8 5, .int .u8 2, .int .u8 1, .int .u8 0, .int .i32 0, .int .u32 0, .int .u8 22, .int .u8 0, .int .u8 1, .int .u8 0, .int .i32 0, .int .u32 7] 60)).alloc (.cells #[.int .u8 (op : Int), .int .u8 (a : Int), .int .u8 (bb : Int), .int .u8 (cc : Int), .int .i32 n, .int .u32 (m : Int)] 60)).alloc (.cells #[.int .u8 2, .int .u8 1, .int .u8 0, .int .u8 0, .int .i32 0, .int .u32 0, .int .u8 (op : Int), .int .u8 (a : Int), .int .u8 (bb : Int), .int .u8 (cc : Int), .int .i32 n, .int .u32 (m : Int)] 60))
  rw [z3] at hNa
  go_wp2_with fail
  refine hNa.mono ?_
  rintro e w2 ⟨rfl, h2⟩
  have l1 := BoxL.new_ w2 La
  have b4 := b3.trans (h2.mono b3.size)
  have b4 := (b4.alloc b4.size (.cells (bdL La) 44)).alloc (by simp; have := b4.size; omega) (.cells #[.int .i32 y, .int .u32 (se : Int), .int .i32 0, .int .u32 7] 38)
  have t4 := ((t1.ext h2).ext (below_alloc1 _ (.cells (bdL La) 44))).ext (below_alloc1 _ (.cells #[.int .i32 y, .int .u32 (se : Int), .int .i32 0, .int .u32 7] 38))
  have sc4 := Sl.ext (Sl.ext (Sl.ext sc h2) (below_alloc1 _ (.cells (bdL La) 44))) (below_alloc1 _ (.cells #[.int .i32 y, .int .u32 (se : Int), .int .i32 0, .int .u32 7] 38))
  obtain ⟨Ga, hGa⟩ : ∃ Ga, Ga = w2.heap.size := ⟨_, rfl⟩
  rw [← hGa] at l1
  have HGa := Lib.hid hGa.symm
  have za : (w2.alloc (.cells (bdL La) 44)).heap.size = Ga + 1 := by rw [hGa]; simp
  have hNb := hNb (w2.alloc (.cells (bdL La) 44))
  rw [za] at hNb
  have hcl : w1.heap.size + 2 < Ga := by rw [hGa]; have h5 := Sl.lt (Sl.ext sc h2) (by intro h; have := congrArg List.length h; simp [PT] at this); omega
  clear hNa b3 t1 sc h2 k0 k1 k2 k3 k4 k5 z1 z2 z3 hGa za
  go_wp2_with (first | ((with_reducible refine at_al 44 12 ?_); refine wpList_al rfl rfl (some 12) rfl Ga HGa.out ?_) | ((with_reducible refine at_st 44 12 39 ?_); refine wpList_put rfl (.tmp 12) (.tmp 39) rfl HGa.out La rfl rfl ?_))
  rw [HGa.out]
  refine hNb.mono ?_
  rintro e w3 ⟨rfl, h3⟩
  have l2 := (BoxL.alloc l1 (.cells #[.int .i32 y, .int .u32 (se : Int), .int .i32 0, .int .u32 7] 38)).ext h3
  have l2 := l2.alloc (.cells (bdL Lb) 44)
  have m2 := BoxL.new_ w3 Lb
  have b5 := b4.trans (h3.mono b4.size)
  have b5 := (b5.alloc b5.size (.cells (bdL Lb) 44)).alloc (by simp; have := b5.size; omega) (.cells #[.int .i32 0] 21)
  have t5 := ((t4.ext h3).ext (below_alloc1 _ (.cells (bdL Lb) 44))).ext (below_alloc1 _ (.cells #[.int .i32 0] 21))
  have sc5 := Sl.ext (Sl.ext (Sl.ext sc4 h3) (below_alloc1 _ (.cells (bdL Lb) 44))) (below_alloc1 _ (.cells #[.int .i32 0] 21))
  obtain ⟨Gb, hGb⟩ : ∃ Gb, Gb = w3.heap.size := ⟨_, rfl⟩
  rw [← hGb] at m2
  have HGb := Lib.hid hGb.symm
  have zb : (w3.alloc (.cells (bdL Lb) 44)).heap.size = Gb + 1 := by rw [hGb]; simp
  have sm5 : Is ((w3.alloc (.cells (bdL Lb) 44)).alloc (.cells #[.int .i32 0] 21)) (Gb + 1) (some ⟨Gb + 1, 0, none⟩) [0] := by
    have h := sl_new (w3.alloc (.cells (bdL Lb) 44)) (iv [0]) 21
    rw [zb] at h
    exact h
  have zc : ((w3.alloc (.cells (bdL Lb) 44)).alloc (.cells #[.int .i32 0] 21)).heap.size = Gb + 2 := by rw [hGb]; simp
  have hgb : Ga < Gb := by rw [hGb]; have := h3.size; rw [World.size_alloc, World.size_alloc, HGa.out] at this; omega
  clear hNb b4 t4 sc4 h3 l1 hGb zb
  go_wp2_with (first | ((with_reducible refine at_al 44 14 ?_); refine wpList_al rfl rfl (some 14) rfl Gb HGb.out ?_) | ((with_reducible refine at_st 44 14 48 ?_); refine wpList_put rfl (.tmp 14) (.tmp 48) rfl HGb.out Lb rfl rfl ?_) | ((with_reducible refine at_ld 44 12 ?_); refine wpList_ld (by first | rfl | simp [Region.wanted, yielded]) (.tmp 12) rfl Ga rfl La l2 ?_))
  rw [HGb.out]
  have l3 := l2.alloc (.cells #[.int .i32 0] 21)
  have m3 := m2.alloc (.cells #[.int .i32 0] 21)
  obtain ⟨wz, hwz⟩ : ∃ wz, wz = (w3.alloc (.cells (bdL Lb) 44)).alloc (.cells #[.int .i32 0] 21) := ⟨_, rfl⟩
  rw [← hwz] at l3 m3 b5 t5 sc5 sm5 zc ⊢
  have okc : okK (PT ⟨op, a, bb, cc, n, m⟩).code := by intro c hc; simp only [PT, List.mem_cons, List.not_mem_nil, or_false] at hc; rcases hc with rfl | rfl; exact ok_cd (by decide) (by decide) (by decide) (by decide) (by decide) (by decide) (by decide); exact OK.out
  have okm : ∀ v ∈ (PT ⟨op, a, bb, cc, n, m⟩).mv, -2147483648 ≤ v ∧ v ≤ 2147483647 := by intro v hv; simp only [PT, List.mem_cons, List.not_mem_nil, or_false] at hv; rw [hv]; exact ⟨by decide, by decide⟩
  have hR1 : Calls Tryd.prog 21 #[.slice (some ⟨w1.heap.size + 1 + 1, 0, none⟩) 2 2, .agg (bdL La), .agg #[.int .u64 0], .slice (some ⟨Gb + 1, 0, none⟩) 1 1, .int .u32 1, .int .u32 7] wz fun e w' => ∃ sh, e = .returned (.agg (resA sh (wholeV compN (PT ⟨op, a, bb, cc, n, m⟩) La 0))) ∧ RowS w' wz.heap.size sh (wholeV compN (PT ⟨op, a, bb, cc, n, m⟩) La 0).sh ∧ Below wz.heap.size wz w' :=
    Run_calls compN comp_ok comp_fit (PT ⟨op, a, bb, cc, n, m⟩) _ 2 (w1.heap.size + 2) _ 1 (Gb + 1) La 0 wz ⟨sc5, sm5, okc, (by show 2 ≤ maxLen; decide), (by show 1 ≤ 100; decide), okm, lA, OA.out, (by show 7 < 4294967296; decide), t5, by omega, by omega⟩
  rw [← H1.out] at hR1
  have OKC := Lib.hid okc
  have OKM := Lib.hid okm
  clear hwz l2 m2 okc okm
  refine hR1.mono ?_
  rintro e w4 ⟨sh1, rfl, hSh1, h4⟩
  have hone1 := rowS_one hSh1
  have r1 := BoxR.new_ w4 sh1 F1
  have l4 := (l3.ext h4).alloc (.cells (resA sh1 F1) 50)
  have m4 := (m3.ext h4).alloc (.cells (resA sh1 F1) 50)
  have b6 := b5.trans (h4.mono b5.size)
  have b6 := (b6.alloc b6.size (.cells (resA sh1 F1) 50)).alloc (by simp; have := b6.size; omega) (.cells #[.int .i32 0] 21)
  have t6 := ((t5.ext h4).ext (below_alloc1 _ (.cells (resA sh1 F1) 50))).ext (below_alloc1 _ (.cells #[.int .i32 0] 21))
  have sc6 := Sl.ext (Sl.ext (Sl.ext sc5 h4) (below_alloc1 _ (.cells (resA sh1 F1) 50))) (below_alloc1 _ (.cells #[.int .i32 0] 21))
  obtain ⟨K1, hK1⟩ : ∃ K1, K1 = w4.heap.size := ⟨_, rfl⟩
  rw [← hK1] at r1
  have HK1 := Lib.hid hK1.symm
  have zd : (w4.alloc (.cells (resA sh1 F1) 50)).heap.size = K1 + 1 := by rw [hK1]; simp
  have sm6 : Is ((w4.alloc (.cells (resA sh1 F1) 50)).alloc (.cells #[.int .i32 0] 21)) (K1 + 1) (some ⟨K1 + 1, 0, none⟩) [0] := by
    have h := sl_new (w4.alloc (.cells (resA sh1 F1) 50)) (iv [0]) 21
    rw [zd] at h
    exact h
  have ze : ((w4.alloc (.cells (resA sh1 F1) 50)).alloc (.cells #[.int .i32 0] 21)).heap.size = K1 + 2 := by rw [hK1]; simp
  have hk1 : Gb + 2 ≤ K1 := by rw [hK1, ← zc]; exact h4.size
  clear hR1 b5 t5 sc5 sm5 h4 l3 m3 hSh1 zd hK1 zc
  go_wp2_with (first | ((with_reducible refine at_al 50 16 ?_); refine wpList_alR rfl rfl (some 16) rfl K1 HK1.out ?_) | ((with_reducible refine at_st 50 16 55 ?_); refine wpList_putR rfl (.tmp 16) (.tmp 55) rfl HK1.out sh1 F1 hone1 rfl rfl ?_) | ((with_reducible refine at_ld 44 14 ?_); refine wpList_ld (by first | rfl | simp [Region.wanted, yielded]) (.tmp 14) rfl Gb rfl Lb m4 ?_))
  rw [HK1.out]
  have l5 := l4.alloc (.cells #[.int .i32 0] 21)
  have m5 := m4.alloc (.cells #[.int .i32 0] 21)
  have r5 := r1.al (.cells #[.int .i32 0] 21)
  obtain ⟨wy, hwy⟩ : ∃ wy, wy = (w4.alloc (.cells (resA sh1 F1) 50)).alloc (.cells #[.int .i32 0] 21) := ⟨_, rfl⟩
  rw [← hwy] at l5 m5 r5 b6 t6 sc6 sm6 ze ⊢
  have hR2 : Calls Tryd.prog 21 #[.slice (some ⟨w1.heap.size + 1 + 1, 0, none⟩) 2 2, .agg (bdL Lb), .agg #[.int .u64 0], .slice (some ⟨K1 + 1, 0, none⟩) 1 1, .int .u32 1, .int .u32 7] wy fun e w' => ∃ sh, e = .returned (.agg (resA sh (wholeV compN (PT ⟨op, a, bb, cc, n, m⟩) Lb 0))) ∧ RowS w' wy.heap.size sh (wholeV compN (PT ⟨op, a, bb, cc, n, m⟩) Lb 0).sh ∧ Below wy.heap.size wy w' :=
    Run_calls compN comp_ok comp_fit (PT ⟨op, a, bb, cc, n, m⟩) _ 2 (w1.heap.size + 2) _ 1 (K1 + 1) Lb 0 wy ⟨sc6, sm6, OKC.out, (by show 2 ≤ maxLen; decide), (by show 1 ≤ 100; decide), OKM.out, lB, OB.out, (by show 7 < 4294967296; decide), t6, by omega, by omega⟩
  rw [← H2.out] at hR2
  clear hwy l4 m4 r1
  refine hR2.mono ?_
  rintro e w5 ⟨sh2, rfl, hSh2, h5⟩
  have hone2 := rowS_one hSh2
  have r2 := BoxR.new_ w5 sh2 F2
  have r6 := (r5.ext h5).al (.cells (resA sh2 F2) 50)
  have l6 := (l5.ext h5).alloc (.cells (resA sh2 F2) 50)
  have m6 := (m5.ext h5).alloc (.cells (resA sh2 F2) 50)
  have b7 := b6.trans (h5.mono b6.size)
  have b7 := b7.alloc b7.size (.cells (resA sh2 F2) 50)
  obtain ⟨K2, hK2⟩ : ∃ K2, K2 = w5.heap.size := ⟨_, rfl⟩
  rw [← hK2] at r2
  have HK2 := Lib.hid hK2.symm
  have a1 := r6.cE
  have a2 := r6.cU
  have c1 := r2.cE
  have c2 := r2.cU
  clear hR2 b6 t6 sc6 sm6 h5 l5 m5 r5 hSh2 hK2 ze
  obtain ⟨d, hd⟩ : ∃ d, d = decide (lessN 7 se = 0) := ⟨_, rfl⟩
  rw [← hd] at hWi
  cases d with
  | false =>
    have hne : lessN 7 se ≠ 0 := by simpa using hd.symm
    obtain ⟨f1, f2, f3⟩ := HS1.out.1 hne
    obtain ⟨g1, g2, g3⟩ := HS2.out.1 hne
    rw [f1] at a1
    rw [f2] at a2
    rw [g1] at c1
    rw [g2] at c2
    have F3 := Lib.hid f3
    have G3 := Lib.hid g3
    have fl : F1.L.length ≤ 48 := by rw [f3]; exact lA
    have gl : F2.L.length ≤ 48 := by rw [g3]; exact lB
    clear hd hne f1 f2 f3 g1 g2 g3
    go_wp2_with (first | ((with_reducible refine at_al 50 17 ?_); refine wpList_alR rfl rfl (some 17) rfl K2 HK2.out ?_) | ((with_reducible refine at_st 50 17 61 ?_); refine wpList_putR rfl (.tmp 17) (.tmp 61) rfl HK2.out sh2 F2 hone2 rfl rfl ?_))
    refine (hWi _).mono ?_
    rintro e w6 ⟨rfl, rfl⟩
    clear hWi
    go_wp2_with (first | ((with_reducible refine at_ld 44 12 ?_); refine wpList_ld (by first | rfl | simp [Region.wanted, yielded]) (.tmp 12) rfl Ga rfl La l6 ?_) | ((with_reducible refine at_ld 44 14 ?_); refine wpList_ld (by first | rfl | simp [Region.wanted, yielded]) (.tmp 14) rfl Gb rfl Lb m6 ?_) | ((with_reducible refine at_ld 44 75 ?_); refine wpList_ldRBw (by first | rfl | simp [Region.wanted, yielded]) (.tmp 75) rfl K1 rfl r6 ?_) | ((with_reducible refine at_ld 44 81 ?_); refine wpList_ldRBw (by first | rfl | simp [Region.wanted, yielded]) (.tmp 81) rfl K2 rfl r2 ?_) | ((with_reducible refine at_bi 78 .eql 44 44 _ _ ?_); refine wpList_eql_bd (by first | rfl | simp [Region.wanted, yielded]) (.tmp 76) (.tmp 77) rfl F1.L La rfl rfl fl true (by rw [F3.out]; simp) ?_) | ((with_reducible refine at_bi 84 .eql 44 44 _ _ ?_); refine wpList_eql_bd (by first | rfl | simp [Region.wanted, yielded]) (.tmp 82) (.tmp 83) rfl F2.L Lb rfl rfl gl true (by rw [G3.out]; simp) ?_))
    go_ret
    exact ⟨rfl, b7⟩
  | true =>
    have hz : lessN 7 se = 0 := by simpa using hd.symm
    have hs2 := HS1.out.2.1 hz
    have hs3 := HS1.out.2.2 hz
    clear hd hz
    go_wp2_with (first | ((with_reducible refine at_al 50 17 ?_); refine wpList_alR rfl rfl (some 17) rfl K2 HK2.out ?_) | ((with_reducible refine at_st 50 17 61 ?_); refine wpList_putR rfl (.tmp 17) (.tmp 61) rfl HK2.out sh2 F2 hone2 rfl rfl ?_))
    refine (hWi _).mono ?_
    rintro e w6 ⟨rfl, rfl⟩
    clear hWi
    by_cases hq0 : 0 < q
    · have e0 : decide (0 < (q : Int)) = true := by simp; omega
      by_cases hn : x < 0
      · have f1 := hs2 hq0 (.inl hn)
        rw [f1] at a1
        have e1 : decide (x < 0) = true := by simp; omega
        clear hs2 hs3 f1
        go_wp2_with fail
        go_ret
        exact ⟨rfl, b7⟩
      · have e1 : decide (x < 0) = false := by simp; omega
        by_cases h1 : 1 < x
        · have f1 := hs2 hq0 (.inr h1)
          rw [f1] at a1
          have e2 : decide (1 < x) = true := by simp; omega
          clear hs2 hs3 f1
          go_wp2_with fail
          go_ret
          exact ⟨rfl, b7⟩
        · have f1 := hs3 (by omega)
          rw [f1] at a1
          have e2 : decide (1 < x) = false := by simp; omega
          clear hs2 hs3 f1
          go_wp2_with fail
          go_ret
          exact ⟨rfl, b7⟩
    · have f1 := hs3 (by omega)
      rw [f1] at a1
      have e0 : decide (0 < (q : Int)) = false := by simp; omega
      clear hs2 hs3 f1
      go_wp2_with fail
      go_ret
      exact ⟨rfl, b7⟩
end Go.Proofs.YtpgnihfjccpneaaDoor
