/- The reference's Parse: as said plainly. Conditions: the lengths fit. -/
import Derived.Test.YtbkimknfhpbcfaaFrX
import Derived.Test.YtbkimknfhpbcfaaFrT
import Derived.Test.YtbkimknfhpbcfaaRefCut
namespace Go.Proofs.Ytbkimknfhpbcfaa
open Go.RowKit
set_option linter.unusedVariables false

theorem Bs.mid {w : World} {b off : Nat} {l : List UInt8} (h : Bs w b (some ⟨b, off, none⟩) l) (i j : Nat) : Bs w b (some ⟨b, off + i, none⟩) ((l.drop i).take j) := by
  have hd : Bs w b (some ⟨b, off + i, none⟩) (l.drop i) := fun hne => by
    have hl : l ≠ [] := by rintro rfl; simp at hne
    obtain ⟨o2, e, hc⟩ := h (by rw [ne_eq, bv_nil_iff]; exact hl)
    injection e with e
    injection e with _ e _
    subst e
    refine ⟨_, rfl, fun k u hu => ?_⟩
    rw [Nat.add_assoc]
    exact hc (i + k) u (by rw [← hu, ← bv_drop, List.getElem?_drop])
  have := Sl.take hd j
  rwa [bv_take] at this
set_option maxHeartbeats 16000000 in
set_option maxRecDepth 20000 in
theorem RParse_calls (A : Option Addr) (l : List UInt8) (n c b : Nat) (w : World) (hs : Bs w b A l) (hn : l.length = n) (hc : n ≤ c) (h2 : n ≤ 1000000) (R : Fr × Nat) (hR : R = rparseF l) :
    Calls Try.prog 21 #[.slice A n c] w fun e w' => ∃ A' c' b', e = .returned (.tuple #[.agg (R.1.cells A' c'), .int .i64 (R.2 : Int)]) ∧ Bs w' b' A' R.1.data ∧ w.heap.size ≤ b' ∧ Below w.heap.size w w' := by
  have q : (w.alloc (.cells #[.int .u16 0, .int .u16 0, .int .u16 0, .int .u32 0, .bool false, .bool false, .bool false, .slice none 0 0] 35)).heap[w.heap.size]? = some (.cells #[.int .u16 0, .int .u16 0, .int .u16 0, .int .u32 0, .bool false, .bool false, .bool false, .slice none 0 0] 35 (0, 0)) := heap_alloc_new w _
  have hb := below_alloc1 w (.cells #[.int .u16 0, .int .u16 0, .int .u16 0, .int .u32 0, .bool false, .bool false, .bool false, .slice none 0 0] 35)
  replace hs := Sl.ext hs hb
  have HR := Lib.hid hR
  have HN := Lib.hid hn
  clear hR
  obtain ⟨a0, a1, a2, a3, a4, a5, a6, a7⟩ := box8_all q
  have hfz := fun j => frozen_of_row _ w.heap.size j _ _ q
  by_cases h4 : n < 4
  · have h4' : (n : Int) < 4 := by omega
    clear hn
    go_enter Try.func21, Try.ntmps21
    go_wp2_with fail
    refine bodyPost_ret (results_ct (P := Try.prog) rfl _ _ w.heap.size _ _ (0, 0) _ rfl q Try.underlying35 rfl (by kernel_rfl)) rfl ?_
    have hR : R = (zFr, 2) := by rw [HR.out]; have h0 := HN.out; unfold rparseF; rw [if_pos (by omega)]
    rw [hR]
    exact ⟨none, 0, w.heap.size, rfl, Sl.nil_ _ _ _, Nat.le_refl _, hb⟩
  · obtain ⟨k, hk⟩ : ∃ k, n = k + 4 := ⟨n - 4, by omega⟩
    have HK := Lib.hid hk
    have hO := fun W h => RefOpen_long A l k c b W h (by omega) (by omega) (by omega)
    rw [← hk] at hO
    have h4' : ¬ (n : Int) < 4 := by omega
    clear hn hk
    go_enter Try.func21, Try.ntmps21
    go_wp2_with fail
    obtain ⟨w1, hw1⟩ : ∃ w1, w1 = w.alloc (.cells #[.int .u16 0, .int .u16 0, .int .u16 0, .int .u32 0, .bool false, .bool false, .bool false, .slice none 0 0] 35) := ⟨_, rfl⟩
    rw [← hw1] at q hb hs hfz a0 a1 a2 a3 a4 a5 a6 a7 ⊢
    clear hw1
    replace hO := hO w1 hs
    cases hop : opensB l k with
    | false =>
      rw [hop] at hO
      have HOP := Lib.hid hop
      clear hop
      refine hO.mono ?_
      rintro e w2 ⟨rfl, kd, hw2⟩
      replace q : w2.heap[w.heap.size]? = some (.cells #[.int .u16 0, .int .u16 0, .int .u16 0, .int .u32 0, .bool false, .bool false, .bool false, .slice none 0 0] 35 (0, 0)) := by rw [hw2]; exact q
      replace hb : Below w.heap.size w w2 := by rw [hw2]; exact below_drewN hb kd
      replace hfz : ∀ j, w2.frozen? ⟨w.heap.size, j, none⟩ = false := fun j => frozen_of_row _ w.heap.size j _ _ q
      clear a0 a1 a2 a3 a4 a5 a6 a7 hw2
      obtain ⟨a0, a1, a2, a3, a4, a5, a6, a7⟩ := box8_all q
      go_wp2_with fail
      have hp := put8_heap (w := w2) (.int .u16 0) (.int .u16 0) (.int .u16 0) (.int .u32 0) (.bool false) (.bool false) (.bool false) (.slice none 0 0) q
      have hm := put8_mod w2 w.heap.size (.int .u16 0) (.int .u16 0) (.int .u16 0) (.int .u32 0) (.bool false) (.bool false) (.bool false) (.slice none 0 0)
      refine bodyPost_ret (results_ct (P := Try.prog) rfl _ _ w.heap.size _ _ (0, 0) _ rfl hp Try.underlying35 rfl (by kernel_rfl)) rfl ?_
      have hR : R = (zFr, 5) := by rw [HR.out]; have h0 := HN.out; have h1 := HK.out; unfold rparseF; rw [if_neg (by omega), show l.length - 4 = k by omega, HOP.out, if_pos rfl]
      rw [hR]
      exact ⟨none, 0, w.heap.size, rfl, Sl.nil_ _ _ _, Nat.le_refl _, hb.trans (hm.below hb.size (fun i hi e => by omega))⟩
    | true =>
      rw [hop] at hO
      have HOP := Lib.hid hop
      clear hop
      refine hO.mono ?_
      rintro e w2 ⟨rfl, kd, hw2⟩
      replace q : w2.heap[w.heap.size]? = some (.cells #[.int .u16 0, .int .u16 0, .int .u16 0, .int .u32 0, .bool false, .bool false, .bool false, .slice none 0 0] 35 (0, 0)) := by rw [hw2]; exact q
      replace hb : Below w.heap.size w w2 := by rw [hw2]; exact below_drewN hb kd
      replace hs : Bs w2 b A l := by rw [hw2]; exact hs
      replace hfz : ∀ j, w2.frozen? ⟨w.heap.size, j, none⟩ = false := fun j => frozen_of_row _ w.heap.size j _ _ q
      clear a0 a1 a2 a3 a4 a5 a6 a7 hw2
      obtain ⟨a0, a1, a2, a3, a4, a5, a6, a7⟩ := box8_all q
      by_cases h17 : n < 17
      · have h17' : (n : Int) < 17 := by omega
        go_wp2_with fail
        have hp := put8_heap (w := w2) (.int .u16 0) (.int .u16 0) (.int .u16 0) (.int .u32 0) (.bool false) (.bool false) (.bool false) (.slice none 0 0) q
        have hm := put8_mod w2 w.heap.size (.int .u16 0) (.int .u16 0) (.int .u16 0) (.int .u32 0) (.bool false) (.bool false) (.bool false) (.slice none 0 0)
        refine bodyPost_ret (results_ct (P := Try.prog) rfl _ _ w.heap.size _ _ (0, 0) _ rfl hp Try.underlying35 rfl (by kernel_rfl)) rfl ?_
        have hR : R = (zFr, 2) := by rw [HR.out]; have h0 := HN.out; have h1 := HK.out; unfold rparseF; rw [if_neg (by omega), show l.length - 4 = k by omega, HOP.out, if_neg (by simp), if_pos (by omega)]
        rw [hR]
        exact ⟨none, 0, w.heap.size, rfl, Sl.nil_ _ _ _, Nat.le_refl _, hb.trans (hm.below hb.size (fun i hi e => by omega))⟩
      · have h17' : ¬ (n : Int) < 17 := by omega
        have hll : 11 < l.length := by rw [HN.out]; omega
        obtain ⟨off, rfl, hcb⟩ := Bs.at_ hs hll
        have c11 := hcb 11 hll
        obtain ⟨x, hx⟩ : ∃ x : Nat, x = l[11].toNat := ⟨_, rfl⟩
        have hx8 : x < 256 := by have := l[11].toNat_lt; omega
        rw [← hx] at c11
        have HX := Lib.hid hx
        clear hcb hx
        have hnk : (n : Int) - 4 = (k : Int) := by have := HK.out; omega
        have hk13 : 13 ≤ k := by have := HK.out; omega
        have hkc : k ≤ c := by have := HK.out; omega
        have b1 : (3 : Int) ≤ (c : Int) := by omega
        have b2 : (5 : Int) ≤ (c : Int) := by omega
        have b3 : (7 : Int) ≤ (c : Int) := by omega
        have b4 : (11 : Int) ≤ (c : Int) := by omega
        have b5 : (13 : Int) ≤ (k : Int) := by omega
        have b6 : (k : Int) ≤ (c : Int) := by omega
        have ewk : IntKind.i64.wrap (k : Int) = (k : Int) := IntWalk.i64_in _ (by have := HK.out; omega)
        have hmx : max (k : Int) 0 = (k : Int) := by omega
        have d1 : ¬ c = 1 := by omega
        have d3 : ¬ c = 3 := by omega
        have d5 : ¬ c = 5 := by omega
        have d7 : ¬ c = 7 := by omega
        have d13 : ¬ c = 13 := by omega
        obtain ⟨o1, o2, o3, o4⟩ := candF_ok l
        obtain ⟨v1, hv1⟩ : ∃ v, v = valN ((l.drop 1).take 2) := ⟨_, rfl⟩
        obtain ⟨v2, hv2⟩ : ∃ v, v = valN ((l.drop 3).take 2) := ⟨_, rfl⟩
        obtain ⟨v3, hv3⟩ : ∃ v, v = valN ((l.drop 5).take 2) := ⟨_, rfl⟩
        obtain ⟨v4, hv4⟩ : ∃ v, v = valN ((l.drop 7).take 4) := ⟨_, rfl⟩
        replace o1 : v1 < 65536 := by rw [hv1]; exact o1
        replace o2 : v2 < 65536 := by rw [hv2]; exact o2
        replace o3 : v3 < 65536 := by rw [hv3]; exact o3
        replace o4 : v4 < 4294967296 := by rw [hv4]; exact o4
        have HV := Lib.hid (And.intro hv1 (And.intro hv2 (And.intro hv3 hv4)))
        clear hv1 hv2 hv3 hv4
        have g1 : IntKind.u16.wrap (v1 : Int) = (v1 : Int) := IntWalk.u16_in _ (by omega)
        have g2 : IntKind.u16.wrap (v2 : Int) = (v2 : Int) := IntWalk.u16_in _ (by omega)
        have g3 : IntKind.u16.wrap (v3 : Int) = (v3 : Int) := IntWalk.u16_in _ (by omega)
        have g4 : IntKind.u32.wrap (v4 : Int) = (v4 : Int) := IntWalk.u32_in _ (by omega)
        have x1 : IntKind.u8.wrap ((x : Int) / 2) = ((x / 2 : Nat) : Int) := by rw [IntWalk.u8_in _ (by omega)]; simp
        have x2 : IntKind.u8.wrap ((x : Int) / 4) = ((x / 4 : Nat) : Int) := by rw [IntWalk.u8_in _ (by omega)]; simp
        have tm : ∀ y : Nat, ((y : Int).tmod 2 == 1) = decide (y % 2 = 1) := fun y => by rw [Int.tmod_eq_emod_of_nonneg (by omega), Bool.eq_iff_iff]; simp; omega
        obtain ⟨B1, hB1⟩ : ∃ z, z = decide (x % 2 = 1) := ⟨_, rfl⟩
        obtain ⟨B2, hB2⟩ : ∃ z, z = decide (x / 2 % 2 = 1) := ⟨_, rfl⟩
        obtain ⟨B3, hB3⟩ : ∃ z, z = decide (x / 4 % 2 = 1) := ⟨_, rfl⟩
        have m1 := (tm x).trans hB1.symm
        have m2 := (tm (x / 2)).trans hB2.symm
        have m3 := (tm (x / 4)).trans hB3.symm
        rw [← x1] at m2
        rw [← x2] at m3
        have HBB := Lib.hid (And.intro hB1 (And.intro hB2 hB3))
        clear tm hB1 hB2 hB3 x1 x2
        have hll0 : l ≠ [] := by intro e; rw [e] at hll; simp at hll
        go_wp2_with fail
        refine wp_region_held_drew (S := fun w0 => w.heap.size ≤ w0.heap.size) (by kernel_rfl) ?_ (fun hHeld => ?_)
        · exact hb.size
        obtain ⟨wd2, hwd2⟩ : ∃ wd2, wd2 = World.drew w2 := ⟨_, rfl⟩
        have h9 : Below w2.heap.size w2 wd2 := by rw [hwd2]; exact below_drew (Below.refl _ _)
        rw [← hwd2] at hHeld ⊢
        replace q := box_ext q h9
        replace hs := Sl.ext hs h9
        replace hb := hb.trans (h9.mono hb.size)
        clear h9
        clear hwd2
        refine wpAnyH_take (i := 0) (v := ?vt13) (by simp only [List.getElem?_toArray, List.getElem?_cons_zero]; rfl) (by kernel_rfl) (by kernel_rfl) (by kernel_rfl) (by exact fun _ _ _ h => h) (Or.inl ⟨by kernel_rfl, ?yt13⟩) hHeld ?_
        case yt13 => (intro ww hSw; (try dsimp only at hSw); clear hSw; go_simp; try (with_reducible rfl))
        try simp only [Act.put, List.setIfInBounds_toArray, List.set_cons_zero, List.set_cons_succ]
        refine wpAnyH_take (i := 1) (v := ?vt14) (by simp only [List.getElem?_toArray, List.getElem?_cons_succ, List.getElem?_cons_zero]; rfl) (by kernel_rfl) (by kernel_rfl) (by kernel_rfl) (by exact fun _ _ _ h => h) (Or.inl ⟨by kernel_rfl, ?yt14⟩) hHeld ?_
        case yt14 => (intro ww hSw; (try dsimp only at hSw); clear hSw; go_simp; try (with_reducible rfl))
        try simp only [Act.put, List.setIfInBounds_toArray, List.set_cons_zero, List.set_cons_succ]
        refine wpAnyH_take (i := 4) (v := ?vt15) (by simp only [List.getElem?_toArray, List.getElem?_cons_succ, List.getElem?_cons_zero]; rfl) (by kernel_rfl) (by kernel_rfl) (by kernel_rfl) (by exact fun _ _ _ h => h) (Or.inl ⟨by kernel_rfl, ?yt15⟩) hHeld ?_
        case yt15 => (intro ww hSw; (try dsimp only at hSw); clear hSw; go_simp; try (with_reducible rfl))
        try simp only [Act.put, List.setIfInBounds_toArray, List.set_cons_zero, List.set_cons_succ]
        refine wpAnyH_take (i := 5) (v := ?vt16) (by simp only [List.getElem?_toArray, List.getElem?_cons_succ, List.getElem?_cons_zero]; rfl) (by kernel_rfl) (by kernel_rfl) (by kernel_rfl) (by exact fun _ _ _ h => h) (Or.inl ⟨by kernel_rfl, ?yt16⟩) hHeld ?_
        case yt16 => (intro ww hSw; (try dsimp only at hSw); clear hSw; go_simp; try (with_reducible rfl))
        try simp only [Act.put, List.setIfInBounds_toArray, List.set_cons_zero, List.set_cons_succ]
        refine wpAnyH_take (i := 8) (v := ?vt17) (by simp only [List.getElem?_toArray, List.getElem?_cons_succ, List.getElem?_cons_zero]; rfl) (by kernel_rfl) (by kernel_rfl) (by kernel_rfl) (by exact fun _ _ _ h => h) (Or.inl ⟨by kernel_rfl, ?yt17⟩) hHeld ?_
        case yt17 => (intro ww hSw; (try dsimp only at hSw); clear hSw; go_simp; try (with_reducible rfl))
        try simp only [Act.put, List.setIfInBounds_toArray, List.set_cons_zero, List.set_cons_succ]
        refine wpAnyH_take (i := 9) (v := ?vt18) (by simp only [List.getElem?_toArray, List.getElem?_cons_succ, List.getElem?_cons_zero]; rfl) (by kernel_rfl) (by kernel_rfl) (by kernel_rfl) (by exact fun _ _ _ h => h) (Or.inl ⟨by kernel_rfl, ?yt18⟩) hHeld ?_
        case yt18 => (intro ww hSw; (try dsimp only at hSw); clear hSw; go_simp; try (with_reducible rfl))
        try simp only [Act.put, List.setIfInBounds_toArray, List.set_cons_zero, List.set_cons_succ]
        refine wpAnyH_take (i := 12) (v := ?vt19) (by simp only [List.getElem?_toArray, List.getElem?_cons_succ, List.getElem?_cons_zero]; rfl) (by kernel_rfl) (by kernel_rfl) (by kernel_rfl) (by exact fun _ _ _ h => h) (Or.inl ⟨by kernel_rfl, ?yt19⟩) hHeld ?_
        case yt19 => (intro ww hSw; (try dsimp only at hSw); clear hSw; go_simp; try (with_reducible rfl))
        try simp only [Act.put, List.setIfInBounds_toArray, List.set_cons_zero, List.set_cons_succ]
        refine wpAnyH_take (i := 13) (v := ?vt110) (by simp only [List.getElem?_toArray, List.getElem?_cons_succ, List.getElem?_cons_zero]; rfl) (by kernel_rfl) (by kernel_rfl) (by kernel_rfl) (by exact fun _ _ _ h => h) (Or.inl ⟨by kernel_rfl, ?yt110⟩) hHeld ?_
        case yt110 => (intro ww hSw; (try dsimp only at hSw); clear hSw; go_simp; try (with_reducible rfl))
        try simp only [Act.put, List.setIfInBounds_toArray, List.set_cons_zero, List.set_cons_succ]
        refine wpAnyH_take (i := 16) (v := ?vt111) (by simp only [List.getElem?_toArray, List.getElem?_cons_succ, List.getElem?_cons_zero]; rfl) (by kernel_rfl) (by kernel_rfl) (by kernel_rfl) (by exact fun _ _ _ h => h) (Or.inl ⟨by kernel_rfl, ?yt111⟩) hHeld ?_
        case yt111 => (intro ww hSw; (try dsimp only at hSw); clear hSw; go_simp; try (with_reducible rfl))
        try simp only [Act.put, List.setIfInBounds_toArray, List.set_cons_zero, List.set_cons_succ]
        refine wpAnyH_take (i := 17) (v := ?vt112) (by simp only [List.getElem?_toArray, List.getElem?_cons_succ, List.getElem?_cons_zero]; rfl) (by kernel_rfl) (by kernel_rfl) (by kernel_rfl) (by exact fun _ _ _ h => h) (Or.inl ⟨by kernel_rfl, ?yt112⟩) hHeld ?_
        case yt112 => (intro ww hSw; (try dsimp only at hSw); clear hSw; go_simp; try (with_reducible rfl))
        try simp only [Act.put, List.setIfInBounds_toArray, List.set_cons_zero, List.set_cons_succ]
        refine wpAnyH_take (i := 18) (v := ?vt113) (by simp only [List.getElem?_toArray, List.getElem?_cons_succ, List.getElem?_cons_zero]; rfl) (by kernel_rfl) (by kernel_rfl) (by kernel_rfl) (by exact fun _ _ _ h => h) (Or.inl ⟨by kernel_rfl, ?yt113⟩) hHeld ?_
        case yt113 => (intro ww hSw; (try dsimp only at hSw); clear hSw; go_simp; try (with_reducible rfl))
        try simp only [Act.put, List.setIfInBounds_toArray, List.set_cons_zero, List.set_cons_succ]
        refine wpAnyH_take (i := 19) (v := ?vt114) (by simp only [List.getElem?_toArray, List.getElem?_cons_succ, List.getElem?_cons_zero]; rfl) (by kernel_rfl) (by kernel_rfl) (by kernel_rfl) (by exact fun _ _ _ h => h) (Or.inl ⟨by kernel_rfl, ?yt114⟩) hHeld ?_
        case yt114 => (intro ww hSw; (try dsimp only at hSw); clear hSw; go_simp; try (with_reducible rfl))
        try simp only [Act.put, List.setIfInBounds_toArray, List.set_cons_zero, List.set_cons_succ]
        refine wpAnyH_take (i := 20) (v := ?vt115) (by simp only [List.getElem?_toArray, List.getElem?_cons_succ, List.getElem?_cons_zero]; rfl) (by kernel_rfl) (by kernel_rfl) (by kernel_rfl) (by exact fun _ _ _ h => h) (Or.inl ⟨by kernel_rfl, ?yt115⟩) hHeld ?_
        case yt115 => (intro ww hSw; (try dsimp only at hSw); clear hSw; go_simp; try (with_reducible rfl))
        try simp only [Act.put, List.setIfInBounds_toArray, List.set_cons_zero, List.set_cons_succ]
        refine wpAnyH_take (i := 21) (v := ?vt116) (by simp only [List.getElem?_toArray, List.getElem?_cons_succ, List.getElem?_cons_zero]; rfl) (by kernel_rfl) (by kernel_rfl) (by kernel_rfl) (by exact fun _ _ _ h => h) (Or.inl ⟨by kernel_rfl, ?yt116⟩) hHeld ?_
        case yt116 => (intro ww hSw; (try dsimp only at hSw); clear hSw; go_simp; try (with_reducible rfl))
        try simp only [Act.put, List.setIfInBounds_toArray, List.set_cons_zero, List.set_cons_succ]
        refine wpAnyH_take (i := 22) (v := ?vt117) (by simp only [List.getElem?_toArray, List.getElem?_cons_succ, List.getElem?_cons_zero]; rfl) (by kernel_rfl) (by kernel_rfl) (by kernel_rfl) (by exact fun _ _ _ h => h) (Or.inl ⟨by kernel_rfl, ?yt117⟩) hHeld ?_
        case yt117 => (intro ww hSw; (try dsimp only at hSw); clear hSw; go_simp; try (with_reducible rfl))
        try simp only [Act.put, List.setIfInBounds_toArray, List.set_cons_zero, List.set_cons_succ]
        refine wpAnyH_take (i := 23) (v := ?vt118) (by simp only [List.getElem?_toArray, List.getElem?_cons_succ, List.getElem?_cons_zero]; rfl) (by kernel_rfl) (by kernel_rfl) (by kernel_rfl) (by exact fun _ _ _ h => h) (Or.inl ⟨by kernel_rfl, ?yt118⟩) hHeld ?_
        case yt118 => (intro ww hSw; (try dsimp only at hSw); clear hSw; go_simp; try (with_reducible rfl))
        try simp only [Act.put, List.setIfInBounds_toArray, List.set_cons_zero, List.set_cons_succ]
        refine wpAnyH_take (i := 24) (v := ?vt119) (by simp only [List.getElem?_toArray, List.getElem?_cons_succ, List.getElem?_cons_zero]; rfl) (by kernel_rfl) (by kernel_rfl) (by kernel_rfl) (by exact fun _ _ _ h => h) (Or.inl ⟨by kernel_rfl, ?yt119⟩) hHeld ?_
        case yt119 => (intro ww hSw; (try dsimp only at hSw); clear hSw; go_simp; try (with_reducible rfl))
        try simp only [Act.put, List.setIfInBounds_toArray, List.set_cons_zero, List.set_cons_succ]
        refine wpAnyH_take (i := 25) (v := ?vt120) (by simp only [List.getElem?_toArray, List.getElem?_cons_succ, List.getElem?_cons_zero]; rfl) (by kernel_rfl) (by kernel_rfl) (by kernel_rfl) (by exact fun _ _ _ h => h) (Or.inl ⟨by kernel_rfl, ?yt120⟩) hHeld ?_
        case yt120 => (intro ww hSw; (try dsimp only at hSw); clear hSw; go_simp; try (with_reducible rfl))
        try simp only [Act.put, List.setIfInBounds_toArray, List.set_cons_zero, List.set_cons_succ]
        refine wpAnyH_take (i := 26) (v := ?vt121) (by simp only [List.getElem?_toArray, List.getElem?_cons_succ, List.getElem?_cons_zero]; rfl) (by kernel_rfl) (by kernel_rfl) (by kernel_rfl) (by exact fun _ _ _ h => h) (Or.inl ⟨by kernel_rfl, ?yt121⟩) hHeld ?_
        case yt121 => (intro ww hSw; (try dsimp only at hSw); clear hSw; go_simp; try (with_reducible rfl))
        try simp only [Act.put, List.setIfInBounds_toArray, List.set_cons_zero, List.set_cons_succ]
        refine wpAnyH_take (i := 27) (v := ?vt122) (by simp only [List.getElem?_toArray, List.getElem?_cons_succ, List.getElem?_cons_zero]; rfl) (by kernel_rfl) (by kernel_rfl) (by kernel_rfl) (by exact fun _ _ _ h => h) (Or.inl ⟨by kernel_rfl, ?yt122⟩) hHeld ?_
        case yt122 => (intro ww hSw; (try dsimp only at hSw); clear hSw; go_simp; try (with_reducible rfl))
        try simp only [Act.put, List.setIfInBounds_toArray, List.set_cons_zero, List.set_cons_succ]
        refine wpAnyH_take (i := 28) (v := ?vt123) (by simp only [List.getElem?_toArray, List.getElem?_cons_succ, List.getElem?_cons_zero]; rfl) (by kernel_rfl) (by kernel_rfl) (by kernel_rfl) (by exact fun _ _ _ h => h) (Or.inl ⟨by kernel_rfl, ?yt123⟩) hHeld ?_
        case yt123 => (intro ww hSw; (try dsimp only at hSw); clear hSw; go_simp; try (with_reducible rfl))
        try simp only [Act.put, List.setIfInBounds_toArray, List.set_cons_zero, List.set_cons_succ]
        refine wpAnyH_take (i := 29) (v := ?vt124) (by simp only [List.getElem?_toArray, List.getElem?_cons_succ, List.getElem?_cons_zero]; rfl) (by kernel_rfl) (by kernel_rfl) (by kernel_rfl) (by exact fun _ _ _ h => h) (Or.inl ⟨by kernel_rfl, ?yt124⟩) hHeld ?_
        case yt124 => (intro ww hSw; (try dsimp only at hSw); clear hSw; go_simp; try (with_reducible rfl))
        try simp only [Act.put, List.setIfInBounds_toArray, List.set_cons_zero, List.set_cons_succ]
        refine wpAnyH_take (i := 30) (v := ?vt125) (by simp only [List.getElem?_toArray, List.getElem?_cons_succ, List.getElem?_cons_zero]; rfl) (by kernel_rfl) (by kernel_rfl) (by kernel_rfl) (by exact fun _ _ _ h => h) (Or.inl ⟨by kernel_rfl, ?yt125⟩) hHeld ?_
        case yt125 => (intro ww hSw; (try dsimp only at hSw); clear hSw; go_simp; try (with_reducible rfl))
        try simp only [Act.put, List.setIfInBounds_toArray, List.set_cons_zero, List.set_cons_succ]
        refine wpAnyH_take (i := 31) (v := ?vt126) (by simp only [List.getElem?_toArray, List.getElem?_cons_succ, List.getElem?_cons_zero]; rfl) (by kernel_rfl) (by kernel_rfl) (by kernel_rfl) (by exact fun _ _ _ h => h) (Or.inl ⟨by kernel_rfl, ?yt126⟩) hHeld ?_
        case yt126 => (intro ww hSw; (try dsimp only at hSw); clear hSw; go_simp; try (with_reducible rfl))
        try simp only [Act.put, List.setIfInBounds_toArray, List.set_cons_zero, List.set_cons_succ]
        refine wpAnyH_ready (rs := [2, 34]) (by kernel_rfl) (by simp) ?_
        refine AllReadyH.cons (by simp only [List.getElem?_toArray, List.getElem?_cons_succ, List.getElem?_cons_zero]; rfl) (fun KK hKK => ?_) (AllReadyH.cons (by simp only [List.getElem?_toArray, List.getElem?_cons_succ, List.getElem?_cons_zero]; rfl) (fun KK hKK => ?_) AllReadyH.nil)
        · skip
          rw [if_pos (by kernel_rfl)]
          go_simp
          (with_reducible refine (Value_calls (some ⟨b, off + 1, none⟩) ((l.drop 1).take 2) 2 (c - 1) b _ (Bs.mid hs 1 2) (by rw [List.length_take, List.length_drop, HN.out]; omega) (by omega)).mono ?_)
          rintro e wv ⟨rfl, rfl⟩
          rw [← HV.out.1]
          go_wp2_with fail
          refine hKK.out _ _ ?_ (fun hHeld => ?_)
          · exact hb.size
          clear hKK KK
          try simp only [Act.put, List.setIfInBounds_toArray, List.set_cons_zero, List.set_cons_succ]
          refine wpAnyH_take (i := 3) (v := ?vt127) (by simp only [List.getElem?_toArray, List.getElem?_cons_succ, List.getElem?_cons_zero]; rfl) (by kernel_rfl) (by kernel_rfl) (by kernel_rfl) (by exact fun _ _ _ h => h) (Or.inl ⟨by kernel_rfl, ?yt127⟩) hHeld ?_
          case yt127 => (intro ww hSw; (try dsimp only at hSw); clear hSw; go_simp; try (with_reducible rfl))
          try simp only [Act.put, List.setIfInBounds_toArray, List.set_cons_zero, List.set_cons_succ]
          refine wpAnyH_ready (rs := [6, 34]) (by kernel_rfl) (by simp) ?_
          refine AllReadyH.cons (by simp only [List.getElem?_toArray, List.getElem?_cons_succ, List.getElem?_cons_zero]; rfl) (fun KK hKK => ?_) (AllReadyH.cons (by simp only [List.getElem?_toArray, List.getElem?_cons_succ, List.getElem?_cons_zero]; rfl) (fun KK hKK => ?_) AllReadyH.nil)
          · skip
            rw [if_pos (by kernel_rfl)]
            go_simp
            (with_reducible refine (Value_calls (some ⟨b, off + 3, none⟩) ((l.drop 3).take 2) 2 (c - 3) b _ (Bs.mid hs 3 2) (by rw [List.length_take, List.length_drop, HN.out]; omega) (by omega)).mono ?_)
            rintro e wv ⟨rfl, rfl⟩
            rw [← HV.out.2.1]
            go_wp2_with fail
            refine hKK.out _ _ ?_ (fun hHeld => ?_)
            · exact hb.size
            clear hKK KK
            try simp only [Act.put, List.setIfInBounds_toArray, List.set_cons_zero, List.set_cons_succ]
            refine wpAnyH_take (i := 7) (v := ?vt128) (by simp only [List.getElem?_toArray, List.getElem?_cons_succ, List.getElem?_cons_zero]; rfl) (by kernel_rfl) (by kernel_rfl) (by kernel_rfl) (by exact fun _ _ _ h => h) (Or.inl ⟨by kernel_rfl, ?yt128⟩) hHeld ?_
            case yt128 => (intro ww hSw; (try dsimp only at hSw); clear hSw; go_simp; try (with_reducible rfl))
            try simp only [Act.put, List.setIfInBounds_toArray, List.set_cons_zero, List.set_cons_succ]
            refine wpAnyH_ready (rs := [10, 34]) (by kernel_rfl) (by simp) ?_
            refine AllReadyH.cons (by simp only [List.getElem?_toArray, List.getElem?_cons_succ, List.getElem?_cons_zero]; rfl) (fun KK hKK => ?_) (AllReadyH.cons (by simp only [List.getElem?_toArray, List.getElem?_cons_succ, List.getElem?_cons_zero]; rfl) (fun KK hKK => ?_) AllReadyH.nil)
            · skip
              rw [if_pos (by kernel_rfl)]
              go_simp
              (with_reducible refine (Value_calls (some ⟨b, off + 5, none⟩) ((l.drop 5).take 2) 2 (c - 5) b _ (Bs.mid hs 5 2) (by rw [List.length_take, List.length_drop, HN.out]; omega) (by omega)).mono ?_)
              rintro e wv ⟨rfl, rfl⟩
              rw [← HV.out.2.2.1]
              go_wp2_with fail
              refine hKK.out _ _ ?_ (fun hHeld => ?_)
              · exact hb.size
              clear hKK KK
              try simp only [Act.put, List.setIfInBounds_toArray, List.set_cons_zero, List.set_cons_succ]
              refine wpAnyH_take (i := 11) (v := ?vt129) (by simp only [List.getElem?_toArray, List.getElem?_cons_succ, List.getElem?_cons_zero]; rfl) (by kernel_rfl) (by kernel_rfl) (by kernel_rfl) (by exact fun _ _ _ h => h) (Or.inl ⟨by kernel_rfl, ?yt129⟩) hHeld ?_
              case yt129 => (intro ww hSw; (try dsimp only at hSw); clear hSw; go_simp; try (with_reducible rfl))
              try simp only [Act.put, List.setIfInBounds_toArray, List.set_cons_zero, List.set_cons_succ]
              refine wpAnyH_ready (rs := [14, 34]) (by kernel_rfl) (by simp) ?_
              refine AllReadyH.cons (by simp only [List.getElem?_toArray, List.getElem?_cons_succ, List.getElem?_cons_zero]; rfl) (fun KK hKK => ?_) (AllReadyH.cons (by simp only [List.getElem?_toArray, List.getElem?_cons_succ, List.getElem?_cons_zero]; rfl) (fun KK hKK => ?_) AllReadyH.nil)
              · skip
                rw [if_pos (by kernel_rfl)]
                go_simp
                (with_reducible refine (Value_calls (some ⟨b, off + 7, none⟩) ((l.drop 7).take 4) 4 (c - 7) b _ (Bs.mid hs 7 4) (by rw [List.length_take, List.length_drop, HN.out]; omega) (by omega)).mono ?_)
                rintro e wv ⟨rfl, rfl⟩
                rw [← HV.out.2.2.2]
                go_wp2_with fail
                refine hKK.out _ _ ?_ (fun hHeld => ?_)
                · exact hb.size
                clear hKK KK
                try simp only [Act.put, List.setIfInBounds_toArray, List.set_cons_zero, List.set_cons_succ]
                refine wpAnyH_take (i := 15) (v := ?vt130) (by simp only [List.getElem?_toArray, List.getElem?_cons_succ, List.getElem?_cons_zero]; rfl) (by kernel_rfl) (by kernel_rfl) (by kernel_rfl) (by exact fun _ _ _ h => h) (Or.inl ⟨by kernel_rfl, ?yt130⟩) hHeld ?_
                case yt130 => (intro ww hSw; (try dsimp only at hSw); clear hSw; go_simp; try (with_reducible rfl))
                try simp only [Act.put, List.setIfInBounds_toArray, List.set_cons_zero, List.set_cons_succ]
                refine wpAnyH_ready (rs := [32, 34]) (by kernel_rfl) (by simp) ?_
                refine AllReadyH.cons (by simp only [List.getElem?_toArray, List.getElem?_cons_succ, List.getElem?_cons_zero]; rfl) (fun KK hKK => ?_) (AllReadyH.cons (by simp only [List.getElem?_toArray, List.getElem?_cons_succ, List.getElem?_cons_zero]; rfl) (fun KK hKK => ?_) AllReadyH.nil)
                · skip
                  rw [if_pos (by kernel_rfl)]
                  have hbd0 := hb.size
                  have hqlt := box_lt q
                  go_simp
                  (with_reducible refine (Cut_calls (some ⟨b, off + 13, none⟩) ((l.drop 13).take (k - 13)) (k - 13) (c - 13) b 1000 _ (Bs.mid hs 13 (k - 13)) (by rw [List.length_take, List.length_drop, HN.out]; omega) (by simp only [maxLen]; omega) (by simp only [List.length_take]; omega)).mono ?_)
                  rintro e wc32 ⟨vd, rfl, hrow, g31⟩
                  replace q := box_ext q g31
                  replace hs := Sl.ext hs g31
                  replace hb := hb.trans (g31.mono hb.size)
                  clear g31
                  rw [show (1000 : Int).toNat = 1000 from rfl] at hrow
                  obtain ⟨Dt, hDt⟩ : ∃ Dt, Dt = ((l.drop 13).take (k - 13)).take 1000 := ⟨_, rfl⟩
                  rw [← hDt] at hrow
                  obtain ⟨Ad, cd, bd, rfl, -, -, -, hBd, hsd, -⟩ := hrow.sl
                  have HDT := Lib.hid hDt
                  have hbdw : w.heap.size ≤ bd := by omega
                  have hbdz : w.heap.size ≠ bd := by have := hqlt; omega
                  clear hrow hDt hBd
                  go_wp2_with fail
                  refine hKK.out _ _ ?_ (fun hHeld => ?_)
                  · exact hb.size
                  clear hKK KK
                  try simp only [Act.put, List.setIfInBounds_toArray, List.set_cons_zero, List.set_cons_succ]
                  refine wpAnyH_take (i := 33) (v := ?vt133) (by simp only [List.getElem?_toArray, List.getElem?_cons_succ, List.getElem?_cons_zero]; rfl) (by kernel_rfl) (by kernel_rfl) (by kernel_rfl) (by exact fun _ _ _ h => h) (Or.inl ⟨by kernel_rfl, ?yt133⟩) hHeld ?_
                  case yt133 => (intro ww hSw; (try dsimp only at hSw); clear hSw; go_simp; try (with_reducible rfl))
                  try simp only [Act.put, List.setIfInBounds_toArray, List.set_cons_zero, List.set_cons_succ]
                  refine wpAnyH_ready (rs := [34]) (by kernel_rfl) (by simp) ?_
                  refine AllReadyH.cons (by simp only [List.getElem?_toArray, List.getElem?_cons_succ, List.getElem?_cons_zero]; rfl) (fun KK hKK => ?_) AllReadyH.nil
                  rw [if_pos (by kernel_rfl)]
                  have hgsz := hb.size
                  have hgq : w.heap.size ≠ wc32.heap.size := Nat.ne_of_lt (box_lt q)
                  have hgb : b ≠ wc32.heap.size := Nat.ne_of_lt (Bs.lt hs hll0)
                  have hne : Dt ≠ [] → bd ≠ wc32.heap.size := fun h => Nat.ne_of_lt (Bs.lt hsd h)
                  go_simp
                  obtain ⟨wa34, hwa34⟩ : ∃ wa34, wa34 = wc32.alloc (.cells #[.int .u16 0, .int .u16 0, .int .u16 0, .int .u32 0, .bool false, .bool false, .bool false, .slice none 0 0] 35) := ⟨_, rfl⟩
                  have h9 : Below wc32.heap.size wc32 wa34 := by rw [hwa34]; exact below_alloc1 _ _
                  have qf : wa34.heap[wc32.heap.size]? = some (.cells #[.int .u16 0, .int .u16 0, .int .u16 0, .int .u32 0, .bool false, .bool false, .bool false, .slice none 0 0] 35 (0, 0)) := by rw [hwa34]; exact heap_alloc_new _ _
                  rw [← hwa34]
                  clear hwa34
                  replace q := box_ext q h9
                  replace hs := Sl.ext hs h9
                  replace hsd := Sl.ext hsd h9
                  replace hb := hb.trans (h9.mono hb.size)
                  clear h9
                  refine hKK.out _ _ ?_ (fun hHeld => ?_)
                  · exact hb.size
                  clear hKK KK
                  try simp only [Act.put, List.setIfInBounds_toArray, List.set_cons_zero, List.set_cons_succ]
                  refine wpAnyH_ready (rs := [35]) (by kernel_rfl) (by simp) ?_
                  refine AllReadyH.cons (by simp only [List.getElem?_toArray, List.getElem?_cons_succ, List.getElem?_cons_zero]; rfl) (fun KK hKK => ?_) AllReadyH.nil
                  rw [if_pos (by kernel_rfl)]
                  obtain ⟨s0, s1, s2, s3, s4, s5, s6, s7⟩ := box8_all qf
                  have hff := fun j => frozen_of_row _ (wc32.heap.size) j _ _ qf
                  go_simp
                  clear s0 s1 s2 s3 s4 s5 s6 s7 hff
                  have qg := put8_heap (w := wa34) (.int .u16 (v1 : Int)) (.int .u16 (v2 : Int)) (.int .u16 (v3 : Int)) (.int .u32 (v4 : Int)) (.bool B1) (.bool B2) (.bool B3) (.slice Ad Dt.length cd) qf
                  have hm8 := put8_mod wa34 (wc32.heap.size) (.int .u16 (v1 : Int)) (.int .u16 (v2 : Int)) (.int .u16 (v3 : Int)) (.int .u32 (v4 : Int)) (.bool B1) (.bool B2) (.bool B3) (.slice Ad Dt.length cd)
                  replace q := (hm8.block _ (box_lt q) (fun e => hgq e)).trans q
                  replace hs := Bs.modne hs hm8 (fun _ e => hgb e)
                  replace hsd := Bs.modne hsd hm8 (fun h e => hne h e)
                  replace hb := hb.trans (hm8.below hb.size (fun i hi e => by have := box_lt qf; have e : i = wc32.heap.size := e; have := hgsz; omega))
                  obtain ⟨ws35, hws35⟩ : ∃ ws35, ws35 = put8 wa34 (wc32.heap.size) (.int .u16 (v1 : Int)) (.int .u16 (v2 : Int)) (.int .u16 (v3 : Int)) (.int .u32 (v4 : Int)) (.bool B1) (.bool B2) (.bool B3) (.slice Ad Dt.length cd) := ⟨_, rfl⟩
                  simp only [put8] at hws35
                  simp only [put8] at qg q hs hsd hb
                  rw [← hws35] at qg q hs hsd hb ⊢
                  clear hws35 hm8 qf
                  refine hKK.out _ _ ?_ (fun hHeld => ?_)
                  · exact hb.size
                  clear hKK KK
                  try simp only [Act.put, List.setIfInBounds_toArray, List.set_cons_zero, List.set_cons_succ]
                  refine wpAnyH_done (by kernel_rfl) ?_ _
                  have hFe : (⟨v1, v2, v3, v4, B1, B2, B3, Dt⟩ : Fr) = candF l := by
                    unfold candF
                    rw [HV.out.1, HV.out.2.1, HV.out.2.2.1, HV.out.2.2.2, HBB.out.1, HBB.out.2.1, HBB.out.2.2, HDT.out, show l.length - 4 - 13 = k - 13 by (have := HN.out; have := HK.out; omega), show (l.getD 11 0).toNat = x by (rw [List.getD_eq_getElem?_getD, List.getElem?_eq_getElem hll, HX.out]; rfl)]
                  obtain ⟨F, hF⟩ : ∃ F : Fr, F = ⟨v1, v2, v3, v4, B1, B2, B3, Dt⟩ := ⟨_, rfl⟩
                  have HF : Hid (F = candF l) := Lib.hid (hF.trans hFe)
                  have ho : F.Ok := by rw [HF.out]; exact candF_ok l
                  replace qg : ws35.heap[wc32.heap.size]? = some (.cells (F.cells Ad cd) 35 (0, 0)) := by rw [hF]; exact qg
                  replace hsd : Bs ws35 bd Ad F.data := by rw [hF]; exact hsd
                  clear hF hFe a0 a1 a2 a3 a4 a5 a6 a7 hfz m1 m2 m3 g1 g2 g3 g4
                  obtain ⟨k0, k1, k2, k3, k4, k5, k6, k7⟩ := boxg_all qg
                  have hRi := fun W => RRight_calls F Ad cd W
                  cases hr : F.right with
                  | false =>
                    rw [hr] at hRi
                    go_wp2_with fail
                    refine (hRi _).mono ?_
                    rintro e wr ⟨rfl, h1⟩
                    replace q := box_ext q h1
                    replace hb := hb.trans (h1.mono hb.size)
                    obtain ⟨a0, a1, a2, a3, a4, a5, a6, a7⟩ := box8_all q
                    have hfz := fun j => frozen_of_row _ w.heap.size j _ _ q
                    go_wp2_with fail
                    have hp := put8_heap (w := wr) (.int .u16 0) (.int .u16 0) (.int .u16 0) (.int .u32 0) (.bool false) (.bool false) (.bool false) (.slice none 0 0) q
                    have hm := put8_mod wr w.heap.size (.int .u16 0) (.int .u16 0) (.int .u16 0) (.int .u32 0) (.bool false) (.bool false) (.bool false) (.slice none 0 0)
                    refine bodyPost_ret (results_ct (P := Try.prog) rfl _ _ w.heap.size _ _ (0, 0) _ rfl hp Try.underlying35 rfl (by kernel_rfl)) rfl ?_
                    have hR : R = (zFr, 2) := by rw [HR.out]; have h0 := HN.out; have h1 := HK.out; unfold rparseF; rw [if_neg (by omega), show l.length - 4 = k by omega, HOP.out, if_neg (by simp), if_neg (by omega), ← HF.out, if_neg (by rintro ⟨h, _⟩; rw [hr] at h; cases h)]
                    rw [hR]
                    exact ⟨none, 0, w.heap.size, rfl, Sl.nil_ _ _ _, Nat.le_refl _, hb.trans (hm.below hb.size (fun i hi e => by omega))⟩
                  | true =>
                    rw [hr] at hRi
                    go_wp2_with fail
                    refine (hRi _).mono ?_
                    rintro e wr ⟨rfl, h1⟩
                    replace q := box_ext q h1
                    replace hb := hb.trans (h1.mono hb.size)
                    replace qg := box_ext qg h1
                    replace hs := Sl.ext hs h1
                    replace hsd := Sl.ext hsd h1
                    clear h1
                    clear k0 k1 k2 k3 k4 k5 k6 k7
                    obtain ⟨k0, k1, k2, k3, k4, k5, k6, k7⟩ := boxg_all qg
                    go_wp2_with fail
                    refine (RBytes_calls F Ad cd bd _ ho hr hsd).mono ?_
                    rintro e wb ⟨v, rfl, hrow, h1⟩
                    obtain ⟨Aq, cq, bq, rfl, -, -, -, -, hsq, -⟩ := hrow.sl
                    replace q := box_ext q h1
                    replace hb := hb.trans (h1.mono hb.size)
                    replace qg := box_ext qg h1
                    replace hs := Sl.ext hs h1
                    replace hsd := Sl.ext hsd h1
                    clear h1 hrow
                    obtain ⟨mq, hmq⟩ : ∃ mq, mq = (sealedL F.raw).length := ⟨_, rfl⟩
                    have hmq2 : mq ≤ 1000 := by rw [hmq, raw_length F hr]; have := Fr.right_len hr; omega
                    have hSm := Same_calls Aq (some ⟨b, off, none⟩) (sealedL F.raw) l mq n cq c bq b _ hsq hs hmq.symm HN.out (by simp only [maxLen]; omega) (by simp only [maxLen]; omega)
                    rw [← hmq]
                    clear hmq hsq
                    clear k0 k1 k2 k3 k4 k5 k6 k7
                    obtain ⟨k0, k1, k2, k3, k4, k5, k6, k7⟩ := boxg_all qg
                    by_cases he : sealedL F.raw = l
                    · skip
                      rw [show decide (sealedL F.raw = l) = true by simp [he]] at hSm
                      have HE := Lib.hid he
                      clear he
                      go_wp2_with fail
                      refine hSm.mono ?_
                      rintro e ws ⟨rfl, kd, hws⟩
                      replace q : ws.heap[w.heap.size]? = some (.cells #[.int .u16 0, .int .u16 0, .int .u16 0, .int .u32 0, .bool false, .bool false, .bool false, .slice none 0 0] 35 (0, 0)) := by rw [hws]; exact q
                      replace qg : ws.heap[wc32.heap.size]? = some (.cells (F.cells Ad cd) 35 (0, 0)) := by rw [hws]; exact qg
                      replace hsd : Bs ws bd Ad F.data := by rw [hws]; exact hsd
                      replace hb : Below w.heap.size w ws := by rw [hws]; exact below_drewN hb kd
                      clear hws hSm
                      clear k0 k1 k2 k3 k4 k5 k6 k7
                      obtain ⟨k0, k1, k2, k3, k4, k5, k6, k7⟩ := boxg_all qg
                      obtain ⟨a0, a1, a2, a3, a4, a5, a6, a7⟩ := box8_all q
                      have hfz := fun j => frozen_of_row _ w.heap.size j _ _ q
                      go_wp2_with fail
                      have hp := put8_heap (w := ws) (.int .u16 (F.epoch : Int)) (.int .u16 (F.seq : Int)) (.int .u16 (F.next : Int)) (.int .u32 (F.bits : Int)) (.bool F.first) (.bool F.last) (.bool F.alone) (.slice Ad F.data.length cd) q
                      have hm := put8_mod ws w.heap.size (.int .u16 (F.epoch : Int)) (.int .u16 (F.seq : Int)) (.int .u16 (F.next : Int)) (.int .u32 (F.bits : Int)) (.bool F.first) (.bool F.last) (.bool F.alone) (.slice Ad F.data.length cd)
                      refine bodyPost_ret (results_ct (P := Try.prog) rfl _ _ w.heap.size _ _ (0, 0) _ rfl hp Try.underlying35 rfl (by kernel_rfl)) rfl ?_
                      have hR : R = (F, 0) := by rw [HR.out]; have h0 := HN.out; have h1 := HK.out; unfold rparseF; rw [if_neg (by omega), show l.length - 4 = k by omega, HOP.out, if_neg (by simp), if_neg (by omega), ← HF.out, if_pos ⟨hr, HE.out⟩]
                      rw [hR]
                      have h9 := Bs.modne hsd hm (fun hne e => by have h8 := hbdw; have h7 := hbdz; omega)
                      exact ⟨Ad, cd, bd, rfl, h9, hbdw, hb.trans (hm.below hb.size (fun i hi e => by omega))⟩
                    · skip
                      rw [show decide (sealedL F.raw = l) = false by simp [he]] at hSm
                      have HE := Lib.hid he
                      clear he
                      go_wp2_with fail
                      refine hSm.mono ?_
                      rintro e ws ⟨rfl, kd, hws⟩
                      replace q : ws.heap[w.heap.size]? = some (.cells #[.int .u16 0, .int .u16 0, .int .u16 0, .int .u32 0, .bool false, .bool false, .bool false, .slice none 0 0] 35 (0, 0)) := by rw [hws]; exact q
                      replace qg : ws.heap[wc32.heap.size]? = some (.cells (F.cells Ad cd) 35 (0, 0)) := by rw [hws]; exact qg
                      replace hsd : Bs ws bd Ad F.data := by rw [hws]; exact hsd
                      replace hb : Below w.heap.size w ws := by rw [hws]; exact below_drewN hb kd
                      clear hws hSm
                      clear k0 k1 k2 k3 k4 k5 k6 k7
                      obtain ⟨k0, k1, k2, k3, k4, k5, k6, k7⟩ := boxg_all qg
                      obtain ⟨a0, a1, a2, a3, a4, a5, a6, a7⟩ := box8_all q
                      have hfz := fun j => frozen_of_row _ w.heap.size j _ _ q
                      go_wp2_with fail
                      have hp := put8_heap (w := ws) (.int .u16 0) (.int .u16 0) (.int .u16 0) (.int .u32 0) (.bool false) (.bool false) (.bool false) (.slice none 0 0) q
                      have hm := put8_mod ws w.heap.size (.int .u16 0) (.int .u16 0) (.int .u16 0) (.int .u32 0) (.bool false) (.bool false) (.bool false) (.slice none 0 0)
                      refine bodyPost_ret (results_ct (P := Try.prog) rfl _ _ w.heap.size _ _ (0, 0) _ rfl hp Try.underlying35 rfl (by kernel_rfl)) rfl ?_
                      have hR : R = (zFr, 2) := by rw [HR.out]; have h0 := HN.out; have h1 := HK.out; unfold rparseF; rw [if_neg (by omega), show l.length - 4 = k by omega, HOP.out, if_neg (by simp), if_neg (by omega), ← HF.out, if_neg (fun h => HE.out h.2)]
                      rw [hR]
                      exact ⟨none, 0, w.heap.size, rfl, Sl.nil_ _ _ _, Nat.le_refl _, hb.trans (hm.below hb.size (fun i hi e => by omega))⟩
                · skip
                  rw [if_pos (by kernel_rfl)]
                  have hgsz := hb.size
                  have hgq : w.heap.size ≠ wd2.heap.size := Nat.ne_of_lt (box_lt q)
                  have hgb : b ≠ wd2.heap.size := Nat.ne_of_lt (Bs.lt hs hll0)
                  go_simp
                  obtain ⟨wa36, hwa36⟩ : ∃ wa36, wa36 = wd2.alloc (.cells #[.int .u16 0, .int .u16 0, .int .u16 0, .int .u32 0, .bool false, .bool false, .bool false, .slice none 0 0] 35) := ⟨_, rfl⟩
                  have h9 : Below wd2.heap.size wd2 wa36 := by rw [hwa36]; exact below_alloc1 _ _
                  have qf : wa36.heap[wd2.heap.size]? = some (.cells #[.int .u16 0, .int .u16 0, .int .u16 0, .int .u32 0, .bool false, .bool false, .bool false, .slice none 0 0] 35 (0, 0)) := by rw [hwa36]; exact heap_alloc_new _ _
                  rw [← hwa36]
                  clear hwa36
                  replace q := box_ext q h9
                  replace hs := Sl.ext hs h9
                  replace hb := hb.trans (h9.mono hb.size)
                  clear h9
                  refine hKK.out _ _ ?_ (fun hHeld => ?_)
                  · exact hb.size
                  clear hKK KK
                  try simp only [Act.put, List.setIfInBounds_toArray, List.set_cons_zero, List.set_cons_succ]
                  refine wpAnyH_ready (rs := [32]) (by kernel_rfl) (by simp) ?_
                  refine AllReadyH.cons (by simp only [List.getElem?_toArray, List.getElem?_cons_succ, List.getElem?_cons_zero]; rfl) (fun KK hKK => ?_) AllReadyH.nil
                  rw [if_pos (by kernel_rfl)]
                  have hbd0 := hb.size
                  have hqlt := box_lt q
                  have hglt := box_lt qf
                  go_simp
                  (with_reducible refine (Cut_calls (some ⟨b, off + 13, none⟩) ((l.drop 13).take (k - 13)) (k - 13) (c - 13) b 1000 _ (Bs.mid hs 13 (k - 13)) (by rw [List.length_take, List.length_drop, HN.out]; omega) (by simp only [maxLen]; omega) (by simp only [List.length_take]; omega)).mono ?_)
                  rintro e wc38 ⟨vd, rfl, hrow, g37⟩
                  replace q := box_ext q g37
                  replace hs := Sl.ext hs g37
                  replace qf := box_ext qf g37
                  replace hb := hb.trans (g37.mono hb.size)
                  clear g37
                  rw [show (1000 : Int).toNat = 1000 from rfl] at hrow
                  obtain ⟨Dt, hDt⟩ : ∃ Dt, Dt = ((l.drop 13).take (k - 13)).take 1000 := ⟨_, rfl⟩
                  rw [← hDt] at hrow
                  obtain ⟨Ad, cd, bd, rfl, -, -, -, hBd, hsd, -⟩ := hrow.sl
                  have HDT := Lib.hid hDt
                  have hbdw : w.heap.size ≤ bd := by omega
                  have hbdz : w.heap.size ≠ bd := by have := hqlt; omega
                  have hne : Dt ≠ [] → bd ≠ wd2.heap.size := fun _ => by omega
                  clear hrow hDt hBd
                  go_wp2_with fail
                  refine hKK.out _ _ ?_ (fun hHeld => ?_)
                  · exact hb.size
                  clear hKK KK
                  try simp only [Act.put, List.setIfInBounds_toArray, List.set_cons_zero, List.set_cons_succ]
                  refine wpAnyH_take (i := 33) (v := ?vt139) (by simp only [List.getElem?_toArray, List.getElem?_cons_succ, List.getElem?_cons_zero]; rfl) (by kernel_rfl) (by kernel_rfl) (by kernel_rfl) (by exact fun _ _ _ h => h) (Or.inl ⟨by kernel_rfl, ?yt139⟩) hHeld ?_
                  case yt139 => (intro ww hSw; (try dsimp only at hSw); clear hSw; go_simp; try (with_reducible rfl))
                  try simp only [Act.put, List.setIfInBounds_toArray, List.set_cons_zero, List.set_cons_succ]
                  refine wpAnyH_ready (rs := [35]) (by kernel_rfl) (by simp) ?_
                  refine AllReadyH.cons (by simp only [List.getElem?_toArray, List.getElem?_cons_succ, List.getElem?_cons_zero]; rfl) (fun KK hKK => ?_) AllReadyH.nil
                  rw [if_pos (by kernel_rfl)]
                  obtain ⟨s0, s1, s2, s3, s4, s5, s6, s7⟩ := box8_all qf
                  have hff := fun j => frozen_of_row _ (wd2.heap.size) j _ _ qf
                  go_simp
                  clear s0 s1 s2 s3 s4 s5 s6 s7 hff
                  have qg := put8_heap (w := wc38) (.int .u16 (v1 : Int)) (.int .u16 (v2 : Int)) (.int .u16 (v3 : Int)) (.int .u32 (v4 : Int)) (.bool B1) (.bool B2) (.bool B3) (.slice Ad Dt.length cd) qf
                  have hm8 := put8_mod wc38 (wd2.heap.size) (.int .u16 (v1 : Int)) (.int .u16 (v2 : Int)) (.int .u16 (v3 : Int)) (.int .u32 (v4 : Int)) (.bool B1) (.bool B2) (.bool B3) (.slice Ad Dt.length cd)
                  replace q := (hm8.block _ (box_lt q) (fun e => hgq e)).trans q
                  replace hs := Bs.modne hs hm8 (fun _ e => hgb e)
                  replace hsd := Bs.modne hsd hm8 (fun h e => hne h e)
                  replace hb := hb.trans (hm8.below hb.size (fun i hi e => by have := box_lt qf; have e : i = wd2.heap.size := e; have := hgsz; omega))
                  obtain ⟨ws40, hws40⟩ : ∃ ws40, ws40 = put8 wc38 (wd2.heap.size) (.int .u16 (v1 : Int)) (.int .u16 (v2 : Int)) (.int .u16 (v3 : Int)) (.int .u32 (v4 : Int)) (.bool B1) (.bool B2) (.bool B3) (.slice Ad Dt.length cd) := ⟨_, rfl⟩
                  simp only [put8] at hws40
                  simp only [put8] at qg q hs hsd hb
                  rw [← hws40] at qg q hs hsd hb ⊢
                  clear hws40 hm8 qf
                  refine hKK.out _ _ ?_ (fun hHeld => ?_)
                  · exact hb.size
                  clear hKK KK
                  try simp only [Act.put, List.setIfInBounds_toArray, List.set_cons_zero, List.set_cons_succ]
                  refine wpAnyH_done (by kernel_rfl) ?_ _
                  have hFe : (⟨v1, v2, v3, v4, B1, B2, B3, Dt⟩ : Fr) = candF l := by
                    unfold candF
                    rw [HV.out.1, HV.out.2.1, HV.out.2.2.1, HV.out.2.2.2, HBB.out.1, HBB.out.2.1, HBB.out.2.2, HDT.out, show l.length - 4 - 13 = k - 13 by (have := HN.out; have := HK.out; omega), show (l.getD 11 0).toNat = x by (rw [List.getD_eq_getElem?_getD, List.getElem?_eq_getElem hll, HX.out]; rfl)]
                  obtain ⟨F, hF⟩ : ∃ F : Fr, F = ⟨v1, v2, v3, v4, B1, B2, B3, Dt⟩ := ⟨_, rfl⟩
                  have HF : Hid (F = candF l) := Lib.hid (hF.trans hFe)
                  have ho : F.Ok := by rw [HF.out]; exact candF_ok l
                  replace qg : ws40.heap[wd2.heap.size]? = some (.cells (F.cells Ad cd) 35 (0, 0)) := by rw [hF]; exact qg
                  replace hsd : Bs ws40 bd Ad F.data := by rw [hF]; exact hsd
                  clear hF hFe a0 a1 a2 a3 a4 a5 a6 a7 hfz m1 m2 m3 g1 g2 g3 g4
                  obtain ⟨k0, k1, k2, k3, k4, k5, k6, k7⟩ := boxg_all qg
                  have hRi := fun W => RRight_calls F Ad cd W
                  cases hr : F.right with
                  | false =>
                    rw [hr] at hRi
                    go_wp2_with fail
                    refine (hRi _).mono ?_
                    rintro e wr ⟨rfl, h1⟩
                    replace q := box_ext q h1
                    replace hb := hb.trans (h1.mono hb.size)
                    obtain ⟨a0, a1, a2, a3, a4, a5, a6, a7⟩ := box8_all q
                    have hfz := fun j => frozen_of_row _ w.heap.size j _ _ q
                    go_wp2_with fail
                    have hp := put8_heap (w := wr) (.int .u16 0) (.int .u16 0) (.int .u16 0) (.int .u32 0) (.bool false) (.bool false) (.bool false) (.slice none 0 0) q
                    have hm := put8_mod wr w.heap.size (.int .u16 0) (.int .u16 0) (.int .u16 0) (.int .u32 0) (.bool false) (.bool false) (.bool false) (.slice none 0 0)
                    refine bodyPost_ret (results_ct (P := Try.prog) rfl _ _ w.heap.size _ _ (0, 0) _ rfl hp Try.underlying35 rfl (by kernel_rfl)) rfl ?_
                    have hR : R = (zFr, 2) := by rw [HR.out]; have h0 := HN.out; have h1 := HK.out; unfold rparseF; rw [if_neg (by omega), show l.length - 4 = k by omega, HOP.out, if_neg (by simp), if_neg (by omega), ← HF.out, if_neg (by rintro ⟨h, _⟩; rw [hr] at h; cases h)]
                    rw [hR]
                    exact ⟨none, 0, w.heap.size, rfl, Sl.nil_ _ _ _, Nat.le_refl _, hb.trans (hm.below hb.size (fun i hi e => by omega))⟩
                  | true =>
                    rw [hr] at hRi
                    go_wp2_with fail
                    refine (hRi _).mono ?_
                    rintro e wr ⟨rfl, h1⟩
                    replace q := box_ext q h1
                    replace hb := hb.trans (h1.mono hb.size)
                    replace qg := box_ext qg h1
                    replace hs := Sl.ext hs h1
                    replace hsd := Sl.ext hsd h1
                    clear h1
                    clear k0 k1 k2 k3 k4 k5 k6 k7
                    obtain ⟨k0, k1, k2, k3, k4, k5, k6, k7⟩ := boxg_all qg
                    go_wp2_with fail
                    refine (RBytes_calls F Ad cd bd _ ho hr hsd).mono ?_
                    rintro e wb ⟨v, rfl, hrow, h1⟩
                    obtain ⟨Aq, cq, bq, rfl, -, -, -, -, hsq, -⟩ := hrow.sl
                    replace q := box_ext q h1
                    replace hb := hb.trans (h1.mono hb.size)
                    replace qg := box_ext qg h1
                    replace hs := Sl.ext hs h1
                    replace hsd := Sl.ext hsd h1
                    clear h1 hrow
                    obtain ⟨mq, hmq⟩ : ∃ mq, mq = (sealedL F.raw).length := ⟨_, rfl⟩
                    have hmq2 : mq ≤ 1000 := by rw [hmq, raw_length F hr]; have := Fr.right_len hr; omega
                    have hSm := Same_calls Aq (some ⟨b, off, none⟩) (sealedL F.raw) l mq n cq c bq b _ hsq hs hmq.symm HN.out (by simp only [maxLen]; omega) (by simp only [maxLen]; omega)
                    rw [← hmq]
                    clear hmq hsq
                    clear k0 k1 k2 k3 k4 k5 k6 k7
                    obtain ⟨k0, k1, k2, k3, k4, k5, k6, k7⟩ := boxg_all qg
                    by_cases he : sealedL F.raw = l
                    · skip
                      rw [show decide (sealedL F.raw = l) = true by simp [he]] at hSm
                      have HE := Lib.hid he
                      clear he
                      go_wp2_with fail
                      refine hSm.mono ?_
                      rintro e ws ⟨rfl, kd, hws⟩
                      replace q : ws.heap[w.heap.size]? = some (.cells #[.int .u16 0, .int .u16 0, .int .u16 0, .int .u32 0, .bool false, .bool false, .bool false, .slice none 0 0] 35 (0, 0)) := by rw [hws]; exact q
                      replace qg : ws.heap[wd2.heap.size]? = some (.cells (F.cells Ad cd) 35 (0, 0)) := by rw [hws]; exact qg
                      replace hsd : Bs ws bd Ad F.data := by rw [hws]; exact hsd
                      replace hb : Below w.heap.size w ws := by rw [hws]; exact below_drewN hb kd
                      clear hws hSm
                      clear k0 k1 k2 k3 k4 k5 k6 k7
                      obtain ⟨k0, k1, k2, k3, k4, k5, k6, k7⟩ := boxg_all qg
                      obtain ⟨a0, a1, a2, a3, a4, a5, a6, a7⟩ := box8_all q
                      have hfz := fun j => frozen_of_row _ w.heap.size j _ _ q
                      go_wp2_with fail
                      have hp := put8_heap (w := ws) (.int .u16 (F.epoch : Int)) (.int .u16 (F.seq : Int)) (.int .u16 (F.next : Int)) (.int .u32 (F.bits : Int)) (.bool F.first) (.bool F.last) (.bool F.alone) (.slice Ad F.data.length cd) q
                      have hm := put8_mod ws w.heap.size (.int .u16 (F.epoch : Int)) (.int .u16 (F.seq : Int)) (.int .u16 (F.next : Int)) (.int .u32 (F.bits : Int)) (.bool F.first) (.bool F.last) (.bool F.alone) (.slice Ad F.data.length cd)
                      refine bodyPost_ret (results_ct (P := Try.prog) rfl _ _ w.heap.size _ _ (0, 0) _ rfl hp Try.underlying35 rfl (by kernel_rfl)) rfl ?_
                      have hR : R = (F, 0) := by rw [HR.out]; have h0 := HN.out; have h1 := HK.out; unfold rparseF; rw [if_neg (by omega), show l.length - 4 = k by omega, HOP.out, if_neg (by simp), if_neg (by omega), ← HF.out, if_pos ⟨hr, HE.out⟩]
                      rw [hR]
                      have h9 := Bs.modne hsd hm (fun hne e => by have h8 := hbdw; have h7 := hbdz; omega)
                      exact ⟨Ad, cd, bd, rfl, h9, hbdw, hb.trans (hm.below hb.size (fun i hi e => by omega))⟩
                    · skip
                      rw [show decide (sealedL F.raw = l) = false by simp [he]] at hSm
                      have HE := Lib.hid he
                      clear he
                      go_wp2_with fail
                      refine hSm.mono ?_
                      rintro e ws ⟨rfl, kd, hws⟩
                      replace q : ws.heap[w.heap.size]? = some (.cells #[.int .u16 0, .int .u16 0, .int .u16 0, .int .u32 0, .bool false, .bool false, .bool false, .slice none 0 0] 35 (0, 0)) := by rw [hws]; exact q
                      replace qg : ws.heap[wd2.heap.size]? = some (.cells (F.cells Ad cd) 35 (0, 0)) := by rw [hws]; exact qg
                      replace hsd : Bs ws bd Ad F.data := by rw [hws]; exact hsd
                      replace hb : Below w.heap.size w ws := by rw [hws]; exact below_drewN hb kd
                      clear hws hSm
                      clear k0 k1 k2 k3 k4 k5 k6 k7
                      obtain ⟨k0, k1, k2, k3, k4, k5, k6, k7⟩ := boxg_all qg
                      obtain ⟨a0, a1, a2, a3, a4, a5, a6, a7⟩ := box8_all q
                      have hfz := fun j => frozen_of_row _ w.heap.size j _ _ q
                      go_wp2_with fail
                      have hp := put8_heap (w := ws) (.int .u16 0) (.int .u16 0) (.int .u16 0) (.int .u32 0) (.bool false) (.bool false) (.bool false) (.slice none 0 0) q
                      have hm := put8_mod ws w.heap.size (.int .u16 0) (.int .u16 0) (.int .u16 0) (.int .u32 0) (.bool false) (.bool false) (.bool false) (.slice none 0 0)
                      refine bodyPost_ret (results_ct (P := Try.prog) rfl _ _ w.heap.size _ _ (0, 0) _ rfl hp Try.underlying35 rfl (by kernel_rfl)) rfl ?_
                      have hR : R = (zFr, 2) := by rw [HR.out]; have h0 := HN.out; have h1 := HK.out; unfold rparseF; rw [if_neg (by omega), show l.length - 4 = k by omega, HOP.out, if_neg (by simp), if_neg (by omega), ← HF.out, if_neg (fun h => HE.out h.2)]
                      rw [hR]
                      exact ⟨none, 0, w.heap.size, rfl, Sl.nil_ _ _ _, Nat.le_refl _, hb.trans (hm.below hb.size (fun i hi e => by omega))⟩
              · skip
                rw [if_pos (by kernel_rfl)]
                have hgsz := hb.size
                have hgq : w.heap.size ≠ wd2.heap.size := Nat.ne_of_lt (box_lt q)
                have hgb : b ≠ wd2.heap.size := Nat.ne_of_lt (Bs.lt hs hll0)
                go_simp
                obtain ⟨wa41, hwa41⟩ : ∃ wa41, wa41 = wd2.alloc (.cells #[.int .u16 0, .int .u16 0, .int .u16 0, .int .u32 0, .bool false, .bool false, .bool false, .slice none 0 0] 35) := ⟨_, rfl⟩
                have h9 : Below wd2.heap.size wd2 wa41 := by rw [hwa41]; exact below_alloc1 _ _
                have qf : wa41.heap[wd2.heap.size]? = some (.cells #[.int .u16 0, .int .u16 0, .int .u16 0, .int .u32 0, .bool false, .bool false, .bool false, .slice none 0 0] 35 (0, 0)) := by rw [hwa41]; exact heap_alloc_new _ _
                rw [← hwa41]
                clear hwa41
                replace q := box_ext q h9
                replace hs := Sl.ext hs h9
                replace hb := hb.trans (h9.mono hb.size)
                clear h9
                refine hKK.out _ _ ?_ (fun hHeld => ?_)
                · exact hb.size
                clear hKK KK
                try simp only [Act.put, List.setIfInBounds_toArray, List.set_cons_zero, List.set_cons_succ]
                refine wpAnyH_ready (rs := [14]) (by kernel_rfl) (by simp) ?_
                refine AllReadyH.cons (by simp only [List.getElem?_toArray, List.getElem?_cons_succ, List.getElem?_cons_zero]; rfl) (fun KK hKK => ?_) AllReadyH.nil
                rw [if_pos (by kernel_rfl)]
                go_simp
                (with_reducible refine (Value_calls (some ⟨b, off + 7, none⟩) ((l.drop 7).take 4) 4 (c - 7) b _ (Bs.mid hs 7 4) (by rw [List.length_take, List.length_drop, HN.out]; omega) (by omega)).mono ?_)
                rintro e wv ⟨rfl, rfl⟩
                rw [← HV.out.2.2.2]
                go_wp2_with fail
                refine hKK.out _ _ ?_ (fun hHeld => ?_)
                · exact hb.size
                clear hKK KK
                try simp only [Act.put, List.setIfInBounds_toArray, List.set_cons_zero, List.set_cons_succ]
                refine wpAnyH_take (i := 15) (v := ?vt142) (by simp only [List.getElem?_toArray, List.getElem?_cons_succ, List.getElem?_cons_zero]; rfl) (by kernel_rfl) (by kernel_rfl) (by kernel_rfl) (by exact fun _ _ _ h => h) (Or.inl ⟨by kernel_rfl, ?yt142⟩) hHeld ?_
                case yt142 => (intro ww hSw; (try dsimp only at hSw); clear hSw; go_simp; try (with_reducible rfl))
                try simp only [Act.put, List.setIfInBounds_toArray, List.set_cons_zero, List.set_cons_succ]
                refine wpAnyH_ready (rs := [32]) (by kernel_rfl) (by simp) ?_
                refine AllReadyH.cons (by simp only [List.getElem?_toArray, List.getElem?_cons_succ, List.getElem?_cons_zero]; rfl) (fun KK hKK => ?_) AllReadyH.nil
                rw [if_pos (by kernel_rfl)]
                have hbd0 := hb.size
                have hqlt := box_lt q
                have hglt := box_lt qf
                go_simp
                (with_reducible refine (Cut_calls (some ⟨b, off + 13, none⟩) ((l.drop 13).take (k - 13)) (k - 13) (c - 13) b 1000 _ (Bs.mid hs 13 (k - 13)) (by rw [List.length_take, List.length_drop, HN.out]; omega) (by simp only [maxLen]; omega) (by simp only [List.length_take]; omega)).mono ?_)
                rintro e wc44 ⟨vd, rfl, hrow, g43⟩
                replace q := box_ext q g43
                replace hs := Sl.ext hs g43
                replace qf := box_ext qf g43
                replace hb := hb.trans (g43.mono hb.size)
                clear g43
                rw [show (1000 : Int).toNat = 1000 from rfl] at hrow
                obtain ⟨Dt, hDt⟩ : ∃ Dt, Dt = ((l.drop 13).take (k - 13)).take 1000 := ⟨_, rfl⟩
                rw [← hDt] at hrow
                obtain ⟨Ad, cd, bd, rfl, -, -, -, hBd, hsd, -⟩ := hrow.sl
                have HDT := Lib.hid hDt
                have hbdw : w.heap.size ≤ bd := by omega
                have hbdz : w.heap.size ≠ bd := by have := hqlt; omega
                have hne : Dt ≠ [] → bd ≠ wd2.heap.size := fun _ => by omega
                clear hrow hDt hBd
                go_wp2_with fail
                refine hKK.out _ _ ?_ (fun hHeld => ?_)
                · exact hb.size
                clear hKK KK
                try simp only [Act.put, List.setIfInBounds_toArray, List.set_cons_zero, List.set_cons_succ]
                refine wpAnyH_take (i := 33) (v := ?vt145) (by simp only [List.getElem?_toArray, List.getElem?_cons_succ, List.getElem?_cons_zero]; rfl) (by kernel_rfl) (by kernel_rfl) (by kernel_rfl) (by exact fun _ _ _ h => h) (Or.inl ⟨by kernel_rfl, ?yt145⟩) hHeld ?_
                case yt145 => (intro ww hSw; (try dsimp only at hSw); clear hSw; go_simp; try (with_reducible rfl))
                try simp only [Act.put, List.setIfInBounds_toArray, List.set_cons_zero, List.set_cons_succ]
                refine wpAnyH_ready (rs := [35]) (by kernel_rfl) (by simp) ?_
                refine AllReadyH.cons (by simp only [List.getElem?_toArray, List.getElem?_cons_succ, List.getElem?_cons_zero]; rfl) (fun KK hKK => ?_) AllReadyH.nil
                rw [if_pos (by kernel_rfl)]
                obtain ⟨s0, s1, s2, s3, s4, s5, s6, s7⟩ := box8_all qf
                have hff := fun j => frozen_of_row _ (wd2.heap.size) j _ _ qf
                go_simp
                clear s0 s1 s2 s3 s4 s5 s6 s7 hff
                have qg := put8_heap (w := wc44) (.int .u16 (v1 : Int)) (.int .u16 (v2 : Int)) (.int .u16 (v3 : Int)) (.int .u32 (v4 : Int)) (.bool B1) (.bool B2) (.bool B3) (.slice Ad Dt.length cd) qf
                have hm8 := put8_mod wc44 (wd2.heap.size) (.int .u16 (v1 : Int)) (.int .u16 (v2 : Int)) (.int .u16 (v3 : Int)) (.int .u32 (v4 : Int)) (.bool B1) (.bool B2) (.bool B3) (.slice Ad Dt.length cd)
                replace q := (hm8.block _ (box_lt q) (fun e => hgq e)).trans q
                replace hs := Bs.modne hs hm8 (fun _ e => hgb e)
                replace hsd := Bs.modne hsd hm8 (fun h e => hne h e)
                replace hb := hb.trans (hm8.below hb.size (fun i hi e => by have := box_lt qf; have e : i = wd2.heap.size := e; have := hgsz; omega))
                obtain ⟨ws46, hws46⟩ : ∃ ws46, ws46 = put8 wc44 (wd2.heap.size) (.int .u16 (v1 : Int)) (.int .u16 (v2 : Int)) (.int .u16 (v3 : Int)) (.int .u32 (v4 : Int)) (.bool B1) (.bool B2) (.bool B3) (.slice Ad Dt.length cd) := ⟨_, rfl⟩
                simp only [put8] at hws46
                simp only [put8] at qg q hs hsd hb
                rw [← hws46] at qg q hs hsd hb ⊢
                clear hws46 hm8 qf
                refine hKK.out _ _ ?_ (fun hHeld => ?_)
                · exact hb.size
                clear hKK KK
                try simp only [Act.put, List.setIfInBounds_toArray, List.set_cons_zero, List.set_cons_succ]
                refine wpAnyH_done (by kernel_rfl) ?_ _
                have hFe : (⟨v1, v2, v3, v4, B1, B2, B3, Dt⟩ : Fr) = candF l := by
                  unfold candF
                  rw [HV.out.1, HV.out.2.1, HV.out.2.2.1, HV.out.2.2.2, HBB.out.1, HBB.out.2.1, HBB.out.2.2, HDT.out, show l.length - 4 - 13 = k - 13 by (have := HN.out; have := HK.out; omega), show (l.getD 11 0).toNat = x by (rw [List.getD_eq_getElem?_getD, List.getElem?_eq_getElem hll, HX.out]; rfl)]
                obtain ⟨F, hF⟩ : ∃ F : Fr, F = ⟨v1, v2, v3, v4, B1, B2, B3, Dt⟩ := ⟨_, rfl⟩
                have HF : Hid (F = candF l) := Lib.hid (hF.trans hFe)
                have ho : F.Ok := by rw [HF.out]; exact candF_ok l
                replace qg : ws46.heap[wd2.heap.size]? = some (.cells (F.cells Ad cd) 35 (0, 0)) := by rw [hF]; exact qg
                replace hsd : Bs ws46 bd Ad F.data := by rw [hF]; exact hsd
                clear hF hFe a0 a1 a2 a3 a4 a5 a6 a7 hfz m1 m2 m3 g1 g2 g3 g4
                obtain ⟨k0, k1, k2, k3, k4, k5, k6, k7⟩ := boxg_all qg
                have hRi := fun W => RRight_calls F Ad cd W
                cases hr : F.right with
                | false =>
                  rw [hr] at hRi
                  go_wp2_with fail
                  refine (hRi _).mono ?_
                  rintro e wr ⟨rfl, h1⟩
                  replace q := box_ext q h1
                  replace hb := hb.trans (h1.mono hb.size)
                  obtain ⟨a0, a1, a2, a3, a4, a5, a6, a7⟩ := box8_all q
                  have hfz := fun j => frozen_of_row _ w.heap.size j _ _ q
                  go_wp2_with fail
                  have hp := put8_heap (w := wr) (.int .u16 0) (.int .u16 0) (.int .u16 0) (.int .u32 0) (.bool false) (.bool false) (.bool false) (.slice none 0 0) q
                  have hm := put8_mod wr w.heap.size (.int .u16 0) (.int .u16 0) (.int .u16 0) (.int .u32 0) (.bool false) (.bool false) (.bool false) (.slice none 0 0)
                  refine bodyPost_ret (results_ct (P := Try.prog) rfl _ _ w.heap.size _ _ (0, 0) _ rfl hp Try.underlying35 rfl (by kernel_rfl)) rfl ?_
                  have hR : R = (zFr, 2) := by rw [HR.out]; have h0 := HN.out; have h1 := HK.out; unfold rparseF; rw [if_neg (by omega), show l.length - 4 = k by omega, HOP.out, if_neg (by simp), if_neg (by omega), ← HF.out, if_neg (by rintro ⟨h, _⟩; rw [hr] at h; cases h)]
                  rw [hR]
                  exact ⟨none, 0, w.heap.size, rfl, Sl.nil_ _ _ _, Nat.le_refl _, hb.trans (hm.below hb.size (fun i hi e => by omega))⟩
                | true =>
                  rw [hr] at hRi
                  go_wp2_with fail
                  refine (hRi _).mono ?_
                  rintro e wr ⟨rfl, h1⟩
                  replace q := box_ext q h1
                  replace hb := hb.trans (h1.mono hb.size)
                  replace qg := box_ext qg h1
                  replace hs := Sl.ext hs h1
                  replace hsd := Sl.ext hsd h1
                  clear h1
                  clear k0 k1 k2 k3 k4 k5 k6 k7
                  obtain ⟨k0, k1, k2, k3, k4, k5, k6, k7⟩ := boxg_all qg
                  go_wp2_with fail
                  refine (RBytes_calls F Ad cd bd _ ho hr hsd).mono ?_
                  rintro e wb ⟨v, rfl, hrow, h1⟩
                  obtain ⟨Aq, cq, bq, rfl, -, -, -, -, hsq, -⟩ := hrow.sl
                  replace q := box_ext q h1
                  replace hb := hb.trans (h1.mono hb.size)
                  replace qg := box_ext qg h1
                  replace hs := Sl.ext hs h1
                  replace hsd := Sl.ext hsd h1
                  clear h1 hrow
                  obtain ⟨mq, hmq⟩ : ∃ mq, mq = (sealedL F.raw).length := ⟨_, rfl⟩
                  have hmq2 : mq ≤ 1000 := by rw [hmq, raw_length F hr]; have := Fr.right_len hr; omega
                  have hSm := Same_calls Aq (some ⟨b, off, none⟩) (sealedL F.raw) l mq n cq c bq b _ hsq hs hmq.symm HN.out (by simp only [maxLen]; omega) (by simp only [maxLen]; omega)
                  rw [← hmq]
                  clear hmq hsq
                  clear k0 k1 k2 k3 k4 k5 k6 k7
                  obtain ⟨k0, k1, k2, k3, k4, k5, k6, k7⟩ := boxg_all qg
                  by_cases he : sealedL F.raw = l
                  · skip
                    rw [show decide (sealedL F.raw = l) = true by simp [he]] at hSm
                    have HE := Lib.hid he
                    clear he
                    go_wp2_with fail
                    refine hSm.mono ?_
                    rintro e ws ⟨rfl, kd, hws⟩
                    replace q : ws.heap[w.heap.size]? = some (.cells #[.int .u16 0, .int .u16 0, .int .u16 0, .int .u32 0, .bool false, .bool false, .bool false, .slice none 0 0] 35 (0, 0)) := by rw [hws]; exact q
                    replace qg : ws.heap[wd2.heap.size]? = some (.cells (F.cells Ad cd) 35 (0, 0)) := by rw [hws]; exact qg
                    replace hsd : Bs ws bd Ad F.data := by rw [hws]; exact hsd
                    replace hb : Below w.heap.size w ws := by rw [hws]; exact below_drewN hb kd
                    clear hws hSm
                    clear k0 k1 k2 k3 k4 k5 k6 k7
                    obtain ⟨k0, k1, k2, k3, k4, k5, k6, k7⟩ := boxg_all qg
                    obtain ⟨a0, a1, a2, a3, a4, a5, a6, a7⟩ := box8_all q
                    have hfz := fun j => frozen_of_row _ w.heap.size j _ _ q
                    go_wp2_with fail
                    have hp := put8_heap (w := ws) (.int .u16 (F.epoch : Int)) (.int .u16 (F.seq : Int)) (.int .u16 (F.next : Int)) (.int .u32 (F.bits : Int)) (.bool F.first) (.bool F.last) (.bool F.alone) (.slice Ad F.data.length cd) q
                    have hm := put8_mod ws w.heap.size (.int .u16 (F.epoch : Int)) (.int .u16 (F.seq : Int)) (.int .u16 (F.next : Int)) (.int .u32 (F.bits : Int)) (.bool F.first) (.bool F.last) (.bool F.alone) (.slice Ad F.data.length cd)
                    refine bodyPost_ret (results_ct (P := Try.prog) rfl _ _ w.heap.size _ _ (0, 0) _ rfl hp Try.underlying35 rfl (by kernel_rfl)) rfl ?_
                    have hR : R = (F, 0) := by rw [HR.out]; have h0 := HN.out; have h1 := HK.out; unfold rparseF; rw [if_neg (by omega), show l.length - 4 = k by omega, HOP.out, if_neg (by simp), if_neg (by omega), ← HF.out, if_pos ⟨hr, HE.out⟩]
                    rw [hR]
                    have h9 := Bs.modne hsd hm (fun hne e => by have h8 := hbdw; have h7 := hbdz; omega)
                    exact ⟨Ad, cd, bd, rfl, h9, hbdw, hb.trans (hm.below hb.size (fun i hi e => by omega))⟩
                  · skip
                    rw [show decide (sealedL F.raw = l) = false by simp [he]] at hSm
                    have HE := Lib.hid he
                    clear he
                    go_wp2_with fail
                    refine hSm.mono ?_
                    rintro e ws ⟨rfl, kd, hws⟩
                    replace q : ws.heap[w.heap.size]? = some (.cells #[.int .u16 0, .int .u16 0, .int .u16 0, .int .u32 0, .bool false, .bool false, .bool false, .slice none 0 0] 35 (0, 0)) := by rw [hws]; exact q
                    replace qg : ws.heap[wd2.heap.size]? = some (.cells (F.cells Ad cd) 35 (0, 0)) := by rw [hws]; exact qg
                    replace hsd : Bs ws bd Ad F.data := by rw [hws]; exact hsd
                    replace hb : Below w.heap.size w ws := by rw [hws]; exact below_drewN hb kd
                    clear hws hSm
                    clear k0 k1 k2 k3 k4 k5 k6 k7
                    obtain ⟨k0, k1, k2, k3, k4, k5, k6, k7⟩ := boxg_all qg
                    obtain ⟨a0, a1, a2, a3, a4, a5, a6, a7⟩ := box8_all q
                    have hfz := fun j => frozen_of_row _ w.heap.size j _ _ q
                    go_wp2_with fail
                    have hp := put8_heap (w := ws) (.int .u16 0) (.int .u16 0) (.int .u16 0) (.int .u32 0) (.bool false) (.bool false) (.bool false) (.slice none 0 0) q
                    have hm := put8_mod ws w.heap.size (.int .u16 0) (.int .u16 0) (.int .u16 0) (.int .u32 0) (.bool false) (.bool false) (.bool false) (.slice none 0 0)
                    refine bodyPost_ret (results_ct (P := Try.prog) rfl _ _ w.heap.size _ _ (0, 0) _ rfl hp Try.underlying35 rfl (by kernel_rfl)) rfl ?_
                    have hR : R = (zFr, 2) := by rw [HR.out]; have h0 := HN.out; have h1 := HK.out; unfold rparseF; rw [if_neg (by omega), show l.length - 4 = k by omega, HOP.out, if_neg (by simp), if_neg (by omega), ← HF.out, if_neg (fun h => HE.out h.2)]
                    rw [hR]
                    exact ⟨none, 0, w.heap.size, rfl, Sl.nil_ _ _ _, Nat.le_refl _, hb.trans (hm.below hb.size (fun i hi e => by omega))⟩
            · skip
              rw [if_pos (by kernel_rfl)]
              have hgsz := hb.size
              have hgq : w.heap.size ≠ wd2.heap.size := Nat.ne_of_lt (box_lt q)
              have hgb : b ≠ wd2.heap.size := Nat.ne_of_lt (Bs.lt hs hll0)
              go_simp
              obtain ⟨wa47, hwa47⟩ : ∃ wa47, wa47 = wd2.alloc (.cells #[.int .u16 0, .int .u16 0, .int .u16 0, .int .u32 0, .bool false, .bool false, .bool false, .slice none 0 0] 35) := ⟨_, rfl⟩
              have h9 : Below wd2.heap.size wd2 wa47 := by rw [hwa47]; exact below_alloc1 _ _
              have qf : wa47.heap[wd2.heap.size]? = some (.cells #[.int .u16 0, .int .u16 0, .int .u16 0, .int .u32 0, .bool false, .bool false, .bool false, .slice none 0 0] 35 (0, 0)) := by rw [hwa47]; exact heap_alloc_new _ _
              rw [← hwa47]
              clear hwa47
              replace q := box_ext q h9
              replace hs := Sl.ext hs h9
              replace hb := hb.trans (h9.mono hb.size)
              clear h9
              refine hKK.out _ _ ?_ (fun hHeld => ?_)
              · exact hb.size
              clear hKK KK
              try simp only [Act.put, List.setIfInBounds_toArray, List.set_cons_zero, List.set_cons_succ]
              refine wpAnyH_ready (rs := [10]) (by kernel_rfl) (by simp) ?_
              refine AllReadyH.cons (by simp only [List.getElem?_toArray, List.getElem?_cons_succ, List.getElem?_cons_zero]; rfl) (fun KK hKK => ?_) AllReadyH.nil
              rw [if_pos (by kernel_rfl)]
              go_simp
              (with_reducible refine (Value_calls (some ⟨b, off + 5, none⟩) ((l.drop 5).take 2) 2 (c - 5) b _ (Bs.mid hs 5 2) (by rw [List.length_take, List.length_drop, HN.out]; omega) (by omega)).mono ?_)
              rintro e wv ⟨rfl, rfl⟩
              rw [← HV.out.2.2.1]
              go_wp2_with fail
              refine hKK.out _ _ ?_ (fun hHeld => ?_)
              · exact hb.size
              clear hKK KK
              try simp only [Act.put, List.setIfInBounds_toArray, List.set_cons_zero, List.set_cons_succ]
              refine wpAnyH_take (i := 11) (v := ?vt148) (by simp only [List.getElem?_toArray, List.getElem?_cons_succ, List.getElem?_cons_zero]; rfl) (by kernel_rfl) (by kernel_rfl) (by kernel_rfl) (by exact fun _ _ _ h => h) (Or.inl ⟨by kernel_rfl, ?yt148⟩) hHeld ?_
              case yt148 => (intro ww hSw; (try dsimp only at hSw); clear hSw; go_simp; try (with_reducible rfl))
              try simp only [Act.put, List.setIfInBounds_toArray, List.set_cons_zero, List.set_cons_succ]
              refine wpAnyH_ready (rs := [14]) (by kernel_rfl) (by simp) ?_
              refine AllReadyH.cons (by simp only [List.getElem?_toArray, List.getElem?_cons_succ, List.getElem?_cons_zero]; rfl) (fun KK hKK => ?_) AllReadyH.nil
              rw [if_pos (by kernel_rfl)]
              go_simp
              (with_reducible refine (Value_calls (some ⟨b, off + 7, none⟩) ((l.drop 7).take 4) 4 (c - 7) b _ (Bs.mid hs 7 4) (by rw [List.length_take, List.length_drop, HN.out]; omega) (by omega)).mono ?_)
              rintro e wv ⟨rfl, rfl⟩
              rw [← HV.out.2.2.2]
              go_wp2_with fail
              refine hKK.out _ _ ?_ (fun hHeld => ?_)
              · exact hb.size
              clear hKK KK
              try simp only [Act.put, List.setIfInBounds_toArray, List.set_cons_zero, List.set_cons_succ]
              refine wpAnyH_take (i := 15) (v := ?vt149) (by simp only [List.getElem?_toArray, List.getElem?_cons_succ, List.getElem?_cons_zero]; rfl) (by kernel_rfl) (by kernel_rfl) (by kernel_rfl) (by exact fun _ _ _ h => h) (Or.inl ⟨by kernel_rfl, ?yt149⟩) hHeld ?_
              case yt149 => (intro ww hSw; (try dsimp only at hSw); clear hSw; go_simp; try (with_reducible rfl))
              try simp only [Act.put, List.setIfInBounds_toArray, List.set_cons_zero, List.set_cons_succ]
              refine wpAnyH_ready (rs := [32]) (by kernel_rfl) (by simp) ?_
              refine AllReadyH.cons (by simp only [List.getElem?_toArray, List.getElem?_cons_succ, List.getElem?_cons_zero]; rfl) (fun KK hKK => ?_) AllReadyH.nil
              rw [if_pos (by kernel_rfl)]
              have hbd0 := hb.size
              have hqlt := box_lt q
              have hglt := box_lt qf
              go_simp
              (with_reducible refine (Cut_calls (some ⟨b, off + 13, none⟩) ((l.drop 13).take (k - 13)) (k - 13) (c - 13) b 1000 _ (Bs.mid hs 13 (k - 13)) (by rw [List.length_take, List.length_drop, HN.out]; omega) (by simp only [maxLen]; omega) (by simp only [List.length_take]; omega)).mono ?_)
              rintro e wc51 ⟨vd, rfl, hrow, g50⟩
              replace q := box_ext q g50
              replace hs := Sl.ext hs g50
              replace qf := box_ext qf g50
              replace hb := hb.trans (g50.mono hb.size)
              clear g50
              rw [show (1000 : Int).toNat = 1000 from rfl] at hrow
              obtain ⟨Dt, hDt⟩ : ∃ Dt, Dt = ((l.drop 13).take (k - 13)).take 1000 := ⟨_, rfl⟩
              rw [← hDt] at hrow
              obtain ⟨Ad, cd, bd, rfl, -, -, -, hBd, hsd, -⟩ := hrow.sl
              have HDT := Lib.hid hDt
              have hbdw : w.heap.size ≤ bd := by omega
              have hbdz : w.heap.size ≠ bd := by have := hqlt; omega
              have hne : Dt ≠ [] → bd ≠ wd2.heap.size := fun _ => by omega
              clear hrow hDt hBd
              go_wp2_with fail
              refine hKK.out _ _ ?_ (fun hHeld => ?_)
              · exact hb.size
              clear hKK KK
              try simp only [Act.put, List.setIfInBounds_toArray, List.set_cons_zero, List.set_cons_succ]
              refine wpAnyH_take (i := 33) (v := ?vt152) (by simp only [List.getElem?_toArray, List.getElem?_cons_succ, List.getElem?_cons_zero]; rfl) (by kernel_rfl) (by kernel_rfl) (by kernel_rfl) (by exact fun _ _ _ h => h) (Or.inl ⟨by kernel_rfl, ?yt152⟩) hHeld ?_
              case yt152 => (intro ww hSw; (try dsimp only at hSw); clear hSw; go_simp; try (with_reducible rfl))
              try simp only [Act.put, List.setIfInBounds_toArray, List.set_cons_zero, List.set_cons_succ]
              refine wpAnyH_ready (rs := [35]) (by kernel_rfl) (by simp) ?_
              refine AllReadyH.cons (by simp only [List.getElem?_toArray, List.getElem?_cons_succ, List.getElem?_cons_zero]; rfl) (fun KK hKK => ?_) AllReadyH.nil
              rw [if_pos (by kernel_rfl)]
              obtain ⟨s0, s1, s2, s3, s4, s5, s6, s7⟩ := box8_all qf
              have hff := fun j => frozen_of_row _ (wd2.heap.size) j _ _ qf
              go_simp
              clear s0 s1 s2 s3 s4 s5 s6 s7 hff
              have qg := put8_heap (w := wc51) (.int .u16 (v1 : Int)) (.int .u16 (v2 : Int)) (.int .u16 (v3 : Int)) (.int .u32 (v4 : Int)) (.bool B1) (.bool B2) (.bool B3) (.slice Ad Dt.length cd) qf
              have hm8 := put8_mod wc51 (wd2.heap.size) (.int .u16 (v1 : Int)) (.int .u16 (v2 : Int)) (.int .u16 (v3 : Int)) (.int .u32 (v4 : Int)) (.bool B1) (.bool B2) (.bool B3) (.slice Ad Dt.length cd)
              replace q := (hm8.block _ (box_lt q) (fun e => hgq e)).trans q
              replace hs := Bs.modne hs hm8 (fun _ e => hgb e)
              replace hsd := Bs.modne hsd hm8 (fun h e => hne h e)
              replace hb := hb.trans (hm8.below hb.size (fun i hi e => by have := box_lt qf; have e : i = wd2.heap.size := e; have := hgsz; omega))
              obtain ⟨ws53, hws53⟩ : ∃ ws53, ws53 = put8 wc51 (wd2.heap.size) (.int .u16 (v1 : Int)) (.int .u16 (v2 : Int)) (.int .u16 (v3 : Int)) (.int .u32 (v4 : Int)) (.bool B1) (.bool B2) (.bool B3) (.slice Ad Dt.length cd) := ⟨_, rfl⟩
              simp only [put8] at hws53
              simp only [put8] at qg q hs hsd hb
              rw [← hws53] at qg q hs hsd hb ⊢
              clear hws53 hm8 qf
              refine hKK.out _ _ ?_ (fun hHeld => ?_)
              · exact hb.size
              clear hKK KK
              try simp only [Act.put, List.setIfInBounds_toArray, List.set_cons_zero, List.set_cons_succ]
              refine wpAnyH_done (by kernel_rfl) ?_ _
              have hFe : (⟨v1, v2, v3, v4, B1, B2, B3, Dt⟩ : Fr) = candF l := by
                unfold candF
                rw [HV.out.1, HV.out.2.1, HV.out.2.2.1, HV.out.2.2.2, HBB.out.1, HBB.out.2.1, HBB.out.2.2, HDT.out, show l.length - 4 - 13 = k - 13 by (have := HN.out; have := HK.out; omega), show (l.getD 11 0).toNat = x by (rw [List.getD_eq_getElem?_getD, List.getElem?_eq_getElem hll, HX.out]; rfl)]
              obtain ⟨F, hF⟩ : ∃ F : Fr, F = ⟨v1, v2, v3, v4, B1, B2, B3, Dt⟩ := ⟨_, rfl⟩
              have HF : Hid (F = candF l) := Lib.hid (hF.trans hFe)
              have ho : F.Ok := by rw [HF.out]; exact candF_ok l
              replace qg : ws53.heap[wd2.heap.size]? = some (.cells (F.cells Ad cd) 35 (0, 0)) := by rw [hF]; exact qg
              replace hsd : Bs ws53 bd Ad F.data := by rw [hF]; exact hsd
              clear hF hFe a0 a1 a2 a3 a4 a5 a6 a7 hfz m1 m2 m3 g1 g2 g3 g4
              obtain ⟨k0, k1, k2, k3, k4, k5, k6, k7⟩ := boxg_all qg
              have hRi := fun W => RRight_calls F Ad cd W
              cases hr : F.right with
              | false =>
                rw [hr] at hRi
                go_wp2_with fail
                refine (hRi _).mono ?_
                rintro e wr ⟨rfl, h1⟩
                replace q := box_ext q h1
                replace hb := hb.trans (h1.mono hb.size)
                obtain ⟨a0, a1, a2, a3, a4, a5, a6, a7⟩ := box8_all q
                have hfz := fun j => frozen_of_row _ w.heap.size j _ _ q
                go_wp2_with fail
                have hp := put8_heap (w := wr) (.int .u16 0) (.int .u16 0) (.int .u16 0) (.int .u32 0) (.bool false) (.bool false) (.bool false) (.slice none 0 0) q
                have hm := put8_mod wr w.heap.size (.int .u16 0) (.int .u16 0) (.int .u16 0) (.int .u32 0) (.bool false) (.bool false) (.bool false) (.slice none 0 0)
                refine bodyPost_ret (results_ct (P := Try.prog) rfl _ _ w.heap.size _ _ (0, 0) _ rfl hp Try.underlying35 rfl (by kernel_rfl)) rfl ?_
                have hR : R = (zFr, 2) := by rw [HR.out]; have h0 := HN.out; have h1 := HK.out; unfold rparseF; rw [if_neg (by omega), show l.length - 4 = k by omega, HOP.out, if_neg (by simp), if_neg (by omega), ← HF.out, if_neg (by rintro ⟨h, _⟩; rw [hr] at h; cases h)]
                rw [hR]
                exact ⟨none, 0, w.heap.size, rfl, Sl.nil_ _ _ _, Nat.le_refl _, hb.trans (hm.below hb.size (fun i hi e => by omega))⟩
              | true =>
                rw [hr] at hRi
                go_wp2_with fail
                refine (hRi _).mono ?_
                rintro e wr ⟨rfl, h1⟩
                replace q := box_ext q h1
                replace hb := hb.trans (h1.mono hb.size)
                replace qg := box_ext qg h1
                replace hs := Sl.ext hs h1
                replace hsd := Sl.ext hsd h1
                clear h1
                clear k0 k1 k2 k3 k4 k5 k6 k7
                obtain ⟨k0, k1, k2, k3, k4, k5, k6, k7⟩ := boxg_all qg
                go_wp2_with fail
                refine (RBytes_calls F Ad cd bd _ ho hr hsd).mono ?_
                rintro e wb ⟨v, rfl, hrow, h1⟩
                obtain ⟨Aq, cq, bq, rfl, -, -, -, -, hsq, -⟩ := hrow.sl
                replace q := box_ext q h1
                replace hb := hb.trans (h1.mono hb.size)
                replace qg := box_ext qg h1
                replace hs := Sl.ext hs h1
                replace hsd := Sl.ext hsd h1
                clear h1 hrow
                obtain ⟨mq, hmq⟩ : ∃ mq, mq = (sealedL F.raw).length := ⟨_, rfl⟩
                have hmq2 : mq ≤ 1000 := by rw [hmq, raw_length F hr]; have := Fr.right_len hr; omega
                have hSm := Same_calls Aq (some ⟨b, off, none⟩) (sealedL F.raw) l mq n cq c bq b _ hsq hs hmq.symm HN.out (by simp only [maxLen]; omega) (by simp only [maxLen]; omega)
                rw [← hmq]
                clear hmq hsq
                clear k0 k1 k2 k3 k4 k5 k6 k7
                obtain ⟨k0, k1, k2, k3, k4, k5, k6, k7⟩ := boxg_all qg
                by_cases he : sealedL F.raw = l
                · skip
                  rw [show decide (sealedL F.raw = l) = true by simp [he]] at hSm
                  have HE := Lib.hid he
                  clear he
                  go_wp2_with fail
                  refine hSm.mono ?_
                  rintro e ws ⟨rfl, kd, hws⟩
                  replace q : ws.heap[w.heap.size]? = some (.cells #[.int .u16 0, .int .u16 0, .int .u16 0, .int .u32 0, .bool false, .bool false, .bool false, .slice none 0 0] 35 (0, 0)) := by rw [hws]; exact q
                  replace qg : ws.heap[wd2.heap.size]? = some (.cells (F.cells Ad cd) 35 (0, 0)) := by rw [hws]; exact qg
                  replace hsd : Bs ws bd Ad F.data := by rw [hws]; exact hsd
                  replace hb : Below w.heap.size w ws := by rw [hws]; exact below_drewN hb kd
                  clear hws hSm
                  clear k0 k1 k2 k3 k4 k5 k6 k7
                  obtain ⟨k0, k1, k2, k3, k4, k5, k6, k7⟩ := boxg_all qg
                  obtain ⟨a0, a1, a2, a3, a4, a5, a6, a7⟩ := box8_all q
                  have hfz := fun j => frozen_of_row _ w.heap.size j _ _ q
                  go_wp2_with fail
                  have hp := put8_heap (w := ws) (.int .u16 (F.epoch : Int)) (.int .u16 (F.seq : Int)) (.int .u16 (F.next : Int)) (.int .u32 (F.bits : Int)) (.bool F.first) (.bool F.last) (.bool F.alone) (.slice Ad F.data.length cd) q
                  have hm := put8_mod ws w.heap.size (.int .u16 (F.epoch : Int)) (.int .u16 (F.seq : Int)) (.int .u16 (F.next : Int)) (.int .u32 (F.bits : Int)) (.bool F.first) (.bool F.last) (.bool F.alone) (.slice Ad F.data.length cd)
                  refine bodyPost_ret (results_ct (P := Try.prog) rfl _ _ w.heap.size _ _ (0, 0) _ rfl hp Try.underlying35 rfl (by kernel_rfl)) rfl ?_
                  have hR : R = (F, 0) := by rw [HR.out]; have h0 := HN.out; have h1 := HK.out; unfold rparseF; rw [if_neg (by omega), show l.length - 4 = k by omega, HOP.out, if_neg (by simp), if_neg (by omega), ← HF.out, if_pos ⟨hr, HE.out⟩]
                  rw [hR]
                  have h9 := Bs.modne hsd hm (fun hne e => by have h8 := hbdw; have h7 := hbdz; omega)
                  exact ⟨Ad, cd, bd, rfl, h9, hbdw, hb.trans (hm.below hb.size (fun i hi e => by omega))⟩
                · skip
                  rw [show decide (sealedL F.raw = l) = false by simp [he]] at hSm
                  have HE := Lib.hid he
                  clear he
                  go_wp2_with fail
                  refine hSm.mono ?_
                  rintro e ws ⟨rfl, kd, hws⟩
                  replace q : ws.heap[w.heap.size]? = some (.cells #[.int .u16 0, .int .u16 0, .int .u16 0, .int .u32 0, .bool false, .bool false, .bool false, .slice none 0 0] 35 (0, 0)) := by rw [hws]; exact q
                  replace qg : ws.heap[wd2.heap.size]? = some (.cells (F.cells Ad cd) 35 (0, 0)) := by rw [hws]; exact qg
                  replace hsd : Bs ws bd Ad F.data := by rw [hws]; exact hsd
                  replace hb : Below w.heap.size w ws := by rw [hws]; exact below_drewN hb kd
                  clear hws hSm
                  clear k0 k1 k2 k3 k4 k5 k6 k7
                  obtain ⟨k0, k1, k2, k3, k4, k5, k6, k7⟩ := boxg_all qg
                  obtain ⟨a0, a1, a2, a3, a4, a5, a6, a7⟩ := box8_all q
                  have hfz := fun j => frozen_of_row _ w.heap.size j _ _ q
                  go_wp2_with fail
                  have hp := put8_heap (w := ws) (.int .u16 0) (.int .u16 0) (.int .u16 0) (.int .u32 0) (.bool false) (.bool false) (.bool false) (.slice none 0 0) q
                  have hm := put8_mod ws w.heap.size (.int .u16 0) (.int .u16 0) (.int .u16 0) (.int .u32 0) (.bool false) (.bool false) (.bool false) (.slice none 0 0)
                  refine bodyPost_ret (results_ct (P := Try.prog) rfl _ _ w.heap.size _ _ (0, 0) _ rfl hp Try.underlying35 rfl (by kernel_rfl)) rfl ?_
                  have hR : R = (zFr, 2) := by rw [HR.out]; have h0 := HN.out; have h1 := HK.out; unfold rparseF; rw [if_neg (by omega), show l.length - 4 = k by omega, HOP.out, if_neg (by simp), if_neg (by omega), ← HF.out, if_neg (fun h => HE.out h.2)]
                  rw [hR]
                  exact ⟨none, 0, w.heap.size, rfl, Sl.nil_ _ _ _, Nat.le_refl _, hb.trans (hm.below hb.size (fun i hi e => by omega))⟩
          · skip
            rw [if_pos (by kernel_rfl)]
            have hgsz := hb.size
            have hgq : w.heap.size ≠ wd2.heap.size := Nat.ne_of_lt (box_lt q)
            have hgb : b ≠ wd2.heap.size := Nat.ne_of_lt (Bs.lt hs hll0)
            go_simp
            obtain ⟨wa54, hwa54⟩ : ∃ wa54, wa54 = wd2.alloc (.cells #[.int .u16 0, .int .u16 0, .int .u16 0, .int .u32 0, .bool false, .bool false, .bool false, .slice none 0 0] 35) := ⟨_, rfl⟩
            have h9 : Below wd2.heap.size wd2 wa54 := by rw [hwa54]; exact below_alloc1 _ _
            have qf : wa54.heap[wd2.heap.size]? = some (.cells #[.int .u16 0, .int .u16 0, .int .u16 0, .int .u32 0, .bool false, .bool false, .bool false, .slice none 0 0] 35 (0, 0)) := by rw [hwa54]; exact heap_alloc_new _ _
            rw [← hwa54]
            clear hwa54
            replace q := box_ext q h9
            replace hs := Sl.ext hs h9
            replace hb := hb.trans (h9.mono hb.size)
            clear h9
            refine hKK.out _ _ ?_ (fun hHeld => ?_)
            · exact hb.size
            clear hKK KK
            try simp only [Act.put, List.setIfInBounds_toArray, List.set_cons_zero, List.set_cons_succ]
            refine wpAnyH_ready (rs := [6]) (by kernel_rfl) (by simp) ?_
            refine AllReadyH.cons (by simp only [List.getElem?_toArray, List.getElem?_cons_succ, List.getElem?_cons_zero]; rfl) (fun KK hKK => ?_) AllReadyH.nil
            rw [if_pos (by kernel_rfl)]
            go_simp
            (with_reducible refine (Value_calls (some ⟨b, off + 3, none⟩) ((l.drop 3).take 2) 2 (c - 3) b _ (Bs.mid hs 3 2) (by rw [List.length_take, List.length_drop, HN.out]; omega) (by omega)).mono ?_)
            rintro e wv ⟨rfl, rfl⟩
            rw [← HV.out.2.1]
            go_wp2_with fail
            refine hKK.out _ _ ?_ (fun hHeld => ?_)
            · exact hb.size
            clear hKK KK
            try simp only [Act.put, List.setIfInBounds_toArray, List.set_cons_zero, List.set_cons_succ]
            refine wpAnyH_take (i := 7) (v := ?vt155) (by simp only [List.getElem?_toArray, List.getElem?_cons_succ, List.getElem?_cons_zero]; rfl) (by kernel_rfl) (by kernel_rfl) (by kernel_rfl) (by exact fun _ _ _ h => h) (Or.inl ⟨by kernel_rfl, ?yt155⟩) hHeld ?_
            case yt155 => (intro ww hSw; (try dsimp only at hSw); clear hSw; go_simp; try (with_reducible rfl))
            try simp only [Act.put, List.setIfInBounds_toArray, List.set_cons_zero, List.set_cons_succ]
            refine wpAnyH_ready (rs := [10]) (by kernel_rfl) (by simp) ?_
            refine AllReadyH.cons (by simp only [List.getElem?_toArray, List.getElem?_cons_succ, List.getElem?_cons_zero]; rfl) (fun KK hKK => ?_) AllReadyH.nil
            rw [if_pos (by kernel_rfl)]
            go_simp
            (with_reducible refine (Value_calls (some ⟨b, off + 5, none⟩) ((l.drop 5).take 2) 2 (c - 5) b _ (Bs.mid hs 5 2) (by rw [List.length_take, List.length_drop, HN.out]; omega) (by omega)).mono ?_)
            rintro e wv ⟨rfl, rfl⟩
            rw [← HV.out.2.2.1]
            go_wp2_with fail
            refine hKK.out _ _ ?_ (fun hHeld => ?_)
            · exact hb.size
            clear hKK KK
            try simp only [Act.put, List.setIfInBounds_toArray, List.set_cons_zero, List.set_cons_succ]
            refine wpAnyH_take (i := 11) (v := ?vt156) (by simp only [List.getElem?_toArray, List.getElem?_cons_succ, List.getElem?_cons_zero]; rfl) (by kernel_rfl) (by kernel_rfl) (by kernel_rfl) (by exact fun _ _ _ h => h) (Or.inl ⟨by kernel_rfl, ?yt156⟩) hHeld ?_
            case yt156 => (intro ww hSw; (try dsimp only at hSw); clear hSw; go_simp; try (with_reducible rfl))
            try simp only [Act.put, List.setIfInBounds_toArray, List.set_cons_zero, List.set_cons_succ]
            refine wpAnyH_ready (rs := [14]) (by kernel_rfl) (by simp) ?_
            refine AllReadyH.cons (by simp only [List.getElem?_toArray, List.getElem?_cons_succ, List.getElem?_cons_zero]; rfl) (fun KK hKK => ?_) AllReadyH.nil
            rw [if_pos (by kernel_rfl)]
            go_simp
            (with_reducible refine (Value_calls (some ⟨b, off + 7, none⟩) ((l.drop 7).take 4) 4 (c - 7) b _ (Bs.mid hs 7 4) (by rw [List.length_take, List.length_drop, HN.out]; omega) (by omega)).mono ?_)
            rintro e wv ⟨rfl, rfl⟩
            rw [← HV.out.2.2.2]
            go_wp2_with fail
            refine hKK.out _ _ ?_ (fun hHeld => ?_)
            · exact hb.size
            clear hKK KK
            try simp only [Act.put, List.setIfInBounds_toArray, List.set_cons_zero, List.set_cons_succ]
            refine wpAnyH_take (i := 15) (v := ?vt157) (by simp only [List.getElem?_toArray, List.getElem?_cons_succ, List.getElem?_cons_zero]; rfl) (by kernel_rfl) (by kernel_rfl) (by kernel_rfl) (by exact fun _ _ _ h => h) (Or.inl ⟨by kernel_rfl, ?yt157⟩) hHeld ?_
            case yt157 => (intro ww hSw; (try dsimp only at hSw); clear hSw; go_simp; try (with_reducible rfl))
            try simp only [Act.put, List.setIfInBounds_toArray, List.set_cons_zero, List.set_cons_succ]
            refine wpAnyH_ready (rs := [32]) (by kernel_rfl) (by simp) ?_
            refine AllReadyH.cons (by simp only [List.getElem?_toArray, List.getElem?_cons_succ, List.getElem?_cons_zero]; rfl) (fun KK hKK => ?_) AllReadyH.nil
            rw [if_pos (by kernel_rfl)]
            have hbd0 := hb.size
            have hqlt := box_lt q
            have hglt := box_lt qf
            go_simp
            (with_reducible refine (Cut_calls (some ⟨b, off + 13, none⟩) ((l.drop 13).take (k - 13)) (k - 13) (c - 13) b 1000 _ (Bs.mid hs 13 (k - 13)) (by rw [List.length_take, List.length_drop, HN.out]; omega) (by simp only [maxLen]; omega) (by simp only [List.length_take]; omega)).mono ?_)
            rintro e wc59 ⟨vd, rfl, hrow, g58⟩
            replace q := box_ext q g58
            replace hs := Sl.ext hs g58
            replace qf := box_ext qf g58
            replace hb := hb.trans (g58.mono hb.size)
            clear g58
            rw [show (1000 : Int).toNat = 1000 from rfl] at hrow
            obtain ⟨Dt, hDt⟩ : ∃ Dt, Dt = ((l.drop 13).take (k - 13)).take 1000 := ⟨_, rfl⟩
            rw [← hDt] at hrow
            obtain ⟨Ad, cd, bd, rfl, -, -, -, hBd, hsd, -⟩ := hrow.sl
            have HDT := Lib.hid hDt
            have hbdw : w.heap.size ≤ bd := by omega
            have hbdz : w.heap.size ≠ bd := by have := hqlt; omega
            have hne : Dt ≠ [] → bd ≠ wd2.heap.size := fun _ => by omega
            clear hrow hDt hBd
            go_wp2_with fail
            refine hKK.out _ _ ?_ (fun hHeld => ?_)
            · exact hb.size
            clear hKK KK
            try simp only [Act.put, List.setIfInBounds_toArray, List.set_cons_zero, List.set_cons_succ]
            refine wpAnyH_take (i := 33) (v := ?vt160) (by simp only [List.getElem?_toArray, List.getElem?_cons_succ, List.getElem?_cons_zero]; rfl) (by kernel_rfl) (by kernel_rfl) (by kernel_rfl) (by exact fun _ _ _ h => h) (Or.inl ⟨by kernel_rfl, ?yt160⟩) hHeld ?_
            case yt160 => (intro ww hSw; (try dsimp only at hSw); clear hSw; go_simp; try (with_reducible rfl))
            try simp only [Act.put, List.setIfInBounds_toArray, List.set_cons_zero, List.set_cons_succ]
            refine wpAnyH_ready (rs := [35]) (by kernel_rfl) (by simp) ?_
            refine AllReadyH.cons (by simp only [List.getElem?_toArray, List.getElem?_cons_succ, List.getElem?_cons_zero]; rfl) (fun KK hKK => ?_) AllReadyH.nil
            rw [if_pos (by kernel_rfl)]
            obtain ⟨s0, s1, s2, s3, s4, s5, s6, s7⟩ := box8_all qf
            have hff := fun j => frozen_of_row _ (wd2.heap.size) j _ _ qf
            go_simp
            clear s0 s1 s2 s3 s4 s5 s6 s7 hff
            have qg := put8_heap (w := wc59) (.int .u16 (v1 : Int)) (.int .u16 (v2 : Int)) (.int .u16 (v3 : Int)) (.int .u32 (v4 : Int)) (.bool B1) (.bool B2) (.bool B3) (.slice Ad Dt.length cd) qf
            have hm8 := put8_mod wc59 (wd2.heap.size) (.int .u16 (v1 : Int)) (.int .u16 (v2 : Int)) (.int .u16 (v3 : Int)) (.int .u32 (v4 : Int)) (.bool B1) (.bool B2) (.bool B3) (.slice Ad Dt.length cd)
            replace q := (hm8.block _ (box_lt q) (fun e => hgq e)).trans q
            replace hs := Bs.modne hs hm8 (fun _ e => hgb e)
            replace hsd := Bs.modne hsd hm8 (fun h e => hne h e)
            replace hb := hb.trans (hm8.below hb.size (fun i hi e => by have := box_lt qf; have e : i = wd2.heap.size := e; have := hgsz; omega))
            obtain ⟨ws61, hws61⟩ : ∃ ws61, ws61 = put8 wc59 (wd2.heap.size) (.int .u16 (v1 : Int)) (.int .u16 (v2 : Int)) (.int .u16 (v3 : Int)) (.int .u32 (v4 : Int)) (.bool B1) (.bool B2) (.bool B3) (.slice Ad Dt.length cd) := ⟨_, rfl⟩
            simp only [put8] at hws61
            simp only [put8] at qg q hs hsd hb
            rw [← hws61] at qg q hs hsd hb ⊢
            clear hws61 hm8 qf
            refine hKK.out _ _ ?_ (fun hHeld => ?_)
            · exact hb.size
            clear hKK KK
            try simp only [Act.put, List.setIfInBounds_toArray, List.set_cons_zero, List.set_cons_succ]
            refine wpAnyH_done (by kernel_rfl) ?_ _
            have hFe : (⟨v1, v2, v3, v4, B1, B2, B3, Dt⟩ : Fr) = candF l := by
              unfold candF
              rw [HV.out.1, HV.out.2.1, HV.out.2.2.1, HV.out.2.2.2, HBB.out.1, HBB.out.2.1, HBB.out.2.2, HDT.out, show l.length - 4 - 13 = k - 13 by (have := HN.out; have := HK.out; omega), show (l.getD 11 0).toNat = x by (rw [List.getD_eq_getElem?_getD, List.getElem?_eq_getElem hll, HX.out]; rfl)]
            obtain ⟨F, hF⟩ : ∃ F : Fr, F = ⟨v1, v2, v3, v4, B1, B2, B3, Dt⟩ := ⟨_, rfl⟩
            have HF : Hid (F = candF l) := Lib.hid (hF.trans hFe)
            have ho : F.Ok := by rw [HF.out]; exact candF_ok l
            replace qg : ws61.heap[wd2.heap.size]? = some (.cells (F.cells Ad cd) 35 (0, 0)) := by rw [hF]; exact qg
            replace hsd : Bs ws61 bd Ad F.data := by rw [hF]; exact hsd
            clear hF hFe a0 a1 a2 a3 a4 a5 a6 a7 hfz m1 m2 m3 g1 g2 g3 g4
            obtain ⟨k0, k1, k2, k3, k4, k5, k6, k7⟩ := boxg_all qg
            have hRi := fun W => RRight_calls F Ad cd W
            cases hr : F.right with
            | false =>
              rw [hr] at hRi
              go_wp2_with fail
              refine (hRi _).mono ?_
              rintro e wr ⟨rfl, h1⟩
              replace q := box_ext q h1
              replace hb := hb.trans (h1.mono hb.size)
              obtain ⟨a0, a1, a2, a3, a4, a5, a6, a7⟩ := box8_all q
              have hfz := fun j => frozen_of_row _ w.heap.size j _ _ q
              go_wp2_with fail
              have hp := put8_heap (w := wr) (.int .u16 0) (.int .u16 0) (.int .u16 0) (.int .u32 0) (.bool false) (.bool false) (.bool false) (.slice none 0 0) q
              have hm := put8_mod wr w.heap.size (.int .u16 0) (.int .u16 0) (.int .u16 0) (.int .u32 0) (.bool false) (.bool false) (.bool false) (.slice none 0 0)
              refine bodyPost_ret (results_ct (P := Try.prog) rfl _ _ w.heap.size _ _ (0, 0) _ rfl hp Try.underlying35 rfl (by kernel_rfl)) rfl ?_
              have hR : R = (zFr, 2) := by rw [HR.out]; have h0 := HN.out; have h1 := HK.out; unfold rparseF; rw [if_neg (by omega), show l.length - 4 = k by omega, HOP.out, if_neg (by simp), if_neg (by omega), ← HF.out, if_neg (by rintro ⟨h, _⟩; rw [hr] at h; cases h)]
              rw [hR]
              exact ⟨none, 0, w.heap.size, rfl, Sl.nil_ _ _ _, Nat.le_refl _, hb.trans (hm.below hb.size (fun i hi e => by omega))⟩
            | true =>
              rw [hr] at hRi
              go_wp2_with fail
              refine (hRi _).mono ?_
              rintro e wr ⟨rfl, h1⟩
              replace q := box_ext q h1
              replace hb := hb.trans (h1.mono hb.size)
              replace qg := box_ext qg h1
              replace hs := Sl.ext hs h1
              replace hsd := Sl.ext hsd h1
              clear h1
              clear k0 k1 k2 k3 k4 k5 k6 k7
              obtain ⟨k0, k1, k2, k3, k4, k5, k6, k7⟩ := boxg_all qg
              go_wp2_with fail
              refine (RBytes_calls F Ad cd bd _ ho hr hsd).mono ?_
              rintro e wb ⟨v, rfl, hrow, h1⟩
              obtain ⟨Aq, cq, bq, rfl, -, -, -, -, hsq, -⟩ := hrow.sl
              replace q := box_ext q h1
              replace hb := hb.trans (h1.mono hb.size)
              replace qg := box_ext qg h1
              replace hs := Sl.ext hs h1
              replace hsd := Sl.ext hsd h1
              clear h1 hrow
              obtain ⟨mq, hmq⟩ : ∃ mq, mq = (sealedL F.raw).length := ⟨_, rfl⟩
              have hmq2 : mq ≤ 1000 := by rw [hmq, raw_length F hr]; have := Fr.right_len hr; omega
              have hSm := Same_calls Aq (some ⟨b, off, none⟩) (sealedL F.raw) l mq n cq c bq b _ hsq hs hmq.symm HN.out (by simp only [maxLen]; omega) (by simp only [maxLen]; omega)
              rw [← hmq]
              clear hmq hsq
              clear k0 k1 k2 k3 k4 k5 k6 k7
              obtain ⟨k0, k1, k2, k3, k4, k5, k6, k7⟩ := boxg_all qg
              by_cases he : sealedL F.raw = l
              · skip
                rw [show decide (sealedL F.raw = l) = true by simp [he]] at hSm
                have HE := Lib.hid he
                clear he
                go_wp2_with fail
                refine hSm.mono ?_
                rintro e ws ⟨rfl, kd, hws⟩
                replace q : ws.heap[w.heap.size]? = some (.cells #[.int .u16 0, .int .u16 0, .int .u16 0, .int .u32 0, .bool false, .bool false, .bool false, .slice none 0 0] 35 (0, 0)) := by rw [hws]; exact q
                replace qg : ws.heap[wd2.heap.size]? = some (.cells (F.cells Ad cd) 35 (0, 0)) := by rw [hws]; exact qg
                replace hsd : Bs ws bd Ad F.data := by rw [hws]; exact hsd
                replace hb : Below w.heap.size w ws := by rw [hws]; exact below_drewN hb kd
                clear hws hSm
                clear k0 k1 k2 k3 k4 k5 k6 k7
                obtain ⟨k0, k1, k2, k3, k4, k5, k6, k7⟩ := boxg_all qg
                obtain ⟨a0, a1, a2, a3, a4, a5, a6, a7⟩ := box8_all q
                have hfz := fun j => frozen_of_row _ w.heap.size j _ _ q
                go_wp2_with fail
                have hp := put8_heap (w := ws) (.int .u16 (F.epoch : Int)) (.int .u16 (F.seq : Int)) (.int .u16 (F.next : Int)) (.int .u32 (F.bits : Int)) (.bool F.first) (.bool F.last) (.bool F.alone) (.slice Ad F.data.length cd) q
                have hm := put8_mod ws w.heap.size (.int .u16 (F.epoch : Int)) (.int .u16 (F.seq : Int)) (.int .u16 (F.next : Int)) (.int .u32 (F.bits : Int)) (.bool F.first) (.bool F.last) (.bool F.alone) (.slice Ad F.data.length cd)
                refine bodyPost_ret (results_ct (P := Try.prog) rfl _ _ w.heap.size _ _ (0, 0) _ rfl hp Try.underlying35 rfl (by kernel_rfl)) rfl ?_
                have hR : R = (F, 0) := by rw [HR.out]; have h0 := HN.out; have h1 := HK.out; unfold rparseF; rw [if_neg (by omega), show l.length - 4 = k by omega, HOP.out, if_neg (by simp), if_neg (by omega), ← HF.out, if_pos ⟨hr, HE.out⟩]
                rw [hR]
                have h9 := Bs.modne hsd hm (fun hne e => by have h8 := hbdw; have h7 := hbdz; omega)
                exact ⟨Ad, cd, bd, rfl, h9, hbdw, hb.trans (hm.below hb.size (fun i hi e => by omega))⟩
              · skip
                rw [show decide (sealedL F.raw = l) = false by simp [he]] at hSm
                have HE := Lib.hid he
                clear he
                go_wp2_with fail
                refine hSm.mono ?_
                rintro e ws ⟨rfl, kd, hws⟩
                replace q : ws.heap[w.heap.size]? = some (.cells #[.int .u16 0, .int .u16 0, .int .u16 0, .int .u32 0, .bool false, .bool false, .bool false, .slice none 0 0] 35 (0, 0)) := by rw [hws]; exact q
                replace qg : ws.heap[wd2.heap.size]? = some (.cells (F.cells Ad cd) 35 (0, 0)) := by rw [hws]; exact qg
                replace hsd : Bs ws bd Ad F.data := by rw [hws]; exact hsd
                replace hb : Below w.heap.size w ws := by rw [hws]; exact below_drewN hb kd
                clear hws hSm
                clear k0 k1 k2 k3 k4 k5 k6 k7
                obtain ⟨k0, k1, k2, k3, k4, k5, k6, k7⟩ := boxg_all qg
                obtain ⟨a0, a1, a2, a3, a4, a5, a6, a7⟩ := box8_all q
                have hfz := fun j => frozen_of_row _ w.heap.size j _ _ q
                go_wp2_with fail
                have hp := put8_heap (w := ws) (.int .u16 0) (.int .u16 0) (.int .u16 0) (.int .u32 0) (.bool false) (.bool false) (.bool false) (.slice none 0 0) q
                have hm := put8_mod ws w.heap.size (.int .u16 0) (.int .u16 0) (.int .u16 0) (.int .u32 0) (.bool false) (.bool false) (.bool false) (.slice none 0 0)
                refine bodyPost_ret (results_ct (P := Try.prog) rfl _ _ w.heap.size _ _ (0, 0) _ rfl hp Try.underlying35 rfl (by kernel_rfl)) rfl ?_
                have hR : R = (zFr, 2) := by rw [HR.out]; have h0 := HN.out; have h1 := HK.out; unfold rparseF; rw [if_neg (by omega), show l.length - 4 = k by omega, HOP.out, if_neg (by simp), if_neg (by omega), ← HF.out, if_neg (fun h => HE.out h.2)]
                rw [hR]
                exact ⟨none, 0, w.heap.size, rfl, Sl.nil_ _ _ _, Nat.le_refl _, hb.trans (hm.below hb.size (fun i hi e => by omega))⟩
        · skip
          rw [if_pos (by kernel_rfl)]
          have hgsz := hb.size
          have hgq : w.heap.size ≠ wd2.heap.size := Nat.ne_of_lt (box_lt q)
          have hgb : b ≠ wd2.heap.size := Nat.ne_of_lt (Bs.lt hs hll0)
          go_simp
          obtain ⟨wa62, hwa62⟩ : ∃ wa62, wa62 = wd2.alloc (.cells #[.int .u16 0, .int .u16 0, .int .u16 0, .int .u32 0, .bool false, .bool false, .bool false, .slice none 0 0] 35) := ⟨_, rfl⟩
          have h9 : Below wd2.heap.size wd2 wa62 := by rw [hwa62]; exact below_alloc1 _ _
          have qf : wa62.heap[wd2.heap.size]? = some (.cells #[.int .u16 0, .int .u16 0, .int .u16 0, .int .u32 0, .bool false, .bool false, .bool false, .slice none 0 0] 35 (0, 0)) := by rw [hwa62]; exact heap_alloc_new _ _
          rw [← hwa62]
          clear hwa62
          replace q := box_ext q h9
          replace hs := Sl.ext hs h9
          replace hb := hb.trans (h9.mono hb.size)
          clear h9
          refine hKK.out _ _ ?_ (fun hHeld => ?_)
          · exact hb.size
          clear hKK KK
          try simp only [Act.put, List.setIfInBounds_toArray, List.set_cons_zero, List.set_cons_succ]
          refine wpAnyH_ready (rs := [2]) (by kernel_rfl) (by simp) ?_
          refine AllReadyH.cons (by simp only [List.getElem?_toArray, List.getElem?_cons_succ, List.getElem?_cons_zero]; rfl) (fun KK hKK => ?_) AllReadyH.nil
          rw [if_pos (by kernel_rfl)]
          go_simp
          (with_reducible refine (Value_calls (some ⟨b, off + 1, none⟩) ((l.drop 1).take 2) 2 (c - 1) b _ (Bs.mid hs 1 2) (by rw [List.length_take, List.length_drop, HN.out]; omega) (by omega)).mono ?_)
          rintro e wv ⟨rfl, rfl⟩
          rw [← HV.out.1]
          go_wp2_with fail
          refine hKK.out _ _ ?_ (fun hHeld => ?_)
          · exact hb.size
          clear hKK KK
          try simp only [Act.put, List.setIfInBounds_toArray, List.set_cons_zero, List.set_cons_succ]
          refine wpAnyH_take (i := 3) (v := ?vt163) (by simp only [List.getElem?_toArray, List.getElem?_cons_succ, List.getElem?_cons_zero]; rfl) (by kernel_rfl) (by kernel_rfl) (by kernel_rfl) (by exact fun _ _ _ h => h) (Or.inl ⟨by kernel_rfl, ?yt163⟩) hHeld ?_
          case yt163 => (intro ww hSw; (try dsimp only at hSw); clear hSw; go_simp; try (with_reducible rfl))
          try simp only [Act.put, List.setIfInBounds_toArray, List.set_cons_zero, List.set_cons_succ]
          refine wpAnyH_ready (rs := [6]) (by kernel_rfl) (by simp) ?_
          refine AllReadyH.cons (by simp only [List.getElem?_toArray, List.getElem?_cons_succ, List.getElem?_cons_zero]; rfl) (fun KK hKK => ?_) AllReadyH.nil
          rw [if_pos (by kernel_rfl)]
          go_simp
          (with_reducible refine (Value_calls (some ⟨b, off + 3, none⟩) ((l.drop 3).take 2) 2 (c - 3) b _ (Bs.mid hs 3 2) (by rw [List.length_take, List.length_drop, HN.out]; omega) (by omega)).mono ?_)
          rintro e wv ⟨rfl, rfl⟩
          rw [← HV.out.2.1]
          go_wp2_with fail
          refine hKK.out _ _ ?_ (fun hHeld => ?_)
          · exact hb.size
          clear hKK KK
          try simp only [Act.put, List.setIfInBounds_toArray, List.set_cons_zero, List.set_cons_succ]
          refine wpAnyH_take (i := 7) (v := ?vt164) (by simp only [List.getElem?_toArray, List.getElem?_cons_succ, List.getElem?_cons_zero]; rfl) (by kernel_rfl) (by kernel_rfl) (by kernel_rfl) (by exact fun _ _ _ h => h) (Or.inl ⟨by kernel_rfl, ?yt164⟩) hHeld ?_
          case yt164 => (intro ww hSw; (try dsimp only at hSw); clear hSw; go_simp; try (with_reducible rfl))
          try simp only [Act.put, List.setIfInBounds_toArray, List.set_cons_zero, List.set_cons_succ]
          refine wpAnyH_ready (rs := [10]) (by kernel_rfl) (by simp) ?_
          refine AllReadyH.cons (by simp only [List.getElem?_toArray, List.getElem?_cons_succ, List.getElem?_cons_zero]; rfl) (fun KK hKK => ?_) AllReadyH.nil
          rw [if_pos (by kernel_rfl)]
          go_simp
          (with_reducible refine (Value_calls (some ⟨b, off + 5, none⟩) ((l.drop 5).take 2) 2 (c - 5) b _ (Bs.mid hs 5 2) (by rw [List.length_take, List.length_drop, HN.out]; omega) (by omega)).mono ?_)
          rintro e wv ⟨rfl, rfl⟩
          rw [← HV.out.2.2.1]
          go_wp2_with fail
          refine hKK.out _ _ ?_ (fun hHeld => ?_)
          · exact hb.size
          clear hKK KK
          try simp only [Act.put, List.setIfInBounds_toArray, List.set_cons_zero, List.set_cons_succ]
          refine wpAnyH_take (i := 11) (v := ?vt165) (by simp only [List.getElem?_toArray, List.getElem?_cons_succ, List.getElem?_cons_zero]; rfl) (by kernel_rfl) (by kernel_rfl) (by kernel_rfl) (by exact fun _ _ _ h => h) (Or.inl ⟨by kernel_rfl, ?yt165⟩) hHeld ?_
          case yt165 => (intro ww hSw; (try dsimp only at hSw); clear hSw; go_simp; try (with_reducible rfl))
          try simp only [Act.put, List.setIfInBounds_toArray, List.set_cons_zero, List.set_cons_succ]
          refine wpAnyH_ready (rs := [14]) (by kernel_rfl) (by simp) ?_
          refine AllReadyH.cons (by simp only [List.getElem?_toArray, List.getElem?_cons_succ, List.getElem?_cons_zero]; rfl) (fun KK hKK => ?_) AllReadyH.nil
          rw [if_pos (by kernel_rfl)]
          go_simp
          (with_reducible refine (Value_calls (some ⟨b, off + 7, none⟩) ((l.drop 7).take 4) 4 (c - 7) b _ (Bs.mid hs 7 4) (by rw [List.length_take, List.length_drop, HN.out]; omega) (by omega)).mono ?_)
          rintro e wv ⟨rfl, rfl⟩
          rw [← HV.out.2.2.2]
          go_wp2_with fail
          refine hKK.out _ _ ?_ (fun hHeld => ?_)
          · exact hb.size
          clear hKK KK
          try simp only [Act.put, List.setIfInBounds_toArray, List.set_cons_zero, List.set_cons_succ]
          refine wpAnyH_take (i := 15) (v := ?vt166) (by simp only [List.getElem?_toArray, List.getElem?_cons_succ, List.getElem?_cons_zero]; rfl) (by kernel_rfl) (by kernel_rfl) (by kernel_rfl) (by exact fun _ _ _ h => h) (Or.inl ⟨by kernel_rfl, ?yt166⟩) hHeld ?_
          case yt166 => (intro ww hSw; (try dsimp only at hSw); clear hSw; go_simp; try (with_reducible rfl))
          try simp only [Act.put, List.setIfInBounds_toArray, List.set_cons_zero, List.set_cons_succ]
          refine wpAnyH_ready (rs := [32]) (by kernel_rfl) (by simp) ?_
          refine AllReadyH.cons (by simp only [List.getElem?_toArray, List.getElem?_cons_succ, List.getElem?_cons_zero]; rfl) (fun KK hKK => ?_) AllReadyH.nil
          rw [if_pos (by kernel_rfl)]
          have hbd0 := hb.size
          have hqlt := box_lt q
          have hglt := box_lt qf
          go_simp
          (with_reducible refine (Cut_calls (some ⟨b, off + 13, none⟩) ((l.drop 13).take (k - 13)) (k - 13) (c - 13) b 1000 _ (Bs.mid hs 13 (k - 13)) (by rw [List.length_take, List.length_drop, HN.out]; omega) (by simp only [maxLen]; omega) (by simp only [List.length_take]; omega)).mono ?_)
          rintro e wc68 ⟨vd, rfl, hrow, g67⟩
          replace q := box_ext q g67
          replace hs := Sl.ext hs g67
          replace qf := box_ext qf g67
          replace hb := hb.trans (g67.mono hb.size)
          clear g67
          rw [show (1000 : Int).toNat = 1000 from rfl] at hrow
          obtain ⟨Dt, hDt⟩ : ∃ Dt, Dt = ((l.drop 13).take (k - 13)).take 1000 := ⟨_, rfl⟩
          rw [← hDt] at hrow
          obtain ⟨Ad, cd, bd, rfl, -, -, -, hBd, hsd, -⟩ := hrow.sl
          have HDT := Lib.hid hDt
          have hbdw : w.heap.size ≤ bd := by omega
          have hbdz : w.heap.size ≠ bd := by have := hqlt; omega
          have hne : Dt ≠ [] → bd ≠ wd2.heap.size := fun _ => by omega
          clear hrow hDt hBd
          go_wp2_with fail
          refine hKK.out _ _ ?_ (fun hHeld => ?_)
          · exact hb.size
          clear hKK KK
          try simp only [Act.put, List.setIfInBounds_toArray, List.set_cons_zero, List.set_cons_succ]
          refine wpAnyH_take (i := 33) (v := ?vt169) (by simp only [List.getElem?_toArray, List.getElem?_cons_succ, List.getElem?_cons_zero]; rfl) (by kernel_rfl) (by kernel_rfl) (by kernel_rfl) (by exact fun _ _ _ h => h) (Or.inl ⟨by kernel_rfl, ?yt169⟩) hHeld ?_
          case yt169 => (intro ww hSw; (try dsimp only at hSw); clear hSw; go_simp; try (with_reducible rfl))
          try simp only [Act.put, List.setIfInBounds_toArray, List.set_cons_zero, List.set_cons_succ]
          refine wpAnyH_ready (rs := [35]) (by kernel_rfl) (by simp) ?_
          refine AllReadyH.cons (by simp only [List.getElem?_toArray, List.getElem?_cons_succ, List.getElem?_cons_zero]; rfl) (fun KK hKK => ?_) AllReadyH.nil
          rw [if_pos (by kernel_rfl)]
          obtain ⟨s0, s1, s2, s3, s4, s5, s6, s7⟩ := box8_all qf
          have hff := fun j => frozen_of_row _ (wd2.heap.size) j _ _ qf
          go_simp
          clear s0 s1 s2 s3 s4 s5 s6 s7 hff
          have qg := put8_heap (w := wc68) (.int .u16 (v1 : Int)) (.int .u16 (v2 : Int)) (.int .u16 (v3 : Int)) (.int .u32 (v4 : Int)) (.bool B1) (.bool B2) (.bool B3) (.slice Ad Dt.length cd) qf
          have hm8 := put8_mod wc68 (wd2.heap.size) (.int .u16 (v1 : Int)) (.int .u16 (v2 : Int)) (.int .u16 (v3 : Int)) (.int .u32 (v4 : Int)) (.bool B1) (.bool B2) (.bool B3) (.slice Ad Dt.length cd)
          replace q := (hm8.block _ (box_lt q) (fun e => hgq e)).trans q
          replace hs := Bs.modne hs hm8 (fun _ e => hgb e)
          replace hsd := Bs.modne hsd hm8 (fun h e => hne h e)
          replace hb := hb.trans (hm8.below hb.size (fun i hi e => by have := box_lt qf; have e : i = wd2.heap.size := e; have := hgsz; omega))
          obtain ⟨ws70, hws70⟩ : ∃ ws70, ws70 = put8 wc68 (wd2.heap.size) (.int .u16 (v1 : Int)) (.int .u16 (v2 : Int)) (.int .u16 (v3 : Int)) (.int .u32 (v4 : Int)) (.bool B1) (.bool B2) (.bool B3) (.slice Ad Dt.length cd) := ⟨_, rfl⟩
          simp only [put8] at hws70
          simp only [put8] at qg q hs hsd hb
          rw [← hws70] at qg q hs hsd hb ⊢
          clear hws70 hm8 qf
          refine hKK.out _ _ ?_ (fun hHeld => ?_)
          · exact hb.size
          clear hKK KK
          try simp only [Act.put, List.setIfInBounds_toArray, List.set_cons_zero, List.set_cons_succ]
          refine wpAnyH_done (by kernel_rfl) ?_ _
          have hFe : (⟨v1, v2, v3, v4, B1, B2, B3, Dt⟩ : Fr) = candF l := by
            unfold candF
            rw [HV.out.1, HV.out.2.1, HV.out.2.2.1, HV.out.2.2.2, HBB.out.1, HBB.out.2.1, HBB.out.2.2, HDT.out, show l.length - 4 - 13 = k - 13 by (have := HN.out; have := HK.out; omega), show (l.getD 11 0).toNat = x by (rw [List.getD_eq_getElem?_getD, List.getElem?_eq_getElem hll, HX.out]; rfl)]
          obtain ⟨F, hF⟩ : ∃ F : Fr, F = ⟨v1, v2, v3, v4, B1, B2, B3, Dt⟩ := ⟨_, rfl⟩
          have HF : Hid (F = candF l) := Lib.hid (hF.trans hFe)
          have ho : F.Ok := by rw [HF.out]; exact candF_ok l
          replace qg : ws70.heap[wd2.heap.size]? = some (.cells (F.cells Ad cd) 35 (0, 0)) := by rw [hF]; exact qg
          replace hsd : Bs ws70 bd Ad F.data := by rw [hF]; exact hsd
          clear hF hFe a0 a1 a2 a3 a4 a5 a6 a7 hfz m1 m2 m3 g1 g2 g3 g4
          obtain ⟨k0, k1, k2, k3, k4, k5, k6, k7⟩ := boxg_all qg
          have hRi := fun W => RRight_calls F Ad cd W
          cases hr : F.right with
          | false =>
            rw [hr] at hRi
            go_wp2_with fail
            refine (hRi _).mono ?_
            rintro e wr ⟨rfl, h1⟩
            replace q := box_ext q h1
            replace hb := hb.trans (h1.mono hb.size)
            obtain ⟨a0, a1, a2, a3, a4, a5, a6, a7⟩ := box8_all q
            have hfz := fun j => frozen_of_row _ w.heap.size j _ _ q
            go_wp2_with fail
            have hp := put8_heap (w := wr) (.int .u16 0) (.int .u16 0) (.int .u16 0) (.int .u32 0) (.bool false) (.bool false) (.bool false) (.slice none 0 0) q
            have hm := put8_mod wr w.heap.size (.int .u16 0) (.int .u16 0) (.int .u16 0) (.int .u32 0) (.bool false) (.bool false) (.bool false) (.slice none 0 0)
            refine bodyPost_ret (results_ct (P := Try.prog) rfl _ _ w.heap.size _ _ (0, 0) _ rfl hp Try.underlying35 rfl (by kernel_rfl)) rfl ?_
            have hR : R = (zFr, 2) := by rw [HR.out]; have h0 := HN.out; have h1 := HK.out; unfold rparseF; rw [if_neg (by omega), show l.length - 4 = k by omega, HOP.out, if_neg (by simp), if_neg (by omega), ← HF.out, if_neg (by rintro ⟨h, _⟩; rw [hr] at h; cases h)]
            rw [hR]
            exact ⟨none, 0, w.heap.size, rfl, Sl.nil_ _ _ _, Nat.le_refl _, hb.trans (hm.below hb.size (fun i hi e => by omega))⟩
          | true =>
            rw [hr] at hRi
            go_wp2_with fail
            refine (hRi _).mono ?_
            rintro e wr ⟨rfl, h1⟩
            replace q := box_ext q h1
            replace hb := hb.trans (h1.mono hb.size)
            replace qg := box_ext qg h1
            replace hs := Sl.ext hs h1
            replace hsd := Sl.ext hsd h1
            clear h1
            clear k0 k1 k2 k3 k4 k5 k6 k7
            obtain ⟨k0, k1, k2, k3, k4, k5, k6, k7⟩ := boxg_all qg
            go_wp2_with fail
            refine (RBytes_calls F Ad cd bd _ ho hr hsd).mono ?_
            rintro e wb ⟨v, rfl, hrow, h1⟩
            obtain ⟨Aq, cq, bq, rfl, -, -, -, -, hsq, -⟩ := hrow.sl
            replace q := box_ext q h1
            replace hb := hb.trans (h1.mono hb.size)
            replace qg := box_ext qg h1
            replace hs := Sl.ext hs h1
            replace hsd := Sl.ext hsd h1
            clear h1 hrow
            obtain ⟨mq, hmq⟩ : ∃ mq, mq = (sealedL F.raw).length := ⟨_, rfl⟩
            have hmq2 : mq ≤ 1000 := by rw [hmq, raw_length F hr]; have := Fr.right_len hr; omega
            have hSm := Same_calls Aq (some ⟨b, off, none⟩) (sealedL F.raw) l mq n cq c bq b _ hsq hs hmq.symm HN.out (by simp only [maxLen]; omega) (by simp only [maxLen]; omega)
            rw [← hmq]
            clear hmq hsq
            clear k0 k1 k2 k3 k4 k5 k6 k7
            obtain ⟨k0, k1, k2, k3, k4, k5, k6, k7⟩ := boxg_all qg
            by_cases he : sealedL F.raw = l
            · skip
              rw [show decide (sealedL F.raw = l) = true by simp [he]] at hSm
              have HE := Lib.hid he
              clear he
              go_wp2_with fail
              refine hSm.mono ?_
              rintro e ws ⟨rfl, kd, hws⟩
              replace q : ws.heap[w.heap.size]? = some (.cells #[.int .u16 0, .int .u16 0, .int .u16 0, .int .u32 0, .bool false, .bool false, .bool false, .slice none 0 0] 35 (0, 0)) := by rw [hws]; exact q
              replace qg : ws.heap[wd2.heap.size]? = some (.cells (F.cells Ad cd) 35 (0, 0)) := by rw [hws]; exact qg
              replace hsd : Bs ws bd Ad F.data := by rw [hws]; exact hsd
              replace hb : Below w.heap.size w ws := by rw [hws]; exact below_drewN hb kd
              clear hws hSm
              clear k0 k1 k2 k3 k4 k5 k6 k7
              obtain ⟨k0, k1, k2, k3, k4, k5, k6, k7⟩ := boxg_all qg
              obtain ⟨a0, a1, a2, a3, a4, a5, a6, a7⟩ := box8_all q
              have hfz := fun j => frozen_of_row _ w.heap.size j _ _ q
              go_wp2_with fail
              have hp := put8_heap (w := ws) (.int .u16 (F.epoch : Int)) (.int .u16 (F.seq : Int)) (.int .u16 (F.next : Int)) (.int .u32 (F.bits : Int)) (.bool F.first) (.bool F.last) (.bool F.alone) (.slice Ad F.data.length cd) q
              have hm := put8_mod ws w.heap.size (.int .u16 (F.epoch : Int)) (.int .u16 (F.seq : Int)) (.int .u16 (F.next : Int)) (.int .u32 (F.bits : Int)) (.bool F.first) (.bool F.last) (.bool F.alone) (.slice Ad F.data.length cd)
              refine bodyPost_ret (results_ct (P := Try.prog) rfl _ _ w.heap.size _ _ (0, 0) _ rfl hp Try.underlying35 rfl (by kernel_rfl)) rfl ?_
              have hR : R = (F, 0) := by rw [HR.out]; have h0 := HN.out; have h1 := HK.out; unfold rparseF; rw [if_neg (by omega), show l.length - 4 = k by omega, HOP.out, if_neg (by simp), if_neg (by omega), ← HF.out, if_pos ⟨hr, HE.out⟩]
              rw [hR]
              have h9 := Bs.modne hsd hm (fun hne e => by have h8 := hbdw; have h7 := hbdz; omega)
              exact ⟨Ad, cd, bd, rfl, h9, hbdw, hb.trans (hm.below hb.size (fun i hi e => by omega))⟩
            · skip
              rw [show decide (sealedL F.raw = l) = false by simp [he]] at hSm
              have HE := Lib.hid he
              clear he
              go_wp2_with fail
              refine hSm.mono ?_
              rintro e ws ⟨rfl, kd, hws⟩
              replace q : ws.heap[w.heap.size]? = some (.cells #[.int .u16 0, .int .u16 0, .int .u16 0, .int .u32 0, .bool false, .bool false, .bool false, .slice none 0 0] 35 (0, 0)) := by rw [hws]; exact q
              replace qg : ws.heap[wd2.heap.size]? = some (.cells (F.cells Ad cd) 35 (0, 0)) := by rw [hws]; exact qg
              replace hsd : Bs ws bd Ad F.data := by rw [hws]; exact hsd
              replace hb : Below w.heap.size w ws := by rw [hws]; exact below_drewN hb kd
              clear hws hSm
              clear k0 k1 k2 k3 k4 k5 k6 k7
              obtain ⟨k0, k1, k2, k3, k4, k5, k6, k7⟩ := boxg_all qg
              obtain ⟨a0, a1, a2, a3, a4, a5, a6, a7⟩ := box8_all q
              have hfz := fun j => frozen_of_row _ w.heap.size j _ _ q
              go_wp2_with fail
              have hp := put8_heap (w := ws) (.int .u16 0) (.int .u16 0) (.int .u16 0) (.int .u32 0) (.bool false) (.bool false) (.bool false) (.slice none 0 0) q
              have hm := put8_mod ws w.heap.size (.int .u16 0) (.int .u16 0) (.int .u16 0) (.int .u32 0) (.bool false) (.bool false) (.bool false) (.slice none 0 0)
              refine bodyPost_ret (results_ct (P := Try.prog) rfl _ _ w.heap.size _ _ (0, 0) _ rfl hp Try.underlying35 rfl (by kernel_rfl)) rfl ?_
              have hR : R = (zFr, 2) := by rw [HR.out]; have h0 := HN.out; have h1 := HK.out; unfold rparseF; rw [if_neg (by omega), show l.length - 4 = k by omega, HOP.out, if_neg (by simp), if_neg (by omega), ← HF.out, if_neg (fun h => HE.out h.2)]
              rw [hR]
              exact ⟨none, 0, w.heap.size, rfl, Sl.nil_ _ _ _, Nat.le_refl _, hb.trans (hm.below hb.size (fun i hi e => by omega))⟩
end Go.Proofs.Ytbkimknfhpbcfaa
