/- MaskAlls: the walk. Conditions: the library's table lies as it lays it; the mask fits. -/
import Derived.Test.YtbbabmiacmmkpaaDoorMAwake
namespace Go.Proofs.YtbbabmiacmmkpaaDoor
open Go.RowKit

theorem less_zero {m n : Nat} (hm : m < 4294967296) (hn : n < 4294967296) (h : ∀ i, i < 32 → m.testBit i = true → n.testBit i = true) : lessN m n = 0 := by
  refine ext32 (lessN_lt n hm) (by omega) fun i hi => ?_
  rw [lessN_bit m hn i hi, Nat.zero_testBit]
  cases h1 : m.testBit i
  · rfl
  · rw [h i hi h1]; rfl
theorem all_within {n k : Int} (h : n ≤ k) : lessN (allN n) (allN k) = 0 := less_zero (allN_lt n) (allN_lt k) fun i hi h1 => by
  rw [allN_bit n i hi] at h1
  rw [allN_bit k i hi]
  simp at h1 ⊢
  omega
theorem within_all {m : Nat} (hm : m < 4294967296) : lessN m (allN 32) = 0 := less_zero hm (allN_lt 32) fun i hi _ => by
  rw [allN_bit 32 i hi]
  simp
  omega
theorem cnt_ones (k : Nat) : ∀ j, cnt (2 ^ k - 1) j = min j k := by
  intro j
  induction j with
  | zero => simp [cnt]
  | succ j ih =>
    unfold cnt
    rw [ih, Nat.testBit_two_pow_sub_one]
    by_cases h : j < k
    · rw [if_pos (by simpa using h)]; omega
    · rw [if_neg (by simpa using h)]; omega
theorem cnt_all (n : Int) : ((cnt (allN n) 32 : Nat) : Int) = min (max n 0) 32 := by
  unfold allN
  rw [cnt_ones]
  omega
theorem cnt_or (m k : Nat) : ∀ j, cnt (m ||| 2 ^ k) j = cnt m j + (if k < j ∧ m.testBit k = false then 1 else 0) := by
  intro j
  induction j with
  | zero => simp [cnt]
  | succ j ih =>
    unfold cnt
    rw [ih, Nat.testBit_or, Nat.testBit_two_pow]
    by_cases h : k = j
    · subst h
      cases hb : m.testBit k <;> simp
    · by_cases h2 : k < j
      · simp [h, h2, show k < j + 1 by omega]; omega
      · simp [h, h2, show ¬ k < j + 1 by omega]
theorem with_one (m : Nat) (o : Int) : withN m [o] = m ||| aloneN o := rfl
theorem alone_out {o : Int} (h : o < 0 ∨ 32 ≤ o) : aloneN o = 0 := by unfold aloneN; rw [if_neg (by omega)]
theorem less_with {m : Nat} (o : Int) (hm : m < 4294967296) : lessN (withN m [o]) (withN 0 [o]) = lessN m (withN 0 [o]) := by
  have h1 := withN_lt hm [o]
  have h2 := withN_lt (m := 0) (by omega) [o]
  refine ext32 (lessN_lt _ h1) (lessN_lt _ hm) fun i hi => ?_
  rw [lessN_bit _ h2 i hi, lessN_bit _ h2 i hi, with_one, with_one, Nat.testBit_or, Nat.testBit_or, Nat.zero_testBit]
  cases m.testBit i <;> cases (aloneN o).testBit i <;> rfl
set_option maxHeartbeats 8000000 in
set_option maxRecDepth 20000 in
theorem MaskAlls_gt_neg (m : Nat) (n k o : Int) (w : World) (hTab : Tab w) (hm : m < 4294967296) (hnk : k < n) (ho : o < 0) :
    Calls Tryd.prog 6 #[.int .u32 m, .int .i64 n, .int .i64 k, .int .i64 o] w fun e w' => e = .returned (.bool true) ∧ Below w.heap.size w w' := by
  have hAn := All_calls n
  have hAk := All_calls k
  have hA32 := All_calls 32
  have hCa := fun W => MCount_calls (allN n) W (allN_lt n)
  have hca := cnt_all n
  obtain ⟨CA, hCA⟩ : ∃ CA, CA = cnt (allN n) 32 := ⟨_, rfl⟩
  rw [← hCA] at hCa hca
  obtain ⟨x, hx⟩ : ∃ x, max n 0 = x := ⟨_, rfl⟩
  rw [hx] at hca
  have hmn : min x 32 = (CA : Int) := hca.symm
  have hW2 := fun W => MWithin_calls m (allN 32) W hm (allN_lt 32)
  rw [within_all hm, show decide ((0 : Nat) = 0) = true by decide] at hW2
  have hu := withN_lt hm [o]
  have hv := withN_lt (m := 0) (by omega) [o]
  have hWo := fun (W : World) => With_calls m (some ⟨W.heap.size, 0, none⟩) [o] 1 1 W.heap.size (W.alloc (.cells #[.int .i64 o] 3)) hm (Sl.cells_new W _ _) rfl (by omega)
  have hOo := fun (W : World) => Of_calls (some ⟨W.heap.size, 0, none⟩) [o] 1 1 W.heap.size (W.alloc (.cells #[.int .i64 o] 3)) (Sl.cells_new W _ _) rfl (by omega)
  have hOn := fun (W : World) => Of_calls none [] 0 0 0 W (Sl.nil_ _ _ _) rfl (by omega)
  rw [withN_nil] at hOn
  have hCu := fun W => MCount_calls (withN m [o]) W hu
  have hCm := fun W => MCount_calls m W hm
  have hL1 := fun W => MLess_calls (withN m [o]) (withN 0 [o]) W hu hv
  have hL2 := fun W => MLess_calls m (withN 0 [o]) W hm hv
  rw [less_with o hm] at hL1
  have hcu : cnt (withN m [o]) 32 = cnt m 32 + 0 := by rw [with_one, alone_out (by omega), Nat.or_zero]; rfl
  rw [hcu] at hCu
  obtain ⟨u, huu⟩ : ∃ u, u = withN m [o] := ⟨_, rfl⟩
  obtain ⟨v, hvv⟩ : ∃ v, v = withN 0 [o] := ⟨_, rfl⟩
  obtain ⟨CM, hCM⟩ : ∃ CM, CM = cnt m 32 := ⟨_, rfl⟩
  have hcl : CM ≤ 32 := by rw [hCM]; exact cnt_le m 32
  obtain ⟨an, han⟩ : ∃ an, an = allN n := ⟨_, rfl⟩
  obtain ⟨ak, hak⟩ : ∃ ak, ak = allN k := ⟨_, rfl⟩
  obtain ⟨a3, ha3⟩ : ∃ a3, a3 = allN 32 := ⟨_, rfl⟩
  obtain ⟨lv, hlv⟩ : ∃ lv, lv = lessN m (withN 0 [o]) := ⟨_, rfl⟩
  rw [← hlv] at hL1 hL2
  rw [← huu] at hWo hCu hL1
  rw [← hvv] at hOo hL1 hL2
  rw [← hCM] at hCu hCm
  rw [← han] at hAn hCa
  rw [← hak] at hAk
  rw [← ha3] at hA32 hW2
  have hXt := fun W => Text_zero W
  clear hCA hca huu hvv hCM han hak ha3 hlv hu hv hm hcu
  have hgt : decide (k < n) = true := by simpa using hnk
  go_enter Tryd.func6, Tryd.ntmps6
  go_wp2_with fail
  refine (awake_calls _ hTab).mono ?_
  rintro e w0 ⟨rfl, hb⟩
  clear hTab
  go_wp2_with fail
  refine (hAn _).mono ?_
  rintro e w1 ⟨rfl, rfl⟩
  go_wp2_with fail
  refine (hAk _).mono ?_
  rintro e w2 ⟨rfl, rfl⟩
  go_wp2_with fail
  refine (hCa _).mono ?_
  rintro e w3 ⟨rfl, hb2⟩
  have hb := hb.trans (hb2.mono hb.size)
  clear hb2
  go_wp2_with fail
  refine (hA32 _).mono ?_
  rintro e w4 ⟨rfl, rfl⟩
  go_wp2_with fail
  refine (hW2 _).mono ?_
  rintro e w5 ⟨rfl, rfl⟩
  go_wp2_with fail
  refine (hWo w5).mono ?_
  rintro e w6 ⟨rfl, rfl⟩
  have hb := hb.alloc hb.size (.cells #[.int .i64 o] 3)
  go_wp2_with fail
  refine (hCu _).mono ?_
  rintro e w7 ⟨rfl, hb2⟩
  have hb := hb.trans (hb2.mono hb.size)
  clear hb2
  go_wp2_with fail
  refine (hCm _).mono ?_
  rintro e w8 ⟨rfl, hb2⟩
  have hb := hb.trans (hb2.mono hb.size)
  clear hb2
  go_wp2_with fail
  refine (hWo w8).mono ?_
  rintro e w9 ⟨rfl, rfl⟩
  have hb := hb.alloc hb.size (.cells #[.int .i64 o] 3)
  go_wp2_with fail
  have hx10 := hOo (w8.alloc (.cells #[.int .i64 o] 3))
  simp only [World.size_alloc] at hx10
  refine hx10.mono ?_
  rintro e w10 ⟨rfl, rfl⟩
  have hb := hb.alloc hb.size (.cells #[.int .i64 o] 3)
  go_wp2_with fail
  refine (hL1 _).mono ?_
  rintro e w11 ⟨rfl, rfl⟩
  go_wp2_with fail
  have hx12 := hOo ((w8.alloc (.cells #[.int .i64 o] 3)).alloc (.cells #[.int .i64 o] 3))
  simp only [World.size_alloc] at hx12
  refine hx12.mono ?_
  rintro e w12 ⟨rfl, rfl⟩
  have hb := hb.alloc hb.size (.cells #[.int .i64 o] 3)
  go_wp2_with fail
  refine (hL2 _).mono ?_
  rintro e w13 ⟨rfl, rfl⟩
  go_wp2_with fail
  refine (hOn _).mono ?_
  rintro e w14 ⟨rfl, rfl⟩
  go_wp2_with fail
  refine (hXt _).mono ?_
  rintro e w15 ⟨rfl, hb2⟩
  have hb := hb.trans (hb2.mono hb.size)
  clear hb2
  go_wp2_with fail
  go_ret
  exact ⟨rfl, by first | exact hb | exact below_drew hb | exact below_drewN hb _⟩
set_option maxHeartbeats 8000000 in
set_option maxRecDepth 20000 in
theorem MaskAlls_gt_big (m : Nat) (n k o : Int) (w : World) (hTab : Tab w) (hm : m < 4294967296) (hnk : k < n) (ho : 32 ≤ o) :
    Calls Tryd.prog 6 #[.int .u32 m, .int .i64 n, .int .i64 k, .int .i64 o] w fun e w' => e = .returned (.bool true) ∧ Below w.heap.size w w' := by
  have hAn := All_calls n
  have hAk := All_calls k
  have hA32 := All_calls 32
  have hCa := fun W => MCount_calls (allN n) W (allN_lt n)
  have hca := cnt_all n
  obtain ⟨CA, hCA⟩ : ∃ CA, CA = cnt (allN n) 32 := ⟨_, rfl⟩
  rw [← hCA] at hCa hca
  obtain ⟨x, hx⟩ : ∃ x, max n 0 = x := ⟨_, rfl⟩
  rw [hx] at hca
  have hmn : min x 32 = (CA : Int) := hca.symm
  have hW2 := fun W => MWithin_calls m (allN 32) W hm (allN_lt 32)
  rw [within_all hm, show decide ((0 : Nat) = 0) = true by decide] at hW2
  have hu := withN_lt hm [o]
  have hv := withN_lt (m := 0) (by omega) [o]
  have hWo := fun (W : World) => With_calls m (some ⟨W.heap.size, 0, none⟩) [o] 1 1 W.heap.size (W.alloc (.cells #[.int .i64 o] 3)) hm (Sl.cells_new W _ _) rfl (by omega)
  have hOo := fun (W : World) => Of_calls (some ⟨W.heap.size, 0, none⟩) [o] 1 1 W.heap.size (W.alloc (.cells #[.int .i64 o] 3)) (Sl.cells_new W _ _) rfl (by omega)
  have hOn := fun (W : World) => Of_calls none [] 0 0 0 W (Sl.nil_ _ _ _) rfl (by omega)
  rw [withN_nil] at hOn
  have hCu := fun W => MCount_calls (withN m [o]) W hu
  have hCm := fun W => MCount_calls m W hm
  have hL1 := fun W => MLess_calls (withN m [o]) (withN 0 [o]) W hu hv
  have hL2 := fun W => MLess_calls m (withN 0 [o]) W hm hv
  rw [less_with o hm] at hL1
  have hcu : cnt (withN m [o]) 32 = cnt m 32 + 0 := by rw [with_one, alone_out (by omega), Nat.or_zero]; rfl
  rw [hcu] at hCu
  obtain ⟨u, huu⟩ : ∃ u, u = withN m [o] := ⟨_, rfl⟩
  obtain ⟨v, hvv⟩ : ∃ v, v = withN 0 [o] := ⟨_, rfl⟩
  obtain ⟨CM, hCM⟩ : ∃ CM, CM = cnt m 32 := ⟨_, rfl⟩
  have hcl : CM ≤ 32 := by rw [hCM]; exact cnt_le m 32
  obtain ⟨an, han⟩ : ∃ an, an = allN n := ⟨_, rfl⟩
  obtain ⟨ak, hak⟩ : ∃ ak, ak = allN k := ⟨_, rfl⟩
  obtain ⟨a3, ha3⟩ : ∃ a3, a3 = allN 32 := ⟨_, rfl⟩
  obtain ⟨lv, hlv⟩ : ∃ lv, lv = lessN m (withN 0 [o]) := ⟨_, rfl⟩
  rw [← hlv] at hL1 hL2
  rw [← huu] at hWo hCu hL1
  rw [← hvv] at hOo hL1 hL2
  rw [← hCM] at hCu hCm
  rw [← han] at hAn hCa
  rw [← hak] at hAk
  rw [← ha3] at hA32 hW2
  have hXt := fun W => Text_zero W
  clear hCA hca huu hvv hCM han hak ha3 hlv hu hv hm hcu
  have hgt : decide (k < n) = true := by simpa using hnk
  have ho0 : (0 : Int) ≤ o := by omega
  have ho1 : decide ((0 : Int) ≤ o) = true := by simpa using ho0
  have ho2 : decide (o < 32) = false := by simpa using ho
  go_enter Tryd.func6, Tryd.ntmps6
  go_wp2_with fail
  refine (awake_calls _ hTab).mono ?_
  rintro e w0 ⟨rfl, hb⟩
  clear hTab
  go_wp2_with fail
  refine (hAn _).mono ?_
  rintro e w1 ⟨rfl, rfl⟩
  go_wp2_with fail
  refine (hAk _).mono ?_
  rintro e w2 ⟨rfl, rfl⟩
  go_wp2_with fail
  refine (hCa _).mono ?_
  rintro e w3 ⟨rfl, hb2⟩
  have hb := hb.trans (hb2.mono hb.size)
  clear hb2
  go_wp2_with fail
  refine (hA32 _).mono ?_
  rintro e w4 ⟨rfl, rfl⟩
  go_wp2_with fail
  refine (hW2 _).mono ?_
  rintro e w5 ⟨rfl, rfl⟩
  go_wp2_with fail
  refine (hWo w5).mono ?_
  rintro e w6 ⟨rfl, rfl⟩
  have hb := hb.alloc hb.size (.cells #[.int .i64 o] 3)
  go_wp2_with fail
  refine (hCu _).mono ?_
  rintro e w7 ⟨rfl, hb2⟩
  have hb := hb.trans (hb2.mono hb.size)
  clear hb2
  go_wp2_with fail
  refine (hCm _).mono ?_
  rintro e w8 ⟨rfl, hb2⟩
  have hb := hb.trans (hb2.mono hb.size)
  clear hb2
  go_wp2_with fail
  refine (hWo w8).mono ?_
  rintro e w9 ⟨rfl, rfl⟩
  have hb := hb.alloc hb.size (.cells #[.int .i64 o] 3)
  go_wp2_with fail
  have hx10 := hOo (w8.alloc (.cells #[.int .i64 o] 3))
  simp only [World.size_alloc] at hx10
  refine hx10.mono ?_
  rintro e w10 ⟨rfl, rfl⟩
  have hb := hb.alloc hb.size (.cells #[.int .i64 o] 3)
  go_wp2_with fail
  refine (hL1 _).mono ?_
  rintro e w11 ⟨rfl, rfl⟩
  go_wp2_with fail
  have hx12 := hOo ((w8.alloc (.cells #[.int .i64 o] 3)).alloc (.cells #[.int .i64 o] 3))
  simp only [World.size_alloc] at hx12
  refine hx12.mono ?_
  rintro e w12 ⟨rfl, rfl⟩
  have hb := hb.alloc hb.size (.cells #[.int .i64 o] 3)
  go_wp2_with fail
  refine (hL2 _).mono ?_
  rintro e w13 ⟨rfl, rfl⟩
  go_wp2_with fail
  refine (hOn _).mono ?_
  rintro e w14 ⟨rfl, rfl⟩
  go_wp2_with fail
  refine (hXt _).mono ?_
  rintro e w15 ⟨rfl, hb2⟩
  have hb := hb.trans (hb2.mono hb.size)
  clear hb2
  go_wp2_with fail
  go_ret
  exact ⟨rfl, by first | exact hb | exact below_drew hb | exact below_drewN hb _⟩
set_option maxHeartbeats 8000000 in
set_option maxRecDepth 20000 in
theorem MaskAlls_gt_has (m : Nat) (n k o : Int) (w : World) (hTab : Tab w) (hm : m < 4294967296) (hnk : k < n) (ho : 0 ≤ o ∧ o < 32 ∧ m.testBit o.toNat = true) :
    Calls Tryd.prog 6 #[.int .u32 m, .int .i64 n, .int .i64 k, .int .i64 o] w fun e w' => e = .returned (.bool true) ∧ Below w.heap.size w w' := by
  have hAn := All_calls n
  have hAk := All_calls k
  have hA32 := All_calls 32
  have hCa := fun W => MCount_calls (allN n) W (allN_lt n)
  have hca := cnt_all n
  obtain ⟨CA, hCA⟩ : ∃ CA, CA = cnt (allN n) 32 := ⟨_, rfl⟩
  rw [← hCA] at hCa hca
  obtain ⟨x, hx⟩ : ∃ x, max n 0 = x := ⟨_, rfl⟩
  rw [hx] at hca
  have hmn : min x 32 = (CA : Int) := hca.symm
  have hW2 := fun W => MWithin_calls m (allN 32) W hm (allN_lt 32)
  rw [within_all hm, show decide ((0 : Nat) = 0) = true by decide] at hW2
  have hu := withN_lt hm [o]
  have hv := withN_lt (m := 0) (by omega) [o]
  have hWo := fun (W : World) => With_calls m (some ⟨W.heap.size, 0, none⟩) [o] 1 1 W.heap.size (W.alloc (.cells #[.int .i64 o] 3)) hm (Sl.cells_new W _ _) rfl (by omega)
  have hOo := fun (W : World) => Of_calls (some ⟨W.heap.size, 0, none⟩) [o] 1 1 W.heap.size (W.alloc (.cells #[.int .i64 o] 3)) (Sl.cells_new W _ _) rfl (by omega)
  have hOn := fun (W : World) => Of_calls none [] 0 0 0 W (Sl.nil_ _ _ _) rfl (by omega)
  rw [withN_nil] at hOn
  have hCu := fun W => MCount_calls (withN m [o]) W hu
  have hCm := fun W => MCount_calls m W hm
  have hL1 := fun W => MLess_calls (withN m [o]) (withN 0 [o]) W hu hv
  have hL2 := fun W => MLess_calls m (withN 0 [o]) W hm hv
  rw [less_with o hm] at hL1
  obtain ⟨ho1, ho2, ho3⟩ := ho
  obtain ⟨q, rfl⟩ : ∃ q : Nat, o = (q : Int) := ⟨o.toNat, by omega⟩
  rw [show (q : Int).toNat = q by omega] at ho3
  have hcu : cnt (withN m [(q : Int)]) 32 = cnt m 32 + 0 := by
    rw [with_one, aloneN_nat (by omega), cnt_or, ho3]
    simp
  have hHa := fun W => MHas_calls m (q : Int) W hm
  rw [hasM_bit (by omega), ho3] at hHa
  rw [hcu] at hCu
  obtain ⟨u, huu⟩ : ∃ u, u = withN m [(q : Int)] := ⟨_, rfl⟩
  obtain ⟨v, hvv⟩ : ∃ v, v = withN 0 [(q : Int)] := ⟨_, rfl⟩
  obtain ⟨CM, hCM⟩ : ∃ CM, CM = cnt m 32 := ⟨_, rfl⟩
  have hcl : CM ≤ 32 := by rw [hCM]; exact cnt_le m 32
  obtain ⟨an, han⟩ : ∃ an, an = allN n := ⟨_, rfl⟩
  obtain ⟨ak, hak⟩ : ∃ ak, ak = allN k := ⟨_, rfl⟩
  obtain ⟨a3, ha3⟩ : ∃ a3, a3 = allN 32 := ⟨_, rfl⟩
  obtain ⟨lv, hlv⟩ : ∃ lv, lv = lessN m (withN 0 [(q : Int)]) := ⟨_, rfl⟩
  rw [← hlv] at hL1 hL2
  rw [← huu] at hWo hCu hL1
  rw [← hvv] at hOo hL1 hL2
  rw [← hCM] at hCu hCm
  rw [← han] at hAn hCa
  rw [← hak] at hAk
  rw [← ha3] at hA32 hW2
  have hXt := fun W => Text_zero W
  clear hCA hca huu hvv hCM han hak ha3 hlv hu hv hm hcu ho3
  have hgt : decide (k < n) = true := by simpa using hnk
  go_enter Tryd.func6, Tryd.ntmps6
  go_wp2_with fail
  refine (awake_calls _ hTab).mono ?_
  rintro e w0 ⟨rfl, hb⟩
  clear hTab
  go_wp2_with fail
  refine (hAn _).mono ?_
  rintro e w1 ⟨rfl, rfl⟩
  go_wp2_with fail
  refine (hAk _).mono ?_
  rintro e w2 ⟨rfl, rfl⟩
  go_wp2_with fail
  refine (hHa _).mono ?_
  rintro e w3 ⟨rfl, rfl⟩
  go_wp2_with fail
  refine (hCa _).mono ?_
  rintro e w4 ⟨rfl, hb2⟩
  have hb := hb.trans (hb2.mono hb.size)
  clear hb2
  go_wp2_with fail
  refine (hA32 _).mono ?_
  rintro e w5 ⟨rfl, rfl⟩
  go_wp2_with fail
  refine (hW2 _).mono ?_
  rintro e w6 ⟨rfl, rfl⟩
  go_wp2_with fail
  refine (hWo w6).mono ?_
  rintro e w7 ⟨rfl, rfl⟩
  have hb := hb.alloc hb.size (.cells #[.int .i64 (q : Int)] 3)
  go_wp2_with fail
  refine (hCu _).mono ?_
  rintro e w8 ⟨rfl, hb2⟩
  have hb := hb.trans (hb2.mono hb.size)
  clear hb2
  go_wp2_with fail
  refine (hCm _).mono ?_
  rintro e w9 ⟨rfl, hb2⟩
  have hb := hb.trans (hb2.mono hb.size)
  clear hb2
  go_wp2_with fail
  refine (hWo w9).mono ?_
  rintro e w10 ⟨rfl, rfl⟩
  have hb := hb.alloc hb.size (.cells #[.int .i64 (q : Int)] 3)
  go_wp2_with fail
  have hx11 := hOo (w9.alloc (.cells #[.int .i64 (q : Int)] 3))
  simp only [World.size_alloc] at hx11
  refine hx11.mono ?_
  rintro e w11 ⟨rfl, rfl⟩
  have hb := hb.alloc hb.size (.cells #[.int .i64 (q : Int)] 3)
  go_wp2_with fail
  refine (hL1 _).mono ?_
  rintro e w12 ⟨rfl, rfl⟩
  go_wp2_with fail
  have hx13 := hOo ((w9.alloc (.cells #[.int .i64 (q : Int)] 3)).alloc (.cells #[.int .i64 (q : Int)] 3))
  simp only [World.size_alloc] at hx13
  refine hx13.mono ?_
  rintro e w13 ⟨rfl, rfl⟩
  have hb := hb.alloc hb.size (.cells #[.int .i64 (q : Int)] 3)
  go_wp2_with fail
  refine (hL2 _).mono ?_
  rintro e w14 ⟨rfl, rfl⟩
  go_wp2_with fail
  refine (hOn _).mono ?_
  rintro e w15 ⟨rfl, rfl⟩
  go_wp2_with fail
  refine (hXt _).mono ?_
  rintro e w16 ⟨rfl, hb2⟩
  have hb := hb.trans (hb2.mono hb.size)
  clear hb2
  go_wp2_with fail
  go_ret
  exact ⟨rfl, by first | exact hb | exact below_drew hb | exact below_drewN hb _⟩
set_option maxHeartbeats 8000000 in
set_option maxRecDepth 20000 in
theorem MaskAlls_gt_not (m : Nat) (n k o : Int) (w : World) (hTab : Tab w) (hm : m < 4294967296) (hnk : k < n) (ho : 0 ≤ o ∧ o < 32 ∧ m.testBit o.toNat = false) :
    Calls Tryd.prog 6 #[.int .u32 m, .int .i64 n, .int .i64 k, .int .i64 o] w fun e w' => e = .returned (.bool true) ∧ Below w.heap.size w w' := by
  have hAn := All_calls n
  have hAk := All_calls k
  have hA32 := All_calls 32
  have hCa := fun W => MCount_calls (allN n) W (allN_lt n)
  have hca := cnt_all n
  obtain ⟨CA, hCA⟩ : ∃ CA, CA = cnt (allN n) 32 := ⟨_, rfl⟩
  rw [← hCA] at hCa hca
  obtain ⟨x, hx⟩ : ∃ x, max n 0 = x := ⟨_, rfl⟩
  rw [hx] at hca
  have hmn : min x 32 = (CA : Int) := hca.symm
  have hW2 := fun W => MWithin_calls m (allN 32) W hm (allN_lt 32)
  rw [within_all hm, show decide ((0 : Nat) = 0) = true by decide] at hW2
  have hu := withN_lt hm [o]
  have hv := withN_lt (m := 0) (by omega) [o]
  have hWo := fun (W : World) => With_calls m (some ⟨W.heap.size, 0, none⟩) [o] 1 1 W.heap.size (W.alloc (.cells #[.int .i64 o] 3)) hm (Sl.cells_new W _ _) rfl (by omega)
  have hOo := fun (W : World) => Of_calls (some ⟨W.heap.size, 0, none⟩) [o] 1 1 W.heap.size (W.alloc (.cells #[.int .i64 o] 3)) (Sl.cells_new W _ _) rfl (by omega)
  have hOn := fun (W : World) => Of_calls none [] 0 0 0 W (Sl.nil_ _ _ _) rfl (by omega)
  rw [withN_nil] at hOn
  have hCu := fun W => MCount_calls (withN m [o]) W hu
  have hCm := fun W => MCount_calls m W hm
  have hL1 := fun W => MLess_calls (withN m [o]) (withN 0 [o]) W hu hv
  have hL2 := fun W => MLess_calls m (withN 0 [o]) W hm hv
  rw [less_with o hm] at hL1
  obtain ⟨ho1, ho2, ho3⟩ := ho
  obtain ⟨q, rfl⟩ : ∃ q : Nat, o = (q : Int) := ⟨o.toNat, by omega⟩
  rw [show (q : Int).toNat = q by omega] at ho3
  have hcu : cnt (withN m [(q : Int)]) 32 = cnt m 32 + 1 := by
    rw [with_one, aloneN_nat (by omega), cnt_or, ho3]
    simp; omega
  have hHa := fun W => MHas_calls m (q : Int) W hm
  rw [hasM_bit (by omega), ho3] at hHa
  rw [hcu] at hCu
  obtain ⟨u, huu⟩ : ∃ u, u = withN m [(q : Int)] := ⟨_, rfl⟩
  obtain ⟨v, hvv⟩ : ∃ v, v = withN 0 [(q : Int)] := ⟨_, rfl⟩
  obtain ⟨CM, hCM⟩ : ∃ CM, CM = cnt m 32 := ⟨_, rfl⟩
  have hcl : CM ≤ 32 := by rw [hCM]; exact cnt_le m 32
  obtain ⟨an, han⟩ : ∃ an, an = allN n := ⟨_, rfl⟩
  obtain ⟨ak, hak⟩ : ∃ ak, ak = allN k := ⟨_, rfl⟩
  obtain ⟨a3, ha3⟩ : ∃ a3, a3 = allN 32 := ⟨_, rfl⟩
  obtain ⟨lv, hlv⟩ : ∃ lv, lv = lessN m (withN 0 [(q : Int)]) := ⟨_, rfl⟩
  rw [← hlv] at hL1 hL2
  rw [← huu] at hWo hCu hL1
  rw [← hvv] at hOo hL1 hL2
  rw [← hCM] at hCu hCm
  rw [← han] at hAn hCa
  rw [← hak] at hAk
  rw [← ha3] at hA32 hW2
  have hXt := fun W => Text_zero W
  clear hCA hca huu hvv hCM han hak ha3 hlv hu hv hm hcu ho3
  have hgt : decide (k < n) = true := by simpa using hnk
  go_enter Tryd.func6, Tryd.ntmps6
  go_wp2_with fail
  refine (awake_calls _ hTab).mono ?_
  rintro e w0 ⟨rfl, hb⟩
  clear hTab
  go_wp2_with fail
  refine (hAn _).mono ?_
  rintro e w1 ⟨rfl, rfl⟩
  go_wp2_with fail
  refine (hAk _).mono ?_
  rintro e w2 ⟨rfl, rfl⟩
  go_wp2_with fail
  refine (hHa _).mono ?_
  rintro e w3 ⟨rfl, rfl⟩
  go_wp2_with fail
  refine (hCa _).mono ?_
  rintro e w4 ⟨rfl, hb2⟩
  have hb := hb.trans (hb2.mono hb.size)
  clear hb2
  go_wp2_with fail
  refine (hA32 _).mono ?_
  rintro e w5 ⟨rfl, rfl⟩
  go_wp2_with fail
  refine (hW2 _).mono ?_
  rintro e w6 ⟨rfl, rfl⟩
  go_wp2_with fail
  refine (hWo w6).mono ?_
  rintro e w7 ⟨rfl, rfl⟩
  have hb := hb.alloc hb.size (.cells #[.int .i64 (q : Int)] 3)
  go_wp2_with fail
  refine (hCu _).mono ?_
  rintro e w8 ⟨rfl, hb2⟩
  have hb := hb.trans (hb2.mono hb.size)
  clear hb2
  go_wp2_with fail
  refine (hCm _).mono ?_
  rintro e w9 ⟨rfl, hb2⟩
  have hb := hb.trans (hb2.mono hb.size)
  clear hb2
  go_wp2_with fail
  refine (hWo w9).mono ?_
  rintro e w10 ⟨rfl, rfl⟩
  have hb := hb.alloc hb.size (.cells #[.int .i64 (q : Int)] 3)
  go_wp2_with fail
  have hx11 := hOo (w9.alloc (.cells #[.int .i64 (q : Int)] 3))
  simp only [World.size_alloc] at hx11
  refine hx11.mono ?_
  rintro e w11 ⟨rfl, rfl⟩
  have hb := hb.alloc hb.size (.cells #[.int .i64 (q : Int)] 3)
  go_wp2_with fail
  refine (hL1 _).mono ?_
  rintro e w12 ⟨rfl, rfl⟩
  go_wp2_with fail
  have hx13 := hOo ((w9.alloc (.cells #[.int .i64 (q : Int)] 3)).alloc (.cells #[.int .i64 (q : Int)] 3))
  simp only [World.size_alloc] at hx13
  refine hx13.mono ?_
  rintro e w13 ⟨rfl, rfl⟩
  have hb := hb.alloc hb.size (.cells #[.int .i64 (q : Int)] 3)
  go_wp2_with fail
  refine (hL2 _).mono ?_
  rintro e w14 ⟨rfl, rfl⟩
  go_wp2_with fail
  refine (hOn _).mono ?_
  rintro e w15 ⟨rfl, rfl⟩
  go_wp2_with fail
  refine (hXt _).mono ?_
  rintro e w16 ⟨rfl, hb2⟩
  have hb := hb.trans (hb2.mono hb.size)
  clear hb2
  go_wp2_with fail
  go_ret
  exact ⟨rfl, by first | exact hb | exact below_drew hb | exact below_drewN hb _⟩
set_option maxHeartbeats 8000000 in
set_option maxRecDepth 20000 in
theorem MaskAlls_le_neg (m : Nat) (n k o : Int) (w : World) (hTab : Tab w) (hm : m < 4294967296) (hnk : n ≤ k) (ho : o < 0) :
    Calls Tryd.prog 6 #[.int .u32 m, .int .i64 n, .int .i64 k, .int .i64 o] w fun e w' => e = .returned (.bool true) ∧ Below w.heap.size w w' := by
  have hAn := All_calls n
  have hAk := All_calls k
  have hA32 := All_calls 32
  have hWi := fun W => MWithin_calls (allN n) (allN k) W (allN_lt n) (allN_lt k)
  rw [all_within hnk, show decide ((0 : Nat) = 0) = true by decide] at hWi
  have hCa := fun W => MCount_calls (allN n) W (allN_lt n)
  have hca := cnt_all n
  obtain ⟨CA, hCA⟩ : ∃ CA, CA = cnt (allN n) 32 := ⟨_, rfl⟩
  rw [← hCA] at hCa hca
  obtain ⟨x, hx⟩ : ∃ x, max n 0 = x := ⟨_, rfl⟩
  rw [hx] at hca
  have hmn : min x 32 = (CA : Int) := hca.symm
  have hW2 := fun W => MWithin_calls m (allN 32) W hm (allN_lt 32)
  rw [within_all hm, show decide ((0 : Nat) = 0) = true by decide] at hW2
  have hu := withN_lt hm [o]
  have hv := withN_lt (m := 0) (by omega) [o]
  have hWo := fun (W : World) => With_calls m (some ⟨W.heap.size, 0, none⟩) [o] 1 1 W.heap.size (W.alloc (.cells #[.int .i64 o] 3)) hm (Sl.cells_new W _ _) rfl (by omega)
  have hOo := fun (W : World) => Of_calls (some ⟨W.heap.size, 0, none⟩) [o] 1 1 W.heap.size (W.alloc (.cells #[.int .i64 o] 3)) (Sl.cells_new W _ _) rfl (by omega)
  have hOn := fun (W : World) => Of_calls none [] 0 0 0 W (Sl.nil_ _ _ _) rfl (by omega)
  rw [withN_nil] at hOn
  have hCu := fun W => MCount_calls (withN m [o]) W hu
  have hCm := fun W => MCount_calls m W hm
  have hL1 := fun W => MLess_calls (withN m [o]) (withN 0 [o]) W hu hv
  have hL2 := fun W => MLess_calls m (withN 0 [o]) W hm hv
  rw [less_with o hm] at hL1
  have hcu : cnt (withN m [o]) 32 = cnt m 32 + 0 := by rw [with_one, alone_out (by omega), Nat.or_zero]; rfl
  rw [hcu] at hCu
  obtain ⟨u, huu⟩ : ∃ u, u = withN m [o] := ⟨_, rfl⟩
  obtain ⟨v, hvv⟩ : ∃ v, v = withN 0 [o] := ⟨_, rfl⟩
  obtain ⟨CM, hCM⟩ : ∃ CM, CM = cnt m 32 := ⟨_, rfl⟩
  have hcl : CM ≤ 32 := by rw [hCM]; exact cnt_le m 32
  obtain ⟨an, han⟩ : ∃ an, an = allN n := ⟨_, rfl⟩
  obtain ⟨ak, hak⟩ : ∃ ak, ak = allN k := ⟨_, rfl⟩
  obtain ⟨a3, ha3⟩ : ∃ a3, a3 = allN 32 := ⟨_, rfl⟩
  obtain ⟨lv, hlv⟩ : ∃ lv, lv = lessN m (withN 0 [o]) := ⟨_, rfl⟩
  rw [← hlv] at hL1 hL2
  rw [← huu] at hWo hCu hL1
  rw [← hvv] at hOo hL1 hL2
  rw [← hCM] at hCu hCm
  rw [← han] at hAn hCa hWi
  rw [← hak] at hAk hWi
  rw [← ha3] at hA32 hW2
  have hXt := fun W => Text_zero W
  clear hCA hca huu hvv hCM han hak ha3 hlv hu hv hm hcu
  have hgt : decide (k < n) = false := by simpa using hnk
  go_enter Tryd.func6, Tryd.ntmps6
  go_wp2_with fail
  refine (awake_calls _ hTab).mono ?_
  rintro e w0 ⟨rfl, hb⟩
  clear hTab
  go_wp2_with fail
  refine (hAn _).mono ?_
  rintro e w1 ⟨rfl, rfl⟩
  go_wp2_with fail
  refine (hAk _).mono ?_
  rintro e w2 ⟨rfl, rfl⟩
  go_wp2_with fail
  refine (hWi _).mono ?_
  rintro e w3 ⟨rfl, rfl⟩
  go_wp2_with fail
  refine (hCa _).mono ?_
  rintro e w4 ⟨rfl, hb2⟩
  have hb := hb.trans (hb2.mono hb.size)
  clear hb2
  go_wp2_with fail
  refine (hA32 _).mono ?_
  rintro e w5 ⟨rfl, rfl⟩
  go_wp2_with fail
  refine (hW2 _).mono ?_
  rintro e w6 ⟨rfl, rfl⟩
  go_wp2_with fail
  refine (hWo w6).mono ?_
  rintro e w7 ⟨rfl, rfl⟩
  have hb := hb.alloc hb.size (.cells #[.int .i64 o] 3)
  go_wp2_with fail
  refine (hCu _).mono ?_
  rintro e w8 ⟨rfl, hb2⟩
  have hb := hb.trans (hb2.mono hb.size)
  clear hb2
  go_wp2_with fail
  refine (hCm _).mono ?_
  rintro e w9 ⟨rfl, hb2⟩
  have hb := hb.trans (hb2.mono hb.size)
  clear hb2
  go_wp2_with fail
  refine (hWo w9).mono ?_
  rintro e w10 ⟨rfl, rfl⟩
  have hb := hb.alloc hb.size (.cells #[.int .i64 o] 3)
  go_wp2_with fail
  have hx11 := hOo (w9.alloc (.cells #[.int .i64 o] 3))
  simp only [World.size_alloc] at hx11
  refine hx11.mono ?_
  rintro e w11 ⟨rfl, rfl⟩
  have hb := hb.alloc hb.size (.cells #[.int .i64 o] 3)
  go_wp2_with fail
  refine (hL1 _).mono ?_
  rintro e w12 ⟨rfl, rfl⟩
  go_wp2_with fail
  have hx13 := hOo ((w9.alloc (.cells #[.int .i64 o] 3)).alloc (.cells #[.int .i64 o] 3))
  simp only [World.size_alloc] at hx13
  refine hx13.mono ?_
  rintro e w13 ⟨rfl, rfl⟩
  have hb := hb.alloc hb.size (.cells #[.int .i64 o] 3)
  go_wp2_with fail
  refine (hL2 _).mono ?_
  rintro e w14 ⟨rfl, rfl⟩
  go_wp2_with fail
  refine (hOn _).mono ?_
  rintro e w15 ⟨rfl, rfl⟩
  go_wp2_with fail
  refine (hXt _).mono ?_
  rintro e w16 ⟨rfl, hb2⟩
  have hb := hb.trans (hb2.mono hb.size)
  clear hb2
  go_wp2_with fail
  go_ret
  exact ⟨rfl, by first | exact hb | exact below_drew hb | exact below_drewN hb _⟩
set_option maxHeartbeats 8000000 in
set_option maxRecDepth 20000 in
theorem MaskAlls_le_big (m : Nat) (n k o : Int) (w : World) (hTab : Tab w) (hm : m < 4294967296) (hnk : n ≤ k) (ho : 32 ≤ o) :
    Calls Tryd.prog 6 #[.int .u32 m, .int .i64 n, .int .i64 k, .int .i64 o] w fun e w' => e = .returned (.bool true) ∧ Below w.heap.size w w' := by
  have hAn := All_calls n
  have hAk := All_calls k
  have hA32 := All_calls 32
  have hWi := fun W => MWithin_calls (allN n) (allN k) W (allN_lt n) (allN_lt k)
  rw [all_within hnk, show decide ((0 : Nat) = 0) = true by decide] at hWi
  have hCa := fun W => MCount_calls (allN n) W (allN_lt n)
  have hca := cnt_all n
  obtain ⟨CA, hCA⟩ : ∃ CA, CA = cnt (allN n) 32 := ⟨_, rfl⟩
  rw [← hCA] at hCa hca
  obtain ⟨x, hx⟩ : ∃ x, max n 0 = x := ⟨_, rfl⟩
  rw [hx] at hca
  have hmn : min x 32 = (CA : Int) := hca.symm
  have hW2 := fun W => MWithin_calls m (allN 32) W hm (allN_lt 32)
  rw [within_all hm, show decide ((0 : Nat) = 0) = true by decide] at hW2
  have hu := withN_lt hm [o]
  have hv := withN_lt (m := 0) (by omega) [o]
  have hWo := fun (W : World) => With_calls m (some ⟨W.heap.size, 0, none⟩) [o] 1 1 W.heap.size (W.alloc (.cells #[.int .i64 o] 3)) hm (Sl.cells_new W _ _) rfl (by omega)
  have hOo := fun (W : World) => Of_calls (some ⟨W.heap.size, 0, none⟩) [o] 1 1 W.heap.size (W.alloc (.cells #[.int .i64 o] 3)) (Sl.cells_new W _ _) rfl (by omega)
  have hOn := fun (W : World) => Of_calls none [] 0 0 0 W (Sl.nil_ _ _ _) rfl (by omega)
  rw [withN_nil] at hOn
  have hCu := fun W => MCount_calls (withN m [o]) W hu
  have hCm := fun W => MCount_calls m W hm
  have hL1 := fun W => MLess_calls (withN m [o]) (withN 0 [o]) W hu hv
  have hL2 := fun W => MLess_calls m (withN 0 [o]) W hm hv
  rw [less_with o hm] at hL1
  have hcu : cnt (withN m [o]) 32 = cnt m 32 + 0 := by rw [with_one, alone_out (by omega), Nat.or_zero]; rfl
  rw [hcu] at hCu
  obtain ⟨u, huu⟩ : ∃ u, u = withN m [o] := ⟨_, rfl⟩
  obtain ⟨v, hvv⟩ : ∃ v, v = withN 0 [o] := ⟨_, rfl⟩
  obtain ⟨CM, hCM⟩ : ∃ CM, CM = cnt m 32 := ⟨_, rfl⟩
  have hcl : CM ≤ 32 := by rw [hCM]; exact cnt_le m 32
  obtain ⟨an, han⟩ : ∃ an, an = allN n := ⟨_, rfl⟩
  obtain ⟨ak, hak⟩ : ∃ ak, ak = allN k := ⟨_, rfl⟩
  obtain ⟨a3, ha3⟩ : ∃ a3, a3 = allN 32 := ⟨_, rfl⟩
  obtain ⟨lv, hlv⟩ : ∃ lv, lv = lessN m (withN 0 [o]) := ⟨_, rfl⟩
  rw [← hlv] at hL1 hL2
  rw [← huu] at hWo hCu hL1
  rw [← hvv] at hOo hL1 hL2
  rw [← hCM] at hCu hCm
  rw [← han] at hAn hCa hWi
  rw [← hak] at hAk hWi
  rw [← ha3] at hA32 hW2
  have hXt := fun W => Text_zero W
  clear hCA hca huu hvv hCM han hak ha3 hlv hu hv hm hcu
  have hgt : decide (k < n) = false := by simpa using hnk
  have ho0 : (0 : Int) ≤ o := by omega
  have ho1 : decide ((0 : Int) ≤ o) = true := by simpa using ho0
  have ho2 : decide (o < 32) = false := by simpa using ho
  go_enter Tryd.func6, Tryd.ntmps6
  go_wp2_with fail
  refine (awake_calls _ hTab).mono ?_
  rintro e w0 ⟨rfl, hb⟩
  clear hTab
  go_wp2_with fail
  refine (hAn _).mono ?_
  rintro e w1 ⟨rfl, rfl⟩
  go_wp2_with fail
  refine (hAk _).mono ?_
  rintro e w2 ⟨rfl, rfl⟩
  go_wp2_with fail
  refine (hWi _).mono ?_
  rintro e w3 ⟨rfl, rfl⟩
  go_wp2_with fail
  refine (hCa _).mono ?_
  rintro e w4 ⟨rfl, hb2⟩
  have hb := hb.trans (hb2.mono hb.size)
  clear hb2
  go_wp2_with fail
  refine (hA32 _).mono ?_
  rintro e w5 ⟨rfl, rfl⟩
  go_wp2_with fail
  refine (hW2 _).mono ?_
  rintro e w6 ⟨rfl, rfl⟩
  go_wp2_with fail
  refine (hWo w6).mono ?_
  rintro e w7 ⟨rfl, rfl⟩
  have hb := hb.alloc hb.size (.cells #[.int .i64 o] 3)
  go_wp2_with fail
  refine (hCu _).mono ?_
  rintro e w8 ⟨rfl, hb2⟩
  have hb := hb.trans (hb2.mono hb.size)
  clear hb2
  go_wp2_with fail
  refine (hCm _).mono ?_
  rintro e w9 ⟨rfl, hb2⟩
  have hb := hb.trans (hb2.mono hb.size)
  clear hb2
  go_wp2_with fail
  refine (hWo w9).mono ?_
  rintro e w10 ⟨rfl, rfl⟩
  have hb := hb.alloc hb.size (.cells #[.int .i64 o] 3)
  go_wp2_with fail
  have hx11 := hOo (w9.alloc (.cells #[.int .i64 o] 3))
  simp only [World.size_alloc] at hx11
  refine hx11.mono ?_
  rintro e w11 ⟨rfl, rfl⟩
  have hb := hb.alloc hb.size (.cells #[.int .i64 o] 3)
  go_wp2_with fail
  refine (hL1 _).mono ?_
  rintro e w12 ⟨rfl, rfl⟩
  go_wp2_with fail
  have hx13 := hOo ((w9.alloc (.cells #[.int .i64 o] 3)).alloc (.cells #[.int .i64 o] 3))
  simp only [World.size_alloc] at hx13
  refine hx13.mono ?_
  rintro e w13 ⟨rfl, rfl⟩
  have hb := hb.alloc hb.size (.cells #[.int .i64 o] 3)
  go_wp2_with fail
  refine (hL2 _).mono ?_
  rintro e w14 ⟨rfl, rfl⟩
  go_wp2_with fail
  refine (hOn _).mono ?_
  rintro e w15 ⟨rfl, rfl⟩
  go_wp2_with fail
  refine (hXt _).mono ?_
  rintro e w16 ⟨rfl, hb2⟩
  have hb := hb.trans (hb2.mono hb.size)
  clear hb2
  go_wp2_with fail
  go_ret
  exact ⟨rfl, by first | exact hb | exact below_drew hb | exact below_drewN hb _⟩
set_option maxHeartbeats 8000000 in
set_option maxRecDepth 20000 in
theorem MaskAlls_le_has (m : Nat) (n k o : Int) (w : World) (hTab : Tab w) (hm : m < 4294967296) (hnk : n ≤ k) (ho : 0 ≤ o ∧ o < 32 ∧ m.testBit o.toNat = true) :
    Calls Tryd.prog 6 #[.int .u32 m, .int .i64 n, .int .i64 k, .int .i64 o] w fun e w' => e = .returned (.bool true) ∧ Below w.heap.size w w' := by
  have hAn := All_calls n
  have hAk := All_calls k
  have hA32 := All_calls 32
  have hWi := fun W => MWithin_calls (allN n) (allN k) W (allN_lt n) (allN_lt k)
  rw [all_within hnk, show decide ((0 : Nat) = 0) = true by decide] at hWi
  have hCa := fun W => MCount_calls (allN n) W (allN_lt n)
  have hca := cnt_all n
  obtain ⟨CA, hCA⟩ : ∃ CA, CA = cnt (allN n) 32 := ⟨_, rfl⟩
  rw [← hCA] at hCa hca
  obtain ⟨x, hx⟩ : ∃ x, max n 0 = x := ⟨_, rfl⟩
  rw [hx] at hca
  have hmn : min x 32 = (CA : Int) := hca.symm
  have hW2 := fun W => MWithin_calls m (allN 32) W hm (allN_lt 32)
  rw [within_all hm, show decide ((0 : Nat) = 0) = true by decide] at hW2
  have hu := withN_lt hm [o]
  have hv := withN_lt (m := 0) (by omega) [o]
  have hWo := fun (W : World) => With_calls m (some ⟨W.heap.size, 0, none⟩) [o] 1 1 W.heap.size (W.alloc (.cells #[.int .i64 o] 3)) hm (Sl.cells_new W _ _) rfl (by omega)
  have hOo := fun (W : World) => Of_calls (some ⟨W.heap.size, 0, none⟩) [o] 1 1 W.heap.size (W.alloc (.cells #[.int .i64 o] 3)) (Sl.cells_new W _ _) rfl (by omega)
  have hOn := fun (W : World) => Of_calls none [] 0 0 0 W (Sl.nil_ _ _ _) rfl (by omega)
  rw [withN_nil] at hOn
  have hCu := fun W => MCount_calls (withN m [o]) W hu
  have hCm := fun W => MCount_calls m W hm
  have hL1 := fun W => MLess_calls (withN m [o]) (withN 0 [o]) W hu hv
  have hL2 := fun W => MLess_calls m (withN 0 [o]) W hm hv
  rw [less_with o hm] at hL1
  obtain ⟨ho1, ho2, ho3⟩ := ho
  obtain ⟨q, rfl⟩ : ∃ q : Nat, o = (q : Int) := ⟨o.toNat, by omega⟩
  rw [show (q : Int).toNat = q by omega] at ho3
  have hcu : cnt (withN m [(q : Int)]) 32 = cnt m 32 + 0 := by
    rw [with_one, aloneN_nat (by omega), cnt_or, ho3]
    simp
  have hHa := fun W => MHas_calls m (q : Int) W hm
  rw [hasM_bit (by omega), ho3] at hHa
  rw [hcu] at hCu
  obtain ⟨u, huu⟩ : ∃ u, u = withN m [(q : Int)] := ⟨_, rfl⟩
  obtain ⟨v, hvv⟩ : ∃ v, v = withN 0 [(q : Int)] := ⟨_, rfl⟩
  obtain ⟨CM, hCM⟩ : ∃ CM, CM = cnt m 32 := ⟨_, rfl⟩
  have hcl : CM ≤ 32 := by rw [hCM]; exact cnt_le m 32
  obtain ⟨an, han⟩ : ∃ an, an = allN n := ⟨_, rfl⟩
  obtain ⟨ak, hak⟩ : ∃ ak, ak = allN k := ⟨_, rfl⟩
  obtain ⟨a3, ha3⟩ : ∃ a3, a3 = allN 32 := ⟨_, rfl⟩
  obtain ⟨lv, hlv⟩ : ∃ lv, lv = lessN m (withN 0 [(q : Int)]) := ⟨_, rfl⟩
  rw [← hlv] at hL1 hL2
  rw [← huu] at hWo hCu hL1
  rw [← hvv] at hOo hL1 hL2
  rw [← hCM] at hCu hCm
  rw [← han] at hAn hCa hWi
  rw [← hak] at hAk hWi
  rw [← ha3] at hA32 hW2
  have hXt := fun W => Text_zero W
  clear hCA hca huu hvv hCM han hak ha3 hlv hu hv hm hcu ho3
  have hgt : decide (k < n) = false := by simpa using hnk
  go_enter Tryd.func6, Tryd.ntmps6
  go_wp2_with fail
  refine (awake_calls _ hTab).mono ?_
  rintro e w0 ⟨rfl, hb⟩
  clear hTab
  go_wp2_with fail
  refine (hAn _).mono ?_
  rintro e w1 ⟨rfl, rfl⟩
  go_wp2_with fail
  refine (hAk _).mono ?_
  rintro e w2 ⟨rfl, rfl⟩
  go_wp2_with fail
  refine (hHa _).mono ?_
  rintro e w3 ⟨rfl, rfl⟩
  go_wp2_with fail
  refine (hWi _).mono ?_
  rintro e w4 ⟨rfl, rfl⟩
  go_wp2_with fail
  refine (hCa _).mono ?_
  rintro e w5 ⟨rfl, hb2⟩
  have hb := hb.trans (hb2.mono hb.size)
  clear hb2
  go_wp2_with fail
  refine (hA32 _).mono ?_
  rintro e w6 ⟨rfl, rfl⟩
  go_wp2_with fail
  refine (hW2 _).mono ?_
  rintro e w7 ⟨rfl, rfl⟩
  go_wp2_with fail
  refine (hWo w7).mono ?_
  rintro e w8 ⟨rfl, rfl⟩
  have hb := hb.alloc hb.size (.cells #[.int .i64 (q : Int)] 3)
  go_wp2_with fail
  refine (hCu _).mono ?_
  rintro e w9 ⟨rfl, hb2⟩
  have hb := hb.trans (hb2.mono hb.size)
  clear hb2
  go_wp2_with fail
  refine (hCm _).mono ?_
  rintro e w10 ⟨rfl, hb2⟩
  have hb := hb.trans (hb2.mono hb.size)
  clear hb2
  go_wp2_with fail
  refine (hWo w10).mono ?_
  rintro e w11 ⟨rfl, rfl⟩
  have hb := hb.alloc hb.size (.cells #[.int .i64 (q : Int)] 3)
  go_wp2_with fail
  have hx12 := hOo (w10.alloc (.cells #[.int .i64 (q : Int)] 3))
  simp only [World.size_alloc] at hx12
  refine hx12.mono ?_
  rintro e w12 ⟨rfl, rfl⟩
  have hb := hb.alloc hb.size (.cells #[.int .i64 (q : Int)] 3)
  go_wp2_with fail
  refine (hL1 _).mono ?_
  rintro e w13 ⟨rfl, rfl⟩
  go_wp2_with fail
  have hx14 := hOo ((w10.alloc (.cells #[.int .i64 (q : Int)] 3)).alloc (.cells #[.int .i64 (q : Int)] 3))
  simp only [World.size_alloc] at hx14
  refine hx14.mono ?_
  rintro e w14 ⟨rfl, rfl⟩
  have hb := hb.alloc hb.size (.cells #[.int .i64 (q : Int)] 3)
  go_wp2_with fail
  refine (hL2 _).mono ?_
  rintro e w15 ⟨rfl, rfl⟩
  go_wp2_with fail
  refine (hOn _).mono ?_
  rintro e w16 ⟨rfl, rfl⟩
  go_wp2_with fail
  refine (hXt _).mono ?_
  rintro e w17 ⟨rfl, hb2⟩
  have hb := hb.trans (hb2.mono hb.size)
  clear hb2
  go_wp2_with fail
  go_ret
  exact ⟨rfl, by first | exact hb | exact below_drew hb | exact below_drewN hb _⟩
set_option maxHeartbeats 8000000 in
set_option maxRecDepth 20000 in
theorem MaskAlls_le_not (m : Nat) (n k o : Int) (w : World) (hTab : Tab w) (hm : m < 4294967296) (hnk : n ≤ k) (ho : 0 ≤ o ∧ o < 32 ∧ m.testBit o.toNat = false) :
    Calls Tryd.prog 6 #[.int .u32 m, .int .i64 n, .int .i64 k, .int .i64 o] w fun e w' => e = .returned (.bool true) ∧ Below w.heap.size w w' := by
  have hAn := All_calls n
  have hAk := All_calls k
  have hA32 := All_calls 32
  have hWi := fun W => MWithin_calls (allN n) (allN k) W (allN_lt n) (allN_lt k)
  rw [all_within hnk, show decide ((0 : Nat) = 0) = true by decide] at hWi
  have hCa := fun W => MCount_calls (allN n) W (allN_lt n)
  have hca := cnt_all n
  obtain ⟨CA, hCA⟩ : ∃ CA, CA = cnt (allN n) 32 := ⟨_, rfl⟩
  rw [← hCA] at hCa hca
  obtain ⟨x, hx⟩ : ∃ x, max n 0 = x := ⟨_, rfl⟩
  rw [hx] at hca
  have hmn : min x 32 = (CA : Int) := hca.symm
  have hW2 := fun W => MWithin_calls m (allN 32) W hm (allN_lt 32)
  rw [within_all hm, show decide ((0 : Nat) = 0) = true by decide] at hW2
  have hu := withN_lt hm [o]
  have hv := withN_lt (m := 0) (by omega) [o]
  have hWo := fun (W : World) => With_calls m (some ⟨W.heap.size, 0, none⟩) [o] 1 1 W.heap.size (W.alloc (.cells #[.int .i64 o] 3)) hm (Sl.cells_new W _ _) rfl (by omega)
  have hOo := fun (W : World) => Of_calls (some ⟨W.heap.size, 0, none⟩) [o] 1 1 W.heap.size (W.alloc (.cells #[.int .i64 o] 3)) (Sl.cells_new W _ _) rfl (by omega)
  have hOn := fun (W : World) => Of_calls none [] 0 0 0 W (Sl.nil_ _ _ _) rfl (by omega)
  rw [withN_nil] at hOn
  have hCu := fun W => MCount_calls (withN m [o]) W hu
  have hCm := fun W => MCount_calls m W hm
  have hL1 := fun W => MLess_calls (withN m [o]) (withN 0 [o]) W hu hv
  have hL2 := fun W => MLess_calls m (withN 0 [o]) W hm hv
  rw [less_with o hm] at hL1
  obtain ⟨ho1, ho2, ho3⟩ := ho
  obtain ⟨q, rfl⟩ : ∃ q : Nat, o = (q : Int) := ⟨o.toNat, by omega⟩
  rw [show (q : Int).toNat = q by omega] at ho3
  have hcu : cnt (withN m [(q : Int)]) 32 = cnt m 32 + 1 := by
    rw [with_one, aloneN_nat (by omega), cnt_or, ho3]
    simp; omega
  have hHa := fun W => MHas_calls m (q : Int) W hm
  rw [hasM_bit (by omega), ho3] at hHa
  rw [hcu] at hCu
  obtain ⟨u, huu⟩ : ∃ u, u = withN m [(q : Int)] := ⟨_, rfl⟩
  obtain ⟨v, hvv⟩ : ∃ v, v = withN 0 [(q : Int)] := ⟨_, rfl⟩
  obtain ⟨CM, hCM⟩ : ∃ CM, CM = cnt m 32 := ⟨_, rfl⟩
  have hcl : CM ≤ 32 := by rw [hCM]; exact cnt_le m 32
  obtain ⟨an, han⟩ : ∃ an, an = allN n := ⟨_, rfl⟩
  obtain ⟨ak, hak⟩ : ∃ ak, ak = allN k := ⟨_, rfl⟩
  obtain ⟨a3, ha3⟩ : ∃ a3, a3 = allN 32 := ⟨_, rfl⟩
  obtain ⟨lv, hlv⟩ : ∃ lv, lv = lessN m (withN 0 [(q : Int)]) := ⟨_, rfl⟩
  rw [← hlv] at hL1 hL2
  rw [← huu] at hWo hCu hL1
  rw [← hvv] at hOo hL1 hL2
  rw [← hCM] at hCu hCm
  rw [← han] at hAn hCa hWi
  rw [← hak] at hAk hWi
  rw [← ha3] at hA32 hW2
  have hXt := fun W => Text_zero W
  clear hCA hca huu hvv hCM han hak ha3 hlv hu hv hm hcu ho3
  have hgt : decide (k < n) = false := by simpa using hnk
  go_enter Tryd.func6, Tryd.ntmps6
  go_wp2_with fail
  refine (awake_calls _ hTab).mono ?_
  rintro e w0 ⟨rfl, hb⟩
  clear hTab
  go_wp2_with fail
  refine (hAn _).mono ?_
  rintro e w1 ⟨rfl, rfl⟩
  go_wp2_with fail
  refine (hAk _).mono ?_
  rintro e w2 ⟨rfl, rfl⟩
  go_wp2_with fail
  refine (hHa _).mono ?_
  rintro e w3 ⟨rfl, rfl⟩
  go_wp2_with fail
  refine (hWi _).mono ?_
  rintro e w4 ⟨rfl, rfl⟩
  go_wp2_with fail
  refine (hCa _).mono ?_
  rintro e w5 ⟨rfl, hb2⟩
  have hb := hb.trans (hb2.mono hb.size)
  clear hb2
  go_wp2_with fail
  refine (hA32 _).mono ?_
  rintro e w6 ⟨rfl, rfl⟩
  go_wp2_with fail
  refine (hW2 _).mono ?_
  rintro e w7 ⟨rfl, rfl⟩
  go_wp2_with fail
  refine (hWo w7).mono ?_
  rintro e w8 ⟨rfl, rfl⟩
  have hb := hb.alloc hb.size (.cells #[.int .i64 (q : Int)] 3)
  go_wp2_with fail
  refine (hCu _).mono ?_
  rintro e w9 ⟨rfl, hb2⟩
  have hb := hb.trans (hb2.mono hb.size)
  clear hb2
  go_wp2_with fail
  refine (hCm _).mono ?_
  rintro e w10 ⟨rfl, hb2⟩
  have hb := hb.trans (hb2.mono hb.size)
  clear hb2
  go_wp2_with fail
  refine (hWo w10).mono ?_
  rintro e w11 ⟨rfl, rfl⟩
  have hb := hb.alloc hb.size (.cells #[.int .i64 (q : Int)] 3)
  go_wp2_with fail
  have hx12 := hOo (w10.alloc (.cells #[.int .i64 (q : Int)] 3))
  simp only [World.size_alloc] at hx12
  refine hx12.mono ?_
  rintro e w12 ⟨rfl, rfl⟩
  have hb := hb.alloc hb.size (.cells #[.int .i64 (q : Int)] 3)
  go_wp2_with fail
  refine (hL1 _).mono ?_
  rintro e w13 ⟨rfl, rfl⟩
  go_wp2_with fail
  have hx14 := hOo ((w10.alloc (.cells #[.int .i64 (q : Int)] 3)).alloc (.cells #[.int .i64 (q : Int)] 3))
  simp only [World.size_alloc] at hx14
  refine hx14.mono ?_
  rintro e w14 ⟨rfl, rfl⟩
  have hb := hb.alloc hb.size (.cells #[.int .i64 (q : Int)] 3)
  go_wp2_with fail
  refine (hL2 _).mono ?_
  rintro e w15 ⟨rfl, rfl⟩
  go_wp2_with fail
  refine (hOn _).mono ?_
  rintro e w16 ⟨rfl, rfl⟩
  go_wp2_with fail
  refine (hXt _).mono ?_
  rintro e w17 ⟨rfl, hb2⟩
  have hb := hb.trans (hb2.mono hb.size)
  clear hb2
  go_wp2_with fail
  go_ret
  exact ⟨rfl, by first | exact hb | exact below_drew hb | exact below_drewN hb _⟩
theorem MaskAlls_walk (m : Nat) (n k o : Int) (w : World) (hTab : Tab w) (hm : m ≤ 4294967295) (_hn : -9223372036854775808 ≤ n ∧ n ≤ 9223372036854775807) (_hk : -9223372036854775808 ≤ k ∧ k ≤ 9223372036854775807) (_ho : -9223372036854775808 ≤ o ∧ o ≤ 9223372036854775807) :
    Calls Tryd.prog 6 #[.int .u32 m, .int .i64 n, .int .i64 k, .int .i64 o] w fun e w' => e = .returned (.bool true) ∧ Below w.heap.size w w' := by
  have hm : m < 4294967296 := by omega
  by_cases hnk : k < n
  · by_cases h1 : o < 0
    · exact MaskAlls_gt_neg m n k o w hTab hm hnk h1
    · by_cases h2 : 32 ≤ o
      · exact MaskAlls_gt_big m n k o w hTab hm hnk h2
      · cases h3 : m.testBit o.toNat
        · exact MaskAlls_gt_not m n k o w hTab hm hnk ⟨by omega, by omega, h3⟩
        · exact MaskAlls_gt_has m n k o w hTab hm hnk ⟨by omega, by omega, h3⟩
  · by_cases h1 : o < 0
    · exact MaskAlls_le_neg m n k o w hTab hm (by omega) h1
    · by_cases h2 : 32 ≤ o
      · exact MaskAlls_le_big m n k o w hTab hm (by omega) h2
      · cases h3 : m.testBit o.toNat
        · exact MaskAlls_le_not m n k o w hTab hm (by omega) ⟨by omega, by omega, h3⟩
        · exact MaskAlls_le_has m n k o w hTab hm (by omega) ⟨by omega, by omega, h3⟩
end Go.Proofs.YtbbabmiacmmkpaaDoor
