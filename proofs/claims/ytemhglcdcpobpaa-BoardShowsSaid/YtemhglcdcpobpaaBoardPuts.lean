/- BoardPuts: the walk. Conditions: the list is no longer than may be; the cells fit. -/
import Derived.Test.YtemhglcdcpobpaaBAwake
import Derived.Test.YtemhglcdcpobpaaFewC
import Derived.Test.YtemhglcdcpobpaaRefSameC
namespace Go.Proofs.Ytemhglcdcpobpaa
open Go.RowKit

theorem sl_at {w : World} {b off : Nat} {L : List (Int × Nat)} (h : Sl w b (some ⟨b, off, none⟩) (cv L)) {i : Nat} (hi : i < L.length) :
    w.cell? ⟨b, off + i * 2, none⟩ = some (.int .i32 L[i].1) ∧ w.cell? ⟨b, off + i * 2 + 1, none⟩ = some (.int .u32 ((L[i].2 : Nat) : Int)) := by
  obtain ⟨off', e, h1⟩ := sl_off h hi
  injection e with e
  injection e with _ e _
  subst e
  exact h1
theorem below_undrew {a w : World} (h : Below a.drew.heap.size a.drew w) : Below a.heap.size a w := ⟨h.os, h.tape, h.output, h.size, h.block⟩
theorem RefSame_refl (A A' : Option Addr) (L : List (Int × Nat)) (c b c' b' : Nat) (w : World) (hs : Sl w b A (cv L)) (hs' : Sl w b' A' (cv L)) (hm : L.length ≤ 1000000) :
    Calls Try.prog 15 #[.slice A L.length c, .slice A' L.length c'] w fun e w' => e = .returned (.bool true) ∧ Below w.heap.size w w' := by
  have h := RefSame_calls A A' L L L.length c b L.length c' b' w hs hs' rfl rfl hm hm
  rw [decide_eq_true rfl] at h
  exact h
set_option maxHeartbeats 16000000 in
set_option maxRecDepth 40000 in
theorem BoardPuts_out (A : Option Addr) (L : List (Int × Nat)) (n c b : Nat) (i x : Int) (y m : Nat) (w : World) (hs : Sl w b A (cv L)) (hn : L.length = n) (hnc : n ≤ c) (hok : okC L) (hi : ¬(0 ≤ i ∧ i < ((L.take 48).length : Int))) :
    Calls Try.prog 4 #[.slice A n c, .int .i64 i, .agg #[.int .i32 x, .int .u32 (y : Int)], .int .u32 m] w fun e w' => e = .returned (.bool true) ∧ Below w.heap.size w w' := by
  have hF := fun W h => FewC_calls A L n c b W h hn hnc
  obtain ⟨M, hM⟩ : ∃ M, M = L.take 48 := ⟨_, rfl⟩
  have hML : M.length ≤ 48 := by rw [hM, List.length_take]; omega
  have hMo : okC M := by rw [hM]; exact okC_take hok 48
  rw [← hM] at hF hi
  clear hM hok hn
  have hN := fun W A c b h => New_in A M M.length c b W h rfl hML
  have hOw := fun W A c b h => Own_calls A M M.length c b W h rfl (by omega)
  have hP := fun W => Put_out M i x y W hi
  have hSh := fun W => Show_out M i m W hi
  go_enter Try.func4, Try.ntmps4
  have hs := Sl.alloc hs (.cells #[.int .i32 x, .int .u32 (y : Int)] 28)
  have hb := below_alloc1 w (.cells #[.int .i32 x, .int .u32 (y : Int)] 28)
  have k := BoxC.new_ w x y
  go_wp2_with fail
  refine (Awake_calls _).mono ?_
  rintro e w1 ⟨rfl, hb1⟩
  have hs := Sl.ext hs hb1
  have k := k.ext hb1
  have hb := hb.trans (hb1.mono hb.size)
  clear hb1
  go_wp2_with fail
  refine (hF _ hs).mono ?_
  rintro e w2 ⟨v, rfl, hrow, hb2⟩
  have hs := Sl.ext hs hb2
  have k := k.ext hb2
  have hb := hb.trans (hb2.mono hb.size)
  clear hb2
  clear hs
  clear hF
  obtain ⟨A2, c2, b2, rfl, hlc, hcm, hA2, hbb, hs2, hbk⟩ := hrow.sl
  clear hrow hA2 hbb hbk
  go_wp2_with fail
  refine (hN _ A2 c2 b2 hs2).mono ?_
  rintro e w3 ⟨rfl, hb3⟩
  have k := k.ext hb3
  have hs2 := Sl.ext hs2 hb3
  have hb := hb.trans (hb3.mono hb.size)
  clear hb3
  clear hN
  have k := k.alloc (.cells (bdL M) 31)
  have hs2 := Sl.alloc hs2 (.cells (bdL M) 31)
  have hb := hb.alloc hb.size (.cells (bdL M) 31)
  have q9 := BoxL.new_ w3 M
  go_wp2_with (first | ((with_reducible refine at_al 31 9 ?_); refine wpList_al rfl rfl (some 9) rfl w3.heap.size rfl ?_) | ((with_reducible refine at_st 31 9 26 ?_); refine wpList_put rfl (.tmp 9) (.tmp 26) rfl rfl M rfl rfl ?_) | ((with_reducible refine at_ld 31 9 ?_); refine wpList_ld rfl (.tmp 9) rfl w3.heap.size rfl M q9 ?_))
  refine (hOw _ A2 c2 b2 hs2).mono ?_
  rintro e w4 ⟨v, rfl, hrow, hb4⟩
  have k := k.ext hb4
  have hs2 := Sl.ext hs2 hb4
  have q9 := q9.ext hb4
  have hb := hb.trans (hb4.mono hb.size)
  clear hb4
  obtain ⟨A3, c3, b3, rfl, hl3, hcm3, hA3, hb3, hs3, hbk3⟩ := hrow.sl
  clear hrow hA3 hb3 hbk3
  obtain ⟨k0, k1⟩ := And.intro k.c0 k.c1
  go_wp2_with ((with_reducible refine at_ld 31 9 ?_); refine wpList_ld rfl (.tmp 9) rfl w3.heap.size rfl M q9 ?_)
  clear k0 k1
  refine (hP _).mono ?_
  rintro e w5 ⟨rfl, hb5⟩
  have k := k.ext hb5
  have hs2 := Sl.ext hs2 hb5
  have q9 := q9.ext hb5
  have hs3 := Sl.ext hs3 hb5
  have hb := hb.trans (hb5.mono hb.size)
  clear hb5
  clear hP
  have k := k.alloc (.cells (bdL M) 31)
  have hs2 := Sl.alloc hs2 (.cells (bdL M) 31)
  have q9 := q9.alloc (.cells (bdL M) 31)
  have hs3 := Sl.alloc hs3 (.cells (bdL M) 31)
  have hb := hb.alloc hb.size (.cells (bdL M) 31)
  have q12 := BoxL.new_ w5 M
  go_wp2_with (first | ((with_reducible refine at_al 31 12 ?_); refine wpList_al rfl rfl (some 12) rfl w5.heap.size rfl ?_) | ((with_reducible refine at_st 31 12 35 ?_); refine wpList_put rfl (.tmp 12) (.tmp 35) rfl rfl M rfl rfl ?_) | ((with_reducible refine at_ld 31 9 ?_); refine wpList_ld rfl (.tmp 9) rfl w3.heap.size rfl M q9 ?_) | ((with_reducible refine at_ld 31 12 ?_); refine wpList_ld rfl (.tmp 12) rfl w5.heap.size rfl M q12 ?_))
  refine (hSh _).mono ?_
  rintro e w6 ⟨rfl, hb6⟩
  have k := k.ext hb6
  have hs2 := Sl.ext hs2 hb6
  have q9 := q9.ext hb6
  have hs3 := Sl.ext hs3 hb6
  have q12 := q12.ext hb6
  have hb := hb.trans (hb6.mono hb.size)
  clear hb6
  clear hSh
  have k := k.alloc (.cells (bdL M) 31)
  have hs2 := Sl.alloc hs2 (.cells (bdL M) 31)
  have q9 := q9.alloc (.cells (bdL M) 31)
  have hs3 := Sl.alloc hs3 (.cells (bdL M) 31)
  have q12 := q12.alloc (.cells (bdL M) 31)
  have hb := hb.alloc hb.size (.cells (bdL M) 31)
  have q14 := BoxL.new_ w6 M
  by_cases h0 : i < 0
  · have e0 : decide (i < 0) = true := by simpa using h0
    go_wp2_with (first | ((with_reducible refine at_al 31 14 ?_); refine wpList_al rfl rfl (some 14) rfl w6.heap.size rfl ?_) | ((with_reducible refine at_st 31 14 42 ?_); refine wpList_put rfl (.tmp 14) (.tmp 42) rfl rfl M rfl rfl ?_) | ((with_reducible refine at_bi 62 .eql 31 31 (.tmp 60) (.tmp 61) ?_); refine wpList_eql_bd rfl (.tmp 60) (.tmp 61) rfl M M rfl rfl hML true (by simp) ?_) | ((with_reducible refine at_bi 67 .eql 31 31 (.tmp 65) (.tmp 66) ?_); refine wpList_eql_bd rfl (.tmp 65) (.tmp 66) rfl M M rfl rfl hML true (by simp) ?_) | ((with_reducible refine at_ld 31 9 ?_); refine wpList_ld rfl (.tmp 9) rfl w3.heap.size rfl M q9 ?_) | ((with_reducible refine at_ld 31 12 ?_); refine wpList_ld rfl (.tmp 12) rfl w5.heap.size rfl M q12 ?_) | ((with_reducible refine at_ld 31 14 ?_); refine wpList_ld rfl (.tmp 14) rfl w6.heap.size rfl M q14 ?_))
    go_ret
    exact ⟨rfl, hb⟩
  · have e0 : decide (i < 0) = false := by simpa using h0
    have e1 : decide ((M.length : Int) ≤ i) = true := by simp; omega
    go_wp2_with (first | ((with_reducible refine at_al 31 14 ?_); refine wpList_al rfl rfl (some 14) rfl w6.heap.size rfl ?_) | ((with_reducible refine at_st 31 14 42 ?_); refine wpList_put rfl (.tmp 14) (.tmp 42) rfl rfl M rfl rfl ?_) | ((with_reducible refine at_bi 62 .eql 31 31 (.tmp 60) (.tmp 61) ?_); refine wpList_eql_bd rfl (.tmp 60) (.tmp 61) rfl M M rfl rfl hML true (by simp) ?_) | ((with_reducible refine at_bi 67 .eql 31 31 (.tmp 65) (.tmp 66) ?_); refine wpList_eql_bd rfl (.tmp 65) (.tmp 66) rfl M M rfl rfl hML true (by simp) ?_) | ((with_reducible refine at_ld 31 9 ?_); refine wpList_ld rfl (.tmp 9) rfl w3.heap.size rfl M q9 ?_) | ((with_reducible refine at_ld 31 12 ?_); refine wpList_ld rfl (.tmp 12) rfl w5.heap.size rfl M q12 ?_) | ((with_reducible refine at_ld 31 14 ?_); refine wpList_ld rfl (.tmp 14) rfl w6.heap.size rfl M q14 ?_))
    go_ret
    exact ⟨rfl, hb⟩
set_option maxHeartbeats 16000000 in
set_option maxRecDepth 40000 in
theorem BoardPuts_in (A : Option Addr) (L : List (Int × Nat)) (n c b : Nat) (i : Nat) (x : Int) (y m : Nat) (w : World) (hs : Sl w b A (cv L)) (hn : L.length = n) (hnc : n ≤ c) (hok : okC L) (hi : i < (L.take 48).length) (hm : m < 4294967296) :
    Calls Try.prog 4 #[.slice A n c, .int .i64 i, .agg #[.int .i32 x, .int .u32 (y : Int)], .int .u32 m] w fun e w' => e = .returned (.bool true) ∧ Below w.heap.size w w' := by
  have hF := fun W h => FewC_calls A L n c b W h hn hnc
  obtain ⟨M, hM⟩ : ∃ M, M = L.take 48 := ⟨_, rfl⟩
  have hML : M.length ≤ 48 := by rw [hM, List.length_take]; omega
  have hMo : okC M := by rw [hM]; exact okC_take hok 48
  rw [← hM] at hF hi
  clear hM hok hn
  have hN := fun W A c b h => New_in A M M.length c b W h rfl hML
  have hOw := fun W A c b h => Own_calls A M M.length c b W h rfl (by omega)
  have hP := fun W => Put_in M i x y W hML hi
  have hSh := fun W => Show_in M i m W hML hMo hi hm
  have hRP := fun W A c b h => RefPut_calls A M M.length c b i x y W h rfl (by omega) hi
  obtain ⟨X, hX⟩ : ∃ X, X = M[i].1 := ⟨_, rfl⟩
  obtain ⟨Y, hY⟩ : ∃ Y, Y = M[i].2 := ⟨_, rfl⟩
  have hYl : Y < 4294967296 := by rw [hY]; exact (okC_get hMo hi).2
  rw [← hX, ← hY] at hSh
  have HX := Lib.hid hX
  have HY := Lib.hid hY
  have hRS := fun W A c b h => RefPut_calls A M M.length c b i X (Y ||| m) W h rfl (by omega) hi
  obtain ⟨P1, hP1⟩ : ∃ P1, P1 = M.set i (x, y) := ⟨_, rfl⟩
  obtain ⟨S1, hS1⟩ : ∃ S1, S1 = M.set i (X, Y ||| m) := ⟨_, rfl⟩
  have hP1l : P1.length = M.length := by rw [hP1, List.length_set]
  have hS1l : S1.length = M.length := by rw [hS1, List.length_set]
  rw [← hP1] at hP hRP
  rw [← hS1] at hSh hRS
  obtain ⟨fr, hfr⟩ : ∃ fr, fr = !decide (lessN m Y = 0) := ⟨_, rfl⟩
  rw [← hfr] at hSh
  have han : bits .andNot .u32 (m : Int) (Y : Int) = ((lessN m Y : Nat) : Int) := u32_andNot_nat m Y hm hYl
  have hor := u32_or_nat Y m hYl hm
  have hbe : ((lessN m Y : Int) != 0) = fr := by
    rw [hfr, Bool.eq_iff_iff]
    simp
  obtain ⟨z, hz⟩ : ∃ z, z = lessN m Y := ⟨_, rfl⟩
  rw [← hz] at han hbe
  have hSame : ∀ (W : World) (A A' : Option Addr) (K : List (Int × Nat)) (c b c' b' : Nat) (_ : Sl W b A (cv K)) (_ : Sl W b' A' (cv K)) (_ : K.length = M.length), Calls Try.prog 15 #[.slice A M.length c, .slice A' M.length c'] W fun e w' => e = .returned (.bool true) ∧ Below W.heap.size W w' := by
    intro W A A' K c b c' b' h h' hl
    rw [← hl]
    exact RefSame_refl A A' K c b c' b' W h h' (by omega)
  have hOw2 : ∀ (W : World) (A : Option Addr) (K : List (Int × Nat)) (c b : Nat) (_ : Sl W b A (cv K)) (_ : K.length = M.length), Calls Try.prog 13 #[.slice A M.length c] W fun e w' => ∃ v, e = .returned v ∧ RowC 49 w' W.heap.size v K ∧ Below W.heap.size W w' := by
    intro W A K c b h hl
    rw [← hl]
    exact Own_calls A K K.length c b W h rfl (by omega)
  have e0 : decide ((i : Int) < 0) = false := by simp
  have e1 : decide ((M.length : Int) ≤ (i : Int)) = false := by simp; omega
  have ei : (i : Int) < (M.length : Int) := by omega
  clear hX hY hP1 hS1 hfr hz
  go_enter Try.func4, Try.ntmps4
  have hs := Sl.alloc hs (.cells #[.int .i32 x, .int .u32 (y : Int)] 28)
  have hb := below_alloc1 w (.cells #[.int .i32 x, .int .u32 (y : Int)] 28)
  have k := BoxC.new_ w x y
  go_wp2_with fail
  refine (Awake_calls _).mono ?_
  rintro e w1 ⟨rfl, hb1⟩
  have hs := Sl.ext hs hb1
  have k := k.ext hb1
  have hb := hb.trans (hb1.mono hb.size)
  clear hb1
  go_wp2_with fail
  refine (hF _ hs).mono ?_
  rintro e w2 ⟨v, rfl, hrow, hb2⟩
  have hs := Sl.ext hs hb2
  have k := k.ext hb2
  have hb := hb.trans (hb2.mono hb.size)
  clear hb2
  clear hs
  clear hF
  obtain ⟨A2, c2, b2, rfl, hlc, hcm, hA2, hbb, hs2, hbk⟩ := hrow.sl
  clear hrow hA2 hbb hbk
  obtain ⟨off, rfl, _, _⟩ := sl_off hs2 hi
  go_wp2_with fail
  refine (hN _ (some ⟨b2, off, none⟩) c2 b2 hs2).mono ?_
  rintro e w3 ⟨rfl, hb3⟩
  have k := k.ext hb3
  have hs2 := Sl.ext hs2 hb3
  have hb := hb.trans (hb3.mono hb.size)
  clear hb3
  clear hN
  have k := k.alloc (.cells (bdL M) 31)
  have hs2 := Sl.alloc hs2 (.cells (bdL M) 31)
  have hb := hb.alloc hb.size (.cells (bdL M) 31)
  have q9 := BoxL.new_ w3 M
  go_wp2_with (first | ((with_reducible refine at_al 31 9 ?_); refine wpList_al rfl rfl (some 9) rfl w3.heap.size rfl ?_) | ((with_reducible refine at_st 31 9 26 ?_); refine wpList_put rfl (.tmp 9) (.tmp 26) rfl rfl M rfl rfl ?_) | ((with_reducible refine at_ld 31 9 ?_); refine wpList_ld rfl (.tmp 9) rfl w3.heap.size rfl M q9 ?_))
  refine (hOw _ (some ⟨b2, off, none⟩) c2 b2 hs2).mono ?_
  rintro e w4 ⟨v, rfl, hrow, hb4⟩
  have k := k.ext hb4
  have hs2 := Sl.ext hs2 hb4
  have q9 := q9.ext hb4
  have hb := hb.trans (hb4.mono hb.size)
  clear hb4
  obtain ⟨A3, c3, b3, rfl, hl3, hcm3, hA3, hb3, hs3, hbk3⟩ := hrow.sl
  clear hrow hA3 hb3 hbk3
  obtain ⟨k0, k1⟩ := And.intro k.c0 k.c1
  go_wp2_with ((with_reducible refine at_ld 31 9 ?_); refine wpList_ld rfl (.tmp 9) rfl w3.heap.size rfl M q9 ?_)
  clear k0 k1
  refine (hP _).mono ?_
  rintro e w5 ⟨rfl, hb5⟩
  have k := k.ext hb5
  have hs2 := Sl.ext hs2 hb5
  have q9 := q9.ext hb5
  have hs3 := Sl.ext hs3 hb5
  have hb := hb.trans (hb5.mono hb.size)
  clear hb5
  clear hP
  have k := k.alloc (.cells (bdL P1) 31)
  have hs2 := Sl.alloc hs2 (.cells (bdL P1) 31)
  have q9 := q9.alloc (.cells (bdL P1) 31)
  have hs3 := Sl.alloc hs3 (.cells (bdL P1) 31)
  have hb := hb.alloc hb.size (.cells (bdL P1) 31)
  have q12 := BoxL.new_ w5 P1
  go_wp2_with (first | ((with_reducible refine at_al 31 12 ?_); refine wpList_al rfl rfl (some 12) rfl w5.heap.size rfl ?_) | ((with_reducible refine at_st 31 12 35 ?_); refine wpList_put rfl (.tmp 12) (.tmp 35) rfl rfl P1 rfl rfl ?_) | ((with_reducible refine at_ld 31 9 ?_); refine wpList_ld rfl (.tmp 9) rfl w3.heap.size rfl M q9 ?_) | ((with_reducible refine at_ld 31 12 ?_); refine wpList_ld rfl (.tmp 12) rfl w5.heap.size rfl P1 q12 ?_))
  refine (hSh _).mono ?_
  rintro e w6 ⟨rfl, hb6⟩
  have k := k.ext hb6
  have hs2 := Sl.ext hs2 hb6
  have q9 := q9.ext hb6
  have hs3 := Sl.ext hs3 hb6
  have q12 := q12.ext hb6
  have hb := hb.trans (hb6.mono hb.size)
  clear hb6
  clear hSh
  have k := k.alloc (.cells (bdL S1) 31)
  have hs2 := Sl.alloc hs2 (.cells (bdL S1) 31)
  have q9 := q9.alloc (.cells (bdL S1) 31)
  have hs3 := Sl.alloc hs3 (.cells (bdL S1) 31)
  have q12 := q12.alloc (.cells (bdL S1) 31)
  have hb := hb.alloc hb.size (.cells (bdL S1) 31)
  have q14 := BoxL.new_ w6 S1
  obtain ⟨k0, k1⟩ := And.intro k.c0 k.c1
  go_wp2_with (first | ((with_reducible refine at_al 31 14 ?_); refine wpList_al rfl rfl (some 14) rfl w6.heap.size rfl ?_) | ((with_reducible refine at_st 31 14 42 ?_); refine wpList_put rfl (.tmp 14) (.tmp 42) rfl rfl S1 rfl rfl ?_) | ((with_reducible refine at_ld 31 9 ?_); refine wpList_ld rfl (.tmp 9) rfl w3.heap.size rfl M q9 ?_) | ((with_reducible refine at_ld 31 12 ?_); refine wpList_ld rfl (.tmp 12) rfl w5.heap.size rfl P1 q12 ?_) | ((with_reducible refine at_ld 31 14 ?_); refine wpList_ld rfl (.tmp 14) rfl w6.heap.size rfl S1 q14 ?_))
  refine (hRP _ A3 c3 b3 hs3).mono ?_
  rintro e w7 ⟨v, rfl, hrow, hb7⟩
  have k := k.ext hb7
  have hs2 := Sl.ext hs2 hb7
  have q9 := q9.ext hb7
  have hs3 := Sl.ext hs3 hb7
  have q12 := q12.ext hb7
  have q14 := q14.ext hb7
  have hb := hb.trans (hb7.mono hb.size)
  clear hb7
  clear hRP k0 k1
  clear k
  obtain ⟨A5, c5, b5, rfl, hl5, hcm5, hA5, hb5, hs5, hbk5⟩ := hrow.sl
  rw [hP1l]
  clear hrow hA5 hb5 hbk5
  obtain ⟨d0, d1⟩ := sl_at hs2 hi
  rw [← HX.out] at d0
  rw [← HY.out] at d1
  go_wp2_with (first | ((with_reducible refine at_ld 31 9 ?_); refine wpList_ld rfl (.tmp 9) rfl w3.heap.size rfl M q9 ?_) | ((with_reducible refine at_ld 31 12 ?_); refine wpList_ld rfl (.tmp 12) rfl w5.heap.size rfl P1 q12 ?_) | ((with_reducible refine at_ld 31 14 ?_); refine wpList_ld rfl (.tmp 14) rfl w6.heap.size rfl S1 q14 ?_))
  refine wp_region_held_drew (S := fun w' => w'.cell? ⟨b2, off + i * 2, none⟩ = some (.int .i32 X) ∧ w'.cell? ⟨b2, off + i * 2 + 1, none⟩ = some (.int .u32 (Y : Int))) (by kernel_rfl) ?_ (fun hHeld => ?_)
  · exact ⟨d0, d1⟩
  refine wpAnyH_take (i := 0) (v := ?pv0) (by simp only [List.getElem?_toArray, List.getElem?_cons_zero]; rfl) (by kernel_rfl) (by kernel_rfl) (by kernel_rfl) (by exact fun _ _ _ h => h) (Or.inl ⟨by rfl, ?py0⟩) hHeld ?_
  case py0 => (intro w hSw; (try dsimp only at hSw); obtain ⟨hz1, hz2⟩ := hSw; go_simp; try (with_reducible rfl))
  try simp only [Act.put, List.setIfInBounds_toArray, List.set_cons_zero, List.set_cons_succ]
  refine wpAnyH_take (i := 1) (v := ?pv1) (by simp only [List.getElem?_toArray, List.getElem?_cons_succ, List.getElem?_cons_zero]; rfl) (by kernel_rfl) (by kernel_rfl) (by kernel_rfl) (by exact fun _ _ _ h => h) (Or.inl ⟨by rfl, ?py1⟩) hHeld ?_
  case py1 => (intro w hSw; (try dsimp only at hSw); obtain ⟨hz1, hz2⟩ := hSw; go_simp; try (with_reducible rfl))
  try simp only [Act.put, List.setIfInBounds_toArray, List.set_cons_zero, List.set_cons_succ]
  refine wpAnyH_take (i := 2) (v := ?pv2) (by simp only [List.getElem?_toArray, List.getElem?_cons_succ, List.getElem?_cons_zero]; rfl) (by kernel_rfl) (by kernel_rfl) (by kernel_rfl) (by exact fun _ _ _ h => h) (Or.inl ⟨by rfl, ?py2⟩) hHeld ?_
  case py2 => (intro w hSw; (try dsimp only at hSw); obtain ⟨hz1, hz2⟩ := hSw; go_simp; try (with_reducible rfl))
  try simp only [Act.put, List.setIfInBounds_toArray, List.set_cons_zero, List.set_cons_succ]
  refine wpAnyH_take (i := 3) (v := ?pv3) (by simp only [List.getElem?_toArray, List.getElem?_cons_succ, List.getElem?_cons_zero]; rfl) (by kernel_rfl) (by kernel_rfl) (by kernel_rfl) (by exact fun _ _ _ h => h) (Or.inl ⟨by rfl, ?py3⟩) hHeld ?_
  case py3 => (intro w hSw; (try dsimp only at hSw); obtain ⟨hz1, hz2⟩ := hSw; go_simp; try (with_reducible rfl))
  try simp only [Act.put, List.setIfInBounds_toArray, List.set_cons_zero, List.set_cons_succ]
  refine wpAnyH_take (i := 4) (v := ?pv4) (by simp only [List.getElem?_toArray, List.getElem?_cons_succ, List.getElem?_cons_zero]; rfl) (by kernel_rfl) (by kernel_rfl) (by kernel_rfl) (by exact fun _ _ _ h => h) (Or.inl ⟨by rfl, ?py4⟩) hHeld ?_
  case py4 => (intro w hSw; (try dsimp only at hSw); obtain ⟨hz1, hz2⟩ := hSw; go_simp; try (with_reducible rfl))
  try simp only [Act.put, List.setIfInBounds_toArray, List.set_cons_zero, List.set_cons_succ]
  refine wpAnyH_take (i := 5) (v := ?pv5) (by simp only [List.getElem?_toArray, List.getElem?_cons_succ, List.getElem?_cons_zero]; rfl) (by kernel_rfl) (by kernel_rfl) (by kernel_rfl) (by exact fun _ _ _ h => h) (Or.inl ⟨by rfl, ?py5⟩) hHeld ?_
  case py5 => (intro w hSw; (try dsimp only at hSw); obtain ⟨hz1, hz2⟩ := hSw; go_simp; try (with_reducible rfl))
  try simp only [Act.put, List.setIfInBounds_toArray, List.set_cons_zero, List.set_cons_succ]
  refine wpAnyH_take (i := 6) (v := ?pv6) (by simp only [List.getElem?_toArray, List.getElem?_cons_succ, List.getElem?_cons_zero]; rfl) (by kernel_rfl) (by kernel_rfl) (by kernel_rfl) (by exact fun _ _ _ h => h) (Or.inl ⟨by rfl, ?py6⟩) hHeld ?_
  case py6 => (intro w hSw; (try dsimp only at hSw); obtain ⟨hz1, hz2⟩ := hSw; go_simp; try (with_reducible rfl))
  try simp only [Act.put, List.setIfInBounds_toArray, List.set_cons_zero, List.set_cons_succ]
  refine wpAnyH_take (i := 7) (v := ?pv7) (by simp only [List.getElem?_toArray, List.getElem?_cons_succ, List.getElem?_cons_zero]; rfl) (by kernel_rfl) (by kernel_rfl) (by kernel_rfl) (by exact fun _ _ _ h => h) (Or.inl ⟨by rfl, ?py7⟩) hHeld ?_
  case py7 => (intro w hSw; (try dsimp only at hSw); obtain ⟨hz1, hz2⟩ := hSw; go_simp; try (with_reducible rfl))
  try simp only [Act.put, List.setIfInBounds_toArray, List.set_cons_zero, List.set_cons_succ]
  refine wpAnyH_take (i := 8) (v := ?pv8) (by simp only [List.getElem?_toArray, List.getElem?_cons_succ, List.getElem?_cons_zero]; rfl) (by kernel_rfl) (by kernel_rfl) (by kernel_rfl) (by exact fun _ _ _ h => h) (Or.inl ⟨by rfl, ?py8⟩) hHeld ?_
  case py8 => (intro w hSw; (try dsimp only at hSw); obtain ⟨hz1, hz2⟩ := hSw; go_simp; try (with_reducible rfl))
  try simp only [Act.put, List.setIfInBounds_toArray, List.set_cons_zero, List.set_cons_succ]
  refine wpAnyH_take (i := 9) (v := ?pv9) (by simp only [List.getElem?_toArray, List.getElem?_cons_succ, List.getElem?_cons_zero]; rfl) (by kernel_rfl) (by kernel_rfl) (by kernel_rfl) (by exact fun _ _ _ h => h) (Or.inl ⟨by rfl, ?py9⟩) hHeld ?_
  case py9 => (intro w hSw; (try dsimp only at hSw); obtain ⟨hz1, hz2⟩ := hSw; go_simp; try (with_reducible rfl))
  try simp only [Act.put, List.setIfInBounds_toArray, List.set_cons_zero, List.set_cons_succ]
  refine wpAnyH_take (i := 10) (v := ?pv10) (by simp only [List.getElem?_toArray, List.getElem?_cons_succ, List.getElem?_cons_zero]; rfl) (by kernel_rfl) (by kernel_rfl) (by kernel_rfl) (by exact fun _ _ _ h => h) (Or.inl ⟨by rfl, ?py10⟩) hHeld ?_
  case py10 => (intro w hSw; (try dsimp only at hSw); obtain ⟨hz1, hz2⟩ := hSw; go_simp; try (with_reducible rfl))
  try simp only [Act.put, List.setIfInBounds_toArray, List.set_cons_zero, List.set_cons_succ]
  refine wpAnyH_take (i := 11) (v := ?pv11) (by simp only [List.getElem?_toArray, List.getElem?_cons_succ, List.getElem?_cons_zero]; rfl) (by kernel_rfl) (by kernel_rfl) (by kernel_rfl) (by exact fun _ _ _ h => h) (Or.inl ⟨by rfl, ?py11⟩) hHeld ?_
  case py11 => (intro w hSw; (try dsimp only at hSw); obtain ⟨hz1, hz2⟩ := hSw; go_simp; try (with_reducible rfl))
  try simp only [Act.put, List.setIfInBounds_toArray, List.set_cons_zero, List.set_cons_succ]
  refine wpAnyH_take (i := 12) (v := ?pv12) (by simp only [List.getElem?_toArray, List.getElem?_cons_succ, List.getElem?_cons_zero]; rfl) (by kernel_rfl) (by kernel_rfl) (by kernel_rfl) (by exact fun _ _ _ h => h) (Or.inl ⟨by rfl, ?py12⟩) hHeld ?_
  case py12 => (intro w hSw; (try dsimp only at hSw); obtain ⟨hz1, hz2⟩ := hSw; go_simp; try (with_reducible rfl))
  try simp only [Act.put, List.setIfInBounds_toArray, List.set_cons_zero, List.set_cons_succ]
  refine wpAnyH_take (i := 13) (v := ?pv13) (by simp only [List.getElem?_toArray, List.getElem?_cons_succ, List.getElem?_cons_zero]; rfl) (by kernel_rfl) (by kernel_rfl) (by kernel_rfl) (by exact fun _ _ _ h => h) (Or.inl ⟨by rfl, ?py13⟩) hHeld ?_
  case py13 => (intro w hSw; (try dsimp only at hSw); obtain ⟨hz1, hz2⟩ := hSw; go_simp; try (with_reducible rfl))
  try simp only [Act.put, List.setIfInBounds_toArray, List.set_cons_zero, List.set_cons_succ]
  refine wpAnyH_take (i := 14) (v := ?pv14) (by simp only [List.getElem?_toArray, List.getElem?_cons_succ, List.getElem?_cons_zero]; rfl) (by kernel_rfl) (by kernel_rfl) (by kernel_rfl) (by exact fun _ _ _ h => h) (Or.inl ⟨by rfl, ?py14⟩) hHeld ?_
  case py14 => (intro w hSw; (try dsimp only at hSw); obtain ⟨hz1, hz2⟩ := hSw; go_simp; try (with_reducible rfl))
  try simp only [Act.put, List.setIfInBounds_toArray, List.set_cons_zero, List.set_cons_succ]
  refine wpAnyH_ready (rs := [15]) (by kernel_rfl) (by simp) ?_
  refine AllReadyH.cons (by simp only [List.getElem?_toArray, List.getElem?_cons_succ, List.getElem?_cons_zero]; rfl) (fun KK hKK => ?_) AllReadyH.nil
  go_simp
  refine (hRS _ A3 c3 b3 (Sl.drew hs3)).mono ?_
  rintro e w9 ⟨v, rfl, hrow, h9⟩
  have h9 := below_undrew h9
  have hs2 := Sl.ext hs2 h9
  have q9 := q9.ext h9
  have hs3 := Sl.ext hs3 h9
  have q12 := q12.ext h9
  have q14 := q14.ext h9
  have hs5 := Sl.ext hs5 h9
  have hb := hb.trans (h9.mono hb.size)
  clear h9
  obtain ⟨A6, c6, b6, rfl, hl6, hcm6, hA6, hb6, hs6, hbk6⟩ := hrow.sl
  rw [hS1l]
  clear hrow hA6 hb6 hbk6 hRS
  go_wp2_with fail
  refine hKK.out _ _ ?_ (fun hHeld => ?_)
  · exact ⟨(sl_at hs2 hi).1.trans (by rw [HX.out]), (sl_at hs2 hi).2.trans (by rw [HY.out])⟩
  clear hKK KK
  try simp only [Act.put, List.setIfInBounds_toArray, List.set_cons_zero, List.set_cons_succ]
  refine wpAnyH_take (i := 16) (v := ?pv16) (by simp only [List.getElem?_toArray, List.getElem?_cons_succ, List.getElem?_cons_zero]; rfl) (by kernel_rfl) (by kernel_rfl) (by kernel_rfl) (by exact fun _ _ _ h => h) (Or.inl ⟨by rfl, ?py16⟩) hHeld ?_
  case py16 => (intro w hSw; (try dsimp only at hSw); obtain ⟨hz1, hz2⟩ := hSw; go_simp; try (with_reducible rfl))
  try simp only [Act.put, List.setIfInBounds_toArray, List.set_cons_zero, List.set_cons_succ]
  refine wpAnyH_done (by kernel_rfl) ?_ _
  go_wp2_with (first | ((with_reducible refine at_ld 31 9 ?_); refine wpList_ld rfl (.tmp 9) rfl w3.heap.size rfl M q9 ?_) | ((with_reducible refine at_ld 31 12 ?_); refine wpList_ld rfl (.tmp 12) rfl w5.heap.size rfl P1 q12 ?_) | ((with_reducible refine at_ld 31 14 ?_); refine wpList_ld rfl (.tmp 14) rfl w6.heap.size rfl S1 q14 ?_))
  refine (Cells_calls P1 _ (by omega)).mono ?_
  rintro e w8 ⟨v, rfl, hrow, hb8⟩
  have hs2 := Sl.ext hs2 hb8
  have q9 := q9.ext hb8
  have hs3 := Sl.ext hs3 hb8
  have q12 := q12.ext hb8
  have q14 := q14.ext hb8
  have hs5 := Sl.ext hs5 hb8
  have hs6 := Sl.ext hs6 hb8
  have hb := hb.trans (hb8.mono hb.size)
  clear hb8
  obtain ⟨B0, e0, g0, rfl, hx1, hx2, hx3, hx4, ht0, hx5⟩ := hrow.sl
  clear hrow hx1 hx2 hx3 hx4 hx5
  rw [hP1l]
  go_wp2_with (first | ((with_reducible refine at_ld 31 9 ?_); refine wpList_ld rfl (.tmp 9) rfl w3.heap.size rfl M q9 ?_) | ((with_reducible refine at_ld 31 12 ?_); refine wpList_ld rfl (.tmp 12) rfl w5.heap.size rfl P1 q12 ?_) | ((with_reducible refine at_ld 31 14 ?_); refine wpList_ld rfl (.tmp 14) rfl w6.heap.size rfl S1 q14 ?_))
  refine (hOw2 _ B0 P1 e0 g0 ht0 hP1l).mono ?_
  rintro e w9 ⟨v, rfl, hrow, hb9⟩
  have hs2 := Sl.ext hs2 hb9
  have q9 := q9.ext hb9
  have hs3 := Sl.ext hs3 hb9
  have q12 := q12.ext hb9
  have q14 := q14.ext hb9
  have hs5 := Sl.ext hs5 hb9
  have hs6 := Sl.ext hs6 hb9
  have ht0 := Sl.ext ht0 hb9
  have hb := hb.trans (hb9.mono hb.size)
  clear hb9
  clear ht0
  obtain ⟨C0, f0, m0, rfl, hx1, hx2, hx3, hx4, hu0, hx5⟩ := hrow.sl
  clear hrow hx1 hx2 hx3 hx4 hx5
  rw [hP1l]
  go_wp2_with (first | ((with_reducible refine at_ld 31 9 ?_); refine wpList_ld rfl (.tmp 9) rfl w3.heap.size rfl M q9 ?_) | ((with_reducible refine at_ld 31 12 ?_); refine wpList_ld rfl (.tmp 12) rfl w5.heap.size rfl P1 q12 ?_) | ((with_reducible refine at_ld 31 14 ?_); refine wpList_ld rfl (.tmp 14) rfl w6.heap.size rfl S1 q14 ?_))
  refine (hSame _ C0 A5 P1 f0 m0 c5 b5 hu0 hs5 hP1l).mono ?_
  rintro e w10 ⟨rfl, hb10⟩
  have hs2 := Sl.ext hs2 hb10
  have q9 := q9.ext hb10
  have hs3 := Sl.ext hs3 hb10
  have q12 := q12.ext hb10
  have q14 := q14.ext hb10
  have hs5 := Sl.ext hs5 hb10
  have hs6 := Sl.ext hs6 hb10
  have hu0 := Sl.ext hu0 hb10
  have hb := hb.trans (hb10.mono hb.size)
  clear hb10
  clear hu0
  go_wp2_with (first | ((with_reducible refine at_ld 31 9 ?_); refine wpList_ld rfl (.tmp 9) rfl w3.heap.size rfl M q9 ?_) | ((with_reducible refine at_ld 31 12 ?_); refine wpList_ld rfl (.tmp 12) rfl w5.heap.size rfl P1 q12 ?_) | ((with_reducible refine at_ld 31 14 ?_); refine wpList_ld rfl (.tmp 14) rfl w6.heap.size rfl S1 q14 ?_))
  refine (Cells_calls S1 _ (by omega)).mono ?_
  rintro e w11 ⟨v, rfl, hrow, hb11⟩
  have hs2 := Sl.ext hs2 hb11
  have q9 := q9.ext hb11
  have hs3 := Sl.ext hs3 hb11
  have q12 := q12.ext hb11
  have q14 := q14.ext hb11
  have hs5 := Sl.ext hs5 hb11
  have hs6 := Sl.ext hs6 hb11
  have hb := hb.trans (hb11.mono hb.size)
  clear hb11
  obtain ⟨B1, e1, g1, rfl, hx1, hx2, hx3, hx4, ht1, hx5⟩ := hrow.sl
  clear hrow hx1 hx2 hx3 hx4 hx5
  rw [hS1l]
  go_wp2_with (first | ((with_reducible refine at_ld 31 9 ?_); refine wpList_ld rfl (.tmp 9) rfl w3.heap.size rfl M q9 ?_) | ((with_reducible refine at_ld 31 12 ?_); refine wpList_ld rfl (.tmp 12) rfl w5.heap.size rfl P1 q12 ?_) | ((with_reducible refine at_ld 31 14 ?_); refine wpList_ld rfl (.tmp 14) rfl w6.heap.size rfl S1 q14 ?_))
  refine (hOw2 _ B1 S1 e1 g1 ht1 hS1l).mono ?_
  rintro e w12 ⟨v, rfl, hrow, hb12⟩
  have hs2 := Sl.ext hs2 hb12
  have q9 := q9.ext hb12
  have hs3 := Sl.ext hs3 hb12
  have q12 := q12.ext hb12
  have q14 := q14.ext hb12
  have hs5 := Sl.ext hs5 hb12
  have hs6 := Sl.ext hs6 hb12
  have ht1 := Sl.ext ht1 hb12
  have hb := hb.trans (hb12.mono hb.size)
  clear hb12
  clear ht1
  obtain ⟨C1, f1, m1, rfl, hx1, hx2, hx3, hx4, hu1, hx5⟩ := hrow.sl
  clear hrow hx1 hx2 hx3 hx4 hx5
  rw [hS1l]
  go_wp2_with (first | ((with_reducible refine at_ld 31 9 ?_); refine wpList_ld rfl (.tmp 9) rfl w3.heap.size rfl M q9 ?_) | ((with_reducible refine at_ld 31 12 ?_); refine wpList_ld rfl (.tmp 12) rfl w5.heap.size rfl P1 q12 ?_) | ((with_reducible refine at_ld 31 14 ?_); refine wpList_ld rfl (.tmp 14) rfl w6.heap.size rfl S1 q14 ?_))
  refine (hSame _ C1 A6 S1 f1 m1 c6 b6 hu1 hs6 hS1l).mono ?_
  rintro e w13 ⟨rfl, hb13⟩
  have hs2 := Sl.ext hs2 hb13
  have q9 := q9.ext hb13
  have hs3 := Sl.ext hs3 hb13
  have q12 := q12.ext hb13
  have q14 := q14.ext hb13
  have hs5 := Sl.ext hs5 hb13
  have hs6 := Sl.ext hs6 hb13
  have hu1 := Sl.ext hu1 hb13
  have hb := hb.trans (hb13.mono hb.size)
  clear hb13
  clear hu1
  obtain ⟨d0, d1⟩ := sl_at hs2 hi
  rw [← HY.out] at d1
  go_wp2_with (first | ((with_reducible refine at_ld 31 9 ?_); refine wpList_ld rfl (.tmp 9) rfl w3.heap.size rfl M q9 ?_) | ((with_reducible refine at_ld 31 12 ?_); refine wpList_ld rfl (.tmp 12) rfl w5.heap.size rfl P1 q12 ?_) | ((with_reducible refine at_ld 31 14 ?_); refine wpList_ld rfl (.tmp 14) rfl w6.heap.size rfl S1 q14 ?_))
  refine (Cells_calls M _ hML).mono ?_
  rintro e w14 ⟨v, rfl, hrow, hb14⟩
  have hs2 := Sl.ext hs2 hb14
  have q9 := q9.ext hb14
  have hs3 := Sl.ext hs3 hb14
  have q12 := q12.ext hb14
  have q14 := q14.ext hb14
  have hs5 := Sl.ext hs5 hb14
  have hs6 := Sl.ext hs6 hb14
  have hb := hb.trans (hb14.mono hb.size)
  clear hb14
  obtain ⟨B2, e2, g2, rfl, hx1, hx2, hx3, hx4, ht2, hx5⟩ := hrow.sl
  clear hrow hx1 hx2 hx3 hx4 hx5
  go_wp2_with (first | ((with_reducible refine at_ld 31 9 ?_); refine wpList_ld rfl (.tmp 9) rfl w3.heap.size rfl M q9 ?_) | ((with_reducible refine at_ld 31 12 ?_); refine wpList_ld rfl (.tmp 12) rfl w5.heap.size rfl P1 q12 ?_) | ((with_reducible refine at_ld 31 14 ?_); refine wpList_ld rfl (.tmp 14) rfl w6.heap.size rfl S1 q14 ?_))
  refine (hOw2 _ B2 M e2 g2 ht2 rfl).mono ?_
  rintro e w15 ⟨v, rfl, hrow, hb15⟩
  have hs2 := Sl.ext hs2 hb15
  have q9 := q9.ext hb15
  have hs3 := Sl.ext hs3 hb15
  have q12 := q12.ext hb15
  have q14 := q14.ext hb15
  have hs5 := Sl.ext hs5 hb15
  have hs6 := Sl.ext hs6 hb15
  have ht2 := Sl.ext ht2 hb15
  have hb := hb.trans (hb15.mono hb.size)
  clear hb15
  clear ht2
  obtain ⟨C2, f2, m2, rfl, hx1, hx2, hx3, hx4, hu2, hx5⟩ := hrow.sl
  clear hrow hx1 hx2 hx3 hx4 hx5
  go_wp2_with (first | ((with_reducible refine at_ld 31 9 ?_); refine wpList_ld rfl (.tmp 9) rfl w3.heap.size rfl M q9 ?_) | ((with_reducible refine at_ld 31 12 ?_); refine wpList_ld rfl (.tmp 12) rfl w5.heap.size rfl P1 q12 ?_) | ((with_reducible refine at_ld 31 14 ?_); refine wpList_ld rfl (.tmp 14) rfl w6.heap.size rfl S1 q14 ?_))
  refine (hSame _ C2 A3 M f2 m2 c3 b3 hu2 hs3 rfl).mono ?_
  rintro e w16 ⟨rfl, hb16⟩
  have hs2 := Sl.ext hs2 hb16
  have q9 := q9.ext hb16
  have hs3 := Sl.ext hs3 hb16
  have q12 := q12.ext hb16
  have q14 := q14.ext hb16
  have hs5 := Sl.ext hs5 hb16
  have hs6 := Sl.ext hs6 hb16
  have hu2 := Sl.ext hu2 hb16
  have hb := hb.trans (hb16.mono hb.size)
  clear hb16
  clear hu2
  go_wp2_with (first | ((with_reducible refine at_ld 31 9 ?_); refine wpList_ld rfl (.tmp 9) rfl w3.heap.size rfl M q9 ?_) | ((with_reducible refine at_ld 31 12 ?_); refine wpList_ld rfl (.tmp 12) rfl w5.heap.size rfl P1 q12 ?_) | ((with_reducible refine at_ld 31 14 ?_); refine wpList_ld rfl (.tmp 14) rfl w6.heap.size rfl S1 q14 ?_))
  go_ret
  exact ⟨rfl, hb⟩
theorem BoardPuts_walk (A : Option Addr) (L : List (Int × Nat)) (n c b : Nat) (i x : Int) (y m : Nat) (w : World) (hs : Sl w b A (cv L)) (hn : L.length = n) (_hm : n ≤ maxLen) (hnc : n ≤ c) (hok : okC L) (_h1 : -9223372036854775808 ≤ i) (_h2 : i ≤ 9223372036854775807) (_hx : -2147483648 ≤ x ∧ x ≤ 2147483647) (_hy : y < 4294967296) (hm : m ≤ 4294967295) :
    Calls Try.prog 4 #[.slice A n c, .int .i64 i, .agg #[.int .i32 x, .int .u32 (y : Int)], .int .u32 m] w fun e w' => e = .returned (.bool true) ∧ Below w.heap.size w w' := by
  by_cases hi : 0 ≤ i ∧ i < ((L.take 48).length : Int)
  · obtain ⟨k, rfl⟩ : ∃ k : Nat, i = (k : Int) := ⟨i.toNat, by omega⟩
    exact BoardPuts_in A L n c b k x y m w hs hn hnc hok (by omega) (by omega)
  · exact BoardPuts_out A L n c b i x y m w hs hn hnc hok hi
end Go.Proofs.Ytemhglcdcpobpaa
