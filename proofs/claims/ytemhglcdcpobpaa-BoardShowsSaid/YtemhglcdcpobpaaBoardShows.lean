/- BoardShows: the walk. Conditions: the list is no longer than may be; the cells fit. -/
import Derived.Test.YtemhglcdcpobpaaBoardPuts
namespace Go.Proofs.Ytemhglcdcpobpaa
open Go.RowKit

theorem yieldsIf_ld {ops : Array Oper} {S : World → Prop} {op : Oper} {a : Act} (hw : Region.wanted op (yielded ops a.tmps) = true) (x : Operand) (ho : op.op = .load 31 x)
    (b : Nat) (hx : a.eval x = .pointer (some ⟨b, 0, none⟩)) (L : List (Int × Nat)) (hS : ∀ w, S w → BoxL w b L) : YieldsIf Try.prog ops S op (.agg (bdL L)) a :=
  yieldsIf_load_bd hw x ho b hx _ _ _ hS
theorem yieldsIf_eql {ops : Array Oper} {S : World → Prop} {op : Oper} {a : Act} (hw : Region.wanted op (yielded ops a.tmps) = true) (x y : Operand) (ho : op.op = .binOp .eql 31 x y 31)
    (L M : List (Int × Nat)) (hx : a.eval x = .agg (bdL L)) (hy : a.eval y = .agg (bdL M)) (hL : L.length ≤ 48) (d : Bool) (hd : d = decide (L = M)) : YieldsIf Try.prog ops S op (.bool d) a :=
  .inl ⟨hw, fun w _ => by
    have e : d = true ↔ bdA (bdF L) (bdG L) L.length = bdA (bdF M) (bdG M) M.length := by
      rw [hd, decide_eq_true_iff]
      exact (bdL_inj hL).symm
    unfold execOp
    simp only [ho, hx, hy, bdL, Sem.run_bind, eq_guard, Result.andThen_ok, run_eql_bd w _ _ _ _ _ _ d e, Sem.run_pure]⟩
theorem sees_or (x m : Nat) (o : Int) : sees (x ||| m) o = (sees x o || sees m o) := by
  unfold sees
  rw [Nat.and_or_distrib_right, Bool.eq_iff_iff]
  simp only [decide_eq_true_eq, Bool.or_eq_true, ne_eq, Nat.or_eq_zero_iff]
  omega
theorem less_or_left (x m : Nat) (hx : x < 4294967296) (hm : m < 4294967296) : lessN x (x ||| m) = 0 := by
  have ho : x ||| m < 4294967296 := Nat.or_lt_two_pow (n := 32) hx hm
  refine ext32 (lessN_lt _ hx) (by omega) fun i hi => ?_
  rw [lessN_bit _ ho i hi, Nat.testBit_or, Nat.zero_testBit]
  cases x.testBit i <;> simp
theorem less_or_right (x m : Nat) (hx : x < 4294967296) (hm : m < 4294967296) : lessN m (x ||| m) = 0 := by
  rw [Nat.or_comm]
  exact less_or_left m x hm hx
theorem less_self (x : Nat) (hx : x < 4294967296) : lessN x x = 0 := by
  have := less_or_left x x hx hx
  rwa [Nat.or_self] at this
theorem bdG_set_or {M : List (Int × Nat)} {i : Nat} {X : Int} {m : Nat} (hi : i < M.length) (j : Nat) : bdG (M.set i (X, M[i].2 ||| m)) j = if j = i then bdG M i ||| m else bdG M j := by
  have h := bdG_set (X, M[i].2 ||| m) hi j
  rw [← h, bdG_in hi]
theorem shownTo_same {M : List (Int × Nat)} {i : Nat} {X : Int} {m : Nat} {o : Int} (hi : i < M.length) (h : sees m o = false) (k : Nat) : shownTo o (M.set i (X, M[i].2 ||| m)) k = shownTo o M k := by
  unfold shownTo
  congr 1
  funext j
  rw [bdG_set_or hi]
  by_cases e : j = i
  · subst e; rw [if_pos rfl, sees_or, h, Bool.or_false]
  · rw [if_neg e]
theorem shownI_at {o : Int} {M : List (Int × Nat)} {k j : Nat} (hj : j < (shownI o M k).length) : ∃ q : Nat, (shownI o M k)[j]? = some (q : Int) ∧ q < k := by
  have hj' : j < (shownTo o M k).length := by simpa [shownI] using hj
  refine ⟨(shownTo o M k)[j], by simp [shownI, List.getElem?_eq_getElem hj'], ?_⟩
  have h := List.getElem_mem hj'
  unfold shownTo at h
  rw [List.mem_filter, List.mem_range] at h
  exact h.1
theorem rowI_sl {w : World} {B : Nat} {v : Value} {l : List Int} (h : RowI w B v l) : ∃ (A : Option Addr) (b c : Nat), v = .slice A l.length c ∧ Sl w b A (iz l) := by
  rcases h.2 with ⟨rfl, hn⟩ | ⟨g, cap, cur, rfl, hb, _, hnc, hcm, _⟩
  · have hl : l = [] := List.eq_nil_of_length_eq_zero hn
    subst hl
    exact ⟨none, 0, 0, rfl, Sl.nil_ _ _ _⟩
  · refine ⟨_, g, cap, rfl, fun _ => ⟨0, rfl, fun j u hu => ?_⟩⟩
    have := h.cells (g := g) rfl j u hu
    simpa [Addr.add_lit] using this
set_option maxHeartbeats 16000000 in
set_option maxRecDepth 40000 in
theorem BoardShows_out (A : Option Addr) (L : List (Int × Nat)) (n c b : Nat) (i : Int) (m : Nat) (o : Int) (w : World) (hs : Sl w b A (cv L)) (hn : L.length = n) (hnc : n ≤ c) (hok : okC L) (hi : ¬(0 ≤ i ∧ i < ((L.take 48).length : Int))) :
    Calls Try.prog 8 #[.slice A n c, .int .i64 i, .int .u32 m, .int .i64 o] w fun e w' => e = .returned (.bool true) ∧ Below w.heap.size w w' := by
  have hF := fun W h => FewC_calls A L n c b W h hn hnc
  obtain ⟨M, hM⟩ : ∃ M, M = L.take 48 := ⟨_, rfl⟩
  have hML : M.length ≤ 48 := by rw [hM, List.length_take]; omega
  have hMo : okC M := by rw [hM]; exact okC_take hok 48
  rw [← hM] at hF hi
  clear hM hok hn
  have hN := fun W A c b h => New_in A M M.length c b W h rfl hML
  have hSh := fun W => Show_out M i m W hi
  go_enter Try.func8, Try.ntmps8
  go_wp2_with fail
  have hs0 := hs
  refine (Awake_calls _).mono ?_
  rintro e w1 ⟨rfl, hb1⟩
  have hs := Sl.ext hs hb1
  have hb := hb1
  clear hb1
  go_wp2_with fail
  refine (hF _ hs).mono ?_
  rintro e w2 ⟨v, rfl, hrow, hb2⟩
  have hs := Sl.ext hs hb2
  have hb := hb.trans (hb2.mono hb.size)
  clear hb2
  clear hs
  clear hF hs0
  obtain ⟨A2, c2, b2, rfl, hlc, hcm, hA2, hbb, hs2, hbk⟩ := hrow.sl
  clear hrow hA2 hbb hbk
  go_wp2_with fail
  refine (hN _ A2 c2 b2 hs2).mono ?_
  rintro e w3 ⟨rfl, hb3⟩
  have hs2 := Sl.ext hs2 hb3
  have hb := hb.trans (hb3.mono hb.size)
  clear hb3
  clear hs2
  clear hN
  have hb := hb.alloc hb.size (.cells (bdL M) 31)
  have q9 := BoxL.new_ w3 M
  go_wp2_with (first | ((with_reducible refine at_al 31 9 ?_); refine wpList_al rfl rfl (some 9) rfl w3.heap.size rfl ?_) | ((with_reducible refine at_st 31 9 32 ?_); refine wpList_put rfl (.tmp 9) (.tmp 32) rfl rfl M rfl rfl ?_) | ((with_reducible refine at_ld 31 9 ?_); refine wpList_ld rfl (.tmp 9) rfl w3.heap.size rfl M q9 ?_))
  refine (hSh _).mono ?_
  rintro e w4 ⟨rfl, hb4⟩
  have q9 := q9.ext hb4
  have hb := hb.trans (hb4.mono hb.size)
  clear hb4
  clear hSh
  have q9 := q9.alloc (.cells (bdL M) 31)
  have hb := hb.alloc hb.size (.cells (bdL M) 31)
  have q11 := BoxL.new_ w4 M
  go_wp2_with (first | ((with_reducible refine at_al 31 11 ?_); refine wpList_al rfl rfl (some 11) rfl w4.heap.size rfl ?_) | ((with_reducible refine at_st 31 11 39 ?_); refine wpList_put rfl (.tmp 11) (.tmp 39) rfl rfl M rfl rfl ?_) | ((with_reducible refine at_bi 46 .eql 31 31 (.tmp 44) (.tmp 45) ?_); refine wpList_eql_bd rfl (.tmp 44) (.tmp 45) rfl M M rfl rfl hML true (by simp) ?_) | ((with_reducible refine at_ld 31 9 ?_); refine wpList_ld rfl (.tmp 9) rfl w3.heap.size rfl M q9 ?_) | ((with_reducible refine at_ld 31 11 ?_); refine wpList_ld rfl (.tmp 11) rfl w4.heap.size rfl M q11 ?_))
  go_ret
  exact ⟨rfl, hb⟩
set_option maxHeartbeats 16000000 in
set_option maxRecDepth 40000 in
theorem BoardShows_has (A : Option Addr) (L : List (Int × Nat)) (n c b : Nat) (i m : Nat) (o : Int) (w : World) (hs : Sl w b A (cv L)) (hn : L.length = n) (hnc : n ≤ c) (hok : okC L) (hi : i < (L.take 48).length) (hm : m < 4294967296) (ho : sees m o = true) :
    Calls Try.prog 8 #[.slice A n c, .int .i64 i, .int .u32 m, .int .i64 o] w fun e w' => e = .returned (.bool true) ∧ Below w.heap.size w w' := by
  have hF := fun W h => FewC_calls A L n c b W h hn hnc
  obtain ⟨M, hM⟩ : ∃ M, M = L.take 48 := ⟨_, rfl⟩
  have hML : M.length ≤ 48 := by rw [hM, List.length_take]; omega
  have hMo : okC M := by rw [hM]; exact okC_take hok 48
  rw [← hM] at hF hi
  clear hM hok hn
  have hN := fun W A c b h => New_in A M M.length c b W h rfl hML
  have hSh := fun W => Show_in M i m W hML hMo hi hm
  obtain ⟨X, hX⟩ : ∃ X, X = M[i].1 := ⟨_, rfl⟩
  obtain ⟨Y, hY⟩ : ∃ Y, Y = M[i].2 := ⟨_, rfl⟩
  have hYl : Y < 4294967296 := by rw [hY]; exact (okC_get hMo hi).2
  have hXb := (okC_get hMo hi).1
  obtain ⟨J, hJ⟩ : ∃ J, J = Y ||| m := ⟨_, rfl⟩
  have hJl : J < 4294967296 := by rw [hJ]; exact Nat.or_lt_two_pow (n := 32) hYl hm
  rw [← hX, ← hY, ← hJ] at hSh
  rw [← hX] at hXb
  obtain ⟨S1, hS1⟩ : ∃ S1, S1 = M.set i (X, J) := ⟨_, rfl⟩
  have hS1l : S1.length = M.length := by rw [hS1, List.length_set]
  have hS1L : S1.length ≤ 48 := by omega
  have hS1o : okC S1 := by rw [hS1]; exact okC_set hMo i ⟨hXb, hJl⟩
  have hS1i : S1[i]'(by rw [hS1l]; exact hi) = (X, J) := by simp [hS1]
  have hS1s : S1.set i (X, J) = S1 := by rw [hS1, List.set_set]
  have hmJ : lessN m J = 0 := by rw [hJ]; exact less_or_right Y m hYl hm
  have hJm : J ||| m = J := by rw [hJ, Nat.or_assoc, Nat.or_self]
  have HS1 : Hid (∀ q (hq : q < M.length), (S1[q]'(by rw [hS1l]; exact hq)).1 = M[q].1 ∧ lessN M[q].2 (S1[q]'(by rw [hS1l]; exact hq)).2 = 0 ∧ (S1[q]'(by rw [hS1l]; exact hq)).2 < 4294967296) := Lib.hid fun q hq => by
    refine ⟨?_, ?_, (okC_get hS1o _).2⟩
    · by_cases e : q = i
      · subst e; rw [hS1i]; exact hX
      · simp [hS1, Ne.symm e]
    · by_cases e : q = i
      · subst e; rw [hS1i, ← hY, hJ]; exact less_or_left Y m hYl hm
      · have : (S1[q]'(by rw [hS1l]; exact hq)).2 = M[q].2 := by simp [hS1, Ne.symm e]
        rw [this]
        exact less_self _ (okC_get hMo hq).2
  have hSh2 := fun W => Show_in S1 i m W hS1L hS1o (by rw [hS1l]; exact hi) hm
  have hAt := fun W => At_in S1 i W hS1L (by rw [hS1l]; exact hi)
  rw [hS1i] at hSh2 hAt
  simp only [hJm, hS1s, hmJ, decide_true, Bool.not_true] at hSh2
  simp only at hAt
  rw [← hS1] at hSh
  have hShown := fun W => Shown_calls M o W hML hMo
  have hul := shownI_len o M M.length
  have hWm := fun W => MWithin_calls m J W hm hJl
  rw [hmJ] at hWm
  have hHo := fun W => MHas_calls m o W hm
  rw [show decide (m &&& aloneN o ≠ 0) = true from ho] at hHo
  clear hX hY hJ hS1 hS1i hS1s hmJ hJm hXb ho
  go_enter Try.func8, Try.ntmps8
  go_wp2_with fail
  have hs0 := hs
  refine (Awake_calls _).mono ?_
  rintro e w1 ⟨rfl, hb1⟩
  have hs := Sl.ext hs hb1
  have hb := hb1
  clear hb1
  go_wp2_with fail
  refine (hF _ hs).mono ?_
  rintro e w2 ⟨v, rfl, hrow, hb2⟩
  have hs := Sl.ext hs hb2
  have hb := hb.trans (hb2.mono hb.size)
  clear hb2
  clear hs
  clear hF hs0
  obtain ⟨A2, c2, b2, rfl, hlc, hcm, hA2, hbb, hs2, hbk⟩ := hrow.sl
  clear hrow hA2 hbb hbk
  go_wp2_with fail
  refine (hN _ A2 c2 b2 hs2).mono ?_
  rintro e w3 ⟨rfl, hb3⟩
  have hs2 := Sl.ext hs2 hb3
  have hb := hb.trans (hb3.mono hb.size)
  clear hb3
  clear hs2
  clear hN
  have hb := hb.alloc hb.size (.cells (bdL M) 31)
  have q9 := BoxL.new_ w3 M
  go_wp2_with (first | ((with_reducible refine at_al 31 9 ?_); refine wpList_al rfl rfl (some 9) rfl w3.heap.size rfl ?_) | ((with_reducible refine at_st 31 9 32 ?_); refine wpList_put rfl (.tmp 9) (.tmp 32) rfl rfl M rfl rfl ?_) | ((with_reducible refine at_ld 31 9 ?_); refine wpList_ld rfl (.tmp 9) rfl w3.heap.size rfl M q9 ?_))
  refine (hSh _).mono ?_
  rintro e w4 ⟨rfl, hb4⟩
  have q9 := q9.ext hb4
  have hb := hb.trans (hb4.mono hb.size)
  clear hb4
  clear hSh
  have q9 := q9.alloc (.cells (bdL S1) 31)
  have hb := hb.alloc hb.size (.cells (bdL S1) 31)
  have q11 := BoxL.new_ w4 S1
  go_wp2_with (first | ((with_reducible refine at_al 31 11 ?_); refine wpList_al rfl rfl (some 11) rfl w4.heap.size rfl ?_) | ((with_reducible refine at_st 31 11 39 ?_); refine wpList_put rfl (.tmp 11) (.tmp 39) rfl rfl S1 rfl rfl ?_) | ((with_reducible refine at_ld 31 9 ?_); refine wpList_ld rfl (.tmp 9) rfl w3.heap.size rfl M q9 ?_) | ((with_reducible refine at_ld 31 11 ?_); refine wpList_ld rfl (.tmp 11) rfl w4.heap.size rfl S1 q11 ?_))
  refine (hSh2 _).mono ?_
  rintro e w5 ⟨rfl, hb5⟩
  have q9 := q9.ext hb5
  have q11 := q11.ext hb5
  have hb := hb.trans (hb5.mono hb.size)
  clear hb5
  clear hSh2
  have q9 := q9.alloc (.cells (bdL S1) 31)
  have q11 := q11.alloc (.cells (bdL S1) 31)
  have hb := hb.alloc hb.size (.cells (bdL S1) 31)
  have q14 := BoxL.new_ w5 S1
  go_wp2_with (first | ((with_reducible refine at_al 31 14 ?_); refine wpList_al rfl rfl (some 14) rfl w5.heap.size rfl ?_) | ((with_reducible refine at_st 31 14 52 ?_); refine wpList_put rfl (.tmp 14) (.tmp 52) rfl rfl S1 rfl rfl ?_) | ((with_reducible refine at_ld 31 9 ?_); refine wpList_ld rfl (.tmp 9) rfl w3.heap.size rfl M q9 ?_) | ((with_reducible refine at_ld 31 11 ?_); refine wpList_ld rfl (.tmp 11) rfl w4.heap.size rfl S1 q11 ?_) | ((with_reducible refine at_ld 31 14 ?_); refine wpList_ld rfl (.tmp 14) rfl w5.heap.size rfl S1 q14 ?_))
  refine (hShown _).mono ?_
  rintro e w6 ⟨v, rfl, hrow, hb6⟩
  have q9 := q9.ext hb6
  have q11 := q11.ext hb6
  have q14 := q14.ext hb6
  have hb := hb.trans (hb6.mono hb.size)
  clear hb6
  clear hShown
  obtain ⟨AI, bI, cI, hvI, hsI⟩ := rowI_sl hrow
  subst hvI
  clear hrow
  go_wp2_with (first | ((with_reducible refine at_ld 31 9 ?_); refine wpList_ld rfl (.tmp 9) rfl w3.heap.size rfl M q9 ?_) | ((with_reducible refine at_ld 31 11 ?_); refine wpList_ld rfl (.tmp 11) rfl w4.heap.size rfl S1 q11 ?_) | ((with_reducible refine at_ld 31 14 ?_); refine wpList_ld rfl (.tmp 14) rfl w5.heap.size rfl S1 q14 ?_))
  go_loopw [59] (fun i' wr => ∃ j : Nat, j ≤ (shownI o M M.length).length ∧ i' = .int .i64 j ∧ BoxL wr w3.heap.size M ∧ BoxL wr w4.heap.size S1 ∧ BoxL wr w5.heap.size S1 ∧ Sl wr bI AI (iz (shownI o M M.length)) ∧ Below w.heap.size w wr) (fun i' _ => (shownI o M M.length).length - (intOf i').toNat)
  case atStart => exact ⟨0, Nat.zero_le _, rfl, q9, q11, q14, hsI, hb⟩
  case round =>
    clear q9 q11 q14 hsI hb
    obtain ⟨j, hj, rfl, q9, q11, q14, hsI, hb⟩ := hrel
    by_cases hlt : j < (shownI o M M.length).length
    · obtain ⟨q, hq, hqM⟩ := shownI_at hlt
      obtain ⟨off, rfl, hcl⟩ := hsI (by intro h0; have := congrArg List.length h0; simp at this; simp [this] at hlt)
      have hcq := hcl j _ (iz_get? hq)
      have hA := fun W => At_in M q W hML hqM
      have hB := fun W => At_in S1 q W hS1L (by rw [hS1l]; exact hqM)
      obtain ⟨P, hP⟩ : ∃ P, P = M[q].1 := ⟨_, rfl⟩
      obtain ⟨R, hR⟩ : ∃ R, R = M[q].2 := ⟨_, rfl⟩
      obtain ⟨T, hT⟩ : ∃ T, T = (S1[q]'(by rw [hS1l]; exact hqM)).2 := ⟨_, rfl⟩
      have hPT : (S1[q]'(by rw [hS1l]; exact hqM)).1 = P := by rw [hP]; exact HS1.out q hqM |>.1
      have hRT : lessN R T = 0 := by rw [hR, hT]; exact HS1.out q hqM |>.2.1
      have hRl : R < 4294967296 := by rw [hR]; exact (okC_get hMo hqM).2
      have hTl : T < 4294967296 := by rw [hT]; exact HS1.out q hqM |>.2.2
      have hWi := fun W => MWithin_calls R T W hRl hTl
      rw [hRT] at hWi
      rw [← hP, ← hR] at hA
      rw [hPT, ← hT] at hB
      clear hP hR hT hPT hRT hcl hq
      have ej : (j : Int) < ((shownI o M M.length).length : Int) := by omega
      obtain ⟨N, hN⟩ : ∃ N, N = (shownI o M M.length).length := ⟨_, rfl⟩
      go_wp2_with (first | ((with_reducible refine at_ld 31 9 ?_); refine wpList_ld rfl (.tmp 9) rfl w3.heap.size rfl M q9 ?_) | ((with_reducible refine at_ld 31 11 ?_); refine wpList_ld rfl (.tmp 11) rfl w4.heap.size rfl S1 q11 ?_))
      refine (hA _).mono ?_
      rintro e w7 ⟨rfl, hb7⟩
      have q9 := q9.ext hb7
      have q11 := q11.ext hb7
      have q14 := q14.ext hb7
      have hsI := Sl.ext hsI hb7
      have hb := hb.trans (hb7.mono hb.size)
      clear hb7
      have k := BoxC.new_ w7 P R
      have q9 := q9.alloc (.cells #[.int .i32 P, .int .u32 (R : Int)] 28)
      have q11 := q11.alloc (.cells #[.int .i32 P, .int .u32 (R : Int)] 28)
      have q14 := q14.alloc (.cells #[.int .i32 P, .int .u32 (R : Int)] 28)
      have hsI := Sl.alloc hsI (.cells #[.int .i32 P, .int .u32 (R : Int)] 28)
      have hb := hb.alloc hb.size (.cells #[.int .i32 P, .int .u32 (R : Int)] 28)
      go_wp2_with (first | ((with_reducible refine at_ld 31 9 ?_); refine wpList_ld rfl (.tmp 9) rfl w3.heap.size rfl M q9 ?_) | ((with_reducible refine at_ld 31 11 ?_); refine wpList_ld rfl (.tmp 11) rfl w4.heap.size rfl S1 q11 ?_))
      refine (hB _).mono ?_
      rintro e w8 ⟨rfl, hb8⟩
      have q9 := q9.ext hb8
      have q11 := q11.ext hb8
      have q14 := q14.ext hb8
      have hsI := Sl.ext hsI hb8
      have k := k.ext hb8
      have hb := hb.trans (hb8.mono hb.size)
      clear hb8
      have q9 := q9.alloc (.cells #[.int .i32 P, .int .u32 (T : Int)] 28)
      have q11 := q11.alloc (.cells #[.int .i32 P, .int .u32 (T : Int)] 28)
      have q14 := q14.alloc (.cells #[.int .i32 P, .int .u32 (T : Int)] 28)
      have hsI := Sl.alloc hsI (.cells #[.int .i32 P, .int .u32 (T : Int)] 28)
      have k := k.alloc (.cells #[.int .i32 P, .int .u32 (T : Int)] 28)
      have hb := hb.alloc hb.size (.cells #[.int .i32 P, .int .u32 (T : Int)] 28)
      obtain ⟨k0, k1⟩ := And.intro k.c0 k.c1
      clear hA hB hcq
      go_wp2_with fail
      refine (hWi _).mono ?_
      rintro e wx ⟨rfl, hwx⟩
      have hwx := hwx.symm
      subst hwx
      go_wp2_with fail
      go_roundw
      case rel => exact ⟨j + 1, by omega, by go_num, q9, q11, q14, hsI, hb⟩
      case measure => simp [intOf]; omega
    · have ej : decide ((j : Int) < ((shownI o M M.length).length : Int)) = false := by simp; omega
      go_wp2_with ((with_reducible refine at_ld 31 11 ?_); refine wpList_ld rfl (.tmp 11) rfl w4.heap.size rfl S1 q11 ?_)
      refine (hAt _).mono ?_
      rintro e w9 ⟨rfl, hb9⟩
      have q9 := q9.ext hb9
      have q11 := q11.ext hb9
      have q14 := q14.ext hb9
      have hb := hb.trans (hb9.mono hb.size)
      clear hb9
      have k := BoxC.new_ w9 X J
      have q9 := q9.alloc (.cells #[.int .i32 X, .int .u32 (J : Int)] 28)
      have q11 := q11.alloc (.cells #[.int .i32 X, .int .u32 (J : Int)] 28)
      have q14 := q14.alloc (.cells #[.int .i32 X, .int .u32 (J : Int)] 28)
      have hb := hb.alloc hb.size (.cells #[.int .i32 X, .int .u32 (J : Int)] 28)
      go_wp2_with fail
      refine wp_region_held_drew (S := fun w' => BoxL w' w3.heap.size M ∧ BoxL w' w4.heap.size S1 ∧ BoxL w' w5.heap.size S1 ∧ BoxC w' w9.heap.size X J) (by kernel_rfl) ?_ (fun hHeld => ?_)
      · exact ⟨q9, q11, q14, k⟩
      refine wpAnyH_take (i := 0) (by simp only [List.getElem?_toArray, List.getElem?_cons_zero]; rfl) (by kernel_rfl) (by kernel_rfl) (by kernel_rfl) (by exact fun _ _ _ h => h) (by exact yieldsIf_ld (by rfl) (.tmp 14) rfl w5.heap.size rfl S1 (fun w h => h.2.2.1)) hHeld ?_
      try simp only [Act.put, List.setIfInBounds_toArray, List.set_cons_zero, List.set_cons_succ]
      refine wpAnyH_take (i := 1) (by simp only [List.getElem?_toArray, List.getElem?_cons_succ, List.getElem?_cons_zero]; rfl) (by kernel_rfl) (by kernel_rfl) (by kernel_rfl) (by exact fun _ _ _ h => h) (by exact yieldsIf_ld (by rfl) (.tmp 11) rfl w4.heap.size rfl S1 (fun w h => h.2.1)) hHeld ?_
      try simp only [Act.put, List.setIfInBounds_toArray, List.set_cons_zero, List.set_cons_succ]
      refine wpAnyH_take (i := 2) (by simp only [List.getElem?_toArray, List.getElem?_cons_succ, List.getElem?_cons_zero]; rfl) (by kernel_rfl) (by kernel_rfl) (by kernel_rfl) (by exact fun _ _ _ h => h) (by exact yieldsIf_eql (by rfl) (.tmp 95) (.tmp 96) rfl S1 S1 rfl rfl hS1L true (by simp)) hHeld ?_
      try simp only [Act.put, List.setIfInBounds_toArray, List.set_cons_zero, List.set_cons_succ]
      refine wpAnyH_take (i := 3) (v := ?sv3) (by simp only [List.getElem?_toArray, List.getElem?_cons_succ, List.getElem?_cons_zero]; rfl) (by kernel_rfl) (by kernel_rfl) (by kernel_rfl) (by exact fun _ _ _ h => h) (Or.inl ⟨by rfl, ?sy3⟩) hHeld ?_
      case sy3 => (intro w hSw; (try dsimp only at hSw); obtain ⟨hz1, hz2, hz3, hz4⟩ := hSw; have hz4 := hz4.c1; clear hz1 hz2 hz3; go_simp; try (with_reducible rfl))
      try simp only [Act.put, List.setIfInBounds_toArray, List.set_cons_zero, List.set_cons_succ]
      refine wpAnyH_take (i := 4) (v := ?sv4) (by simp only [List.getElem?_toArray, List.getElem?_cons_succ, List.getElem?_cons_zero]; rfl) (by kernel_rfl) (by kernel_rfl) (by kernel_rfl) (by exact fun _ _ _ h => h) (Or.inl ⟨by rfl, ?sy4⟩) hHeld ?_
      case sy4 => (intro w hSw; (try dsimp only at hSw); obtain ⟨hz1, hz2, hz3, hz4⟩ := hSw; have hz4 := hz4.c1; clear hz1 hz2 hz3; go_simp; try (with_reducible rfl))
      try simp only [Act.put, List.setIfInBounds_toArray, List.set_cons_zero, List.set_cons_succ]
      refine wpAnyH_take (i := 5) (v := ?sv5) (by simp only [List.getElem?_toArray, List.getElem?_cons_succ, List.getElem?_cons_zero]; rfl) (by kernel_rfl) (by kernel_rfl) (by kernel_rfl) (by exact fun _ _ _ h => h) (Or.inl ⟨by rfl, ?sy5⟩) hHeld ?_
      case sy5 => (intro w hSw; (try dsimp only at hSw); obtain ⟨hz1, hz2, hz3, hz4⟩ := hSw; have hz4 := hz4.c1; clear hz1 hz2 hz3; go_simp; try (with_reducible rfl))
      try simp only [Act.put, List.setIfInBounds_toArray, List.set_cons_zero, List.set_cons_succ]
      refine wpAnyH_take (i := 6) (v := ?sv6) (by simp only [List.getElem?_toArray, List.getElem?_cons_succ, List.getElem?_cons_zero]; rfl) (by kernel_rfl) (by kernel_rfl) (by kernel_rfl) (by exact fun _ _ _ h => h) (Or.inl ⟨by rfl, ?sy6⟩) hHeld ?_
      case sy6 => (intro w hSw; (try dsimp only at hSw); obtain ⟨hz1, hz2, hz3, hz4⟩ := hSw; have hz4 := hz4.c1; clear hz1 hz2 hz3; go_simp; try (with_reducible rfl))
      try simp only [Act.put, List.setIfInBounds_toArray, List.set_cons_zero, List.set_cons_succ]
      refine wpAnyH_take (i := 7) (v := ?sv7) (by simp only [List.getElem?_toArray, List.getElem?_cons_succ, List.getElem?_cons_zero]; rfl) (by kernel_rfl) (by kernel_rfl) (by kernel_rfl) (by exact fun _ _ _ h => h) (Or.inl ⟨by rfl, ?sy7⟩) hHeld ?_
      case sy7 => (intro w hSw; (try dsimp only at hSw); obtain ⟨hz1, hz2, hz3, hz4⟩ := hSw; have hz4 := hz4.c1; clear hz1 hz2 hz3; go_simp; try (with_reducible rfl))
      try simp only [Act.put, List.setIfInBounds_toArray, List.set_cons_zero, List.set_cons_succ]
      refine wpAnyH_take (i := 8) (v := ?sv8) (by simp only [List.getElem?_toArray, List.getElem?_cons_succ, List.getElem?_cons_zero]; rfl) (by kernel_rfl) (by kernel_rfl) (by kernel_rfl) (by exact fun _ _ _ h => h) (Or.inl ⟨by rfl, ?sy8⟩) hHeld ?_
      case sy8 => (intro w hSw; (try dsimp only at hSw); obtain ⟨hz1, hz2, hz3, hz4⟩ := hSw; have hz4 := hz4.c1; clear hz1 hz2 hz3; go_simp; try (with_reducible rfl))
      try simp only [Act.put, List.setIfInBounds_toArray, List.set_cons_zero, List.set_cons_succ]
      refine wpAnyH_take (i := 9) (v := ?sv9) (by simp only [List.getElem?_toArray, List.getElem?_cons_succ, List.getElem?_cons_zero]; rfl) (by kernel_rfl) (by kernel_rfl) (by kernel_rfl) (by exact fun _ _ _ h => h) (Or.inl ⟨by rfl, ?sy9⟩) hHeld ?_
      case sy9 => (intro w hSw; (try dsimp only at hSw); obtain ⟨hz1, hz2, hz3, hz4⟩ := hSw; have hz4 := hz4.c1; clear hz1 hz2 hz3; go_simp; try (with_reducible rfl))
      try simp only [Act.put, List.setIfInBounds_toArray, List.set_cons_zero, List.set_cons_succ]
      refine wpAnyH_take (i := 10) (v := ?sv10) (by simp only [List.getElem?_toArray, List.getElem?_cons_succ, List.getElem?_cons_zero]; rfl) (by kernel_rfl) (by kernel_rfl) (by kernel_rfl) (by exact fun _ _ _ h => h) (Or.inl ⟨by rfl, ?sy10⟩) hHeld ?_
      case sy10 => (intro w hSw; (try dsimp only at hSw); obtain ⟨hz1, hz2, hz3, hz4⟩ := hSw; have hz4 := hz4.c1; clear hz1 hz2 hz3; go_simp; try (with_reducible rfl))
      try simp only [Act.put, List.setIfInBounds_toArray, List.set_cons_zero, List.set_cons_succ]
      refine wpAnyH_ready (rs := [11]) (by kernel_rfl) (by simp) ?_
      refine AllReadyH.cons (by simp only [List.getElem?_toArray, List.getElem?_cons_succ, List.getElem?_cons_zero]; rfl) (fun KK hKK => ?_) AllReadyH.nil
      go_simp
      refine (hWm _).mono ?_
      rintro e wx ⟨rfl, rfl⟩
      go_wp2_with fail
      refine hKK.out _ _ ?_ (fun hHeld => ?_)
      · exact ⟨q9, q11, q14, k⟩
      clear hKK KK
      try simp only [Act.put, List.setIfInBounds_toArray, List.set_cons_zero, List.set_cons_succ]
      refine wpAnyH_take (i := 12) (v := ?sv12) (by simp only [List.getElem?_toArray, List.getElem?_cons_succ, List.getElem?_cons_zero]; rfl) (by kernel_rfl) (by kernel_rfl) (by kernel_rfl) (by exact fun _ _ _ h => h) (Or.inl ⟨by rfl, ?sy12⟩) hHeld ?_
      case sy12 => (intro w hSw; (try dsimp only at hSw); obtain ⟨hz1, hz2, hz3, hz4⟩ := hSw; have hz4 := hz4.c1; clear hz1 hz2 hz3; go_simp; try (with_reducible rfl))
      try simp only [Act.put, List.setIfInBounds_toArray, List.set_cons_zero, List.set_cons_succ]
      refine wpAnyH_take (i := 13) (v := ?sv13) (by simp only [List.getElem?_toArray, List.getElem?_cons_succ, List.getElem?_cons_zero]; rfl) (by kernel_rfl) (by kernel_rfl) (by kernel_rfl) (by exact fun _ _ _ h => h) (Or.inl ⟨by rfl, ?sy13⟩) hHeld ?_
      case sy13 => (intro w hSw; (try dsimp only at hSw); obtain ⟨hz1, hz2, hz3, hz4⟩ := hSw; have hz4 := hz4.c1; clear hz1 hz2 hz3; go_simp; try (with_reducible rfl))
      try simp only [Act.put, List.setIfInBounds_toArray, List.set_cons_zero, List.set_cons_succ]
      refine wpAnyH_take (i := 14) (v := ?sv14) (by simp only [List.getElem?_toArray, List.getElem?_cons_succ, List.getElem?_cons_zero]; rfl) (by kernel_rfl) (by kernel_rfl) (by kernel_rfl) (by exact fun _ _ _ h => h) (Or.inl ⟨by rfl, ?sy14⟩) hHeld ?_
      case sy14 => (intro w hSw; (try dsimp only at hSw); obtain ⟨hz1, hz2, hz3, hz4⟩ := hSw; have hz4 := hz4.c1; clear hz1 hz2 hz3; go_simp; try (with_reducible rfl))
      try simp only [Act.put, List.setIfInBounds_toArray, List.set_cons_zero, List.set_cons_succ]
      refine wpAnyH_take (i := 15) (v := ?sv15) (by simp only [List.getElem?_toArray, List.getElem?_cons_succ, List.getElem?_cons_zero]; rfl) (by kernel_rfl) (by kernel_rfl) (by kernel_rfl) (by exact fun _ _ _ h => h) (Or.inl ⟨by rfl, ?sy15⟩) hHeld ?_
      case sy15 => (intro w hSw; (try dsimp only at hSw); obtain ⟨hz1, hz2, hz3, hz4⟩ := hSw; have hz4 := hz4.c1; clear hz1 hz2 hz3; go_simp; try (with_reducible rfl))
      try simp only [Act.put, List.setIfInBounds_toArray, List.set_cons_zero, List.set_cons_succ]
      refine wpAnyH_ready (rs := [16]) (by kernel_rfl) (by simp) ?_
      refine AllReadyH.cons (by simp only [List.getElem?_toArray, List.getElem?_cons_succ, List.getElem?_cons_zero]; rfl) (fun KK hKK => ?_) AllReadyH.nil
      go_simp
      refine (hHo _).mono ?_
      rintro e wx ⟨rfl, rfl⟩
      go_wp2_with fail
      refine hKK.out _ _ ?_ (fun hHeld => ?_)
      · exact ⟨q9, q11, q14, k⟩
      clear hKK KK
      try simp only [Act.put, List.setIfInBounds_toArray, List.set_cons_zero, List.set_cons_succ]
      refine wpAnyH_take (i := 17) (v := ?sv17) (by simp only [List.getElem?_toArray, List.getElem?_cons_succ, List.getElem?_cons_zero]; rfl) (by kernel_rfl) (by kernel_rfl) (by kernel_rfl) (by exact fun _ _ _ h => h) (Or.inl ⟨by rfl, ?sy17⟩) hHeld ?_
      case sy17 => (intro w hSw; (try dsimp only at hSw); obtain ⟨hz1, hz2, hz3, hz4⟩ := hSw; have hz4 := hz4.c1; clear hz1 hz2 hz3; go_simp; try (with_reducible rfl))
      try simp only [Act.put, List.setIfInBounds_toArray, List.set_cons_zero, List.set_cons_succ]
      refine wpAnyH_take (i := 18) (by simp only [List.getElem?_toArray, List.getElem?_cons_succ, List.getElem?_cons_zero]; rfl) (by kernel_rfl) (by kernel_rfl) (by kernel_rfl) (by exact fun _ _ _ h => h) (Or.inr ⟨by rfl, rfl⟩) hHeld ?_
      try simp only [Act.put, List.setIfInBounds_toArray, List.set_cons_zero, List.set_cons_succ]
      refine wpAnyH_take (i := 19) (by simp only [List.getElem?_toArray, List.getElem?_cons_succ, List.getElem?_cons_zero]; rfl) (by kernel_rfl) (by kernel_rfl) (by kernel_rfl) (by exact fun _ _ _ h => h) (Or.inr ⟨by rfl, rfl⟩) hHeld ?_
      try simp only [Act.put, List.setIfInBounds_toArray, List.set_cons_zero, List.set_cons_succ]
      refine wpAnyH_take (i := 22) (by simp only [List.getElem?_toArray, List.getElem?_cons_succ, List.getElem?_cons_zero]; rfl) (by kernel_rfl) (by kernel_rfl) (by kernel_rfl) (by exact fun _ _ _ h => h) (Or.inr ⟨by rfl, rfl⟩) hHeld ?_
      try simp only [Act.put, List.setIfInBounds_toArray, List.set_cons_zero, List.set_cons_succ]
      refine wpAnyH_take (i := 23) (by simp only [List.getElem?_toArray, List.getElem?_cons_succ, List.getElem?_cons_zero]; rfl) (by kernel_rfl) (by kernel_rfl) (by kernel_rfl) (by exact fun _ _ _ h => h) (Or.inr ⟨by rfl, rfl⟩) hHeld ?_
      try simp only [Act.put, List.setIfInBounds_toArray, List.set_cons_zero, List.set_cons_succ]
      refine wpAnyH_take (i := 20) (by simp only [List.getElem?_toArray, List.getElem?_cons_succ, List.getElem?_cons_zero]; rfl) (by kernel_rfl) (by kernel_rfl) (by kernel_rfl) (by exact fun _ _ _ h => h) (Or.inr ⟨by rfl, rfl⟩) hHeld ?_
      try simp only [Act.put, List.setIfInBounds_toArray, List.set_cons_zero, List.set_cons_succ]
      refine wpAnyH_take (i := 21) (by simp only [List.getElem?_toArray, List.getElem?_cons_succ, List.getElem?_cons_zero]; rfl) (by kernel_rfl) (by kernel_rfl) (by kernel_rfl) (by exact fun _ _ _ h => h) (Or.inr ⟨by rfl, rfl⟩) hHeld ?_
      try simp only [Act.put, List.setIfInBounds_toArray, List.set_cons_zero, List.set_cons_succ]
      refine wpAnyH_take (i := 24) (by simp only [List.getElem?_toArray, List.getElem?_cons_succ, List.getElem?_cons_zero]; rfl) (by kernel_rfl) (by kernel_rfl) (by kernel_rfl) (by exact fun _ _ _ h => h) (Or.inr ⟨by rfl, rfl⟩) hHeld ?_
      try simp only [Act.put, List.setIfInBounds_toArray, List.set_cons_zero, List.set_cons_succ]
      refine wpAnyH_take (i := 25) (by simp only [List.getElem?_toArray, List.getElem?_cons_succ, List.getElem?_cons_zero]; rfl) (by kernel_rfl) (by kernel_rfl) (by kernel_rfl) (by exact fun _ _ _ h => h) (Or.inr ⟨by rfl, rfl⟩) hHeld ?_
      try simp only [Act.put, List.setIfInBounds_toArray, List.set_cons_zero, List.set_cons_succ]
      refine wpAnyH_take (i := 26) (by simp only [List.getElem?_toArray, List.getElem?_cons_succ, List.getElem?_cons_zero]; rfl) (by kernel_rfl) (by kernel_rfl) (by kernel_rfl) (by exact fun _ _ _ h => h) (Or.inr ⟨by rfl, rfl⟩) hHeld ?_
      try simp only [Act.put, List.setIfInBounds_toArray, List.set_cons_zero, List.set_cons_succ]
      refine wpAnyH_take (i := 27) (v := ?sv27) (by simp only [List.getElem?_toArray, List.getElem?_cons_succ, List.getElem?_cons_zero]; rfl) (by kernel_rfl) (by kernel_rfl) (by kernel_rfl) (by exact fun _ _ _ h => h) (Or.inl ⟨by rfl, ?sy27⟩) hHeld ?_
      case sy27 => (intro w hSw; (try dsimp only at hSw); obtain ⟨hz1, hz2, hz3, hz4⟩ := hSw; have hz4 := hz4.c1; clear hz1 hz2 hz3; go_simp; try (with_reducible rfl))
      try simp only [Act.put, List.setIfInBounds_toArray, List.set_cons_zero, List.set_cons_succ]
      refine wpAnyH_take (i := 28) (v := ?sv28) (by simp only [List.getElem?_toArray, List.getElem?_cons_succ, List.getElem?_cons_zero]; rfl) (by kernel_rfl) (by kernel_rfl) (by kernel_rfl) (by exact fun _ _ _ h => h) (Or.inl ⟨by rfl, ?sy28⟩) hHeld ?_
      case sy28 => (intro w hSw; (try dsimp only at hSw); obtain ⟨hz1, hz2, hz3, hz4⟩ := hSw; have hz4 := hz4.c1; clear hz1 hz2 hz3; go_simp; try (with_reducible rfl))
      try simp only [Act.put, List.setIfInBounds_toArray, List.set_cons_zero, List.set_cons_succ]
      refine wpAnyH_take (i := 29) (v := ?sv29) (by simp only [List.getElem?_toArray, List.getElem?_cons_succ, List.getElem?_cons_zero]; rfl) (by kernel_rfl) (by kernel_rfl) (by kernel_rfl) (by exact fun _ _ _ h => h) (Or.inl ⟨by rfl, ?sy29⟩) hHeld ?_
      case sy29 => (intro w hSw; (try dsimp only at hSw); obtain ⟨hz1, hz2, hz3, hz4⟩ := hSw; have hz4 := hz4.c1; clear hz1 hz2 hz3; go_simp; try (with_reducible rfl))
      try simp only [Act.put, List.setIfInBounds_toArray, List.set_cons_zero, List.set_cons_succ]
      refine wpAnyH_done (by kernel_rfl) ?_ _
      go_wp2_with fail
      go_ret
      exact ⟨rfl, below_drew hb⟩
set_option maxHeartbeats 16000000 in
set_option maxRecDepth 40000 in
theorem BoardShows_not (A : Option Addr) (L : List (Int × Nat)) (n c b : Nat) (i m : Nat) (o : Int) (w : World) (hs : Sl w b A (cv L)) (hn : L.length = n) (hnc : n ≤ c) (hok : okC L) (hi : i < (L.take 48).length) (hm : m < 4294967296) (ho : sees m o = false) :
    Calls Try.prog 8 #[.slice A n c, .int .i64 i, .int .u32 m, .int .i64 o] w fun e w' => e = .returned (.bool true) ∧ Below w.heap.size w w' := by
  have hF := fun W h => FewC_calls A L n c b W h hn hnc
  obtain ⟨M, hM⟩ : ∃ M, M = L.take 48 := ⟨_, rfl⟩
  have hML : M.length ≤ 48 := by rw [hM, List.length_take]; omega
  have hMo : okC M := by rw [hM]; exact okC_take hok 48
  rw [← hM] at hF hi
  clear hM hok hn
  have hN := fun W A c b h => New_in A M M.length c b W h rfl hML
  have hSh := fun W => Show_in M i m W hML hMo hi hm
  obtain ⟨X, hX⟩ : ∃ X, X = M[i].1 := ⟨_, rfl⟩
  obtain ⟨Y, hY⟩ : ∃ Y, Y = M[i].2 := ⟨_, rfl⟩
  have hYl : Y < 4294967296 := by rw [hY]; exact (okC_get hMo hi).2
  have hXb := (okC_get hMo hi).1
  obtain ⟨J, hJ⟩ : ∃ J, J = Y ||| m := ⟨_, rfl⟩
  have hJl : J < 4294967296 := by rw [hJ]; exact Nat.or_lt_two_pow (n := 32) hYl hm
  rw [← hX, ← hY, ← hJ] at hSh
  rw [← hX] at hXb
  obtain ⟨S1, hS1⟩ : ∃ S1, S1 = M.set i (X, J) := ⟨_, rfl⟩
  have hS1l : S1.length = M.length := by rw [hS1, List.length_set]
  have hS1L : S1.length ≤ 48 := by omega
  have hS1o : okC S1 := by rw [hS1]; exact okC_set hMo i ⟨hXb, hJl⟩
  have hS1i : S1[i]'(by rw [hS1l]; exact hi) = (X, J) := by simp [hS1]
  have hS1s : S1.set i (X, J) = S1 := by rw [hS1, List.set_set]
  have hmJ : lessN m J = 0 := by rw [hJ]; exact less_or_right Y m hYl hm
  have hJm : J ||| m = J := by rw [hJ, Nat.or_assoc, Nat.or_self]
  have HS1 : Hid (∀ q (hq : q < M.length), (S1[q]'(by rw [hS1l]; exact hq)).1 = M[q].1 ∧ lessN M[q].2 (S1[q]'(by rw [hS1l]; exact hq)).2 = 0 ∧ (S1[q]'(by rw [hS1l]; exact hq)).2 < 4294967296) := Lib.hid fun q hq => by
    refine ⟨?_, ?_, (okC_get hS1o _).2⟩
    · by_cases e : q = i
      · subst e; rw [hS1i]; exact hX
      · simp [hS1, Ne.symm e]
    · by_cases e : q = i
      · subst e; rw [hS1i, ← hY, hJ]; exact less_or_left Y m hYl hm
      · have : (S1[q]'(by rw [hS1l]; exact hq)).2 = M[q].2 := by simp [hS1, Ne.symm e]
        rw [this]
        exact less_self _ (okC_get hMo hq).2
  have hSh2 := fun W => Show_in S1 i m W hS1L hS1o (by rw [hS1l]; exact hi) hm
  have hAt := fun W => At_in S1 i W hS1L (by rw [hS1l]; exact hi)
  rw [hS1i] at hSh2 hAt
  simp only [hJm, hS1s, hmJ, decide_true, Bool.not_true] at hSh2
  simp only at hAt
  rw [← hS1] at hSh
  have hShown := fun W => Shown_calls M o W hML hMo
  have hul := shownI_len o M M.length
  have hWm := fun W => MWithin_calls m J W hm hJl
  rw [hmJ] at hWm
  have hHo := fun W => MHas_calls m o W hm
  rw [show decide (m &&& aloneN o ≠ 0) = false from ho] at hHo
  have hSM := fun W => Shown_calls M o W hML hMo
  have hSS := fun W => Shown_calls S1 o W hS1L hS1o
  have hsame : shownI o S1 S1.length = shownI o M M.length := by
    unfold shownI
    rw [hS1l, hS1, hJ, hY, shownTo_same hi ho]
  rw [hsame] at hSS
  clear hX hY hJ hS1 hS1i hS1s hmJ hJm hXb ho hsame
  go_enter Try.func8, Try.ntmps8
  go_wp2_with fail
  have hs0 := hs
  refine (Awake_calls _).mono ?_
  rintro e w1 ⟨rfl, hb1⟩
  have hs := Sl.ext hs hb1
  have hb := hb1
  clear hb1
  go_wp2_with fail
  refine (hF _ hs).mono ?_
  rintro e w2 ⟨v, rfl, hrow, hb2⟩
  have hs := Sl.ext hs hb2
  have hb := hb.trans (hb2.mono hb.size)
  clear hb2
  clear hs
  clear hF hs0
  obtain ⟨A2, c2, b2, rfl, hlc, hcm, hA2, hbb, hs2, hbk⟩ := hrow.sl
  clear hrow hA2 hbb hbk
  go_wp2_with fail
  refine (hN _ A2 c2 b2 hs2).mono ?_
  rintro e w3 ⟨rfl, hb3⟩
  have hs2 := Sl.ext hs2 hb3
  have hb := hb.trans (hb3.mono hb.size)
  clear hb3
  clear hs2
  clear hN
  have hb := hb.alloc hb.size (.cells (bdL M) 31)
  have q9 := BoxL.new_ w3 M
  go_wp2_with (first | ((with_reducible refine at_al 31 9 ?_); refine wpList_al rfl rfl (some 9) rfl w3.heap.size rfl ?_) | ((with_reducible refine at_st 31 9 32 ?_); refine wpList_put rfl (.tmp 9) (.tmp 32) rfl rfl M rfl rfl ?_) | ((with_reducible refine at_ld 31 9 ?_); refine wpList_ld rfl (.tmp 9) rfl w3.heap.size rfl M q9 ?_))
  refine (hSh _).mono ?_
  rintro e w4 ⟨rfl, hb4⟩
  have q9 := q9.ext hb4
  have hb := hb.trans (hb4.mono hb.size)
  clear hb4
  clear hSh
  have q9 := q9.alloc (.cells (bdL S1) 31)
  have hb := hb.alloc hb.size (.cells (bdL S1) 31)
  have q11 := BoxL.new_ w4 S1
  go_wp2_with (first | ((with_reducible refine at_al 31 11 ?_); refine wpList_al rfl rfl (some 11) rfl w4.heap.size rfl ?_) | ((with_reducible refine at_st 31 11 39 ?_); refine wpList_put rfl (.tmp 11) (.tmp 39) rfl rfl S1 rfl rfl ?_) | ((with_reducible refine at_ld 31 9 ?_); refine wpList_ld rfl (.tmp 9) rfl w3.heap.size rfl M q9 ?_) | ((with_reducible refine at_ld 31 11 ?_); refine wpList_ld rfl (.tmp 11) rfl w4.heap.size rfl S1 q11 ?_))
  refine (hSh2 _).mono ?_
  rintro e w5 ⟨rfl, hb5⟩
  have q9 := q9.ext hb5
  have q11 := q11.ext hb5
  have hb := hb.trans (hb5.mono hb.size)
  clear hb5
  clear hSh2
  have q9 := q9.alloc (.cells (bdL S1) 31)
  have q11 := q11.alloc (.cells (bdL S1) 31)
  have hb := hb.alloc hb.size (.cells (bdL S1) 31)
  have q14 := BoxL.new_ w5 S1
  go_wp2_with (first | ((with_reducible refine at_al 31 14 ?_); refine wpList_al rfl rfl (some 14) rfl w5.heap.size rfl ?_) | ((with_reducible refine at_st 31 14 52 ?_); refine wpList_put rfl (.tmp 14) (.tmp 52) rfl rfl S1 rfl rfl ?_) | ((with_reducible refine at_ld 31 9 ?_); refine wpList_ld rfl (.tmp 9) rfl w3.heap.size rfl M q9 ?_) | ((with_reducible refine at_ld 31 11 ?_); refine wpList_ld rfl (.tmp 11) rfl w4.heap.size rfl S1 q11 ?_) | ((with_reducible refine at_ld 31 14 ?_); refine wpList_ld rfl (.tmp 14) rfl w5.heap.size rfl S1 q14 ?_))
  refine (hShown _).mono ?_
  rintro e w6 ⟨v, rfl, hrow, hb6⟩
  have q9 := q9.ext hb6
  have q11 := q11.ext hb6
  have q14 := q14.ext hb6
  have hb := hb.trans (hb6.mono hb.size)
  clear hb6
  clear hShown
  obtain ⟨AI, bI, cI, hvI, hsI⟩ := rowI_sl hrow
  subst hvI
  clear hrow
  go_wp2_with (first | ((with_reducible refine at_ld 31 9 ?_); refine wpList_ld rfl (.tmp 9) rfl w3.heap.size rfl M q9 ?_) | ((with_reducible refine at_ld 31 11 ?_); refine wpList_ld rfl (.tmp 11) rfl w4.heap.size rfl S1 q11 ?_) | ((with_reducible refine at_ld 31 14 ?_); refine wpList_ld rfl (.tmp 14) rfl w5.heap.size rfl S1 q14 ?_))
  go_loopw [59] (fun i' wr => ∃ j : Nat, j ≤ (shownI o M M.length).length ∧ i' = .int .i64 j ∧ BoxL wr w3.heap.size M ∧ BoxL wr w4.heap.size S1 ∧ BoxL wr w5.heap.size S1 ∧ Sl wr bI AI (iz (shownI o M M.length)) ∧ Below w.heap.size w wr) (fun i' _ => (shownI o M M.length).length - (intOf i').toNat)
  case atStart => exact ⟨0, Nat.zero_le _, rfl, q9, q11, q14, hsI, hb⟩
  case round =>
    clear q9 q11 q14 hsI hb
    obtain ⟨j, hj, rfl, q9, q11, q14, hsI, hb⟩ := hrel
    by_cases hlt : j < (shownI o M M.length).length
    · obtain ⟨q, hq, hqM⟩ := shownI_at hlt
      obtain ⟨off, rfl, hcl⟩ := hsI (by intro h0; have := congrArg List.length h0; simp at this; simp [this] at hlt)
      have hcq := hcl j _ (iz_get? hq)
      have hA := fun W => At_in M q W hML hqM
      have hB := fun W => At_in S1 q W hS1L (by rw [hS1l]; exact hqM)
      obtain ⟨P, hP⟩ : ∃ P, P = M[q].1 := ⟨_, rfl⟩
      obtain ⟨R, hR⟩ : ∃ R, R = M[q].2 := ⟨_, rfl⟩
      obtain ⟨T, hT⟩ : ∃ T, T = (S1[q]'(by rw [hS1l]; exact hqM)).2 := ⟨_, rfl⟩
      have hPT : (S1[q]'(by rw [hS1l]; exact hqM)).1 = P := by rw [hP]; exact HS1.out q hqM |>.1
      have hRT : lessN R T = 0 := by rw [hR, hT]; exact HS1.out q hqM |>.2.1
      have hRl : R < 4294967296 := by rw [hR]; exact (okC_get hMo hqM).2
      have hTl : T < 4294967296 := by rw [hT]; exact HS1.out q hqM |>.2.2
      have hWi := fun W => MWithin_calls R T W hRl hTl
      rw [hRT] at hWi
      rw [← hP, ← hR] at hA
      rw [hPT, ← hT] at hB
      clear hP hR hT hPT hRT hcl hq
      have ej : (j : Int) < ((shownI o M M.length).length : Int) := by omega
      obtain ⟨N, hN⟩ : ∃ N, N = (shownI o M M.length).length := ⟨_, rfl⟩
      go_wp2_with (first | ((with_reducible refine at_ld 31 9 ?_); refine wpList_ld rfl (.tmp 9) rfl w3.heap.size rfl M q9 ?_) | ((with_reducible refine at_ld 31 11 ?_); refine wpList_ld rfl (.tmp 11) rfl w4.heap.size rfl S1 q11 ?_))
      refine (hA _).mono ?_
      rintro e w7 ⟨rfl, hb7⟩
      have q9 := q9.ext hb7
      have q11 := q11.ext hb7
      have q14 := q14.ext hb7
      have hsI := Sl.ext hsI hb7
      have hb := hb.trans (hb7.mono hb.size)
      clear hb7
      have k := BoxC.new_ w7 P R
      have q9 := q9.alloc (.cells #[.int .i32 P, .int .u32 (R : Int)] 28)
      have q11 := q11.alloc (.cells #[.int .i32 P, .int .u32 (R : Int)] 28)
      have q14 := q14.alloc (.cells #[.int .i32 P, .int .u32 (R : Int)] 28)
      have hsI := Sl.alloc hsI (.cells #[.int .i32 P, .int .u32 (R : Int)] 28)
      have hb := hb.alloc hb.size (.cells #[.int .i32 P, .int .u32 (R : Int)] 28)
      go_wp2_with (first | ((with_reducible refine at_ld 31 9 ?_); refine wpList_ld rfl (.tmp 9) rfl w3.heap.size rfl M q9 ?_) | ((with_reducible refine at_ld 31 11 ?_); refine wpList_ld rfl (.tmp 11) rfl w4.heap.size rfl S1 q11 ?_))
      refine (hB _).mono ?_
      rintro e w8 ⟨rfl, hb8⟩
      have q9 := q9.ext hb8
      have q11 := q11.ext hb8
      have q14 := q14.ext hb8
      have hsI := Sl.ext hsI hb8
      have k := k.ext hb8
      have hb := hb.trans (hb8.mono hb.size)
      clear hb8
      have q9 := q9.alloc (.cells #[.int .i32 P, .int .u32 (T : Int)] 28)
      have q11 := q11.alloc (.cells #[.int .i32 P, .int .u32 (T : Int)] 28)
      have q14 := q14.alloc (.cells #[.int .i32 P, .int .u32 (T : Int)] 28)
      have hsI := Sl.alloc hsI (.cells #[.int .i32 P, .int .u32 (T : Int)] 28)
      have k := k.alloc (.cells #[.int .i32 P, .int .u32 (T : Int)] 28)
      have hb := hb.alloc hb.size (.cells #[.int .i32 P, .int .u32 (T : Int)] 28)
      obtain ⟨k0, k1⟩ := And.intro k.c0 k.c1
      clear hA hB hcq
      go_wp2_with fail
      refine (hWi _).mono ?_
      rintro e wx ⟨rfl, hwx⟩
      have hwx := hwx.symm
      subst hwx
      go_wp2_with fail
      go_roundw
      case rel => exact ⟨j + 1, by omega, by go_num, q9, q11, q14, hsI, hb⟩
      case measure => simp [intOf]; omega
    · have ej : decide ((j : Int) < ((shownI o M M.length).length : Int)) = false := by simp; omega
      go_wp2_with ((with_reducible refine at_ld 31 11 ?_); refine wpList_ld rfl (.tmp 11) rfl w4.heap.size rfl S1 q11 ?_)
      refine (hAt _).mono ?_
      rintro e w9 ⟨rfl, hb9⟩
      have q9 := q9.ext hb9
      have q11 := q11.ext hb9
      have q14 := q14.ext hb9
      have hb := hb.trans (hb9.mono hb.size)
      clear hb9
      have k := BoxC.new_ w9 X J
      have q9 := q9.alloc (.cells #[.int .i32 X, .int .u32 (J : Int)] 28)
      have q11 := q11.alloc (.cells #[.int .i32 X, .int .u32 (J : Int)] 28)
      have q14 := q14.alloc (.cells #[.int .i32 X, .int .u32 (J : Int)] 28)
      have hb := hb.alloc hb.size (.cells #[.int .i32 X, .int .u32 (J : Int)] 28)
      go_wp2_with fail
      refine wp_region_held_drew (S := fun w' => BoxL w' w3.heap.size M ∧ BoxL w' w4.heap.size S1 ∧ BoxL w' w5.heap.size S1 ∧ BoxC w' w9.heap.size X J) (by kernel_rfl) ?_ (fun hHeld => ?_)
      · exact ⟨q9, q11, q14, k⟩
      refine wpAnyH_take (i := 0) (by simp only [List.getElem?_toArray, List.getElem?_cons_zero]; rfl) (by kernel_rfl) (by kernel_rfl) (by kernel_rfl) (by exact fun _ _ _ h => h) (by exact yieldsIf_ld (by rfl) (.tmp 14) rfl w5.heap.size rfl S1 (fun w h => h.2.2.1)) hHeld ?_
      try simp only [Act.put, List.setIfInBounds_toArray, List.set_cons_zero, List.set_cons_succ]
      refine wpAnyH_take (i := 1) (by simp only [List.getElem?_toArray, List.getElem?_cons_succ, List.getElem?_cons_zero]; rfl) (by kernel_rfl) (by kernel_rfl) (by kernel_rfl) (by exact fun _ _ _ h => h) (by exact yieldsIf_ld (by rfl) (.tmp 11) rfl w4.heap.size rfl S1 (fun w h => h.2.1)) hHeld ?_
      try simp only [Act.put, List.setIfInBounds_toArray, List.set_cons_zero, List.set_cons_succ]
      refine wpAnyH_take (i := 2) (by simp only [List.getElem?_toArray, List.getElem?_cons_succ, List.getElem?_cons_zero]; rfl) (by kernel_rfl) (by kernel_rfl) (by kernel_rfl) (by exact fun _ _ _ h => h) (by exact yieldsIf_eql (by rfl) (.tmp 95) (.tmp 96) rfl S1 S1 rfl rfl hS1L true (by simp)) hHeld ?_
      try simp only [Act.put, List.setIfInBounds_toArray, List.set_cons_zero, List.set_cons_succ]
      refine wpAnyH_take (i := 3) (v := ?sv3) (by simp only [List.getElem?_toArray, List.getElem?_cons_succ, List.getElem?_cons_zero]; rfl) (by kernel_rfl) (by kernel_rfl) (by kernel_rfl) (by exact fun _ _ _ h => h) (Or.inl ⟨by rfl, ?sy3⟩) hHeld ?_
      case sy3 => (intro w hSw; (try dsimp only at hSw); obtain ⟨hz1, hz2, hz3, hz4⟩ := hSw; have hz4 := hz4.c1; clear hz1 hz2 hz3; go_simp; try (with_reducible rfl))
      try simp only [Act.put, List.setIfInBounds_toArray, List.set_cons_zero, List.set_cons_succ]
      refine wpAnyH_take (i := 4) (v := ?sv4) (by simp only [List.getElem?_toArray, List.getElem?_cons_succ, List.getElem?_cons_zero]; rfl) (by kernel_rfl) (by kernel_rfl) (by kernel_rfl) (by exact fun _ _ _ h => h) (Or.inl ⟨by rfl, ?sy4⟩) hHeld ?_
      case sy4 => (intro w hSw; (try dsimp only at hSw); obtain ⟨hz1, hz2, hz3, hz4⟩ := hSw; have hz4 := hz4.c1; clear hz1 hz2 hz3; go_simp; try (with_reducible rfl))
      try simp only [Act.put, List.setIfInBounds_toArray, List.set_cons_zero, List.set_cons_succ]
      refine wpAnyH_take (i := 5) (v := ?sv5) (by simp only [List.getElem?_toArray, List.getElem?_cons_succ, List.getElem?_cons_zero]; rfl) (by kernel_rfl) (by kernel_rfl) (by kernel_rfl) (by exact fun _ _ _ h => h) (Or.inl ⟨by rfl, ?sy5⟩) hHeld ?_
      case sy5 => (intro w hSw; (try dsimp only at hSw); obtain ⟨hz1, hz2, hz3, hz4⟩ := hSw; have hz4 := hz4.c1; clear hz1 hz2 hz3; go_simp; try (with_reducible rfl))
      try simp only [Act.put, List.setIfInBounds_toArray, List.set_cons_zero, List.set_cons_succ]
      refine wpAnyH_take (i := 6) (v := ?sv6) (by simp only [List.getElem?_toArray, List.getElem?_cons_succ, List.getElem?_cons_zero]; rfl) (by kernel_rfl) (by kernel_rfl) (by kernel_rfl) (by exact fun _ _ _ h => h) (Or.inl ⟨by rfl, ?sy6⟩) hHeld ?_
      case sy6 => (intro w hSw; (try dsimp only at hSw); obtain ⟨hz1, hz2, hz3, hz4⟩ := hSw; have hz4 := hz4.c1; clear hz1 hz2 hz3; go_simp; try (with_reducible rfl))
      try simp only [Act.put, List.setIfInBounds_toArray, List.set_cons_zero, List.set_cons_succ]
      refine wpAnyH_take (i := 7) (v := ?sv7) (by simp only [List.getElem?_toArray, List.getElem?_cons_succ, List.getElem?_cons_zero]; rfl) (by kernel_rfl) (by kernel_rfl) (by kernel_rfl) (by exact fun _ _ _ h => h) (Or.inl ⟨by rfl, ?sy7⟩) hHeld ?_
      case sy7 => (intro w hSw; (try dsimp only at hSw); obtain ⟨hz1, hz2, hz3, hz4⟩ := hSw; have hz4 := hz4.c1; clear hz1 hz2 hz3; go_simp; try (with_reducible rfl))
      try simp only [Act.put, List.setIfInBounds_toArray, List.set_cons_zero, List.set_cons_succ]
      refine wpAnyH_take (i := 8) (v := ?sv8) (by simp only [List.getElem?_toArray, List.getElem?_cons_succ, List.getElem?_cons_zero]; rfl) (by kernel_rfl) (by kernel_rfl) (by kernel_rfl) (by exact fun _ _ _ h => h) (Or.inl ⟨by rfl, ?sy8⟩) hHeld ?_
      case sy8 => (intro w hSw; (try dsimp only at hSw); obtain ⟨hz1, hz2, hz3, hz4⟩ := hSw; have hz4 := hz4.c1; clear hz1 hz2 hz3; go_simp; try (with_reducible rfl))
      try simp only [Act.put, List.setIfInBounds_toArray, List.set_cons_zero, List.set_cons_succ]
      refine wpAnyH_take (i := 9) (v := ?sv9) (by simp only [List.getElem?_toArray, List.getElem?_cons_succ, List.getElem?_cons_zero]; rfl) (by kernel_rfl) (by kernel_rfl) (by kernel_rfl) (by exact fun _ _ _ h => h) (Or.inl ⟨by rfl, ?sy9⟩) hHeld ?_
      case sy9 => (intro w hSw; (try dsimp only at hSw); obtain ⟨hz1, hz2, hz3, hz4⟩ := hSw; have hz4 := hz4.c1; clear hz1 hz2 hz3; go_simp; try (with_reducible rfl))
      try simp only [Act.put, List.setIfInBounds_toArray, List.set_cons_zero, List.set_cons_succ]
      refine wpAnyH_take (i := 10) (v := ?sv10) (by simp only [List.getElem?_toArray, List.getElem?_cons_succ, List.getElem?_cons_zero]; rfl) (by kernel_rfl) (by kernel_rfl) (by kernel_rfl) (by exact fun _ _ _ h => h) (Or.inl ⟨by rfl, ?sy10⟩) hHeld ?_
      case sy10 => (intro w hSw; (try dsimp only at hSw); obtain ⟨hz1, hz2, hz3, hz4⟩ := hSw; have hz4 := hz4.c1; clear hz1 hz2 hz3; go_simp; try (with_reducible rfl))
      try simp only [Act.put, List.setIfInBounds_toArray, List.set_cons_zero, List.set_cons_succ]
      refine wpAnyH_ready (rs := [11]) (by kernel_rfl) (by simp) ?_
      refine AllReadyH.cons (by simp only [List.getElem?_toArray, List.getElem?_cons_succ, List.getElem?_cons_zero]; rfl) (fun KK hKK => ?_) AllReadyH.nil
      go_simp
      refine (hWm _).mono ?_
      rintro e wx ⟨rfl, rfl⟩
      go_wp2_with fail
      refine hKK.out _ _ ?_ (fun hHeld => ?_)
      · exact ⟨q9, q11, q14, k⟩
      clear hKK KK
      try simp only [Act.put, List.setIfInBounds_toArray, List.set_cons_zero, List.set_cons_succ]
      refine wpAnyH_take (i := 12) (v := ?sv12) (by simp only [List.getElem?_toArray, List.getElem?_cons_succ, List.getElem?_cons_zero]; rfl) (by kernel_rfl) (by kernel_rfl) (by kernel_rfl) (by exact fun _ _ _ h => h) (Or.inl ⟨by rfl, ?sy12⟩) hHeld ?_
      case sy12 => (intro w hSw; (try dsimp only at hSw); obtain ⟨hz1, hz2, hz3, hz4⟩ := hSw; have hz4 := hz4.c1; clear hz1 hz2 hz3; go_simp; try (with_reducible rfl))
      try simp only [Act.put, List.setIfInBounds_toArray, List.set_cons_zero, List.set_cons_succ]
      refine wpAnyH_take (i := 13) (v := ?sv13) (by simp only [List.getElem?_toArray, List.getElem?_cons_succ, List.getElem?_cons_zero]; rfl) (by kernel_rfl) (by kernel_rfl) (by kernel_rfl) (by exact fun _ _ _ h => h) (Or.inl ⟨by rfl, ?sy13⟩) hHeld ?_
      case sy13 => (intro w hSw; (try dsimp only at hSw); obtain ⟨hz1, hz2, hz3, hz4⟩ := hSw; have hz4 := hz4.c1; clear hz1 hz2 hz3; go_simp; try (with_reducible rfl))
      try simp only [Act.put, List.setIfInBounds_toArray, List.set_cons_zero, List.set_cons_succ]
      refine wpAnyH_take (i := 14) (v := ?sv14) (by simp only [List.getElem?_toArray, List.getElem?_cons_succ, List.getElem?_cons_zero]; rfl) (by kernel_rfl) (by kernel_rfl) (by kernel_rfl) (by exact fun _ _ _ h => h) (Or.inl ⟨by rfl, ?sy14⟩) hHeld ?_
      case sy14 => (intro w hSw; (try dsimp only at hSw); obtain ⟨hz1, hz2, hz3, hz4⟩ := hSw; have hz4 := hz4.c1; clear hz1 hz2 hz3; go_simp; try (with_reducible rfl))
      try simp only [Act.put, List.setIfInBounds_toArray, List.set_cons_zero, List.set_cons_succ]
      refine wpAnyH_take (i := 15) (v := ?sv15) (by simp only [List.getElem?_toArray, List.getElem?_cons_succ, List.getElem?_cons_zero]; rfl) (by kernel_rfl) (by kernel_rfl) (by kernel_rfl) (by exact fun _ _ _ h => h) (Or.inl ⟨by rfl, ?sy15⟩) hHeld ?_
      case sy15 => (intro w hSw; (try dsimp only at hSw); obtain ⟨hz1, hz2, hz3, hz4⟩ := hSw; have hz4 := hz4.c1; clear hz1 hz2 hz3; go_simp; try (with_reducible rfl))
      try simp only [Act.put, List.setIfInBounds_toArray, List.set_cons_zero, List.set_cons_succ]
      refine wpAnyH_ready (rs := [16]) (by kernel_rfl) (by simp) ?_
      refine AllReadyH.cons (by simp only [List.getElem?_toArray, List.getElem?_cons_succ, List.getElem?_cons_zero]; rfl) (fun KK hKK => ?_) AllReadyH.nil
      go_simp
      refine (hHo _).mono ?_
      rintro e wx ⟨rfl, rfl⟩
      go_wp2_with fail
      refine hKK.out _ _ ?_ (fun hHeld => ?_)
      · exact ⟨q9, q11, q14, k⟩
      clear hKK KK
      try simp only [Act.put, List.setIfInBounds_toArray, List.set_cons_zero, List.set_cons_succ]
      refine wpAnyH_take (i := 17) (v := ?sv17) (by simp only [List.getElem?_toArray, List.getElem?_cons_succ, List.getElem?_cons_zero]; rfl) (by kernel_rfl) (by kernel_rfl) (by kernel_rfl) (by exact fun _ _ _ h => h) (Or.inl ⟨by rfl, ?sy17⟩) hHeld ?_
      case sy17 => (intro w hSw; (try dsimp only at hSw); obtain ⟨hz1, hz2, hz3, hz4⟩ := hSw; have hz4 := hz4.c1; clear hz1 hz2 hz3; go_simp; try (with_reducible rfl))
      try simp only [Act.put, List.setIfInBounds_toArray, List.set_cons_zero, List.set_cons_succ]
      refine wpAnyH_take (i := 18) (by simp only [List.getElem?_toArray, List.getElem?_cons_succ, List.getElem?_cons_zero]; rfl) (by kernel_rfl) (by kernel_rfl) (by kernel_rfl) (by exact fun _ _ _ h => h) (by exact yieldsIf_ld (by rfl) (.tmp 9) rfl w3.heap.size rfl M (fun w h => h.1)) hHeld ?_
      try simp only [Act.put, List.setIfInBounds_toArray, List.set_cons_zero, List.set_cons_succ]
      refine wpAnyH_take (i := 19) (v := ?sv19) (by simp only [List.getElem?_toArray, List.getElem?_cons_succ, List.getElem?_cons_zero]; rfl) (by kernel_rfl) (by kernel_rfl) (by kernel_rfl) (by exact fun _ _ _ h => h) (Or.inl ⟨by rfl, ?sy19⟩) hHeld ?_
      case sy19 => (intro w hSw; (try dsimp only at hSw); obtain ⟨hz1, hz2, hz3, hz4⟩ := hSw; have hz4 := hz4.c1; clear hz1 hz2 hz3; go_simp; try (with_reducible rfl))
      try simp only [Act.put, List.setIfInBounds_toArray, List.set_cons_zero, List.set_cons_succ]
      refine wpAnyH_take (i := 22) (by simp only [List.getElem?_toArray, List.getElem?_cons_succ, List.getElem?_cons_zero]; rfl) (by kernel_rfl) (by kernel_rfl) (by kernel_rfl) (by exact fun _ _ _ h => h) (by exact yieldsIf_ld (by rfl) (.tmp 11) rfl w4.heap.size rfl S1 (fun w h => h.2.1)) hHeld ?_
      try simp only [Act.put, List.setIfInBounds_toArray, List.set_cons_zero, List.set_cons_succ]
      refine wpAnyH_take (i := 23) (v := ?sv23) (by simp only [List.getElem?_toArray, List.getElem?_cons_succ, List.getElem?_cons_zero]; rfl) (by kernel_rfl) (by kernel_rfl) (by kernel_rfl) (by exact fun _ _ _ h => h) (Or.inl ⟨by rfl, ?sy23⟩) hHeld ?_
      case sy23 => (intro w hSw; (try dsimp only at hSw); obtain ⟨hz1, hz2, hz3, hz4⟩ := hSw; have hz4 := hz4.c1; clear hz1 hz2 hz3; go_simp; try (with_reducible rfl))
      try simp only [Act.put, List.setIfInBounds_toArray, List.set_cons_zero, List.set_cons_succ]
      refine wpAnyH_ready (rs := [20]) (by kernel_rfl) (by simp) ?_
      refine AllReadyH.cons (by simp only [List.getElem?_toArray, List.getElem?_cons_succ, List.getElem?_cons_zero]; rfl) (fun KK hKK => ?_) AllReadyH.nil
      go_simp
      refine (hSM _).mono ?_
      rintro e wy0 ⟨v, rfl, hrow, h9⟩
      have h9 := below_undrew h9
      have q9 := q9.ext h9
      have q11 := q11.ext h9
      have q14 := q14.ext h9
      have k := k.ext h9
      have hb := hb.trans (h9.mono hb.size)
      clear h9
      obtain ⟨AI0, bI0, cI0, hvI, _⟩ := rowI_sl hrow
      subst hvI
      clear hrow
      go_wp2_with fail
      refine hKK.out _ _ ?_ (fun hHeld => ?_)
      · exact ⟨q9, q11, q14, k⟩
      clear hKK KK
      try simp only [Act.put, List.setIfInBounds_toArray, List.set_cons_zero, List.set_cons_succ]
      refine wpAnyH_take (i := 21) (v := ?sv21) (by simp only [List.getElem?_toArray, List.getElem?_cons_succ, List.getElem?_cons_zero]; rfl) (by kernel_rfl) (by kernel_rfl) (by kernel_rfl) (by exact fun _ _ _ h => h) (Or.inl ⟨by rfl, ?sy21⟩) hHeld ?_
      case sy21 => (intro w hSw; (try dsimp only at hSw); obtain ⟨hz1, hz2, hz3, hz4⟩ := hSw; have hz4 := hz4.c1; clear hz1 hz2 hz3; go_simp; try (with_reducible rfl))
      try simp only [Act.put, List.setIfInBounds_toArray, List.set_cons_zero, List.set_cons_succ]
      refine wpAnyH_ready (rs := [24]) (by kernel_rfl) (by simp) ?_
      refine AllReadyH.cons (by simp only [List.getElem?_toArray, List.getElem?_cons_succ, List.getElem?_cons_zero]; rfl) (fun KK hKK => ?_) AllReadyH.nil
      go_simp
      refine (hSS _).mono ?_
      rintro e wy1 ⟨v, rfl, hrow, h9⟩
      have q9 := q9.ext h9
      have q11 := q11.ext h9
      have q14 := q14.ext h9
      have k := k.ext h9
      have hb := hb.trans (h9.mono hb.size)
      clear h9
      obtain ⟨AI1, bI1, cI1, hvI, _⟩ := rowI_sl hrow
      subst hvI
      clear hrow
      go_wp2_with fail
      refine hKK.out _ _ ?_ (fun hHeld => ?_)
      · exact ⟨q9, q11, q14, k⟩
      clear hKK KK
      try simp only [Act.put, List.setIfInBounds_toArray, List.set_cons_zero, List.set_cons_succ]
      refine wpAnyH_take (i := 25) (v := ?sv25) (by simp only [List.getElem?_toArray, List.getElem?_cons_succ, List.getElem?_cons_zero]; rfl) (by kernel_rfl) (by kernel_rfl) (by kernel_rfl) (by exact fun _ _ _ h => h) (Or.inl ⟨by rfl, ?sy25⟩) hHeld ?_
      case sy25 => (intro w hSw; (try dsimp only at hSw); obtain ⟨hz1, hz2, hz3, hz4⟩ := hSw; have hz4 := hz4.c1; clear hz1 hz2 hz3; go_simp; try (with_reducible rfl))
      try simp only [Act.put, List.setIfInBounds_toArray, List.set_cons_zero, List.set_cons_succ]
      refine wpAnyH_take (i := 26) (v := ?sv26) (by simp only [List.getElem?_toArray, List.getElem?_cons_succ, List.getElem?_cons_zero]; rfl) (by kernel_rfl) (by kernel_rfl) (by kernel_rfl) (by exact fun _ _ _ h => h) (Or.inl ⟨by rfl, ?sy26⟩) hHeld ?_
      case sy26 => (intro w hSw; (try dsimp only at hSw); obtain ⟨hz1, hz2, hz3, hz4⟩ := hSw; have hz4 := hz4.c1; clear hz1 hz2 hz3; go_simp; try (with_reducible rfl))
      try simp only [Act.put, List.setIfInBounds_toArray, List.set_cons_zero, List.set_cons_succ]
      refine wpAnyH_take (i := 27) (v := ?sv27) (by simp only [List.getElem?_toArray, List.getElem?_cons_succ, List.getElem?_cons_zero]; rfl) (by kernel_rfl) (by kernel_rfl) (by kernel_rfl) (by exact fun _ _ _ h => h) (Or.inl ⟨by rfl, ?sy27⟩) hHeld ?_
      case sy27 => (intro w hSw; (try dsimp only at hSw); obtain ⟨hz1, hz2, hz3, hz4⟩ := hSw; have hz4 := hz4.c1; clear hz1 hz2 hz3; go_simp; try (with_reducible rfl))
      try simp only [Act.put, List.setIfInBounds_toArray, List.set_cons_zero, List.set_cons_succ]
      refine wpAnyH_take (i := 28) (v := ?sv28) (by simp only [List.getElem?_toArray, List.getElem?_cons_succ, List.getElem?_cons_zero]; rfl) (by kernel_rfl) (by kernel_rfl) (by kernel_rfl) (by exact fun _ _ _ h => h) (Or.inl ⟨by rfl, ?sy28⟩) hHeld ?_
      case sy28 => (intro w hSw; (try dsimp only at hSw); obtain ⟨hz1, hz2, hz3, hz4⟩ := hSw; have hz4 := hz4.c1; clear hz1 hz2 hz3; go_simp; try (with_reducible rfl))
      try simp only [Act.put, List.setIfInBounds_toArray, List.set_cons_zero, List.set_cons_succ]
      refine wpAnyH_take (i := 29) (v := ?sv29) (by simp only [List.getElem?_toArray, List.getElem?_cons_succ, List.getElem?_cons_zero]; rfl) (by kernel_rfl) (by kernel_rfl) (by kernel_rfl) (by exact fun _ _ _ h => h) (Or.inl ⟨by rfl, ?sy29⟩) hHeld ?_
      case sy29 => (intro w hSw; (try dsimp only at hSw); obtain ⟨hz1, hz2, hz3, hz4⟩ := hSw; have hz4 := hz4.c1; clear hz1 hz2 hz3; go_simp; try (with_reducible rfl))
      try simp only [Act.put, List.setIfInBounds_toArray, List.set_cons_zero, List.set_cons_succ]
      refine wpAnyH_done (by kernel_rfl) ?_ _
      go_wp2_with fail
      go_ret
      exact ⟨rfl, hb⟩
theorem BoardShows_walk (A : Option Addr) (L : List (Int × Nat)) (n c b : Nat) (i : Int) (m : Nat) (o : Int) (w : World) (hs : Sl w b A (cv L)) (hn : L.length = n) (_hm : n ≤ maxLen) (hnc : n ≤ c) (hok : okC L) (_h1 : -9223372036854775808 ≤ i) (_h2 : i ≤ 9223372036854775807) (hm : m ≤ 4294967295) (_h3 : -9223372036854775808 ≤ o) (_h4 : o ≤ 9223372036854775807) :
    Calls Try.prog 8 #[.slice A n c, .int .i64 i, .int .u32 m, .int .i64 o] w fun e w' => e = .returned (.bool true) ∧ Below w.heap.size w w' := by
  by_cases hi : 0 ≤ i ∧ i < ((L.take 48).length : Int)
  · obtain ⟨k, rfl⟩ : ∃ k : Nat, i = (k : Int) := ⟨i.toNat, by omega⟩
    cases ho : sees m o with
    | true => exact BoardShows_has A L n c b k m o w hs hn hnc hok (by omega) (by omega) ho
    | false => exact BoardShows_not A L n c b k m o w hs hn hnc hok (by omega) (by omega) ho
  · exact BoardShows_out A L n c b i m o w hs hn hnc hok hi
end Go.Proofs.Ytemhglcdcpobpaa
