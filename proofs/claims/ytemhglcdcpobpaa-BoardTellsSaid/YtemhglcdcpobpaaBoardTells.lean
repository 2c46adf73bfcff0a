/- BoardTells: the walk. Conditions: the list is no longer than may be; the cells fit. -/
import Derived.Test.YtemhglcdcpobpaaBAwake
import Derived.Test.YtemhglcdcpobpaaFewC
import Derived.Test.YtemhglcdcpobpaaBoardRefH
namespace Go.Proofs.Ytemhglcdcpobpaa
open Go.RowKit

theorem sl_atT {w : World} {b off : Nat} {L : List (Int × Nat)} (h : Sl w b (some ⟨b, off, none⟩) (cv L)) {i : Nat} (hi : i < L.length) :
    w.cell? ⟨b, off + i * 2, none⟩ = some (.int .i32 L[i].1) ∧ w.cell? ⟨b, off + i * 2 + 1, none⟩ = some (.int .u32 ((L[i].2 : Nat) : Int)) := by
  obtain ⟨off', e, h1⟩ := sl_off h hi
  injection e with e
  injection e with _ e _
  subst e
  exact h1
theorem shownI_same {o : Int} {M : List (Int × Nat)} {k : Nat} (hk : k < M.length) (h : sees M[k].2 o = true) : (shownI o M M.length)[(shownI o M k).length]? = some (k : Int) := by
  have e : ∀ j, k + 1 + j ≤ M.length → (shownI o M (k + 1 + j))[(shownI o M k).length]? = some (k : Int) := by
    intro j
    induction j with
    | zero =>
      intro _
      rw [Nat.add_zero, shownI_hit (by rw [bdG_in hk]; exact h)]
      simp
    | succ j ih =>
      intro hj
      have h1 := ih (by omega)
      have hl := (List.getElem?_eq_some_iff.1 h1).1
      rw [show k + 1 + (j + 1) = k + 1 + j + 1 by omega]
      cases hs : sees (bdG M (k + 1 + j)) o with
      | true => rw [shownI_hit hs, List.getElem?_append_left hl]; exact h1
      | false => rw [shownI_miss hs]; exact h1
  have := e (M.length - (k + 1)) (by omega)
  rwa [show k + 1 + (M.length - (k + 1)) = M.length by omega] at this
theorem rowI_slT {w : World} {B : Nat} {v : Value} {l : List Int} (h : RowI w B v l) : ∃ (A : Option Addr) (b c : Nat), v = .slice A l.length c ∧ Sl w b A (iz l) := by
  rcases h.2 with ⟨rfl, hn⟩ | ⟨g, cap, cur, rfl, hb, _, hnc, hcm, _⟩
  · have hl : l = [] := List.eq_nil_of_length_eq_zero hn
    subst hl
    exact ⟨none, 0, 0, rfl, Sl.nil_ _ _ _⟩
  · refine ⟨_, g, cap, rfl, fun _ => ⟨0, rfl, fun j u hu => ?_⟩⟩
    have := h.cells (g := g) rfl j u hu
    simpa [Addr.add_lit] using this
theorem below_undrewN {a w : World} {n : Nat} (h : Below (a.drewN n).heap.size (a.drewN n) w) : Below a.heap.size a w := ⟨h.os, h.tape, h.output, h.size, h.block⟩
set_option maxHeartbeats 32000000 in
set_option maxRecDepth 40000 in
theorem BoardTells_in (A : Option Addr) (L : List (Int × Nat)) (n c b : Nat) (i : Nat) (o : Int) (w : World) (hs : Sl w b A (cv L)) (hn : L.length = n) (hnc : n ≤ c) (hok : okC L) (hi : i < (L.take 48).length) :
    Calls Try.prog 3 #[.slice A n c, .int .i64 i, .int .i64 o] w fun e w' => e = .returned (.bool true) ∧ Below w.heap.size w w' := by
  have hF := fun W h => FewC_calls A L n c b W h hn hnc
  obtain ⟨M, hM⟩ : ∃ M, M = L.take 48 := ⟨_, rfl⟩
  have hML : M.length ≤ 48 := by rw [hM, List.length_take]; omega
  have hMo : okC M := by rw [hM]; exact okC_take hok 48
  rw [← hM] at hF hi
  clear hM hok hn
  have hN := fun W A c b h => New_in A M M.length c b W h rfl hML
  have hO := fun W A c b h => Own_calls A M M.length c b W h rfl (by omega)
  have hLen := fun W => Len_calls M W
  have hC1 := fun W => Cells_calls M W hML
  have hQ1 : ∀ (W : World) (A A' : Option Addr) (c b c' b' : Nat) (_ : Sl W b A (cv M)) (_ : Sl W b' A' (cv M)), Calls Try.prog 15 #[.slice A M.length c, .slice A' M.length c'] W fun e w' => e = .returned (.bool true) ∧ Below W.heap.size W w' := by
    intro W A A' c b c' b' h h'
    have := RefSame_calls A A' M M M.length c b M.length c' b' W h h' rfl rfl (by omega) (by omega)
    rwa [decide_eq_true rfl] at this
  have hV := fun W => View_calls M o W hML hMo
  have hRV := fun W A c b h => RefView_calls A M M.length c b o W h rfl (by omega) hMo
  obtain ⟨VO, hVO⟩ : ∃ VO, VO = viewL o M := ⟨_, rfl⟩
  have hVl : VO.length = M.length := by rw [hVO]; simp
  rw [← hVO] at hV hRV
  have hC2 := fun W => Cells_calls VO W (by omega)
  have hO2 : ∀ (W : World) (A : Option Addr) (c b : Nat) (_ : Sl W b A (cv VO)), Calls Try.prog 13 #[.slice A M.length c] W fun e w' => ∃ v, e = .returned v ∧ RowC 49 w' W.heap.size v VO ∧ Below W.heap.size W w' := fun W A c b h => Own_calls A VO M.length c b W h hVl (by omega)
  have hQ2 : ∀ (W : World) (A A' : Option Addr) (c b c' b' : Nat) (_ : Sl W b A (cv VO)) (_ : Sl W b' A' (cv VO)), Calls Try.prog 15 #[.slice A M.length c, .slice A' M.length c'] W fun e w' => e = .returned (.bool true) ∧ Below W.heap.size W w' := by
    intro W A A' c b c' b' h h'
    have := RefSame_calls A A' VO VO M.length c b M.length c' b' W h h' hVl hVl (by omega) (by omega)
    rwa [decide_eq_true rfl] at this
  have hH := fun W => Hash_calls M W hML hMo
  have hRH := fun W A c b h => RefHash_calls A M M.length c b W h rfl (by omega) hMo
  have hB := fun W => Labels_calls M W hML hMo
  have hRB := fun W A c b h => RefLabels_calls A M M.length c b W h rfl (by omega) hMo
  obtain ⟨hash, hhash⟩ : ∃ hash, hash = hashL M := ⟨_, rfl⟩
  obtain ⟨lab, hlab⟩ : ∃ lab, lab = labsL M := ⟨_, rfl⟩
  rw [← hhash] at hH hRH
  rw [← hlab] at hB hRB
  have hShown := fun W => Shown_calls M o W hML hMo
  have hul := shownI_len o M M.length
  have HVl := Lib.hid hVl
  clear hVO hVl hhash hlab
  have hAt := fun W => At_in M i W hML hi
  obtain ⟨X, hX⟩ : ∃ X, X = M[i].1 := ⟨_, rfl⟩
  obtain ⟨Y, hY⟩ : ∃ Y, Y = M[i].2 := ⟨_, rfl⟩
  rw [← hX, ← hY] at hAt
  have HX := Lib.hid hX
  have HY := Lib.hid hY
  have e0 : decide ((0 : Int) ≤ (i : Int)) = true := by simp
  have e1 : decide ((i : Int) < (M.length : Int)) = true := by simp; omega
  have ei : (i : Int) < (M.length : Int) := by omega
  clear hX hY
  go_enter Try.func3, Try.ntmps3
  go_wp2_with fail
  have hs0 := hs
  refine (Awake_calls _).mono ?_
  rintro e w1 ⟨rfl, hb1⟩
  have hs := Sl.ext hs hb1
  have hb := hb1
  clear hb1
  go_wp2_with fail
  refine (hF _ hs).mono ?_
  rintro e w2 ⟨v, rfl, hrow, hb2⟩
  have hs := Sl.ext hs hb2
  have hb := hb.trans (hb2.mono hb.size)
  clear hb2
  clear hs
  clear hF hs0
  obtain ⟨A2, c2, b2, rfl, hlc, hcm, hA2, hbb, hs2, hbk⟩ := hrow.sl
  clear hrow hA2 hbb hbk
  obtain ⟨off, rfl, _, _⟩ := sl_off hs2 hi
  go_wp2_with fail
  refine (hN _ (some ⟨b2, off, none⟩) c2 b2 hs2).mono ?_
  rintro e w3 ⟨rfl, hb3⟩
  have hs2 := Sl.ext hs2 hb3
  have hb := hb.trans (hb3.mono hb.size)
  clear hb3
  clear hN
  have hs2 := Sl.alloc hs2 (.cells (bdL M) 31)
  have hb := hb.alloc hb.size (.cells (bdL M) 31)
  have q7 := BoxL.new_ w3 M
  go_wp2_with (first | ((with_reducible refine at_al 31 7 ?_); refine wpList_al rfl rfl (some 7) rfl w3.heap.size rfl ?_) | ((with_reducible refine at_st 31 7 23 ?_); refine wpList_put rfl (.tmp 7) (.tmp 23) rfl rfl M rfl rfl ?_) | ((with_reducible refine at_ld 31 7 ?_); refine wpList_ld rfl (.tmp 7) rfl w3.heap.size rfl M q7 ?_))
  refine (hO _ (some ⟨b2, off, none⟩) c2 b2 hs2).mono ?_
  rintro e w4 ⟨v, rfl, hrow, hb4⟩
  have hs2 := Sl.ext hs2 hb4
  have q7 := q7.ext hb4
  have hb := hb.trans (hb4.mono hb.size)
  clear hb4
  obtain ⟨Ax, cx, bx, rfl, hx1, hx2, hx3, hx4, hsx, hx5⟩ := hrow.sl
  clear hrow hx1 hx2 hx3 hx4 hx5
  go_wp2_with ((with_reducible refine at_ld 31 7 ?_); refine wpList_ld rfl (.tmp 7) rfl w3.heap.size rfl M q7 ?_)
  refine (hLen _).mono ?_
  rintro e w5 ⟨rfl, hb5⟩
  have hs2 := Sl.ext hs2 hb5
  have q7 := q7.ext hb5
  have hsx := Sl.ext hsx hb5
  have hb := hb.trans (hb5.mono hb.size)
  clear hb5
  go_wp2_with ((with_reducible refine at_ld 31 7 ?_); refine wpList_ld rfl (.tmp 7) rfl w3.heap.size rfl M q7 ?_)
  refine (hC1 _).mono ?_
  rintro e w6 ⟨v, rfl, hrow, hb6⟩
  have hs2 := Sl.ext hs2 hb6
  have q7 := q7.ext hb6
  have hsx := Sl.ext hsx hb6
  have hb := hb.trans (hb6.mono hb.size)
  clear hb6
  obtain ⟨Ap, cp, bp, rfl, hx1, hx2, hx3, hx4, hsp, hx5⟩ := hrow.sl
  clear hrow hx1 hx2 hx3 hx4 hx5
  go_wp2_with ((with_reducible refine at_ld 31 7 ?_); refine wpList_ld rfl (.tmp 7) rfl w3.heap.size rfl M q7 ?_)
  refine (hO _ Ap cp bp hsp).mono ?_
  rintro e w7 ⟨v, rfl, hrow, hb7⟩
  have hs2 := Sl.ext hs2 hb7
  have q7 := q7.ext hb7
  have hsx := Sl.ext hsx hb7
  have hsp := Sl.ext hsp hb7
  have hb := hb.trans (hb7.mono hb.size)
  clear hb7
  obtain ⟨Aq, cq, bq, rfl, hx1, hx2, hx3, hx4, hsq, hx5⟩ := hrow.sl
  clear hrow hx1 hx2 hx3 hx4 hx5
  go_wp2_with ((with_reducible refine at_ld 31 7 ?_); refine wpList_ld rfl (.tmp 7) rfl w3.heap.size rfl M q7 ?_)
  refine (hQ1 _ Aq Ax cq bq cx bx hsq hsx).mono ?_
  rintro e w8 ⟨rfl, hb8⟩
  have hs2 := Sl.ext hs2 hb8
  have q7 := q7.ext hb8
  have hsx := Sl.ext hsx hb8
  have hsp := Sl.ext hsp hb8
  have hsq := Sl.ext hsq hb8
  have hb := hb.trans (hb8.mono hb.size)
  clear hb8
  clear hsp hsq
  go_wp2_with ((with_reducible refine at_ld 31 7 ?_); refine wpList_ld rfl (.tmp 7) rfl w3.heap.size rfl M q7 ?_)
  refine (hV _).mono ?_
  rintro e w9 ⟨rfl, hb9⟩
  have hs2 := Sl.ext hs2 hb9
  have q7 := q7.ext hb9
  have hsx := Sl.ext hsx hb9
  have hb := hb.trans (hb9.mono hb.size)
  clear hb9
  go_wp2_with ((with_reducible refine at_ld 31 7 ?_); refine wpList_ld rfl (.tmp 7) rfl w3.heap.size rfl M q7 ?_)
  refine (hC2 _).mono ?_
  rintro e w10 ⟨v, rfl, hrow, hb10⟩
  have hs2 := Sl.ext hs2 hb10
  have q7 := q7.ext hb10
  have hsx := Sl.ext hsx hb10
  have hb := hb.trans (hb10.mono hb.size)
  clear hb10
  obtain ⟨Ap, cp, bp, rfl, hx1, hx2, hx3, hx4, hsp, hx5⟩ := hrow.sl
  clear hrow hx1 hx2 hx3 hx4 hx5
  rw [HVl.out]
  go_wp2_with ((with_reducible refine at_ld 31 7 ?_); refine wpList_ld rfl (.tmp 7) rfl w3.heap.size rfl M q7 ?_)
  refine (hO2 _ Ap cp bp hsp).mono ?_
  rintro e w11 ⟨v, rfl, hrow, hb11⟩
  have hs2 := Sl.ext hs2 hb11
  have q7 := q7.ext hb11
  have hsx := Sl.ext hsx hb11
  have hsp := Sl.ext hsp hb11
  have hb := hb.trans (hb11.mono hb.size)
  clear hb11
  obtain ⟨Aq, cq, bq, rfl, hx1, hx2, hx3, hx4, hsq, hx5⟩ := hrow.sl
  clear hrow hx1 hx2 hx3 hx4 hx5
  rw [HVl.out]
  go_wp2_with ((with_reducible refine at_ld 31 7 ?_); refine wpList_ld rfl (.tmp 7) rfl w3.heap.size rfl M q7 ?_)
  refine (hRV _ Ax cx bx hsx).mono ?_
  rintro e w12 ⟨v, rfl, hrow, hb12⟩
  have hs2 := Sl.ext hs2 hb12
  have q7 := q7.ext hb12
  have hsx := Sl.ext hsx hb12
  have hsp := Sl.ext hsp hb12
  have hsq := Sl.ext hsq hb12
  have hb := hb.trans (hb12.mono hb.size)
  clear hb12
  obtain ⟨Ar, cr, br, rfl, hx1, hx2, hx3, hx4, hsr, hx5⟩ := hrow.sl
  clear hrow hx1 hx2 hx3 hx4 hx5
  rw [HVl.out]
  go_wp2_with ((with_reducible refine at_ld 31 7 ?_); refine wpList_ld rfl (.tmp 7) rfl w3.heap.size rfl M q7 ?_)
  refine (hQ2 _ Aq Ar cq bq cr br hsq hsr).mono ?_
  rintro e w13 ⟨rfl, hb13⟩
  have hs2 := Sl.ext hs2 hb13
  have q7 := q7.ext hb13
  have hsx := Sl.ext hsx hb13
  have hsp := Sl.ext hsp hb13
  have hsq := Sl.ext hsq hb13
  have hsr := Sl.ext hsr hb13
  have hb := hb.trans (hb13.mono hb.size)
  clear hb13
  clear hsp hsq hsr
  go_wp2_with ((with_reducible refine at_ld 31 7 ?_); refine wpList_ld rfl (.tmp 7) rfl w3.heap.size rfl M q7 ?_)
  refine (hH _).mono ?_
  rintro e w14 ⟨rfl, hb14⟩
  have hs2 := Sl.ext hs2 hb14
  have q7 := q7.ext hb14
  have hsx := Sl.ext hsx hb14
  have hb := hb.trans (hb14.mono hb.size)
  clear hb14
  go_wp2_with ((with_reducible refine at_ld 31 7 ?_); refine wpList_ld rfl (.tmp 7) rfl w3.heap.size rfl M q7 ?_)
  refine (hRH _ Ax cx bx hsx).mono ?_
  rintro e w15 ⟨rfl, hb15⟩
  have hs2 := Sl.ext hs2 hb15
  have q7 := q7.ext hb15
  have hsx := Sl.ext hsx hb15
  have hb := hb.trans (hb15.mono hb.size)
  clear hb15
  go_wp2_with ((with_reducible refine at_ld 31 7 ?_); refine wpList_ld rfl (.tmp 7) rfl w3.heap.size rfl M q7 ?_)
  refine (hB _).mono ?_
  rintro e w16 ⟨rfl, hb16⟩
  have hs2 := Sl.ext hs2 hb16
  have q7 := q7.ext hb16
  have hsx := Sl.ext hsx hb16
  have hb := hb.trans (hb16.mono hb.size)
  clear hb16
  go_wp2_with ((with_reducible refine at_ld 31 7 ?_); refine wpList_ld rfl (.tmp 7) rfl w3.heap.size rfl M q7 ?_)
  refine (hRB _ Ax cx bx hsx).mono ?_
  rintro e w17 ⟨rfl, hb17⟩
  have hs2 := Sl.ext hs2 hb17
  have q7 := q7.ext hb17
  have hsx := Sl.ext hsx hb17
  have hb := hb.trans (hb17.mono hb.size)
  clear hb17
  go_wp2_with ((with_reducible refine at_ld 31 7 ?_); refine wpList_ld rfl (.tmp 7) rfl w3.heap.size rfl M q7 ?_)
  refine (hAt _).mono ?_
  rintro e w18 ⟨rfl, hb18⟩
  have hs2 := Sl.ext hs2 hb18
  have q7 := q7.ext hb18
  have hsx := Sl.ext hsx hb18
  have hb := hb.trans (hb18.mono hb.size)
  clear hb18
  have k := BoxC.new_ w18 X Y
  have hs2 := Sl.alloc hs2 (.cells #[.int .i32 X, .int .u32 (Y : Int)] 28)
  have q7 := q7.alloc (.cells #[.int .i32 X, .int .u32 (Y : Int)] 28)
  have hsx := Sl.alloc hsx (.cells #[.int .i32 X, .int .u32 (Y : Int)] 28)
  have hb := hb.alloc hb.size (.cells #[.int .i32 X, .int .u32 (Y : Int)] 28)
  obtain ⟨k0, k1⟩ := And.intro k.c0 k.c1
  obtain ⟨d0, d1⟩ := sl_atT hs2 hi
  rw [← HX.out] at d0
  rw [← HY.out] at d1
  go_wp2_with ((with_reducible refine at_ld 31 7 ?_); refine wpList_ld rfl (.tmp 7) rfl w3.heap.size rfl M q7 ?_)
  go_quiet (fail)
  clear k0 k1 d0 d1
  clear k
  go_wp2_with ((with_reducible refine at_ld 31 7 ?_); refine wpList_ld rfl (.tmp 7) rfl w3.heap.size rfl M q7 ?_)
  refine (hShown _).mono ?_
  rintro e wS ⟨v, rfl, hrow, h9⟩
  have h9 := below_undrewN h9
  have hs2 := Sl.ext hs2 h9
  have q7 := q7.ext h9
  have hsx := Sl.ext hsx h9
  have hb := hb.trans (h9.mono hb.size)
  clear h9
  obtain ⟨AI, bI, cI, hvI, hsI⟩ := rowI_slT hrow
  subst hvI
  clear hrow
  go_wp2_with fail
  go_loopw [12, 111] (fun q i' wr => ∃ k : Nat, k ≤ M.length ∧ i' = .int .i64 k ∧ q = .int .i64 ((shownI o M k).length : Nat) ∧ Sl wr bx Ax (cv M) ∧ Sl wr bI AI (iz (shownI o M M.length)) ∧ Below w.heap.size w wr) (fun _ i' _ => M.length - (intOf i').toNat)
  case atStart => exact ⟨0, Nat.zero_le _, rfl, rfl, hsx, hsI, hb⟩
  case round =>
    clear hsx hsI hb
    obtain ⟨k, hk, rfl, rfl, hsx, hsI, hb⟩ := hrel
    by_cases hlt : k < M.length
    · obtain ⟨offx, rfl, f0, f1⟩ := sl_off hsx hlt
      have hy := (okC_get hMo hlt).2
      have hat := shownI_same (o := o) hlt
      have hit := shownI_hit (o := o) (L := M) (k := k)
      have hmi := shownI_miss (o := o) (L := M) (k := k)
      rw [bdG_in hlt] at hit hmi
      have hkl := shownI_len o M k
      obtain ⟨pr, hpr⟩ : ∃ pr, pr = M[k] := ⟨_, rfl⟩
      rw [← hpr] at f0 f1 hy hat hit hmi
      obtain ⟨P, S⟩ := pr
      simp only at f0 f1 hy hat hit hmi
      have hSe := fun W => RefSees_calls P S o W hy
      obtain ⟨so, hso⟩ : ∃ so, so = sees S o := ⟨_, rfl⟩
      rw [← hso] at hat hit hmi hSe
      obtain ⟨N, hN⟩ : ∃ N, N = (shownI o M M.length).length := ⟨_, rfl⟩
      obtain ⟨K, hK⟩ : ∃ K, K = (shownI o M k).length := ⟨_, rfl⟩
      rw [← hK] at hkl hat ⊢
      rw [← hN] at hul ⊢
      have HK := Lib.hid hK
      have HN := Lib.hid hN
      have HIT := Lib.hid hit
      have HMI := Lib.hid hmi
      have HAT := Lib.hid hat
      have ej : (k : Int) < (M.length : Int) := by omega
      clear hpr hso hN hK hit hmi hat
      have hsx := Sl.alloc hsx (.cells #[.int .i32 P, .int .u32 (S : Int)] 49)
      have hsI := Sl.alloc hsI (.cells #[.int .i32 P, .int .u32 (S : Int)] 49)
      have hb := hb.alloc hb.size (.cells #[.int .i32 P, .int .u32 (S : Int)] 49)
      cases so with
      | true =>
        go_wp2_with fail
        refine (hSe _).mono ?_
        rintro e w19 ⟨rfl, hb19⟩
        have hsx := Sl.ext hsx hb19
        have hsI := Sl.ext hsI hb19
        have hb := hb.trans (hb19.mono hb.size)
        clear hb19
        obtain ⟨offI, rfl, hcI⟩ := hsI (by intro h0; have h1 := HAT.out (by trivial); have h2 := congrArg List.length h0; simp at h2; rw [h2] at h1; simp at h1)
        have hg := hcI _ _ (iz_get? (HAT.out (by trivial)))
        have hKN : K < N := by rw [HN.out]; exact (List.getElem?_eq_some_iff.1 (HAT.out (by trivial))).1
        have e8 : decide ((N : Int) ≤ (K : Int)) = false := by simp; omega
        have e9 : (K : Int) < (N : Int) := by omega
        clear hcI
        go_wp2_with fail
        go_roundw
        case rel => exact ⟨k + 1, by omega, by go_num, by rw [HIT.out (by trivial), List.length_append, ← HK.out]; go_num, hsx, hsI, hb⟩
        case measure => simp [intOf]; omega
      | false =>
        go_wp2_with fail
        refine (hSe _).mono ?_
        rintro e w20 ⟨rfl, hb20⟩
        have hsx := Sl.ext hsx hb20
        have hsI := Sl.ext hsI hb20
        have hb := hb.trans (hb20.mono hb.size)
        clear hb20
        go_wp2_with fail
        go_roundw
        case rel => exact ⟨k + 1, by omega, by go_num, by rw [HMI.out (by trivial), ← HK.out], hsx, hsI, hb⟩
        case measure => simp [intOf]; omega
    · obtain rfl : k = M.length := by omega
      obtain ⟨N, hN⟩ : ∃ N, N = (shownI o M M.length).length := ⟨_, rfl⟩
      rw [← hN]
      clear hN
      go_wp2_with fail
      go_ret
      exact ⟨rfl, hb⟩
set_option maxHeartbeats 32000000 in
set_option maxRecDepth 40000 in
theorem BoardTells_neg (A : Option Addr) (L : List (Int × Nat)) (n c b : Nat) (i o : Int) (w : World) (hs : Sl w b A (cv L)) (hn : L.length = n) (hnc : n ≤ c) (hok : okC L) (hi : ¬(0 ≤ i ∧ i < ((L.take 48).length : Int))) (h0 : i < 0) :
    Calls Try.prog 3 #[.slice A n c, .int .i64 i, .int .i64 o] w fun e w' => e = .returned (.bool true) ∧ Below w.heap.size w w' := by
  have hF := fun W h => FewC_calls A L n c b W h hn hnc
  obtain ⟨M, hM⟩ : ∃ M, M = L.take 48 := ⟨_, rfl⟩
  have hML : M.length ≤ 48 := by rw [hM, List.length_take]; omega
  have hMo : okC M := by rw [hM]; exact okC_take hok 48
  rw [← hM] at hF hi
  clear hM hok hn
  have hN := fun W A c b h => New_in A M M.length c b W h rfl hML
  have hO := fun W A c b h => Own_calls A M M.length c b W h rfl (by omega)
  have hLen := fun W => Len_calls M W
  have hC1 := fun W => Cells_calls M W hML
  have hQ1 : ∀ (W : World) (A A' : Option Addr) (c b c' b' : Nat) (_ : Sl W b A (cv M)) (_ : Sl W b' A' (cv M)), Calls Try.prog 15 #[.slice A M.length c, .slice A' M.length c'] W fun e w' => e = .returned (.bool true) ∧ Below W.heap.size W w' := by
    intro W A A' c b c' b' h h'
    have := RefSame_calls A A' M M M.length c b M.length c' b' W h h' rfl rfl (by omega) (by omega)
    rwa [decide_eq_true rfl] at this
  have hV := fun W => View_calls M o W hML hMo
  have hRV := fun W A c b h => RefView_calls A M M.length c b o W h rfl (by omega) hMo
  obtain ⟨VO, hVO⟩ : ∃ VO, VO = viewL o M := ⟨_, rfl⟩
  have hVl : VO.length = M.length := by rw [hVO]; simp
  rw [← hVO] at hV hRV
  have hC2 := fun W => Cells_calls VO W (by omega)
  have hO2 : ∀ (W : World) (A : Option Addr) (c b : Nat) (_ : Sl W b A (cv VO)), Calls Try.prog 13 #[.slice A M.length c] W fun e w' => ∃ v, e = .returned v ∧ RowC 49 w' W.heap.size v VO ∧ Below W.heap.size W w' := fun W A c b h => Own_calls A VO M.length c b W h hVl (by omega)
  have hQ2 : ∀ (W : World) (A A' : Option Addr) (c b c' b' : Nat) (_ : Sl W b A (cv VO)) (_ : Sl W b' A' (cv VO)), Calls Try.prog 15 #[.slice A M.length c, .slice A' M.length c'] W fun e w' => e = .returned (.bool true) ∧ Below W.heap.size W w' := by
    intro W A A' c b c' b' h h'
    have := RefSame_calls A A' VO VO M.length c b M.length c' b' W h h' hVl hVl (by omega) (by omega)
    rwa [decide_eq_true rfl] at this
  have hH := fun W => Hash_calls M W hML hMo
  have hRH := fun W A c b h => RefHash_calls A M M.length c b W h rfl (by omega) hMo
  have hB := fun W => Labels_calls M W hML hMo
  have hRB := fun W A c b h => RefLabels_calls A M M.length c b W h rfl (by omega) hMo
  obtain ⟨hash, hhash⟩ : ∃ hash, hash = hashL M := ⟨_, rfl⟩
  obtain ⟨lab, hlab⟩ : ∃ lab, lab = labsL M := ⟨_, rfl⟩
  rw [← hhash] at hH hRH
  rw [← hlab] at hB hRB
  have hShown := fun W => Shown_calls M o W hML hMo
  have hul := shownI_len o M M.length
  have HVl := Lib.hid hVl
  clear hVO hVl hhash hlab
  have hAt := fun W => At_out M i W hi
  have e0 : decide (0 ≤ i) = false := by simp; omega
  go_enter Try.func3, Try.ntmps3
  go_wp2_with fail
  have hs0 := hs
  refine (Awake_calls _).mono ?_
  rintro e w1 ⟨rfl, hb1⟩
  have hs := Sl.ext hs hb1
  have hb := hb1
  clear hb1
  go_wp2_with fail
  refine (hF _ hs).mono ?_
  rintro e w2 ⟨v, rfl, hrow, hb2⟩
  have hs := Sl.ext hs hb2
  have hb := hb.trans (hb2.mono hb.size)
  clear hb2
  clear hs
  clear hF hs0
  obtain ⟨A2, c2, b2, rfl, hlc, hcm, hA2, hbb, hs2, hbk⟩ := hrow.sl
  clear hrow hA2 hbb hbk
  go_wp2_with fail
  refine (hN _ A2 c2 b2 hs2).mono ?_
  rintro e w3 ⟨rfl, hb3⟩
  have hs2 := Sl.ext hs2 hb3
  have hb := hb.trans (hb3.mono hb.size)
  clear hb3
  clear hN
  have hs2 := Sl.alloc hs2 (.cells (bdL M) 31)
  have hb := hb.alloc hb.size (.cells (bdL M) 31)
  have q7 := BoxL.new_ w3 M
  go_wp2_with (first | ((with_reducible refine at_al 31 7 ?_); refine wpList_al rfl rfl (some 7) rfl w3.heap.size rfl ?_) | ((with_reducible refine at_st 31 7 23 ?_); refine wpList_put rfl (.tmp 7) (.tmp 23) rfl rfl M rfl rfl ?_) | ((with_reducible refine at_ld 31 7 ?_); refine wpList_ld rfl (.tmp 7) rfl w3.heap.size rfl M q7 ?_))
  refine (hO _ A2 c2 b2 hs2).mono ?_
  rintro e w4 ⟨v, rfl, hrow, hb4⟩
  have hs2 := Sl.ext hs2 hb4
  have q7 := q7.ext hb4
  have hb := hb.trans (hb4.mono hb.size)
  clear hb4
  obtain ⟨Ax, cx, bx, rfl, hx1, hx2, hx3, hx4, hsx, hx5⟩ := hrow.sl
  clear hrow hx1 hx2 hx3 hx4 hx5
  go_wp2_with ((with_reducible refine at_ld 31 7 ?_); refine wpList_ld rfl (.tmp 7) rfl w3.heap.size rfl M q7 ?_)
  refine (hLen _).mono ?_
  rintro e w5 ⟨rfl, hb5⟩
  have hs2 := Sl.ext hs2 hb5
  have q7 := q7.ext hb5
  have hsx := Sl.ext hsx hb5
  have hb := hb.trans (hb5.mono hb.size)
  clear hb5
  go_wp2_with ((with_reducible refine at_ld 31 7 ?_); refine wpList_ld rfl (.tmp 7) rfl w3.heap.size rfl M q7 ?_)
  refine (hC1 _).mono ?_
  rintro e w6 ⟨v, rfl, hrow, hb6⟩
  have hs2 := Sl.ext hs2 hb6
  have q7 := q7.ext hb6
  have hsx := Sl.ext hsx hb6
  have hb := hb.trans (hb6.mono hb.size)
  clear hb6
  obtain ⟨Ap, cp, bp, rfl, hx1, hx2, hx3, hx4, hsp, hx5⟩ := hrow.sl
  clear hrow hx1 hx2 hx3 hx4 hx5
  go_wp2_with ((with_reducible refine at_ld 31 7 ?_); refine wpList_ld rfl (.tmp 7) rfl w3.heap.size rfl M q7 ?_)
  refine (hO _ Ap cp bp hsp).mono ?_
  rintro e w7 ⟨v, rfl, hrow, hb7⟩
  have hs2 := Sl.ext hs2 hb7
  have q7 := q7.ext hb7
  have hsx := Sl.ext hsx hb7
  have hsp := Sl.ext hsp hb7
  have hb := hb.trans (hb7.mono hb.size)
  clear hb7
  obtain ⟨Aq, cq, bq, rfl, hx1, hx2, hx3, hx4, hsq, hx5⟩ := hrow.sl
  clear hrow hx1 hx2 hx3 hx4 hx5
  go_wp2_with ((with_reducible refine at_ld 31 7 ?_); refine wpList_ld rfl (.tmp 7) rfl w3.heap.size rfl M q7 ?_)
  refine (hQ1 _ Aq Ax cq bq cx bx hsq hsx).mono ?_
  rintro e w8 ⟨rfl, hb8⟩
  have hs2 := Sl.ext hs2 hb8
  have q7 := q7.ext hb8
  have hsx := Sl.ext hsx hb8
  have hsp := Sl.ext hsp hb8
  have hsq := Sl.ext hsq hb8
  have hb := hb.trans (hb8.mono hb.size)
  clear hb8
  clear hsp hsq
  go_wp2_with ((with_reducible refine at_ld 31 7 ?_); refine wpList_ld rfl (.tmp 7) rfl w3.heap.size rfl M q7 ?_)
  refine (hV _).mono ?_
  rintro e w9 ⟨rfl, hb9⟩
  have hs2 := Sl.ext hs2 hb9
  have q7 := q7.ext hb9
  have hsx := Sl.ext hsx hb9
  have hb := hb.trans (hb9.mono hb.size)
  clear hb9
  go_wp2_with ((with_reducible refine at_ld 31 7 ?_); refine wpList_ld rfl (.tmp 7) rfl w3.heap.size rfl M q7 ?_)
  refine (hC2 _).mono ?_
  rintro e w10 ⟨v, rfl, hrow, hb10⟩
  have hs2 := Sl.ext hs2 hb10
  have q7 := q7.ext hb10
  have hsx := Sl.ext hsx hb10
  have hb := hb.trans (hb10.mono hb.size)
  clear hb10
  obtain ⟨Ap, cp, bp, rfl, hx1, hx2, hx3, hx4, hsp, hx5⟩ := hrow.sl
  clear hrow hx1 hx2 hx3 hx4 hx5
  rw [HVl.out]
  go_wp2_with ((with_reducible refine at_ld 31 7 ?_); refine wpList_ld rfl (.tmp 7) rfl w3.heap.size rfl M q7 ?_)
  refine (hO2 _ Ap cp bp hsp).mono ?_
  rintro e w11 ⟨v, rfl, hrow, hb11⟩
  have hs2 := Sl.ext hs2 hb11
  have q7 := q7.ext hb11
  have hsx := Sl.ext hsx hb11
  have hsp := Sl.ext hsp hb11
  have hb := hb.trans (hb11.mono hb.size)
  clear hb11
  obtain ⟨Aq, cq, bq, rfl, hx1, hx2, hx3, hx4, hsq, hx5⟩ := hrow.sl
  clear hrow hx1 hx2 hx3 hx4 hx5
  rw [HVl.out]
  go_wp2_with ((with_reducible refine at_ld 31 7 ?_); refine wpList_ld rfl (.tmp 7) rfl w3.heap.size rfl M q7 ?_)
  refine (hRV _ Ax cx bx hsx).mono ?_
  rintro e w12 ⟨v, rfl, hrow, hb12⟩
  have hs2 := Sl.ext hs2 hb12
  have q7 := q7.ext hb12
  have hsx := Sl.ext hsx hb12
  have hsp := Sl.ext hsp hb12
  have hsq := Sl.ext hsq hb12
  have hb := hb.trans (hb12.mono hb.size)
  clear hb12
  obtain ⟨Ar, cr, br, rfl, hx1, hx2, hx3, hx4, hsr, hx5⟩ := hrow.sl
  clear hrow hx1 hx2 hx3 hx4 hx5
  rw [HVl.out]
  go_wp2_with ((with_reducible refine at_ld 31 7 ?_); refine wpList_ld rfl (.tmp 7) rfl w3.heap.size rfl M q7 ?_)
  refine (hQ2 _ Aq Ar cq bq cr br hsq hsr).mono ?_
  rintro e w13 ⟨rfl, hb13⟩
  have hs2 := Sl.ext hs2 hb13
  have q7 := q7.ext hb13
  have hsx := Sl.ext hsx hb13
  have hsp := Sl.ext hsp hb13
  have hsq := Sl.ext hsq hb13
  have hsr := Sl.ext hsr hb13
  have hb := hb.trans (hb13.mono hb.size)
  clear hb13
  clear hsp hsq hsr
  go_wp2_with ((with_reducible refine at_ld 31 7 ?_); refine wpList_ld rfl (.tmp 7) rfl w3.heap.size rfl M q7 ?_)
  refine (hH _).mono ?_
  rintro e w14 ⟨rfl, hb14⟩
  have hs2 := Sl.ext hs2 hb14
  have q7 := q7.ext hb14
  have hsx := Sl.ext hsx hb14
  have hb := hb.trans (hb14.mono hb.size)
  clear hb14
  go_wp2_with ((with_reducible refine at_ld 31 7 ?_); refine wpList_ld rfl (.tmp 7) rfl w3.heap.size rfl M q7 ?_)
  refine (hRH _ Ax cx bx hsx).mono ?_
  rintro e w15 ⟨rfl, hb15⟩
  have hs2 := Sl.ext hs2 hb15
  have q7 := q7.ext hb15
  have hsx := Sl.ext hsx hb15
  have hb := hb.trans (hb15.mono hb.size)
  clear hb15
  go_wp2_with ((with_reducible refine at_ld 31 7 ?_); refine wpList_ld rfl (.tmp 7) rfl w3.heap.size rfl M q7 ?_)
  refine (hB _).mono ?_
  rintro e w16 ⟨rfl, hb16⟩
  have hs2 := Sl.ext hs2 hb16
  have q7 := q7.ext hb16
  have hsx := Sl.ext hsx hb16
  have hb := hb.trans (hb16.mono hb.size)
  clear hb16
  go_wp2_with ((with_reducible refine at_ld 31 7 ?_); refine wpList_ld rfl (.tmp 7) rfl w3.heap.size rfl M q7 ?_)
  refine (hRB _ Ax cx bx hsx).mono ?_
  rintro e w17 ⟨rfl, hb17⟩
  have hs2 := Sl.ext hs2 hb17
  have q7 := q7.ext hb17
  have hsx := Sl.ext hsx hb17
  have hb := hb.trans (hb17.mono hb.size)
  clear hb17
  go_wp2_with ((with_reducible refine at_ld 31 7 ?_); refine wpList_ld rfl (.tmp 7) rfl w3.heap.size rfl M q7 ?_)
  refine (hAt _).mono ?_
  rintro e w18 ⟨rfl, hb18⟩
  have hs2 := Sl.ext hs2 hb18
  have q7 := q7.ext hb18
  have hsx := Sl.ext hsx hb18
  have hb := hb.trans (hb18.mono hb.size)
  clear hb18
  have k := BoxC.new_ w18 0 0
  have hs2 := Sl.alloc hs2 (.cells #[.int .i32 0, .int .u32 0] 28)
  have q7 := q7.alloc (.cells #[.int .i32 0, .int .u32 0] 28)
  have hsx := Sl.alloc hsx (.cells #[.int .i32 0, .int .u32 0] 28)
  have hb := hb.alloc hb.size (.cells #[.int .i32 0, .int .u32 0] 28)
  obtain ⟨k0, k1⟩ := And.intro k.c0 k.c1
  go_wp2_with ((with_reducible refine at_ld 31 7 ?_); refine wpList_ld rfl (.tmp 7) rfl w3.heap.size rfl M q7 ?_)
  go_quiet (fail)
  clear k0 k1
  clear k
  go_wp2_with ((with_reducible refine at_ld 31 7 ?_); refine wpList_ld rfl (.tmp 7) rfl w3.heap.size rfl M q7 ?_)
  refine (hShown _).mono ?_
  rintro e wS ⟨v, rfl, hrow, h9⟩
  have h9 := below_undrewN h9
  have hs2 := Sl.ext hs2 h9
  have q7 := q7.ext h9
  have hsx := Sl.ext hsx h9
  have hb := hb.trans (h9.mono hb.size)
  clear h9
  obtain ⟨AI, bI, cI, hvI, hsI⟩ := rowI_slT hrow
  subst hvI
  clear hrow
  go_wp2_with fail
  go_loopw [12, 111] (fun q i' wr => ∃ k : Nat, k ≤ M.length ∧ i' = .int .i64 k ∧ q = .int .i64 ((shownI o M k).length : Nat) ∧ Sl wr bx Ax (cv M) ∧ Sl wr bI AI (iz (shownI o M M.length)) ∧ Below w.heap.size w wr) (fun _ i' _ => M.length - (intOf i').toNat)
  case atStart => exact ⟨0, Nat.zero_le _, rfl, rfl, hsx, hsI, hb⟩
  case round =>
    clear hsx hsI hb
    obtain ⟨k, hk, rfl, rfl, hsx, hsI, hb⟩ := hrel
    by_cases hlt : k < M.length
    · obtain ⟨offx, rfl, f0, f1⟩ := sl_off hsx hlt
      have hy := (okC_get hMo hlt).2
      have hat := shownI_same (o := o) hlt
      have hit := shownI_hit (o := o) (L := M) (k := k)
      have hmi := shownI_miss (o := o) (L := M) (k := k)
      rw [bdG_in hlt] at hit hmi
      have hkl := shownI_len o M k
      obtain ⟨pr, hpr⟩ : ∃ pr, pr = M[k] := ⟨_, rfl⟩
      rw [← hpr] at f0 f1 hy hat hit hmi
      obtain ⟨P, S⟩ := pr
      simp only at f0 f1 hy hat hit hmi
      have hSe := fun W => RefSees_calls P S o W hy
      obtain ⟨so, hso⟩ : ∃ so, so = sees S o := ⟨_, rfl⟩
      rw [← hso] at hat hit hmi hSe
      obtain ⟨N, hN⟩ : ∃ N, N = (shownI o M M.length).length := ⟨_, rfl⟩
      obtain ⟨K, hK⟩ : ∃ K, K = (shownI o M k).length := ⟨_, rfl⟩
      rw [← hK] at hkl hat ⊢
      rw [← hN] at hul ⊢
      have HK := Lib.hid hK
      have HN := Lib.hid hN
      have HIT := Lib.hid hit
      have HMI := Lib.hid hmi
      have HAT := Lib.hid hat
      have ej : (k : Int) < (M.length : Int) := by omega
      clear hpr hso hN hK hit hmi hat
      have hsx := Sl.alloc hsx (.cells #[.int .i32 P, .int .u32 (S : Int)] 49)
      have hsI := Sl.alloc hsI (.cells #[.int .i32 P, .int .u32 (S : Int)] 49)
      have hb := hb.alloc hb.size (.cells #[.int .i32 P, .int .u32 (S : Int)] 49)
      cases so with
      | true =>
        go_wp2_with fail
        refine (hSe _).mono ?_
        rintro e w19 ⟨rfl, hb19⟩
        have hsx := Sl.ext hsx hb19
        have hsI := Sl.ext hsI hb19
        have hb := hb.trans (hb19.mono hb.size)
        clear hb19
        obtain ⟨offI, rfl, hcI⟩ := hsI (by intro h0; have h1 := HAT.out (by trivial); have h2 := congrArg List.length h0; simp at h2; rw [h2] at h1; simp at h1)
        have hg := hcI _ _ (iz_get? (HAT.out (by trivial)))
        have hKN : K < N := by rw [HN.out]; exact (List.getElem?_eq_some_iff.1 (HAT.out (by trivial))).1
        have e8 : decide ((N : Int) ≤ (K : Int)) = false := by simp; omega
        have e9 : (K : Int) < (N : Int) := by omega
        clear hcI
        go_wp2_with fail
        go_roundw
        case rel => exact ⟨k + 1, by omega, by go_num, by rw [HIT.out (by trivial), List.length_append, ← HK.out]; go_num, hsx, hsI, hb⟩
        case measure => simp [intOf]; omega
      | false =>
        go_wp2_with fail
        refine (hSe _).mono ?_
        rintro e w20 ⟨rfl, hb20⟩
        have hsx := Sl.ext hsx hb20
        have hsI := Sl.ext hsI hb20
        have hb := hb.trans (hb20.mono hb.size)
        clear hb20
        go_wp2_with fail
        go_roundw
        case rel => exact ⟨k + 1, by omega, by go_num, by rw [HMI.out (by trivial), ← HK.out], hsx, hsI, hb⟩
        case measure => simp [intOf]; omega
    · obtain rfl : k = M.length := by omega
      obtain ⟨N, hN⟩ : ∃ N, N = (shownI o M M.length).length := ⟨_, rfl⟩
      rw [← hN]
      clear hN
      go_wp2_with fail
      go_ret
      exact ⟨rfl, hb⟩
set_option maxHeartbeats 32000000 in
set_option maxRecDepth 40000 in
theorem BoardTells_far (A : Option Addr) (L : List (Int × Nat)) (n c b : Nat) (i o : Int) (w : World) (hs : Sl w b A (cv L)) (hn : L.length = n) (hnc : n ≤ c) (hok : okC L) (hi : ¬(0 ≤ i ∧ i < ((L.take 48).length : Int))) (h0 : 0 ≤ i) :
    Calls Try.prog 3 #[.slice A n c, .int .i64 i, .int .i64 o] w fun e w' => e = .returned (.bool true) ∧ Below w.heap.size w w' := by
  have hF := fun W h => FewC_calls A L n c b W h hn hnc
  obtain ⟨M, hM⟩ : ∃ M, M = L.take 48 := ⟨_, rfl⟩
  have hML : M.length ≤ 48 := by rw [hM, List.length_take]; omega
  have hMo : okC M := by rw [hM]; exact okC_take hok 48
  rw [← hM] at hF hi
  clear hM hok hn
  have hN := fun W A c b h => New_in A M M.length c b W h rfl hML
  have hO := fun W A c b h => Own_calls A M M.length c b W h rfl (by omega)
  have hLen := fun W => Len_calls M W
  have hC1 := fun W => Cells_calls M W hML
  have hQ1 : ∀ (W : World) (A A' : Option Addr) (c b c' b' : Nat) (_ : Sl W b A (cv M)) (_ : Sl W b' A' (cv M)), Calls Try.prog 15 #[.slice A M.length c, .slice A' M.length c'] W fun e w' => e = .returned (.bool true) ∧ Below W.heap.size W w' := by
    intro W A A' c b c' b' h h'
    have := RefSame_calls A A' M M M.length c b M.length c' b' W h h' rfl rfl (by omega) (by omega)
    rwa [decide_eq_true rfl] at this
  have hV := fun W => View_calls M o W hML hMo
  have hRV := fun W A c b h => RefView_calls A M M.length c b o W h rfl (by omega) hMo
  obtain ⟨VO, hVO⟩ : ∃ VO, VO = viewL o M := ⟨_, rfl⟩
  have hVl : VO.length = M.length := by rw [hVO]; simp
  rw [← hVO] at hV hRV
  have hC2 := fun W => Cells_calls VO W (by omega)
  have hO2 : ∀ (W : World) (A : Option Addr) (c b : Nat) (_ : Sl W b A (cv VO)), Calls Try.prog 13 #[.slice A M.length c] W fun e w' => ∃ v, e = .returned v ∧ RowC 49 w' W.heap.size v VO ∧ Below W.heap.size W w' := fun W A c b h => Own_calls A VO M.length c b W h hVl (by omega)
  have hQ2 : ∀ (W : World) (A A' : Option Addr) (c b c' b' : Nat) (_ : Sl W b A (cv VO)) (_ : Sl W b' A' (cv VO)), Calls Try.prog 15 #[.slice A M.length c, .slice A' M.length c'] W fun e w' => e = .returned (.bool true) ∧ Below W.heap.size W w' := by
    intro W A A' c b c' b' h h'
    have := RefSame_calls A A' VO VO M.length c b M.length c' b' W h h' hVl hVl (by omega) (by omega)
    rwa [decide_eq_true rfl] at this
  have hH := fun W => Hash_calls M W hML hMo
  have hRH := fun W A c b h => RefHash_calls A M M.length c b W h rfl (by omega) hMo
  have hB := fun W => Labels_calls M W hML hMo
  have hRB := fun W A c b h => RefLabels_calls A M M.length c b W h rfl (by omega) hMo
  obtain ⟨hash, hhash⟩ : ∃ hash, hash = hashL M := ⟨_, rfl⟩
  obtain ⟨lab, hlab⟩ : ∃ lab, lab = labsL M := ⟨_, rfl⟩
  rw [← hhash] at hH hRH
  rw [← hlab] at hB hRB
  have hShown := fun W => Shown_calls M o W hML hMo
  have hul := shownI_len o M M.length
  have HVl := Lib.hid hVl
  clear hVO hVl hhash hlab
  have hAt := fun W => At_out M i W hi
  have e0 : decide (0 ≤ i) = true := by simp; omega
  have e1 : decide (i < (M.length : Int)) = false := by simp; omega
  go_enter Try.func3, Try.ntmps3
  go_wp2_with fail
  have hs0 := hs
  refine (Awake_calls _).mono ?_
  rintro e w1 ⟨rfl, hb1⟩
  have hs := Sl.ext hs hb1
  have hb := hb1
  clear hb1
  go_wp2_with fail
  refine (hF _ hs).mono ?_
  rintro e w2 ⟨v, rfl, hrow, hb2⟩
  have hs := Sl.ext hs hb2
  have hb := hb.trans (hb2.mono hb.size)
  clear hb2
  clear hs
  clear hF hs0
  obtain ⟨A2, c2, b2, rfl, hlc, hcm, hA2, hbb, hs2, hbk⟩ := hrow.sl
  clear hrow hA2 hbb hbk
  go_wp2_with fail
  refine (hN _ A2 c2 b2 hs2).mono ?_
  rintro e w3 ⟨rfl, hb3⟩
  have hs2 := Sl.ext hs2 hb3
  have hb := hb.trans (hb3.mono hb.size)
  clear hb3
  clear hN
  have hs2 := Sl.alloc hs2 (.cells (bdL M) 31)
  have hb := hb.alloc hb.size (.cells (bdL M) 31)
  have q7 := BoxL.new_ w3 M
  go_wp2_with (first | ((with_reducible refine at_al 31 7 ?_); refine wpList_al rfl rfl (some 7) rfl w3.heap.size rfl ?_) | ((with_reducible refine at_st 31 7 23 ?_); refine wpList_put rfl (.tmp 7) (.tmp 23) rfl rfl M rfl rfl ?_) | ((with_reducible refine at_ld 31 7 ?_); refine wpList_ld rfl (.tmp 7) rfl w3.heap.size rfl M q7 ?_))
  refine (hO _ A2 c2 b2 hs2).mono ?_
  rintro e w4 ⟨v, rfl, hrow, hb4⟩
  have hs2 := Sl.ext hs2 hb4
  have q7 := q7.ext hb4
  have hb := hb.trans (hb4.mono hb.size)
  clear hb4
  obtain ⟨Ax, cx, bx, rfl, hx1, hx2, hx3, hx4, hsx, hx5⟩ := hrow.sl
  clear hrow hx1 hx2 hx3 hx4 hx5
  go_wp2_with ((with_reducible refine at_ld 31 7 ?_); refine wpList_ld rfl (.tmp 7) rfl w3.heap.size rfl M q7 ?_)
  refine (hLen _).mono ?_
  rintro e w5 ⟨rfl, hb5⟩
  have hs2 := Sl.ext hs2 hb5
  have q7 := q7.ext hb5
  have hsx := Sl.ext hsx hb5
  have hb := hb.trans (hb5.mono hb.size)
  clear hb5
  go_wp2_with ((with_reducible refine at_ld 31 7 ?_); refine wpList_ld rfl (.tmp 7) rfl w3.heap.size rfl M q7 ?_)
  refine (hC1 _).mono ?_
  rintro e w6 ⟨v, rfl, hrow, hb6⟩
  have hs2 := Sl.ext hs2 hb6
  have q7 := q7.ext hb6
  have hsx := Sl.ext hsx hb6
  have hb := hb.trans (hb6.mono hb.size)
  clear hb6
  obtain ⟨Ap, cp, bp, rfl, hx1, hx2, hx3, hx4, hsp, hx5⟩ := hrow.sl
  clear hrow hx1 hx2 hx3 hx4 hx5
  go_wp2_with ((with_reducible refine at_ld 31 7 ?_); refine wpList_ld rfl (.tmp 7) rfl w3.heap.size rfl M q7 ?_)
  refine (hO _ Ap cp bp hsp).mono ?_
  rintro e w7 ⟨v, rfl, hrow, hb7⟩
  have hs2 := Sl.ext hs2 hb7
  have q7 := q7.ext hb7
  have hsx := Sl.ext hsx hb7
  have hsp := Sl.ext hsp hb7
  have hb := hb.trans (hb7.mono hb.size)
  clear hb7
  obtain ⟨Aq, cq, bq, rfl, hx1, hx2, hx3, hx4, hsq, hx5⟩ := hrow.sl
  clear hrow hx1 hx2 hx3 hx4 hx5
  go_wp2_with ((with_reducible refine at_ld 31 7 ?_); refine wpList_ld rfl (.tmp 7) rfl w3.heap.size rfl M q7 ?_)
  refine (hQ1 _ Aq Ax cq bq cx bx hsq hsx).mono ?_
  rintro e w8 ⟨rfl, hb8⟩
  have hs2 := Sl.ext hs2 hb8
  have q7 := q7.ext hb8
  have hsx := Sl.ext hsx hb8
  have hsp := Sl.ext hsp hb8
  have hsq := Sl.ext hsq hb8
  have hb := hb.trans (hb8.mono hb.size)
  clear hb8
  clear hsp hsq
  go_wp2_with ((with_reducible refine at_ld 31 7 ?_); refine wpList_ld rfl (.tmp 7) rfl w3.heap.size rfl M q7 ?_)
  refine (hV _).mono ?_
  rintro e w9 ⟨rfl, hb9⟩
  have hs2 := Sl.ext hs2 hb9
  have q7 := q7.ext hb9
  have hsx := Sl.ext hsx hb9
  have hb := hb.trans (hb9.mono hb.size)
  clear hb9
  go_wp2_with ((with_reducible refine at_ld 31 7 ?_); refine wpList_ld rfl (.tmp 7) rfl w3.heap.size rfl M q7 ?_)
  refine (hC2 _).mono ?_
  rintro e w10 ⟨v, rfl, hrow, hb10⟩
  have hs2 := Sl.ext hs2 hb10
  have q7 := q7.ext hb10
  have hsx := Sl.ext hsx hb10
  have hb := hb.trans (hb10.mono hb.size)
  clear hb10
  obtain ⟨Ap, cp, bp, rfl, hx1, hx2, hx3, hx4, hsp, hx5⟩ := hrow.sl
  clear hrow hx1 hx2 hx3 hx4 hx5
  rw [HVl.out]
  go_wp2_with ((with_reducible refine at_ld 31 7 ?_); refine wpList_ld rfl (.tmp 7) rfl w3.heap.size rfl M q7 ?_)
  refine (hO2 _ Ap cp bp hsp).mono ?_
  rintro e w11 ⟨v, rfl, hrow, hb11⟩
  have hs2 := Sl.ext hs2 hb11
  have q7 := q7.ext hb11
  have hsx := Sl.ext hsx hb11
  have hsp := Sl.ext hsp hb11
  have hb := hb.trans (hb11.mono hb.size)
  clear hb11
  obtain ⟨Aq, cq, bq, rfl, hx1, hx2, hx3, hx4, hsq, hx5⟩ := hrow.sl
  clear hrow hx1 hx2 hx3 hx4 hx5
  rw [HVl.out]
  go_wp2_with ((with_reducible refine at_ld 31 7 ?_); refine wpList_ld rfl (.tmp 7) rfl w3.heap.size rfl M q7 ?_)
  refine (hRV _ Ax cx bx hsx).mono ?_
  rintro e w12 ⟨v, rfl, hrow, hb12⟩
  have hs2 := Sl.ext hs2 hb12
  have q7 := q7.ext hb12
  have hsx := Sl.ext hsx hb12
  have hsp := Sl.ext hsp hb12
  have hsq := Sl.ext hsq hb12
  have hb := hb.trans (hb12.mono hb.size)
  clear hb12
  obtain ⟨Ar, cr, br, rfl, hx1, hx2, hx3, hx4, hsr, hx5⟩ := hrow.sl
  clear hrow hx1 hx2 hx3 hx4 hx5
  rw [HVl.out]
  go_wp2_with ((with_reducible refine at_ld 31 7 ?_); refine wpList_ld rfl (.tmp 7) rfl w3.heap.size rfl M q7 ?_)
  refine (hQ2 _ Aq Ar cq bq cr br hsq hsr).mono ?_
  rintro e w13 ⟨rfl, hb13⟩
  have hs2 := Sl.ext hs2 hb13
  have q7 := q7.ext hb13
  have hsx := Sl.ext hsx hb13
  have hsp := Sl.ext hsp hb13
  have hsq := Sl.ext hsq hb13
  have hsr := Sl.ext hsr hb13
  have hb := hb.trans (hb13.mono hb.size)
  clear hb13
  clear hsp hsq hsr
  go_wp2_with ((with_reducible refine at_ld 31 7 ?_); refine wpList_ld rfl (.tmp 7) rfl w3.heap.size rfl M q7 ?_)
  refine (hH _).mono ?_
  rintro e w14 ⟨rfl, hb14⟩
  have hs2 := Sl.ext hs2 hb14
  have q7 := q7.ext hb14
  have hsx := Sl.ext hsx hb14
  have hb := hb.trans (hb14.mono hb.size)
  clear hb14
  go_wp2_with ((with_reducible refine at_ld 31 7 ?_); refine wpList_ld rfl (.tmp 7) rfl w3.heap.size rfl M q7 ?_)
  refine (hRH _ Ax cx bx hsx).mono ?_
  rintro e w15 ⟨rfl, hb15⟩
  have hs2 := Sl.ext hs2 hb15
  have q7 := q7.ext hb15
  have hsx := Sl.ext hsx hb15
  have hb := hb.trans (hb15.mono hb.size)
  clear hb15
  go_wp2_with ((with_reducible refine at_ld 31 7 ?_); refine wpList_ld rfl (.tmp 7) rfl w3.heap.size rfl M q7 ?_)
  refine (hB _).mono ?_
  rintro e w16 ⟨rfl, hb16⟩
  have hs2 := Sl.ext hs2 hb16
  have q7 := q7.ext hb16
  have hsx := Sl.ext hsx hb16
  have hb := hb.trans (hb16.mono hb.size)
  clear hb16
  go_wp2_with ((with_reducible refine at_ld 31 7 ?_); refine wpList_ld rfl (.tmp 7) rfl w3.heap.size rfl M q7 ?_)
  refine (hRB _ Ax cx bx hsx).mono ?_
  rintro e w17 ⟨rfl, hb17⟩
  have hs2 := Sl.ext hs2 hb17
  have q7 := q7.ext hb17
  have hsx := Sl.ext hsx hb17
  have hb := hb.trans (hb17.mono hb.size)
  clear hb17
  go_wp2_with ((with_reducible refine at_ld 31 7 ?_); refine wpList_ld rfl (.tmp 7) rfl w3.heap.size rfl M q7 ?_)
  refine (hAt _).mono ?_
  rintro e w18 ⟨rfl, hb18⟩
  have hs2 := Sl.ext hs2 hb18
  have q7 := q7.ext hb18
  have hsx := Sl.ext hsx hb18
  have hb := hb.trans (hb18.mono hb.size)
  clear hb18
  have k := BoxC.new_ w18 0 0
  have hs2 := Sl.alloc hs2 (.cells #[.int .i32 0, .int .u32 0] 28)
  have q7 := q7.alloc (.cells #[.int .i32 0, .int .u32 0] 28)
  have hsx := Sl.alloc hsx (.cells #[.int .i32 0, .int .u32 0] 28)
  have hb := hb.alloc hb.size (.cells #[.int .i32 0, .int .u32 0] 28)
  obtain ⟨k0, k1⟩ := And.intro k.c0 k.c1
  go_wp2_with ((with_reducible refine at_ld 31 7 ?_); refine wpList_ld rfl (.tmp 7) rfl w3.heap.size rfl M q7 ?_)
  go_quiet (fail)
  clear k0 k1
  clear k
  go_wp2_with ((with_reducible refine at_ld 31 7 ?_); refine wpList_ld rfl (.tmp 7) rfl w3.heap.size rfl M q7 ?_)
  refine (hShown _).mono ?_
  rintro e wS ⟨v, rfl, hrow, h9⟩
  have h9 := below_undrewN h9
  have hs2 := Sl.ext hs2 h9
  have q7 := q7.ext h9
  have hsx := Sl.ext hsx h9
  have hb := hb.trans (h9.mono hb.size)
  clear h9
  obtain ⟨AI, bI, cI, hvI, hsI⟩ := rowI_slT hrow
  subst hvI
  clear hrow
  go_wp2_with fail
  go_loopw [12, 111] (fun q i' wr => ∃ k : Nat, k ≤ M.length ∧ i' = .int .i64 k ∧ q = .int .i64 ((shownI o M k).length : Nat) ∧ Sl wr bx Ax (cv M) ∧ Sl wr bI AI (iz (shownI o M M.length)) ∧ Below w.heap.size w wr) (fun _ i' _ => M.length - (intOf i').toNat)
  case atStart => exact ⟨0, Nat.zero_le _, rfl, rfl, hsx, hsI, hb⟩
  case round =>
    clear hsx hsI hb
    obtain ⟨k, hk, rfl, rfl, hsx, hsI, hb⟩ := hrel
    by_cases hlt : k < M.length
    · obtain ⟨offx, rfl, f0, f1⟩ := sl_off hsx hlt
      have hy := (okC_get hMo hlt).2
      have hat := shownI_same (o := o) hlt
      have hit := shownI_hit (o := o) (L := M) (k := k)
      have hmi := shownI_miss (o := o) (L := M) (k := k)
      rw [bdG_in hlt] at hit hmi
      have hkl := shownI_len o M k
      obtain ⟨pr, hpr⟩ : ∃ pr, pr = M[k] := ⟨_, rfl⟩
      rw [← hpr] at f0 f1 hy hat hit hmi
      obtain ⟨P, S⟩ := pr
      simp only at f0 f1 hy hat hit hmi
      have hSe := fun W => RefSees_calls P S o W hy
      obtain ⟨so, hso⟩ : ∃ so, so = sees S o := ⟨_, rfl⟩
      rw [← hso] at hat hit hmi hSe
      obtain ⟨N, hN⟩ : ∃ N, N = (shownI o M M.length).length := ⟨_, rfl⟩
      obtain ⟨K, hK⟩ : ∃ K, K = (shownI o M k).length := ⟨_, rfl⟩
      rw [← hK] at hkl hat ⊢
      rw [← hN] at hul ⊢
      have HK := Lib.hid hK
      have HN := Lib.hid hN
      have HIT := Lib.hid hit
      have HMI := Lib.hid hmi
      have HAT := Lib.hid hat
      have ej : (k : Int) < (M.length : Int) := by omega
      clear hpr hso hN hK hit hmi hat
      have hsx := Sl.alloc hsx (.cells #[.int .i32 P, .int .u32 (S : Int)] 49)
      have hsI := Sl.alloc hsI (.cells #[.int .i32 P, .int .u32 (S : Int)] 49)
      have hb := hb.alloc hb.size (.cells #[.int .i32 P, .int .u32 (S : Int)] 49)
      cases so with
      | true =>
        go_wp2_with fail
        refine (hSe _).mono ?_
        rintro e w19 ⟨rfl, hb19⟩
        have hsx := Sl.ext hsx hb19
        have hsI := Sl.ext hsI hb19
        have hb := hb.trans (hb19.mono hb.size)
        clear hb19
        obtain ⟨offI, rfl, hcI⟩ := hsI (by intro h0; have h1 := HAT.out (by trivial); have h2 := congrArg List.length h0; simp at h2; rw [h2] at h1; simp at h1)
        have hg := hcI _ _ (iz_get? (HAT.out (by trivial)))
        have hKN : K < N := by rw [HN.out]; exact (List.getElem?_eq_some_iff.1 (HAT.out (by trivial))).1
        have e8 : decide ((N : Int) ≤ (K : Int)) = false := by simp; omega
        have e9 : (K : Int) < (N : Int) := by omega
        clear hcI
        go_wp2_with fail
        go_roundw
        case rel => exact ⟨k + 1, by omega, by go_num, by rw [HIT.out (by trivial), List.length_append, ← HK.out]; go_num, hsx, hsI, hb⟩
        case measure => simp [intOf]; omega
      | false =>
        go_wp2_with fail
        refine (hSe _).mono ?_
        rintro e w20 ⟨rfl, hb20⟩
        have hsx := Sl.ext hsx hb20
        have hsI := Sl.ext hsI hb20
        have hb := hb.trans (hb20.mono hb.size)
        clear hb20
        go_wp2_with fail
        go_roundw
        case rel => exact ⟨k + 1, by omega, by go_num, by rw [HMI.out (by trivial), ← HK.out], hsx, hsI, hb⟩
        case measure => simp [intOf]; omega
    · obtain rfl : k = M.length := by omega
      obtain ⟨N, hN⟩ : ∃ N, N = (shownI o M M.length).length := ⟨_, rfl⟩
      rw [← hN]
      clear hN
      go_wp2_with fail
      go_ret
      exact ⟨rfl, hb⟩
theorem BoardTells_walk (A : Option Addr) (L : List (Int × Nat)) (n c b : Nat) (i o : Int) (w : World) (hs : Sl w b A (cv L)) (hn : L.length = n) (_hm : n ≤ maxLen) (hnc : n ≤ c) (hok : okC L) (_h1 : -9223372036854775808 ≤ i) (_h2 : i ≤ 9223372036854775807) (_h3 : -9223372036854775808 ≤ o) (_h4 : o ≤ 9223372036854775807) :
    Calls Try.prog 3 #[.slice A n c, .int .i64 i, .int .i64 o] w fun e w' => e = .returned (.bool true) ∧ Below w.heap.size w w' := by
  by_cases hi : 0 ≤ i ∧ i < ((L.take 48).length : Int)
  · obtain ⟨k, rfl⟩ : ∃ k : Nat, i = (k : Int) := ⟨i.toNat, by omega⟩
    exact BoardTells_in A L n c b k o w hs hn hnc hok (by omega)
  · by_cases h0 : i < 0
    · exact BoardTells_neg A L n c b i o w hs hn hnc hok hi h0
    · exact BoardTells_far A L n c b i o w hs hn hnc hok hi (by omega)
end Go.Proofs.Ytemhglcdcpobpaa
