/- BoardFull: the walk. Conditions: the cell fits. -/
import Derived.Test.YtemhglcdcpobpaaBAwake
import Derived.Test.YtemhglcdcpobpaaBoardRefH
namespace Go.Proofs.Ytemhglcdcpobpaa
open Go.RowKit

/-- j cells a, the others b. -/
def fillTo (a b : Int × Nat) (K j : Nat) : List (Int × Nat) := List.replicate j a ++ List.replicate (K - j) b
theorem fill_len {a b : Int × Nat} {K j : Nat} (h : j ≤ K) : (fillTo a b K j).length = K := by simp [fillTo]; omega
theorem fill_at {a b : Int × Nat} {K j : Nat} (h : j < (fillTo a b K j).length) : (fillTo a b K j)[j] = b := by
  simp [fillTo]
theorem fill_set {a b : Int × Nat} {K j : Nat} (h : j < K) : (fillTo a b K j).set j a = fillTo a b K (j + 1) := by
  apply List.ext_getElem (by simp [fillTo]; omega)
  intro i h1 h2
  rw [List.getElem_set]
  simp only [fillTo, List.getElem_append, List.length_replicate, List.getElem_replicate]
  by_cases e : j = i
  · subst e; simp
  · rw [if_neg e]
    by_cases h3 : i < j
    · rw [dif_pos h3, dif_pos (by omega)]
    · rw [dif_neg h3, dif_neg (by omega)]
theorem fill_zero (a b : Int × Nat) (K : Nat) : fillTo a b K 0 = List.replicate K b := by simp [fillTo]
theorem fill_all (a b : Int × Nat) (K : Nat) : fillTo a b K K = List.replicate K a := by simp [fillTo]
theorem made_cv (K : Nat) : (madeCells (Value.agg #[.int .i32 0, .int .u32 0]).cells (K * 2)).toList = cv (List.replicate K (0, 0)) := by
  apply List.ext_getElem?
  intro j
  by_cases hj : j < K * 2
  · have h1 : (madeCells (Value.agg #[.int .i32 0, .int .u32 0]).cells (K * 2)).toList[j]? = some ((#[Value.int .i32 0, Value.int .u32 0] : Array Value)[j % 2]!) := by
      simp [madeCells, hj, Value.cells]
    rw [h1]
    rcases Nat.mod_two_eq_zero_or_one j with h | h
    · have := cv_val (L := List.replicate K ((0 : Int), (0 : Nat))) (i := j / 2) (by simp; omega)
      rw [show j / 2 * 2 = j by omega] at this
      rw [this, h]
      simp
    · have := cv_lab (L := List.replicate K ((0 : Int), (0 : Nat))) (i := j / 2) (by simp; omega)
      rw [show j / 2 * 2 + 1 = j by omega] at this
      rw [this, h]
      simp
  · rw [List.getElem?_eq_none (by simp [size_madeCells]; omega), List.getElem?_eq_none (by simp; omega)]
theorem rowC_at {e : TypeId} {w : World} {B g n c : Nat} {L : List (Int × Nat)} (h : RowC e w B (.slice (some ⟨g, 0, none⟩) n c) L) : Sl w g (some ⟨g, 0, none⟩) (cv L) := by
  obtain ⟨A, c', b, hv, _, _, _, _, hs, hb⟩ := h.sl
  injection hv with h1 _ _
  subst h1
  obtain rfl := hb g rfl
  exact hs
theorem wpList_build_bd0w {ops : Array Oper} {rest : List Oper} {o : Oper} {a : Act} {w : World} {Q : Exit → Act → World → Prop} (hw : Region.wanted o (yielded ops a.tmps) = true)
    (ho : o.op = .build 31 #[]) (h : wpList Try.prog ops Q rest (a.put o.dst (.agg (bdL []))) w) : wpList Try.prog ops Q (o :: rest) a w := by
  have e : Try.prog.built 31 ((#[] : Array (Nat × Operand)).map fun (i, x) => (i, a.eval x)).toList = some (bdA (fun _ => 0) (fun _ => 0) 0) := by
    rw [← bd_built0]
    simp
  refine BigFrame.wpList_want hw fun K hK => wp_build _ _ ho (by rw [e]; rfl) ?_
  rw [e]
  exact hK _ _ h
set_option maxHeartbeats 16000000 in
set_option maxRecDepth 40000 in
theorem BoardFull_big (n K : Nat) (x : Int) (y : Nat) (w : World) (hn : n ≤ 255) (hK : n % 60 = K) (_hx : -2147483648 ≤ x ∧ x ≤ 2147483647) (_hy : y < 4294967296) (hbig : 48 < K) :
    Calls Try.prog 6 #[.int .u8 n, .agg #[.int .i32 x, .int .u32 (y : Int)]] w fun e w' => e = .returned (.bool true) ∧ Below w.heap.size w w' := by
  have hk1 : (n : Int) % 60 = (K : Int) := by omega
  have hk2 : (n : Int).tmod 60 = (K : Int) := by rw [Int.tmod_eq_emod_of_nonneg (by omega)]; exact hk1
  have HKn := Lib.hid hK
  obtain ⟨X1, hX1⟩ : ∃ X1, X1 = RowKit.wrap32 (x + 1) := ⟨_, rfl⟩
  obtain ⟨X2, hX2⟩ : ∃ X2, X2 = RowKit.wrap32 (x + 2) := ⟨_, rfl⟩
  have HX1 := Lib.hid hX1
  have HX2 := Lib.hid hX2
  have hw1 : IntKind.i32.wrap (x + 1) = X1 := by rw [hX1]; exact IntWalk.i32_left _
  have hw2 : IntKind.i32.wrap (x + 2) = X2 := by rw [hX2]; exact IntWalk.i32_left _
  have hw3 := hX1.symm
  have hw4 := hX2.symm
  have hb := below_alloc1 w (.cells #[.int .i32 x, .int .u32 (y : Int)] 28)
  have k := BoxC.new_ w x y
  have hKb : K ≤ 59 := by omega
  clear hK hX1 hX2
  go_enter Try.func6, Try.ntmps6
  go_wp2_with fail
  refine (Awake_calls _).mono ?_
  rintro e w1 ⟨rfl, hb1⟩
  have k := k.ext hb1
  have hb := hb.trans (hb1.mono hb.size)
  clear hb1
  obtain ⟨i0, hi0, hz0, hz1, hz2⟩ := info_parts cellB_info
  obtain ⟨w3, hmk, hrow3, hg3⟩ := run_make_full (P := Try.prog) w1 w1.heap.size 22 28 i0 _ 2 Try.underlying22 hi0 hz0 hz1 .i64 .i64 K (by rw [hz2]; omega) (by simp only [maxLen]; omega) (Nat.le_refl _)
  have hm3 := Mod.of_grown hg3
  have hb3 : Below w1.heap.size w1 w3 := hm3.below (Nat.le_refl _) (fun i _ h => by cases h)
  rw [made_cv] at hrow3
  have hr3 : RowC 28 w3 w1.heap.size (.slice (some ⟨w1.heap.size, 0, none⟩) K K) (fillTo (x, y) (0, 0) K 0) := by rw [fill_zero]; unfold RowC; rw [List.length_replicate]; exact hrow3
  have hkl := k.lt
  have hbl := hb.size
  have k := k.ext hb3
  have hb := hb.trans (hb3.mono hb.size)
  clear hrow3 hg3 hm3 hb3 hi0 hz0 hz1 hz2
  go_wp2_with fail
  clear hmk
  go_loopw [7, 24] (fun q i wr => ∃ j : Nat, j ≤ K ∧ i = .int .i64 j ∧ RowC 28 wr w1.heap.size (.slice (some ⟨w1.heap.size, 0, none⟩) K K) (fillTo (x, y) (0, 0) K j) ∧ BoxC wr w.heap.size x y ∧ Below w.heap.size w wr) (fun _ i _ => K - (intOf i).toNat)
  case atStart => exact ⟨0, Nat.zero_le _, rfl, hr3, k, hb⟩
  case round =>
    clear hr3 k hb
    obtain ⟨j, hj, rfl, hr, k, hb⟩ := hrel
    by_cases hlt : j < K
    · obtain ⟨g, cap, hv, hg, hgl, hcap, a0, a1, kf, kset1, kset2⟩ := hr.set_ (k := j) (by rw [fill_len (by omega)]; exact hlt)
      injection hv with hvA hvn hvc
      injection hvA with hvA
      injection hvA with hvA _ _
      subst hvA hvc
      clear hvn
      rw [fill_at] at a0 a1 kset1
      have kf0 := kf (j * 2)
      have kf1 := kf (j * 2 + 1)
      have ej : (j : Int) < (K : Int) := by omega
      clear kf
      obtain ⟨k0, k1⟩ := And.intro k.c0 k.c1
      have HS := Lib.hid (fun w' h => (show RowC 28 w' w1.heap.size _ (fillTo (x, y) (0, 0) K (j + 1)) from fill_set (a := (x, y)) hlt ▸ kset2 (x, y) w' h))
      clear kset1 kset2
      go_wp2_with fail
      go_roundw
      case rel => exact ⟨j + 1, by omega, by go_num, HS.out _ rfl, (k.other (by simp; omega) _).other (by simp; omega) _, (hb.setCell (by simp; omega) _).setCell (by simp; omega) _⟩
      case measure => simp [intOf]; omega
    · obtain rfl : K = j := by omega
      rw [fill_all] at hr
      have hs := rowC_at hr
      have hr1 := hr
      go_wp2_with fail
      refine (New_out _ K K _ hbig (by omega)).mono ?_
      rintro e w2 ⟨rfl, hb2⟩
      have k := k.ext hb2
      have hs := Sl.ext hs hb2
      have hr1 := RowC.ext hr1 hb2
      have hb := hb.trans (hb2.mono hb.size)
      clear hb2
      have hlt8 : w1.heap.size < w2.heap.size := (World.ownsRow.lt hr1 _ rfl).2
      have k := k.alloc (.cells (bdL []) 31)
      have hs := Sl.alloc hs (.cells (bdL []) 31)
      have hr1 := World.ownsRow.alloc hr1 (.cells (bdL []) 31)
      have hb := hb.alloc hb.size (.cells (bdL []) 31)
      have q8 := BoxL.new_ w2 []
      go_wp2_with (first | ((with_reducible refine at_al 31 8 ?_); refine wpList_al rfl rfl (some 8) rfl w2.heap.size rfl ?_) | ((with_reducible refine at_st 31 8 35 ?_); refine wpList_put rfl (.tmp 8) (.tmp 35) rfl rfl [] rfl rfl ?_) | ((with_reducible refine at_ld 31 8 ?_); refine wpList_ld rfl (.tmp 8) rfl w2.heap.size rfl [] q8 ?_))
      have hr2 : RowC 28 (w2.alloc (.cells (bdL []) 31)) w1.heap.size (.slice (some ⟨w1.heap.size, 0, none⟩) K K) (fillTo (X1, y) (x, y) K 0) := by rw [fill_zero]; exact hr1
      go_loopw [10, 39] (fun q i wz => ∃ j : Nat, j ≤ K ∧ i = .int .i64 j ∧ RowC 28 wz w1.heap.size (.slice (some ⟨w1.heap.size, 0, none⟩) K K) (fillTo (X1, y) (x, y) K j) ∧ BoxL wz w2.heap.size [] ∧ BoxC wz w.heap.size x y ∧ Below w.heap.size w wz) (fun _ i _ => K - (intOf i).toNat)
      case atStart => exact ⟨0, Nat.zero_le _, rfl, hr2, q8, k, hb⟩
      case round =>
        clear hr2 q8 k hb hs hr hr1
        obtain ⟨j, hj, rfl, hr, q8, k, hb⟩ := hrel
        by_cases hlt : j < K
        · obtain ⟨g, cap, hv, hg, hgl, hcap, a0, a1, kf, kset1, kset2⟩ := hr.set_ (k := j) (by rw [fill_len (by omega)]; exact hlt)
          injection hv with hvA hvn hvc
          injection hvA with hvA
          injection hvA with hvA _ _
          subst hvA hvc
          clear hvn
          rw [fill_at] at a0 a1 kset1
          have kf0 := kf (j * 2)
          have kf1 := kf (j * 2 + 1)
          have ej : (j : Int) < (K : Int) := by omega
          clear kf
          have HS := Lib.hid (fun w' h => (show RowC 28 w' w1.heap.size _ (fillTo (X1, y) (x, y) K (j + 1)) from fill_set (a := (X1, y)) hlt ▸ kset1 X1 w' h))
          have hn8 : w2.heap.size ≠ w1.heap.size := Nat.ne_of_gt hlt8
          clear kset1 kset2
          go_wp2_with ((with_reducible refine at_ld 31 8 ?_); refine wpList_ld rfl (.tmp 8) rfl w2.heap.size rfl [] q8 ?_)
          go_roundw
          case rel => exact ⟨j + 1, by omega, by go_num, HS.out _ rfl, q8.other hn8 _, k.other (by simp; omega) _, hb.setCell (by simp; omega) _⟩
          case measure => simp [intOf]; omega
        · obtain rfl : K = j := by omega
          obtain ⟨wz, rfl⟩ : ∃ wz : World, wz = wr := ⟨_, rfl⟩
          clear hr
          have e48 : decide ((48 : Int) < (K : Int)) = true := by simp; omega
          go_wp2_with (first | ((with_reducible refine at_bd 31 57 _ ?_); refine wpList_build_bd0w rfl rfl ?_) | ((with_reducible refine at_bi 58 .eql 31 31 (.tmp 56) (.tmp 57) ?_); refine wpList_eql_bd rfl (.tmp 56) (.tmp 57) rfl [] [] rfl rfl (by simp) true (by simp) ?_) | ((with_reducible refine at_ld 31 8 ?_); refine wpList_ld rfl (.tmp 8) rfl w2.heap.size rfl [] q8 ?_))
          go_ret
          exact ⟨rfl, hb⟩
set_option maxHeartbeats 16000000 in
set_option maxRecDepth 40000 in
theorem BoardFull_none (n K : Nat) (x : Int) (y : Nat) (w : World) (hn : n ≤ 255) (hK : n % 60 = K) (_hx : -2147483648 ≤ x ∧ x ≤ 2147483647) (_hy : y < 4294967296) (h0 : K = 0) :
    Calls Try.prog 6 #[.int .u8 n, .agg #[.int .i32 x, .int .u32 (y : Int)]] w fun e w' => e = .returned (.bool true) ∧ Below w.heap.size w w' := by
  have hk1 : (n : Int) % 60 = (K : Int) := by omega
  have hk2 : (n : Int).tmod 60 = (K : Int) := by rw [Int.tmod_eq_emod_of_nonneg (by omega)]; exact hk1
  have HKn := Lib.hid hK
  obtain ⟨X1, hX1⟩ : ∃ X1, X1 = RowKit.wrap32 (x + 1) := ⟨_, rfl⟩
  obtain ⟨X2, hX2⟩ : ∃ X2, X2 = RowKit.wrap32 (x + 2) := ⟨_, rfl⟩
  have HX1 := Lib.hid hX1
  have HX2 := Lib.hid hX2
  have hw1 : IntKind.i32.wrap (x + 1) = X1 := by rw [hX1]; exact IntWalk.i32_left _
  have hw2 : IntKind.i32.wrap (x + 2) = X2 := by rw [hX2]; exact IntWalk.i32_left _
  have hw3 := hX1.symm
  have hw4 := hX2.symm
  have hb := below_alloc1 w (.cells #[.int .i32 x, .int .u32 (y : Int)] 28)
  have k := BoxC.new_ w x y
  have hKb : K ≤ 59 := by omega
  have h0' : K = 0 := h0
  clear hK hX1 hX2
  have hsm : K ≤ 48 := by omega
  have hAt := fun W => At_out (List.replicate K (x, y)) ((K : Int) - 1) W (by rw [List.length_replicate]; omega)
  have ez : ((K : Int) == 0) = true := by simp; omega
  clear h0' h0
  go_enter Try.func6, Try.ntmps6
  go_wp2_with fail
  refine (Awake_calls _).mono ?_
  rintro e w1 ⟨rfl, hb1⟩
  have k := k.ext hb1
  have hb := hb.trans (hb1.mono hb.size)
  clear hb1
  obtain ⟨i0, hi0, hz0, hz1, hz2⟩ := info_parts cellB_info
  obtain ⟨w3, hmk, hrow3, hg3⟩ := run_make_full (P := Try.prog) w1 w1.heap.size 22 28 i0 _ 2 Try.underlying22 hi0 hz0 hz1 .i64 .i64 K (by rw [hz2]; omega) (by simp only [maxLen]; omega) (Nat.le_refl _)
  have hm3 := Mod.of_grown hg3
  have hb3 : Below w1.heap.size w1 w3 := hm3.below (Nat.le_refl _) (fun i _ h => by cases h)
  rw [made_cv] at hrow3
  have hr3 : RowC 28 w3 w1.heap.size (.slice (some ⟨w1.heap.size, 0, none⟩) K K) (fillTo (x, y) (0, 0) K 0) := by rw [fill_zero]; unfold RowC; rw [List.length_replicate]; exact hrow3
  have hkl := k.lt
  have hbl := hb.size
  have k := k.ext hb3
  have hb := hb.trans (hb3.mono hb.size)
  clear hrow3 hg3 hm3 hb3 hi0 hz0 hz1 hz2
  go_wp2_with fail
  clear hmk
  go_loopw [7, 24] (fun q i wr => ∃ j : Nat, j ≤ K ∧ i = .int .i64 j ∧ RowC 28 wr w1.heap.size (.slice (some ⟨w1.heap.size, 0, none⟩) K K) (fillTo (x, y) (0, 0) K j) ∧ BoxC wr w.heap.size x y ∧ Below w.heap.size w wr) (fun _ i _ => K - (intOf i).toNat)
  case atStart => exact ⟨0, Nat.zero_le _, rfl, hr3, k, hb⟩
  case round =>
    clear hr3 k hb
    obtain ⟨j, hj, rfl, hr, k, hb⟩ := hrel
    by_cases hlt : j < K
    · obtain ⟨g, cap, hv, hg, hgl, hcap, a0, a1, kf, kset1, kset2⟩ := hr.set_ (k := j) (by rw [fill_len (by omega)]; exact hlt)
      injection hv with hvA hvn hvc
      injection hvA with hvA
      injection hvA with hvA _ _
      subst hvA hvc
      clear hvn
      rw [fill_at] at a0 a1 kset1
      have kf0 := kf (j * 2)
      have kf1 := kf (j * 2 + 1)
      have ej : (j : Int) < (K : Int) := by omega
      clear kf
      obtain ⟨k0, k1⟩ := And.intro k.c0 k.c1
      have HS := Lib.hid (fun w' h => (show RowC 28 w' w1.heap.size _ (fillTo (x, y) (0, 0) K (j + 1)) from fill_set (a := (x, y)) hlt ▸ kset2 (x, y) w' h))
      clear kset1 kset2
      go_wp2_with fail
      go_roundw
      case rel => exact ⟨j + 1, by omega, by go_num, HS.out _ rfl, (k.other (by simp; omega) _).other (by simp; omega) _, (hb.setCell (by simp; omega) _).setCell (by simp; omega) _⟩
      case measure => simp [intOf]; omega
    · obtain rfl : K = j := by omega
      rw [fill_all] at hr
      have hs := rowC_at hr
      have hr1 := hr
      go_wp2_with fail
      refine (New_in _ (List.replicate K (x, y)) K K _ _ hs (by simp) hsm).mono ?_
      rintro e w2 ⟨rfl, hb2⟩
      have k := k.ext hb2
      have hs := Sl.ext hs hb2
      have hr1 := RowC.ext hr1 hb2
      have hb := hb.trans (hb2.mono hb.size)
      clear hb2
      have hlt8 : w1.heap.size < w2.heap.size := (World.ownsRow.lt hr1 _ rfl).2
      have k := k.alloc (.cells (bdL (List.replicate K (x, y))) 31)
      have hs := Sl.alloc hs (.cells (bdL (List.replicate K (x, y))) 31)
      have hr1 := World.ownsRow.alloc hr1 (.cells (bdL (List.replicate K (x, y))) 31)
      have hb := hb.alloc hb.size (.cells (bdL (List.replicate K (x, y))) 31)
      have q8 := BoxL.new_ w2 (List.replicate K (x, y))
      go_wp2_with (first | ((with_reducible refine at_al 31 8 ?_); refine wpList_al rfl rfl (some 8) rfl w2.heap.size rfl ?_) | ((with_reducible refine at_st 31 8 35 ?_); refine wpList_put rfl (.tmp 8) (.tmp 35) rfl rfl (List.replicate K (x, y)) rfl rfl ?_) | ((with_reducible refine at_ld 31 8 ?_); refine wpList_ld rfl (.tmp 8) rfl w2.heap.size rfl (List.replicate K (x, y)) q8 ?_))
      have hr2 : RowC 28 (w2.alloc (.cells (bdL (List.replicate K (x, y))) 31)) w1.heap.size (.slice (some ⟨w1.heap.size, 0, none⟩) K K) (fillTo (X1, y) (x, y) K 0) := by rw [fill_zero]; exact hr1
      go_loopw [10, 39] (fun q i wz => ∃ j : Nat, j ≤ K ∧ i = .int .i64 j ∧ RowC 28 wz w1.heap.size (.slice (some ⟨w1.heap.size, 0, none⟩) K K) (fillTo (X1, y) (x, y) K j) ∧ BoxL wz w2.heap.size (List.replicate K (x, y)) ∧ BoxC wz w.heap.size x y ∧ Below w.heap.size w wz) (fun _ i _ => K - (intOf i).toNat)
      case atStart => exact ⟨0, Nat.zero_le _, rfl, hr2, q8, k, hb⟩
      case round =>
        clear hr2 q8 k hb hs hr hr1
        obtain ⟨j, hj, rfl, hr, q8, k, hb⟩ := hrel
        by_cases hlt : j < K
        · obtain ⟨g, cap, hv, hg, hgl, hcap, a0, a1, kf, kset1, kset2⟩ := hr.set_ (k := j) (by rw [fill_len (by omega)]; exact hlt)
          injection hv with hvA hvn hvc
          injection hvA with hvA
          injection hvA with hvA _ _
          subst hvA hvc
          clear hvn
          rw [fill_at] at a0 a1 kset1
          have kf0 := kf (j * 2)
          have kf1 := kf (j * 2 + 1)
          have ej : (j : Int) < (K : Int) := by omega
          clear kf
          have HS := Lib.hid (fun w' h => (show RowC 28 w' w1.heap.size _ (fillTo (X1, y) (x, y) K (j + 1)) from fill_set (a := (X1, y)) hlt ▸ kset1 X1 w' h))
          have hn8 : w2.heap.size ≠ w1.heap.size := Nat.ne_of_gt hlt8
          clear kset1 kset2
          go_wp2_with ((with_reducible refine at_ld 31 8 ?_); refine wpList_ld rfl (.tmp 8) rfl w2.heap.size rfl (List.replicate K (x, y)) q8 ?_)
          go_roundw
          case rel => exact ⟨j + 1, by omega, by go_num, HS.out _ rfl, q8.other hn8 _, k.other (by simp; omega) _, hb.setCell (by simp; omega) _⟩
          case measure => simp [intOf]; omega
        · obtain rfl : K = j := by omega
          obtain ⟨wz, rfl⟩ : ∃ wz : World, wz = wr := ⟨_, rfl⟩
          clear hr
          have e48 : decide ((48 : Int) < (K : Int)) = false := by simp; omega
          have hkz := k.lt
          have hqz := q8.lt
          go_wp2_with ((with_reducible refine at_ld 31 8 ?_); refine wpList_ld rfl (.tmp 8) rfl w2.heap.size rfl (List.replicate K (x, y)) q8 ?_)
          refine (Cells_calls (List.replicate K (x, y)) _ (by simp; omega)).mono ?_
          rintro e w3 ⟨v, rfl, hrow, hb3⟩
          have k := k.ext hb3
          have q8 := q8.ext hb3
          have hb := hb.trans (hb3.mono hb.size)
          clear hb3
          obtain ⟨A9, c9, b9, hv9, _, _, _, _, _, _⟩ := hrow.sl
          rw [List.length_replicate] at hv9
          subst hv9
          have hr5 : RowC 28 w3 wz.heap.size (.slice A9 K c9) (fillTo (X2, y) (x, y) K 0) := by rw [fill_zero]; exact hrow
          clear hrow
          go_wp2_with fail
          go_loopw [12, 64] (fun q i wu => ∃ j : Nat, j ≤ K ∧ i = .int .i64 j ∧ RowC 28 wu wz.heap.size (.slice A9 K c9) (fillTo (X2, y) (x, y) K j) ∧ BoxL wu w2.heap.size (List.replicate K (x, y)) ∧ BoxC wu w.heap.size x y ∧ Below w.heap.size w wu) (fun _ i _ => K - (intOf i).toNat)
          case atStart => exact ⟨0, Nat.zero_le _, rfl, hr5, q8, k, hb⟩
          case round =>
            clear hr5 q8 k hb
            obtain ⟨j, hj, rfl, hr, q8, k, hb⟩ := hrel
            by_cases hlt : j < K
            · obtain ⟨g, cap, hv, hg, hgl, hcap, a0, a1, kf, kset1, kset2⟩ := hr.set_ (k := j) (by rw [fill_len (by omega)]; exact hlt)
              injection hv with hvA hvn hvc
              subst hvA hvc
              clear hvn
              rw [fill_at] at a0 a1 kset1
              have kf0 := kf (j * 2)
              have ej : (j : Int) < (K : Int) := by omega
              clear kf
              have HS := Lib.hid (fun w' h => (show RowC 28 w' wz.heap.size _ (fillTo (X2, y) (x, y) K (j + 1)) from fill_set (a := (X2, y)) hlt ▸ kset1 X2 w' h))
              obtain ⟨k0, k1⟩ := And.intro k.c0 k.c1
              have hwg : w.heap.size < g := by omega
              clear kset1 kset2
              go_wp2_with fail
              go_quiet (fail)
              go_wp2_with fail
              go_roundw
              case rel => exact ⟨j + 1, by omega, by go_num, HS.out _ rfl, BoxL.other (w := wr.drewN _) q8 (by simp; omega) _, BoxC.other (w := wr.drewN _) k (by simp; omega) _, (below_drewN hb _).setCell (by simp; omega) _⟩
              case measure => simp [intOf]; omega
            · obtain rfl : K = j := by omega
              clear hr
              go_wp2_with ((with_reducible refine at_ld 31 8 ?_); refine wpList_ld rfl (.tmp 8) rfl w2.heap.size rfl (List.replicate K (x, y)) q8 ?_)
              refine (hAt _).mono ?_
              rintro e w4 ⟨rfl, hb4⟩
              have k := k.ext hb4
              have q8 := q8.ext hb4
              have hb := hb.trans (hb4.mono hb.size)
              clear hb4
              have l := BoxC.new_ w4 0 0
              have k := k.alloc (.cells #[.int .i32 0, .int .u32 0] 28)
              have q8 := q8.alloc (.cells #[.int .i32 0, .int .u32 0] 28)
              have hb := hb.alloc hb.size (.cells #[.int .i32 0, .int .u32 0] 28)
              go_wp2_with ((with_reducible refine at_ld 31 8 ?_); refine wpList_ld rfl (.tmp 8) rfl w2.heap.size rfl (List.replicate K (x, y)) q8 ?_)
              refine (Len_calls _ _).mono ?_
              rintro e w5 ⟨rfl, hb5⟩
              have k := k.ext hb5
              have q8 := q8.ext hb5
              have l := l.ext hb5
              have hb := hb.trans (hb5.mono hb.size)
              clear hb5
              rw [List.length_replicate]
              obtain ⟨k0, k1⟩ := And.intro k.c0 k.c1
              obtain ⟨l0, l1⟩ := And.intro l.c0 l.c1
              go_wp2_with fail
              go_ret
              exact ⟨rfl, hb⟩
set_option maxHeartbeats 16000000 in
set_option maxRecDepth 40000 in
theorem BoardFull_some (n K : Nat) (x : Int) (y : Nat) (w : World) (hn : n ≤ 255) (hK : n % 60 = K) (_hx : -2147483648 ≤ x ∧ x ≤ 2147483647) (_hy : y < 4294967296) (h1 : 0 < K) (h2 : K ≤ 48) :
    Calls Try.prog 6 #[.int .u8 n, .agg #[.int .i32 x, .int .u32 (y : Int)]] w fun e w' => e = .returned (.bool true) ∧ Below w.heap.size w w' := by
  have hk1 : (n : Int) % 60 = (K : Int) := by omega
  have hk2 : (n : Int).tmod 60 = (K : Int) := by rw [Int.tmod_eq_emod_of_nonneg (by omega)]; exact hk1
  have HKn := Lib.hid hK
  obtain ⟨X1, hX1⟩ : ∃ X1, X1 = RowKit.wrap32 (x + 1) := ⟨_, rfl⟩
  obtain ⟨X2, hX2⟩ : ∃ X2, X2 = RowKit.wrap32 (x + 2) := ⟨_, rfl⟩
  have HX1 := Lib.hid hX1
  have HX2 := Lib.hid hX2
  have hw1 : IntKind.i32.wrap (x + 1) = X1 := by rw [hX1]; exact IntWalk.i32_left _
  have hw2 : IntKind.i32.wrap (x + 2) = X2 := by rw [hX2]; exact IntWalk.i32_left _
  have hw3 := hX1.symm
  have hw4 := hX2.symm
  have hb := below_alloc1 w (.cells #[.int .i32 x, .int .u32 (y : Int)] 28)
  have k := BoxC.new_ w x y
  have hKb : K ≤ 59 := by omega
  clear hK hX1 hX2
  have hsm : K ≤ 48 := by omega
  have hAt := fun W => At_in (List.replicate K (x, y)) (K - 1) W (by rw [List.length_replicate]; omega) (by rw [List.length_replicate]; omega)
  simp only [List.getElem_replicate] at hAt
  rw [show ((K - 1 : Nat) : Int) = (K : Int) - 1 by omega] at hAt
  have ez : ((K : Int) == 0) = false := by rw [beq_eq_false_iff_ne]; omega
  go_enter Try.func6, Try.ntmps6
  go_wp2_with fail
  refine (Awake_calls _).mono ?_
  rintro e w1 ⟨rfl, hb1⟩
  have k := k.ext hb1
  have hb := hb.trans (hb1.mono hb.size)
  clear hb1
  obtain ⟨i0, hi0, hz0, hz1, hz2⟩ := info_parts cellB_info
  obtain ⟨w3, hmk, hrow3, hg3⟩ := run_make_full (P := Try.prog) w1 w1.heap.size 22 28 i0 _ 2 Try.underlying22 hi0 hz0 hz1 .i64 .i64 K (by rw [hz2]; omega) (by simp only [maxLen]; omega) (Nat.le_refl _)
  have hm3 := Mod.of_grown hg3
  have hb3 : Below w1.heap.size w1 w3 := hm3.below (Nat.le_refl _) (fun i _ h => by cases h)
  rw [made_cv] at hrow3
  have hr3 : RowC 28 w3 w1.heap.size (.slice (some ⟨w1.heap.size, 0, none⟩) K K) (fillTo (x, y) (0, 0) K 0) := by rw [fill_zero]; unfold RowC; rw [List.length_replicate]; exact hrow3
  have hkl := k.lt
  have hbl := hb.size
  have k := k.ext hb3
  have hb := hb.trans (hb3.mono hb.size)
  clear hrow3 hg3 hm3 hb3 hi0 hz0 hz1 hz2
  go_wp2_with fail
  clear hmk
  go_loopw [7, 24] (fun q i wr => ∃ j : Nat, j ≤ K ∧ i = .int .i64 j ∧ RowC 28 wr w1.heap.size (.slice (some ⟨w1.heap.size, 0, none⟩) K K) (fillTo (x, y) (0, 0) K j) ∧ BoxC wr w.heap.size x y ∧ Below w.heap.size w wr) (fun _ i _ => K - (intOf i).toNat)
  case atStart => exact ⟨0, Nat.zero_le _, rfl, hr3, k, hb⟩
  case round =>
    clear hr3 k hb
    obtain ⟨j, hj, rfl, hr, k, hb⟩ := hrel
    by_cases hlt : j < K
    · obtain ⟨g, cap, hv, hg, hgl, hcap, a0, a1, kf, kset1, kset2⟩ := hr.set_ (k := j) (by rw [fill_len (by omega)]; exact hlt)
      injection hv with hvA hvn hvc
      injection hvA with hvA
      injection hvA with hvA _ _
      subst hvA hvc
      clear hvn
      rw [fill_at] at a0 a1 kset1
      have kf0 := kf (j * 2)
      have kf1 := kf (j * 2 + 1)
      have ej : (j : Int) < (K : Int) := by omega
      clear kf
      obtain ⟨k0, k1⟩ := And.intro k.c0 k.c1
      have HS := Lib.hid (fun w' h => (show RowC 28 w' w1.heap.size _ (fillTo (x, y) (0, 0) K (j + 1)) from fill_set (a := (x, y)) hlt ▸ kset2 (x, y) w' h))
      clear kset1 kset2
      go_wp2_with fail
      go_roundw
      case rel => exact ⟨j + 1, by omega, by go_num, HS.out _ rfl, (k.other (by simp; omega) _).other (by simp; omega) _, (hb.setCell (by simp; omega) _).setCell (by simp; omega) _⟩
      case measure => simp [intOf]; omega
    · obtain rfl : K = j := by omega
      rw [fill_all] at hr
      have hs := rowC_at hr
      have hr1 := hr
      go_wp2_with fail
      refine (New_in _ (List.replicate K (x, y)) K K _ _ hs (by simp) hsm).mono ?_
      rintro e w2 ⟨rfl, hb2⟩
      have k := k.ext hb2
      have hs := Sl.ext hs hb2
      have hr1 := RowC.ext hr1 hb2
      have hb := hb.trans (hb2.mono hb.size)
      clear hb2
      have hlt8 : w1.heap.size < w2.heap.size := (World.ownsRow.lt hr1 _ rfl).2
      have k := k.alloc (.cells (bdL (List.replicate K (x, y))) 31)
      have hs := Sl.alloc hs (.cells (bdL (List.replicate K (x, y))) 31)
      have hr1 := World.ownsRow.alloc hr1 (.cells (bdL (List.replicate K (x, y))) 31)
      have hb := hb.alloc hb.size (.cells (bdL (List.replicate K (x, y))) 31)
      have q8 := BoxL.new_ w2 (List.replicate K (x, y))
      go_wp2_with (first | ((with_reducible refine at_al 31 8 ?_); refine wpList_al rfl rfl (some 8) rfl w2.heap.size rfl ?_) | ((with_reducible refine at_st 31 8 35 ?_); refine wpList_put rfl (.tmp 8) (.tmp 35) rfl rfl (List.replicate K (x, y)) rfl rfl ?_) | ((with_reducible refine at_ld 31 8 ?_); refine wpList_ld rfl (.tmp 8) rfl w2.heap.size rfl (List.replicate K (x, y)) q8 ?_))
      have hr2 : RowC 28 (w2.alloc (.cells (bdL (List.replicate K (x, y))) 31)) w1.heap.size (.slice (some ⟨w1.heap.size, 0, none⟩) K K) (fillTo (X1, y) (x, y) K 0) := by rw [fill_zero]; exact hr1
      go_loopw [10, 39] (fun q i wz => ∃ j : Nat, j ≤ K ∧ i = .int .i64 j ∧ RowC 28 wz w1.heap.size (.slice (some ⟨w1.heap.size, 0, none⟩) K K) (fillTo (X1, y) (x, y) K j) ∧ BoxL wz w2.heap.size (List.replicate K (x, y)) ∧ BoxC wz w.heap.size x y ∧ Below w.heap.size w wz) (fun _ i _ => K - (intOf i).toNat)
      case atStart => exact ⟨0, Nat.zero_le _, rfl, hr2, q8, k, hb⟩
      case round =>
        clear hr2 q8 k hb hs hr hr1
        obtain ⟨j, hj, rfl, hr, q8, k, hb⟩ := hrel
        by_cases hlt : j < K
        · obtain ⟨g, cap, hv, hg, hgl, hcap, a0, a1, kf, kset1, kset2⟩ := hr.set_ (k := j) (by rw [fill_len (by omega)]; exact hlt)
          injection hv with hvA hvn hvc
          injection hvA with hvA
          injection hvA with hvA _ _
          subst hvA hvc
          clear hvn
          rw [fill_at] at a0 a1 kset1
          have kf0 := kf (j * 2)
          have kf1 := kf (j * 2 + 1)
          have ej : (j : Int) < (K : Int) := by omega
          clear kf
          have HS := Lib.hid (fun w' h => (show RowC 28 w' w1.heap.size _ (fillTo (X1, y) (x, y) K (j + 1)) from fill_set (a := (X1, y)) hlt ▸ kset1 X1 w' h))
          have hn8 : w2.heap.size ≠ w1.heap.size := Nat.ne_of_gt hlt8
          clear kset1 kset2
          go_wp2_with ((with_reducible refine at_ld 31 8 ?_); refine wpList_ld rfl (.tmp 8) rfl w2.heap.size rfl (List.replicate K (x, y)) q8 ?_)
          go_roundw
          case rel => exact ⟨j + 1, by omega, by go_num, HS.out _ rfl, q8.other hn8 _, k.other (by simp; omega) _, hb.setCell (by simp; omega) _⟩
          case measure => simp [intOf]; omega
        · obtain rfl : K = j := by omega
          obtain ⟨wz, rfl⟩ : ∃ wz : World, wz = wr := ⟨_, rfl⟩
          clear hr
          have e48 : decide ((48 : Int) < (K : Int)) = false := by simp; omega
          have hkz := k.lt
          have hqz := q8.lt
          go_wp2_with ((with_reducible refine at_ld 31 8 ?_); refine wpList_ld rfl (.tmp 8) rfl w2.heap.size rfl (List.replicate K (x, y)) q8 ?_)
          refine (Cells_calls (List.replicate K (x, y)) _ (by simp; omega)).mono ?_
          rintro e w3 ⟨v, rfl, hrow, hb3⟩
          have k := k.ext hb3
          have q8 := q8.ext hb3
          have hb := hb.trans (hb3.mono hb.size)
          clear hb3
          obtain ⟨A9, c9, b9, hv9, _, _, _, _, _, _⟩ := hrow.sl
          rw [List.length_replicate] at hv9
          subst hv9
          have hr5 : RowC 28 w3 wz.heap.size (.slice A9 K c9) (fillTo (X2, y) (x, y) K 0) := by rw [fill_zero]; exact hrow
          clear hrow
          go_wp2_with fail
          go_loopw [12, 64] (fun q i wu => ∃ j : Nat, j ≤ K ∧ i = .int .i64 j ∧ RowC 28 wu wz.heap.size (.slice A9 K c9) (fillTo (X2, y) (x, y) K j) ∧ BoxL wu w2.heap.size (List.replicate K (x, y)) ∧ BoxC wu w.heap.size x y ∧ Below w.heap.size w wu) (fun _ i _ => K - (intOf i).toNat)
          case atStart => exact ⟨0, Nat.zero_le _, rfl, hr5, q8, k, hb⟩
          case round =>
            clear hr5 q8 k hb
            obtain ⟨j, hj, rfl, hr, q8, k, hb⟩ := hrel
            by_cases hlt : j < K
            · obtain ⟨g, cap, hv, hg, hgl, hcap, a0, a1, kf, kset1, kset2⟩ := hr.set_ (k := j) (by rw [fill_len (by omega)]; exact hlt)
              injection hv with hvA hvn hvc
              subst hvA hvc
              clear hvn
              rw [fill_at] at a0 a1 kset1
              have kf0 := kf (j * 2)
              have ej : (j : Int) < (K : Int) := by omega
              clear kf
              have HS := Lib.hid (fun w' h => (show RowC 28 w' wz.heap.size _ (fillTo (X2, y) (x, y) K (j + 1)) from fill_set (a := (X2, y)) hlt ▸ kset1 X2 w' h))
              obtain ⟨k0, k1⟩ := And.intro k.c0 k.c1
              have hwg : w.heap.size < g := by omega
              clear kset1 kset2
              go_wp2_with fail
              go_quiet (fail)
              go_wp2_with fail
              go_roundw
              case rel => exact ⟨j + 1, by omega, by go_num, HS.out _ rfl, BoxL.other (w := wr.drewN _) q8 (by simp; omega) _, BoxC.other (w := wr.drewN _) k (by simp; omega) _, (below_drewN hb _).setCell (by simp; omega) _⟩
              case measure => simp [intOf]; omega
            · obtain rfl : K = j := by omega
              clear hr
              go_wp2_with ((with_reducible refine at_ld 31 8 ?_); refine wpList_ld rfl (.tmp 8) rfl w2.heap.size rfl (List.replicate K (x, y)) q8 ?_)
              refine (hAt _).mono ?_
              rintro e w4 ⟨rfl, hb4⟩
              have k := k.ext hb4
              have q8 := q8.ext hb4
              have hb := hb.trans (hb4.mono hb.size)
              clear hb4
              have l := BoxC.new_ w4 x y
              have k := k.alloc (.cells #[.int .i32 x, .int .u32 (y : Int)] 28)
              have q8 := q8.alloc (.cells #[.int .i32 x, .int .u32 (y : Int)] 28)
              have hb := hb.alloc hb.size (.cells #[.int .i32 x, .int .u32 (y : Int)] 28)
              go_wp2_with ((with_reducible refine at_ld 31 8 ?_); refine wpList_ld rfl (.tmp 8) rfl w2.heap.size rfl (List.replicate K (x, y)) q8 ?_)
              refine (Len_calls _ _).mono ?_
              rintro e w5 ⟨rfl, hb5⟩
              have k := k.ext hb5
              have q8 := q8.ext hb5
              have l := l.ext hb5
              have hb := hb.trans (hb5.mono hb.size)
              clear hb5
              rw [List.length_replicate]
              obtain ⟨k0, k1⟩ := And.intro k.c0 k.c1
              obtain ⟨l0, l1⟩ := And.intro l.c0 l.c1
              go_wp2_with fail
              go_ret
              exact ⟨rfl, hb⟩
theorem BoardFull_walk (n : Nat) (x : Int) (y : Nat) (w : World) (hn : n ≤ 255) (hx : -2147483648 ≤ x ∧ x ≤ 2147483647) (hy : y < 4294967296) :
    Calls Try.prog 6 #[.int .u8 n, .agg #[.int .i32 x, .int .u32 (y : Int)]] w fun e w' => e = .returned (.bool true) ∧ Below w.heap.size w w' := by
  by_cases h : 48 < n % 60
  · exact BoardFull_big n (n % 60) x y w hn rfl hx hy h
  · by_cases h0 : n % 60 = 0
    · exact BoardFull_none n (n % 60) x y w hn rfl hx hy h0
    · exact BoardFull_some n (n % 60) x y w hn rfl hx hy (by omega) (by omega)
end Go.Proofs.Ytemhglcdcpobpaa
