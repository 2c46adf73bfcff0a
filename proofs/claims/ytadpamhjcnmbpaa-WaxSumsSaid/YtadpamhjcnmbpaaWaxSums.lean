/- WaxSums: for every text and cut the Go text returns true: of any text, in whatever parts, the sum is the standard's; byte by byte too. No condition. -/
import Derived.Test.YtadpamhjcnmbpaaWaxPlain
import Derived.Test.YtadpamhjcnmbpaaRefSame
import Derived.Test.YtadpamhjcnmbpaaRefCut
import Derived.Deep.RegionHeld3
import Derived.Deep.MidRow
import Derived.Outline
namespace Go.Proofs.Ytadpamhjcnmbpaa
open Go.RowKit

theorem step_take {s : Nat} {l : List UInt8} {k : Nat} (h : k < l.length) : crc s (l.take (k + 1)) = step8 (crc s (l.take k)) l[k].toNat := by
  rw [List.take_succ_eq_append_getElem h, crc_append]; rfl
theorem sums_step {w0 W w' : World} {G b2 : Nat} {A2 A3 : Option Addr} {d t : List UInt8} (hb : Below W.heap.size W w') (hR : W.rangeAt G 0 tabL) (hG : G < W.heap.size) (hd : Bs W b2 A3 d) (ht : Bs W b2 A2 t) (hbw : Below w0.heap.size w0 W) :
    w'.rangeAt G 0 tabL ∧ G < w'.heap.size ∧ Bs w' b2 A3 d ∧ Bs w' b2 A2 t ∧ Below w0.heap.size w0 w' :=
  ⟨range_below hR hb hG, Nat.lt_of_lt_of_le hG hb.size, Sl.ext hd hb, Sl.ext ht hb, hbw.trans (hb.mono hbw.size)⟩
theorem TableSum_L (A : Option Addr) (vs : List Value) (ls : List (List UInt8)) (n c b : Nat) (s : Nat) (hf : sumN ls.flatten = s) (w : World) (hs : Sl w b A vs) (hv : Bss w vs ls) (hn : ls.length = n) (h1 : n ≤ maxLen) (h2 : ls.flatten.length ≤ 140737488355328) :
    Calls Try.prog 13 #[.agg tabL.toArray, .slice A n c] w fun e w' => e = .returned (.int .u32 (s : Nat)) ∧ Below w.heap.size w w' := by
  have h := TableSum_calls A vs ls n c b w hs hv hn h1 h2
  rw [tabL_eq, hf] at h
  exact h
set_option maxHeartbeats 4000000 in
set_option maxRecDepth 20000 in
theorem WaxSums_walk (A : Option Addr) (l : List UInt8) (n c b : Nat) (k : Nat) (w : World) (hs : Bs w b A l) (hn : l.length = n) (hnm : n ≤ maxLen) (hk : k ≤ 65535) :
    Calls Try.prog 3 #[.slice A n c, .int .u16 k] w fun e w' => e = .returned (.bool true) ∧ Below w.heap.size w w' := by
  have HN := Lib.hid hn
  clear hn
  go_enter Try.func3, Try.ntmps3
  go_wp2_with fail
  refine (awake_calls _).mono ?_
  rintro e w1 ⟨rfl, hb1⟩
  have hs1 := Sl.ext hs hb1
  clear hs
  go_wp2_with fail
  refine (Cut_calls A l n c b 300 _ hs1 HN.out hnm (by simp only [List.length_take]; omega)).mono ?_
  rintro e w2 ⟨v2, rfl, hrow2, hb2⟩
  obtain ⟨p, hp⟩ : ∃ p, p = l.take (300 : Int).toNat := ⟨_, rfl⟩
  have hpl : p.length ≤ 300 := by rw [hp]; simp only [List.length_take]; omega
  rw [← hp] at hrow2
  obtain ⟨A2, c2, b2, rfl, hc2, hm2, hn2, hB2, hs2, _⟩ := hrow2.sl
  have hbw2 := hb1.trans (hb2.mono hb1.size)
  clear hrow2 hp hb1 hb2 hs1
  go_wp2_with fail
  refine (Make_calls _).mono ?_
  rintro e w3 ⟨rfl, hb3⟩
  have hs3 := Sl.ext hs2 hb3
  have hbw3 := hbw2.trans (hb3.mono hbw2.size)
  clear hs2 hb3 hbw2
  go_wp2_with fail
  rw [zeroTable]
  simp only [Result.andThen_ok]
  go_wp2_with fail
  have hg3 := heap_alloc_new w3 (.cells (tabTo 0) 28)
  have hst := run_storeCells_from (P := Try.prog) w3.heap.size _ (tabTo 256).toList 0 _ (w3.alloc (.cells (tabTo 0) 28)) hg3 (by simp [tabTo_size]) (fun v hv => (Array.all_eq_true_iff_forall_mem.1 (tabTo_all 256)) v (by simpa using hv))
  rw [List.take_zero, List.nil_append, Array.toArray_toList] at hst
  rw [hst]
  simp only [Result.andThen_ok]
  have hg4 := setRow_heap (w3.alloc (.cells (tabTo 0) 28)) w3.heap.size _ (tabTo 256) _ _ hg3
  have hb4 := below_setRow (below_alloc1 w3 (.cells (tabTo 0) 28)) w3.heap.size (tabTo 256) (Nat.le_refl _)
  obtain ⟨w4, hw4⟩ : ∃ w4, w4 = (w3.alloc (.cells (tabTo 0) 28)).setRow w3.heap.size (tabTo 256) := ⟨_, rfl⟩
  rw [← hw4] at hg4 hb4 ⊢
  have hs4 := Sl.ext hs3 hb4
  have hbw4 := hbw3.trans (hb4.mono hbw3.size)
  have hG := hbw3.size
  obtain ⟨G, hGe⟩ : ∃ G, G = w3.heap.size := ⟨_, rfl⟩
  rw [← hGe] at hg4 hG ⊢
  clear hst hw4 hg3 hs3 hbw3 hb4 hGe
  obtain ⟨K, hK⟩ : ∃ K, K = min k p.length := ⟨_, rfl⟩
  have hKl : K ≤ p.length := by omega
  have hmin : (if p.length < k then (p.length : Int) else (k : Int)) = (K : Int) := by split <;> omega
  have hmin2 : (if (p.length : Int) < (k : Int) then (p.length : Int) else (k : Int)) = (K : Int) := by split <;> omega
  clear hK
  go_wp2_with fail
  clear hmin hmin2
  go_loop [7, 23] (fun v i => ∃ j m : Nat, j ≤ p.length ∧ i = .int .i64 j ∧ v = .int .u32 m ∧ Hid (m < 2 ^ 32) ∧ Hid (m = crc 4294967295 (p.take j))) (fun _ i => p.length - (intOf i).toNat)
  case atStart => exact ⟨0, 4294967295, by omega, rfl, rfl, Lib.hid (by omega), Lib.hid rfl⟩
  case round =>
    obtain ⟨j, m, hj, rfl, rfl, hm, hc⟩ := hrel
    by_cases hlt : j < p.length
    · obtain ⟨o2, rfl, hcb⟩ := Bs.at_ hs4 hlt
      have cb := hcb j hlt
      have HT := Lib.hid (step_take (s := 4294967295) hlt)
      obtain ⟨x, hx⟩ : ∃ x : Nat, x = p[j].toNat := ⟨_, rfl⟩
      have x8 : x < 256 := by have := p[j].toNat_lt; omega
      rw [← hx] at cb HT
      clear hcb hx
      go_wp2_with fail
      refine (Step_calls m x _ hm.out x8).mono ?_
      rintro e w5 ⟨rfl, rfl⟩
      go_wp2_with fail
      go_round
      case rel => exact ⟨j + 1, step8 m x, by omega, by go_num, rfl, Lib.hid (step8_lt hm.out x8), Lib.hid (by rw [HT.out, hc.out])⟩
      case measure => simp [intOf]; omega
    · have hmm : m = crc 4294967295 p := by rw [hc.out, List.take_of_length_le (by omega)]
      have hml := hm.out
      have hno : bits .xor .u32 (if IntKind.u32.signed = true then -1 else IntKind.u32.max) (m : Int) = ((sumN p : Nat) : Int) := by
        rw [if_neg (by decide), show IntKind.u32.max = ((4294967295 : Nat) : Int) from rfl, u32_xor_nat _ _ (by omega) (by omega), sumN, ← hmm, flip_xor hml]
      clear hmm hc hm
      go_wp2_with fail
      refine (RefSum_calls A2 p p.length c2 b2 _ hs4 rfl (by simp only [maxLen]; omega)).mono ?_
      rintro e w5 ⟨rfl, rfl⟩
      obtain ⟨S, hS⟩ : ∃ S, S = sumN p := ⟨_, rfl⟩
      have hSl : S < 2 ^ 32 := by rw [hS]; exact sumN_lt p
      rw [← hS] at hno
      rw [show sumN p = S from hS.symm]
      have HS := Lib.hid hS.symm
      clear hS
      go_wp2_with fail
      obtain ⟨A3, hA3⟩ : ∃ A3, A3 = (if c2 = K then A2 else Option.map (fun x => x.add K) A2) := ⟨_, rfl⟩
      have hd4 : Bs w4 b2 A3 (p.drop K) := by have := Sl.drop hs4 (k := K) (cap := c2) (by simpa using hc2); rw [bv_drop] at this; rw [hA3]; exact this
      have ht4 : Bs w4 b2 A2 (p.take K) := by have := Sl.take hs4 K; rwa [bv_take] at this
      have hA4 := hA3.symm
      have hR := tabL_range hg4
      have hGl := (Array.getElem?_eq_some_iff.1 hg4).1
      have hu := table_under
      have hi := tab_info
      have eK1 : (K : Int) ≤ (c2 : Int) := by omega
      have eK2 : (K : Int) ≤ (p.length : Int) := by omega
      have hC1 := TableSum_L (some ⟨w4.heap.size, 0, none⟩) [.slice A2 p.length c2] [p] 1 1 w4.heap.size S (by simpa using HS.out) (w4.alloc (.cells #[.slice A2 p.length c2] 22)).drew (Sl.cells_new w4 _ _).drew ((Bss.cons hs4 rfl (Bss.nil_ _)).ext (below_drew (below_alloc1 w4 _))) rfl (by simp [maxLen]) (by simp; omega)
      have hF : (w4.alloc (.cells #[.slice A2 p.length c2] 22)).drew.rangeAt G 0 tabL ∧ G < (w4.alloc (.cells #[.slice A2 p.length c2] 22)).drew.heap.size ∧ Bs (w4.alloc (.cells #[.slice A2 p.length c2] 22)).drew b2 A3 (p.drop K) ∧ Bs (w4.alloc (.cells #[.slice A2 p.length c2] 22)).drew b2 A2 (p.take K) ∧ Below w.heap.size w (w4.alloc (.cells #[.slice A2 p.length c2] 22)).drew :=
        ⟨World.rangeAt_alloc hR _, by simp; omega, hd4.alloc _, ht4.alloc _, below_drew (hbw4.alloc hbw4.size _)⟩
      clear hA3 hg4
      refine wp_region_held_drew (S := fun w' => w'.rangeAt G 0 tabL) (by kernel_rfl) ?_ (fun hHeld => ?_)
      · exact hR
      refine wpAnyH_take (i := 0) (by simp only [List.getElem?_toArray, List.getElem?_cons_zero]; rfl) (by kernel_rfl) (by kernel_rfl) (by kernel_rfl) (by exact fun _ _ _ h => h) (by exact yieldsIf_load_mid (by rfl) _ _ rfl _ _ rfl tabL _ (fun w h => h) hu rfl hi) hHeld ?_
      try simp only [Act.put, List.setIfInBounds_toArray, List.set_cons_zero, List.set_cons_succ]
      refine wpAnyH_take (i := 1) (v := ?v1) (by simp only [List.getElem?_toArray, List.getElem?_cons_succ, List.getElem?_cons_zero]; rfl) (by kernel_rfl) (by kernel_rfl) (by kernel_rfl) (by exact fun _ _ _ h => h) (Or.inl ⟨by rfl, ?y1⟩) hHeld ?_
      case y1 => (intro w hSw; (try dsimp only at hSw); go_simp; try (with_reducible rfl))
      try simp only [Act.put, List.setIfInBounds_toArray, List.set_cons_zero, List.set_cons_succ]
      refine wpAnyH_take (i := 4) (v := ?v4) (by simp only [List.getElem?_toArray, List.getElem?_cons_succ, List.getElem?_cons_zero]; rfl) (by kernel_rfl) (by kernel_rfl) (by kernel_rfl) (by exact fun _ _ _ h => h) (Or.inl ⟨by rfl, ?y4⟩) hHeld ?_
      case y4 => (intro w hSw; (try dsimp only at hSw); go_simp; try (with_reducible rfl))
      try simp only [Act.put, List.setIfInBounds_toArray, List.set_cons_zero, List.set_cons_succ]
      refine wpAnyH_ready (rs := [2]) (by kernel_rfl) (by simp) ?_
      refine AllReadyH.cons (by simp only [List.getElem?_toArray, List.getElem?_cons_succ, List.getElem?_cons_zero]; rfl) (fun KK hKK => ?_) AllReadyH.nil
      go_simp
      refine hKK.out _ _ ?_ (fun hHeld => ?_)
      · exact World.rangeAt_alloc hR _
      clear hKK KK
      try simp only [Act.put, List.setIfInBounds_toArray, List.set_cons_zero, List.set_cons_succ]
      refine wpAnyH_ready (rs := [3]) (by kernel_rfl) (by simp) ?_
      refine AllReadyH.cons (by simp only [List.getElem?_toArray, List.getElem?_cons_succ, List.getElem?_cons_zero]; rfl) (fun KK hKK => ?_) AllReadyH.nil
      go_simp
      refine hC1.mono ?_
      rintro e w5 ⟨rfl, hb⟩
      have hF5 := sums_step (w0 := w) hb hF.1 hF.2.1 hF.2.2.1 hF.2.2.2.1 hF.2.2.2.2
      have hC2 := TableSum_L (some ⟨w5.heap.size, 0, none⟩) [.slice A2 K c2, .slice A3 (p.length - K) (c2 - K)] [p.take K, p.drop K] 2 2 w5.heap.size S (by simpa using HS.out) (w5.alloc (.cells #[.slice A2 K c2, .slice A3 (p.length - K) (c2 - K)] 22)) (Sl.cells_new w5 _ _) ((Bss.cons hF5.2.2.2.1 (by simp; omega) (Bss.cons hF5.2.2.1 (by simp) (Bss.nil_ _))).ext (below_alloc1 w5 _)) rfl (by simp [maxLen]) (by simp; omega)
      clear hb hC1
      go_wp2_with fail
      refine hKK.out _ _ ?_ (fun hHeld => ?_)
      · exact hF5.1
      clear hKK KK
      try simp only [Act.put, List.setIfInBounds_toArray, List.set_cons_zero, List.set_cons_succ]
      refine wpAnyH_take (i := 5) (v := ?v5) (by simp only [List.getElem?_toArray, List.getElem?_cons_succ, List.getElem?_cons_zero]; rfl) (by kernel_rfl) (by kernel_rfl) (by kernel_rfl) (by exact fun _ _ _ h => h) (Or.inl ⟨by rfl, ?y5⟩) hHeld ?_
      case y5 => (intro w hSw; (try dsimp only at hSw); go_simp; try (with_reducible rfl))
      try simp only [Act.put, List.setIfInBounds_toArray, List.set_cons_zero, List.set_cons_succ]
      refine wpAnyH_take (i := 6) (v := ?v6) (by simp only [List.getElem?_toArray, List.getElem?_cons_succ, List.getElem?_cons_zero]; rfl) (by kernel_rfl) (by kernel_rfl) (by kernel_rfl) (by exact fun _ _ _ h => h) (Or.inl ⟨by rfl, ?y6⟩) hHeld ?_
      case y6 => (intro w hSw; (try dsimp only at hSw); go_simp; try (with_reducible rfl))
      try simp only [Act.put, List.setIfInBounds_toArray, List.set_cons_zero, List.set_cons_succ]
      refine wpAnyH_take (i := 7) (by simp only [List.getElem?_toArray, List.getElem?_cons_succ, List.getElem?_cons_zero]; rfl) (by kernel_rfl) (by kernel_rfl) (by kernel_rfl) (by exact fun _ _ _ h => h) (by exact yieldsIf_load_mid (by rfl) _ _ rfl _ _ rfl tabL _ (fun w h => h) hu rfl hi) hHeld ?_
      try simp only [Act.put, List.setIfInBounds_toArray, List.set_cons_zero, List.set_cons_succ]
      refine wpAnyH_take (i := 8) (v := ?v8) (by simp only [List.getElem?_toArray, List.getElem?_cons_succ, List.getElem?_cons_zero]; rfl) (by kernel_rfl) (by kernel_rfl) (by kernel_rfl) (by exact fun _ _ _ h => h) (Or.inl ⟨by rfl, ?y8⟩) hHeld ?_
      case y8 => (intro w hSw; (try dsimp only at hSw); go_simp; try (with_reducible rfl))
      try simp only [Act.put, List.setIfInBounds_toArray, List.set_cons_zero, List.set_cons_succ]
      refine wpAnyH_take (i := 9) (v := ?v9) (by simp only [List.getElem?_toArray, List.getElem?_cons_succ, List.getElem?_cons_zero]; rfl) (by kernel_rfl) (by kernel_rfl) (by kernel_rfl) (by exact fun _ _ _ h => h) (Or.inl ⟨by rfl, ?y9⟩) hHeld ?_
      case y9 => (intro w hSw; (try dsimp only at hSw); go_simp; try (with_reducible rfl))
      try simp only [Act.put, List.setIfInBounds_toArray, List.set_cons_zero, List.set_cons_succ]
      refine wpAnyH_take (i := 10) (v := ?v10) (by simp only [List.getElem?_toArray, List.getElem?_cons_succ, List.getElem?_cons_zero]; rfl) (by kernel_rfl) (by kernel_rfl) (by kernel_rfl) (by exact fun _ _ _ h => h) (Or.inl ⟨by rfl, ?y10⟩) hHeld ?_
      case y10 => (intro w hSw; (try dsimp only at hSw); go_simp; try (with_reducible rfl))
      try simp only [Act.put, List.setIfInBounds_toArray, List.set_cons_zero, List.set_cons_succ]
      refine wpAnyH_take (i := 11) (v := ?v11) (by simp only [List.getElem?_toArray, List.getElem?_cons_succ, List.getElem?_cons_zero]; rfl) (by kernel_rfl) (by kernel_rfl) (by kernel_rfl) (by exact fun _ _ _ h => h) (Or.inl ⟨by rfl, ?y11⟩) hHeld ?_
      case y11 => (intro w hSw; (try dsimp only at hSw); go_simp; try (with_reducible rfl))
      try simp only [Act.put, List.setIfInBounds_toArray, List.set_cons_zero, List.set_cons_succ]
      refine wpAnyH_take (i := 12) (v := ?v12) (by simp only [List.getElem?_toArray, List.getElem?_cons_succ, List.getElem?_cons_zero]; rfl) (by kernel_rfl) (by kernel_rfl) (by kernel_rfl) (by exact fun _ _ _ h => h) (Or.inl ⟨by rfl, ?y12⟩) hHeld ?_
      case y12 => (intro w hSw; (try dsimp only at hSw); go_simp; try (with_reducible rfl))
      try simp only [Act.put, List.setIfInBounds_toArray, List.set_cons_zero, List.set_cons_succ]
      refine wpAnyH_take (i := 13) (v := ?v13) (by simp only [List.getElem?_toArray, List.getElem?_cons_succ, List.getElem?_cons_zero]; rfl) (by kernel_rfl) (by kernel_rfl) (by kernel_rfl) (by exact fun _ _ _ h => h) (Or.inl ⟨by rfl, ?y13⟩) hHeld ?_
      case y13 => (intro w hSw; (try dsimp only at hSw); go_simp; try (with_reducible rfl))
      try simp only [Act.put, List.setIfInBounds_toArray, List.set_cons_zero, List.set_cons_succ]
      refine wpAnyH_take (i := 16) (v := ?v16) (by simp only [List.getElem?_toArray, List.getElem?_cons_succ, List.getElem?_cons_zero]; rfl) (by kernel_rfl) (by kernel_rfl) (by kernel_rfl) (by exact fun _ _ _ h => h) (Or.inl ⟨by rfl, ?y16⟩) hHeld ?_
      case y16 => (intro w hSw; (try dsimp only at hSw); go_simp; try (with_reducible rfl))
      try simp only [Act.put, List.setIfInBounds_toArray, List.set_cons_zero, List.set_cons_succ]
      refine wpAnyH_ready (rs := [14]) (by kernel_rfl) (by simp) ?_
      refine AllReadyH.cons (by simp only [List.getElem?_toArray, List.getElem?_cons_succ, List.getElem?_cons_zero]; rfl) (fun KK hKK => ?_) AllReadyH.nil
      go_simp
      refine hKK.out _ _ ?_ (fun hHeld => ?_)
      · exact World.rangeAt_alloc hF5.1 _
      clear hKK KK
      try simp only [Act.put, List.setIfInBounds_toArray, List.set_cons_zero, List.set_cons_succ]
      refine wpAnyH_ready (rs := [15]) (by kernel_rfl) (by simp) ?_
      refine AllReadyH.cons (by simp only [List.getElem?_toArray, List.getElem?_cons_succ, List.getElem?_cons_zero]; rfl) (fun KK hKK => ?_) AllReadyH.nil
      go_simp
      refine hC2.mono ?_
      rintro e w6 ⟨rfl, hb⟩
      have hF6 := sums_step (w0 := w) hb (World.rangeAt_alloc hF5.1 _) (by simp; have := hF5.2.1; omega) (hF5.2.2.1.alloc _) (hF5.2.2.2.1.alloc _) (hF5.2.2.2.2.alloc hF5.2.2.2.2.size _)
      have hC3 := TableSum_L none [] [] 0 0 0 0 (by simp [sumN, crc]) w6 (Sl.nil_ _ _ _) (Bss.nil_ _) rfl (by simp [maxLen]) (by simp)
      clear hb hC2
      go_wp2_with fail
      refine hKK.out _ _ ?_ (fun hHeld => ?_)
      · exact hF6.1
      clear hKK KK
      try simp only [Act.put, List.setIfInBounds_toArray, List.set_cons_zero, List.set_cons_succ]
      refine wpAnyH_take (i := 17) (v := ?v17) (by simp only [List.getElem?_toArray, List.getElem?_cons_succ, List.getElem?_cons_zero]; rfl) (by kernel_rfl) (by kernel_rfl) (by kernel_rfl) (by exact fun _ _ _ h => h) (Or.inl ⟨by rfl, ?y17⟩) hHeld ?_
      case y17 => (intro w hSw; (try dsimp only at hSw); go_simp; try (with_reducible rfl))
      try simp only [Act.put, List.setIfInBounds_toArray, List.set_cons_zero, List.set_cons_succ]
      refine wpAnyH_take (i := 18) (v := ?v18) (by simp only [List.getElem?_toArray, List.getElem?_cons_succ, List.getElem?_cons_zero]; rfl) (by kernel_rfl) (by kernel_rfl) (by kernel_rfl) (by exact fun _ _ _ h => h) (Or.inl ⟨by rfl, ?y18⟩) hHeld ?_
      case y18 => (intro w hSw; (try dsimp only at hSw); go_simp; try (with_reducible rfl))
      try simp only [Act.put, List.setIfInBounds_toArray, List.set_cons_zero, List.set_cons_succ]
      refine wpAnyH_take (i := 19) (v := ?v19) (by simp only [List.getElem?_toArray, List.getElem?_cons_succ, List.getElem?_cons_zero]; rfl) (by kernel_rfl) (by kernel_rfl) (by kernel_rfl) (by exact fun _ _ _ h => h) (Or.inl ⟨by rfl, ?y19⟩) hHeld ?_
      case y19 => (intro w hSw; (try dsimp only at hSw); go_simp; try (with_reducible rfl))
      try simp only [Act.put, List.setIfInBounds_toArray, List.set_cons_zero, List.set_cons_succ]
      refine wpAnyH_take (i := 20) (v := ?v20) (by simp only [List.getElem?_toArray, List.getElem?_cons_succ, List.getElem?_cons_zero]; rfl) (by kernel_rfl) (by kernel_rfl) (by kernel_rfl) (by exact fun _ _ _ h => h) (Or.inl ⟨by rfl, ?y20⟩) hHeld ?_
      case y20 => (intro w hSw; (try dsimp only at hSw); go_simp; try (with_reducible rfl))
      try simp only [Act.put, List.setIfInBounds_toArray, List.set_cons_zero, List.set_cons_succ]
      refine wpAnyH_take (i := 21) (v := ?v21) (by simp only [List.getElem?_toArray, List.getElem?_cons_succ, List.getElem?_cons_zero]; rfl) (by kernel_rfl) (by kernel_rfl) (by kernel_rfl) (by exact fun _ _ _ h => h) (Or.inl ⟨by rfl, ?y21⟩) hHeld ?_
      case y21 => (intro w hSw; (try dsimp only at hSw); go_simp; try (with_reducible rfl))
      try simp only [Act.put, List.setIfInBounds_toArray, List.set_cons_zero, List.set_cons_succ]
      refine wpAnyH_take (i := 22) (v := ?v22) (by simp only [List.getElem?_toArray, List.getElem?_cons_succ, List.getElem?_cons_zero]; rfl) (by kernel_rfl) (by kernel_rfl) (by kernel_rfl) (by exact fun _ _ _ h => h) (Or.inl ⟨by rfl, ?y22⟩) hHeld ?_
      case y22 => (intro w hSw; (try dsimp only at hSw); go_simp; try (with_reducible rfl))
      try simp only [Act.put, List.setIfInBounds_toArray, List.set_cons_zero, List.set_cons_succ]
      refine wpAnyH_take (i := 23) (v := ?v23) (by simp only [List.getElem?_toArray, List.getElem?_cons_succ, List.getElem?_cons_zero]; rfl) (by kernel_rfl) (by kernel_rfl) (by kernel_rfl) (by exact fun _ _ _ h => h) (Or.inl ⟨by rfl, ?y23⟩) hHeld ?_
      case y23 => (intro w hSw; (try dsimp only at hSw); go_simp; try (with_reducible rfl))
      try simp only [Act.put, List.setIfInBounds_toArray, List.set_cons_zero, List.set_cons_succ]
      refine wpAnyH_take (i := 24) (v := ?v24) (by simp only [List.getElem?_toArray, List.getElem?_cons_succ, List.getElem?_cons_zero]; rfl) (by kernel_rfl) (by kernel_rfl) (by kernel_rfl) (by exact fun _ _ _ h => h) (Or.inl ⟨by rfl, ?y24⟩) hHeld ?_
      case y24 => (intro w hSw; (try dsimp only at hSw); go_simp; try (with_reducible rfl))
      try simp only [Act.put, List.setIfInBounds_toArray, List.set_cons_zero, List.set_cons_succ]
      refine wpAnyH_take (i := 25) (v := ?v25) (by simp only [List.getElem?_toArray, List.getElem?_cons_succ, List.getElem?_cons_zero]; rfl) (by kernel_rfl) (by kernel_rfl) (by kernel_rfl) (by exact fun _ _ _ h => h) (Or.inl ⟨by rfl, ?y25⟩) hHeld ?_
      case y25 => (intro w hSw; (try dsimp only at hSw); go_simp; try (with_reducible rfl))
      try simp only [Act.put, List.setIfInBounds_toArray, List.set_cons_zero, List.set_cons_succ]
      refine wpAnyH_take (i := 26) (by simp only [List.getElem?_toArray, List.getElem?_cons_succ, List.getElem?_cons_zero]; rfl) (by kernel_rfl) (by kernel_rfl) (by kernel_rfl) (by exact fun _ _ _ h => h) (by exact yieldsIf_load_mid (by rfl) _ _ rfl _ _ rfl tabL _ (fun w h => h) hu rfl hi) hHeld ?_
      try simp only [Act.put, List.setIfInBounds_toArray, List.set_cons_zero, List.set_cons_succ]
      refine wpAnyH_ready (rs := [27]) (by kernel_rfl) (by simp) ?_
      refine AllReadyH.cons (by simp only [List.getElem?_toArray, List.getElem?_cons_succ, List.getElem?_cons_zero]; rfl) (fun KK hKK => ?_) AllReadyH.nil
      go_simp
      refine hC3.mono ?_
      rintro e w7 ⟨rfl, hb⟩
      have hF7 := sums_step (w0 := w) hb hF6.1 hF6.2.1 hF6.2.2.1 hF6.2.2.2.1 hF6.2.2.2.2
      clear hb hC3
      go_wp2_with fail
      refine hKK.out _ _ ?_ (fun hHeld => ?_)
      · exact hF7.1
      clear hKK KK
      try simp only [Act.put, List.setIfInBounds_toArray, List.set_cons_zero, List.set_cons_succ]
      refine wpAnyH_take (i := 28) (v := ?v28) (by simp only [List.getElem?_toArray, List.getElem?_cons_succ, List.getElem?_cons_zero]; rfl) (by kernel_rfl) (by kernel_rfl) (by kernel_rfl) (by exact fun _ _ _ h => h) (Or.inl ⟨by rfl, ?y28⟩) hHeld ?_
      case y28 => (intro w hSw; (try dsimp only at hSw); go_simp; try (with_reducible rfl))
      try simp only [Act.put, List.setIfInBounds_toArray, List.set_cons_zero, List.set_cons_succ]
      refine wpAnyH_take (i := 29) (v := ?v29) (by simp only [List.getElem?_toArray, List.getElem?_cons_succ, List.getElem?_cons_zero]; rfl) (by kernel_rfl) (by kernel_rfl) (by kernel_rfl) (by exact fun _ _ _ h => h) (Or.inl ⟨by rfl, ?y29⟩) hHeld ?_
      case y29 => (intro w hSw; (try dsimp only at hSw); go_simp; try (with_reducible rfl))
      try simp only [Act.put, List.setIfInBounds_toArray, List.set_cons_zero, List.set_cons_succ]
      refine wpAnyH_take (i := 30) (v := ?v30) (by simp only [List.getElem?_toArray, List.getElem?_cons_succ, List.getElem?_cons_zero]; rfl) (by kernel_rfl) (by kernel_rfl) (by kernel_rfl) (by exact fun _ _ _ h => h) (Or.inl ⟨by rfl, ?y30⟩) hHeld ?_
      case y30 => (intro w hSw; (try dsimp only at hSw); go_simp; try (with_reducible rfl))
      try simp only [Act.put, List.setIfInBounds_toArray, List.set_cons_zero, List.set_cons_succ]
      refine wpAnyH_done (by kernel_rfl) ?_ _
      go_wp2_with fail
      go_ret
      exact ⟨rfl, hF7.2.2.2.2⟩
end Go.Proofs.Ytadpamhjcnmbpaa
