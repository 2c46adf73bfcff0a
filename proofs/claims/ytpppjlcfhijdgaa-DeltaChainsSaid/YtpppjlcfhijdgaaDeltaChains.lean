/- DeltaChains: the walk. Conditions: the lists are no longer than may be; the cells and the values fit. -/
import Derived.Test.YtpppjlcfhijdgaaDAwake
import Derived.Test.YtpppjlcfhijdgaaFewD
import Derived.Test.YtpppjlcfhijdgaaViewND
import Derived.Test.YtpppjlcfhijdgaaTreeD
import Derived.Test.YtpppjlcfhijdgaaIv
import Derived.Test.YtpppjlcfhijdgaaUv
namespace Go.Proofs.Ytpppjlcfhijdgaa
open Go.RowKit

/-- B' is B but for what was touched. -/
structure Turned (t : Nat) (B B' : List (Int × Nat)) : Prop where
  len : B'.length = B.length
  ok : okC B'
  at_ : ∀ q (h1 : q < B'.length) (h2 : q < B.length), t.testBit q = false → B'[q] = B[q]
theorem Turned.refl {t : Nat} {B : List (Int × Nat)} (h : okC B) : Turned t B B := ⟨rfl, h, fun _ _ _ _ => rfl⟩
theorem Turned.set {t : Nat} {B B' : List (Int × Nat)} (h : Turned t B B') {j : Nat} (hj : t.testBit j = true) {c : Int × Nat} (hc : (-2147483648 ≤ c.1 ∧ c.1 ≤ 2147483647) ∧ c.2 < 4294967296) : Turned t B (B'.set j c) := by
  refine ⟨by simp [h.len], fun x hx => ?_, fun q h1 h2 hq => ?_⟩
  · rcases List.mem_or_eq_of_mem_set hx with h1 | rfl
    · exact h.ok x h1
    · exact hc
  · rw [List.getElem_set, if_neg (by rintro rfl; rw [hj] at hq; cases hq)]
    exact h.at_ q (by simpa using h1) h2 hq
theorem Turned.view {t : Nat} {B B' : List (Int × Nat)} (h : Turned t B B') (o : Int) : putTo (viewL o B) (placesB t B'.length) (cellsTo (viewL o B') t B'.length) (placesB t B'.length).length = viewL o B' ∨ 48 < B'.length := by
  by_cases hl : 48 < B'.length
  · exact .inr hl
  · refine .inl (put_touched (by simp [h.len]) (by simp) (by omega) (by simp) fun i h1 h2 ht => ?_)
    have := h.at_ i (by simpa using h2) (by simpa using h1) ht
    simp only [viewL, List.getElem_map, this]

theorem iv_at {w : World} {b off : Nat} {l : List Int} (h : Sl w b (some ⟨b, off, none⟩) (iv l)) {k : Nat} (hk : k < l.length) : w.cell? ⟨b, off + k, none⟩ = some (.int .i32 l[k]) := by
  obtain ⟨off', e, h1⟩ := h (by intro h0; have := congrArg List.length h0; simp at this; simp [this] at hk)
  injection e with e
  injection e with _ e _
  subst e
  exact h1 k _ (iv_get hk)
theorem iv_pos {l : List Int} (h : iv l ≠ []) : 0 < l.length := by
  rcases Nat.eq_zero_or_pos l.length with h0 | h0
  · exact absurd (by rw [List.eq_nil_of_length_eq_zero h0]; rfl) h
  · exact h0
theorem iv_far {w : World} {b off : Nat} {v : Value} (h : w.cell? ⟨b, off, none⟩ = some v) {p : Addr} (hp : b ≠ p.block) (u : Value) : (w.setCell p u).cell? ⟨b, off, none⟩ = some v := (World.cell?_setCell_far w p _ u (Ne.symm hp)).trans h
theorem bit_mod (t k : Nat) : (((t : Int) / 2 ^ k).tmod 2 == 1) = t.testBit k := by
  have e : ((t : Int) / 2 ^ k) = ((t / 2 ^ k : Nat) : Int) := by simp
  rw [e, Int.tmod_eq_emod_of_nonneg (Int.natCast_nonneg _), Nat.testBit_eq_decide_div_mod_eq, Bool.eq_iff_iff]
  simp only [beq_iff_eq, decide_eq_true_eq]
  omega

set_option maxHeartbeats 32000000 in
set_option maxRecDepth 40000 in
theorem DeltaChains_walk (A : Option Addr) (L : List (Int × Nat)) (n c b : Nat) (TA : Option Addr) (turns : List Int) (nt tc tb : Nat) (VA : Option Addr) (vals : List Int) (nv vc vb : Nat) (o : Int) (w : World) (hs : Sl w b A (cv L)) (hn : L.length = n) (_hm : n ≤ maxLen) (hnc : n ≤ c) (hok : okC L) (hts : Sl w tb TA (uv turns)) (htn : turns.length = nt) (htm : nt ≤ maxLen) (hto : ∀ x ∈ turns, 0 ≤ x ∧ x ≤ 18446744073709551615) (hvs : Sl w vb VA (iv vals)) (hvn : vals.length = nv) (hvm : nv ≤ maxLen) (hvo : ∀ x ∈ vals, -2147483648 ≤ x ∧ x ≤ 2147483647) (_h1 : -9223372036854775808 ≤ o) (_h2 : o ≤ 9223372036854775807) :
    Calls Try.prog 5 #[.slice A n c, .slice TA nt tc, .slice VA nv vc, .int .i64 o] w fun e w' => e = .returned (.bool true) ∧ Below w.heap.size w w' := by
  have hF := fun W h => FewC_calls A L n c b W h hn hnc
  obtain ⟨M, hM⟩ : ∃ M, M = L.take 48 := ⟨_, rfl⟩
  have hML : M.length ≤ 48 := by rw [hM, List.length_take]; omega
  have hMo : okC M := by rw [hM]; exact okC_take hok 48
  rw [← hM] at hF
  clear hM hok hn
  subst hvn htn
  have hN := fun W A c b h => New_in A M M.length c b W h rfl hML
  have hVw0 := fun W => View_calls M o W hML hMo
  unfold maxLen at hvm htm
  have hlv : 0 < vals.length → vb < w.heap.size := fun h => Sl.lt hvs (by intro h0; have := congrArg List.length h0; rw [iv_length, List.length_nil] at this; omega)
  have hlt0 : 0 < turns.length → tb < w.heap.size := fun h => Sl.lt hts (by intro h0; have := congrArg List.length h0; rw [uv_length, List.length_nil] at this; omega)
  go_enter Try.func5, Try.ntmps5
  go_wp2_with fail
  refine (Awake_calls _).mono ?_
  rintro e w1 ⟨rfl, hb1⟩
  replace hs := Sl.ext hs hb1
  replace hts := Sl.ext hts hb1
  replace hvs := Sl.ext hvs hb1
  have hb := hb1
  clear hb1
  go_wp2_with fail
  refine (hF _ hs).mono ?_
  rintro e w2 ⟨v, rfl, hrow, hb2⟩
  replace hs := Sl.ext hs hb2
  replace hts := Sl.ext hts hb2
  replace hvs := Sl.ext hvs hb2
  replace hb := hb.trans (hb2.mono hb.size)
  clear hb2
  clear hs
  clear hF
  obtain ⟨A2, c2, b2, rfl, -, -, -, -, hs2, -⟩ := hrow.sl
  clear hrow
  go_wp2_with fail
  refine (hN _ A2 c2 b2 hs2).mono ?_
  rintro e w3 ⟨rfl, hb3⟩
  replace hts := Sl.ext hts hb3
  replace hvs := Sl.ext hvs hb3
  replace hs2 := Sl.ext hs2 hb3
  replace hb := hb.trans (hb3.mono hb.size)
  clear hb3
  clear hs2
  clear hN
  have hgA := hb.size
  replace hts := Sl.alloc hts (.cells (bdL M) 32)
  replace hvs := Sl.alloc hvs (.cells (bdL M) 32)
  replace hb := hb.alloc hb.size (.cells (bdL M) 32)
  have q9 := BoxL.new_ w3 M
  go_wp2_with (first | ((with_reducible refine at_al 32 9 ?_); refine wpList_al rfl rfl (some 9) rfl w3.heap.size rfl ?_) | ((with_reducible refine at_st 32 9 28 ?_); refine wpList_put rfl (.tmp 9) (.tmp 28) rfl rfl M rfl rfl ?_) | ((with_reducible refine at_ld 32 9 ?_); refine wpList_ld rfl (.tmp 9) rfl w3.heap.size rfl M q9 ?_))
  refine (hVw0 _).mono ?_
  rintro e w4 ⟨rfl, hb4⟩
  replace hts := Sl.ext hts hb4
  replace hvs := Sl.ext hvs hb4
  replace q9 := q9.ext hb4
  replace hb := hb.trans (hb4.mono hb.size)
  clear hb4
  clear hVw0
  have hgB := q9.lt
  replace hts := Sl.alloc hts (.cells (bdL (viewL o M)) 32)
  replace hvs := Sl.alloc hvs (.cells (bdL (viewL o M)) 32)
  replace q9 := q9.alloc (.cells (bdL (viewL o M)) 32)
  replace hb := hb.alloc hb.size (.cells (bdL (viewL o M)) 32)
  have q11 := BoxL.new_ w4 (viewL o M)
  go_wp2_with (first | ((with_reducible refine at_al 32 11 ?_); refine wpList_al rfl rfl (some 11) rfl w4.heap.size rfl ?_) | ((with_reducible refine at_st 32 11 32 ?_); refine wpList_put rfl (.tmp 11) (.tmp 32) rfl rfl (viewL o M) rfl rfl ?_) | ((with_reducible refine at_ld 32 9 ?_); refine wpList_ld rfl (.tmp 9) rfl w3.heap.size rfl M q9 ?_) | ((with_reducible refine at_ld 32 11 ?_); refine wpList_ld rfl (.tmp 11) rfl w4.heap.size rfl (viewL o M) q11 ?_))
  obtain ⟨wa, hwa⟩ : ∃ wa, wa = w4.alloc (.cells (bdL (viewL o M)) 32) := ⟨_, rfl⟩
  obtain ⟨g9, hg9⟩ : ∃ g9, g9 = w3.heap.size := ⟨_, rfl⟩
  obtain ⟨g11, hg11⟩ : ∃ g11, g11 = w4.heap.size := ⟨_, rfl⟩
  have hgg : w.heap.size ≤ g9 ∧ w.heap.size ≤ g11 ∧ g9 ≠ g11 := by rw [hg9, hg11]; exact ⟨hgA, by omega, by omega⟩
  simp only [← hg9, ← hg11] at q9 q11 ⊢
  rw [← hwa] at hb q9 q11 hts hvs ⊢
  clear hwa hg9 hg11 hgA hgB
  go_loopw [35] (fun i wr => ∃ (k : Nat) (B : List (Int × Nat)), k ≤ turns.length ∧ k ≤ 12 ∧ i = .int .i64 k ∧ B.length = M.length ∧ okC B ∧ BoxL wr g9 B ∧ BoxL wr g11 (viewL o B) ∧ Sl wr tb TA (uv turns) ∧ Sl wr vb VA (iv vals) ∧ Below w.heap.size w wr) (fun i _ => turns.length - (intOf i).toNat)
  case atStart => exact ⟨0, M, Nat.zero_le _, by omega, rfl, rfl, hMo, q9, q11, hts, hvs, hb⟩
  case round =>
    clear q9 q11 hts hvs hb hMo
    obtain ⟨k, B, hk, hk12, rfl, hBl, hBo, q9, q11, hts, hvs, hb⟩ := hrel
    have hBL : B.length ≤ 48 := by omega
    by_cases hlt : k < turns.length
    · skip
      have ej : (k : Int) < (turns.length : Int) := by omega
      have htk := hto turns[k] (List.getElem_mem hlt)
      obtain ⟨toff, rfl, htc⟩ := hts (by intro h0; have := congrArg List.length h0; simp at this; simp [this] at hlt)
      have htx := htc k _ (uv_get hlt)
      obtain ⟨t, ht⟩ : ∃ t : Nat, (t : Int) = turns[k] := ⟨turns[k].toNat, by omega⟩
      rw [← ht] at htx htk
      have htl : t ≤ 18446744073709551615 := by omega
      clear htc ht htk
      by_cases h12 : k < 12
      · skip
        have e12 : decide ((k : Int) ≥ 12) = false := by simp; omega
        go_wp2_with fail
        clear htx e12
        obtain ⟨wz, rfl⟩ : ∃ wz : World, wz = wr := ⟨_, rfl⟩
        go_loopw [44] (fun i wr => ∃ (j : Nat) (B2 : List (Int × Nat)), j ≤ M.length ∧ i = .int .i64 j ∧ Turned t B B2 ∧ BoxL wr g9 B2 ∧ BoxL wr g11 (viewL o B) ∧ Sl wr tb (some ⟨tb, toff, none⟩) (uv turns) ∧ Sl wr vb VA (iv vals) ∧ Below w.heap.size w wr) (fun i _ => M.length - (intOf i).toNat)
        case atStart => exact ⟨0, B, Nat.zero_le _, rfl, Turned.refl hBo, q9, q11, hts, hvs, hb⟩
        case round =>
          clear q9 q11 hts hvs hb
          obtain ⟨j, B2, hj, rfl, hT, q9, q11, hts, hvs, hb⟩ := hrel
          have hB2 : B2.length = M.length := by rw [hT.len]; omega
          have hB2L : B2.length ≤ 48 := by omega
          by_cases hjl : j < M.length
          · skip
            have ejl : (j : Int) < (M.length : Int) := by omega
            have ebit := bit_mod t j
            have hX := fun c h => hT.set (j := j) h (c := c)
            obtain ⟨d, hd⟩ : ∃ d, d = t.testBit j := ⟨_, rfl⟩
            rw [← hd] at ebit hX
            have HX := Lib.hid hX
            clear hX hd
            cases d with
            | false =>
              go_wp2_with fail
              go_roundw
              case rel => exact ⟨j + 1, _, by omega, by go_num, hT, q9, q11, hts, hvs, hb⟩
              case measure => simp [intOf]; omega
            | true =>
              by_cases hjv : j < vals.length
              · have evl : decide ((j : Int) < (vals.length : Int)) = true := by simp; omega
                have hAt := fun W => At_in B2 j W hB2L (by omega)
                have hPt := fun x y W => Put_in B2 j x y W hB2L (by omega)
                have hcc := okC_get hT.ok (show j < B2.length by omega)
                obtain ⟨voff, rfl, hvc⟩ := hvs (by intro h0; have := congrArg List.length h0; simp at this; simp [this] at hjv)
                have hvk := hvc j _ (iv_get hjv)
                clear hvc
                have hvv := hvo vals[j] (List.getElem_mem hjv)
                obtain ⟨vx, hvx⟩ : ∃ vx, vx = vals[j] := ⟨_, rfl⟩
                obtain ⟨cx, hcx⟩ : ∃ cx, cx = (B2[j]'(by omega)).1 := ⟨_, rfl⟩
                obtain ⟨cy, hcy⟩ : ∃ cy, cy = (B2[j]'(by omega)).2 := ⟨_, rfl⟩
                rw [← hvx] at hvk hvv
                rw [← hcx, ← hcy] at hcc hAt
                have HVX := Lib.hid hvx
                clear hvx hcx hcy
                go_wp2_with ((with_reducible refine at_ld 32 9 ?_); refine wpList_ld rfl (.tmp 9) rfl g9 rfl B2 q9 ?_)
                refine (hAt _).mono ?_
                rintro e w5 ⟨rfl, hb5⟩
                replace q9 := q9.ext hb5
                replace q11 := q11.ext hb5
                replace hts := Sl.ext hts hb5
                replace hvs := Sl.ext hvs hb5
                replace hb := hb.trans (hb5.mono hb.size)
                clear hb5
                clear hAt
                have hq9 := Nat.ne_of_lt q9.lt
                have hq11 := Nat.ne_of_lt q11.lt
                have l := BoxC.new_ w5 cx cy
                have hN15 := hb.size
                replace q9 := q9.alloc (.cells #[.int .i32 cx, .int .u32 (cy : Int)] 29)
                replace q11 := q11.alloc (.cells #[.int .i32 cx, .int .u32 (cy : Int)] 29)
                replace hts := Sl.alloc hts (.cells #[.int .i32 cx, .int .u32 (cy : Int)] 29)
                replace hvs := Sl.alloc hvs (.cells #[.int .i32 cx, .int .u32 (cy : Int)] 29)
                replace hb := hb.alloc hb.size (.cells #[.int .i32 cx, .int .u32 (cy : Int)] 29)
                obtain ⟨wc, hwc⟩ : ∃ wc, wc = w5.alloc (.cells #[.int .i32 cx, .int .u32 (cy : Int)] 29) := ⟨_, rfl⟩
                obtain ⟨g15, hg15⟩ : ∃ g15, g15 = w5.heap.size := ⟨_, rfl⟩
                go_wp2_with ((with_reducible refine at_ld 32 9 ?_); refine wpList_ld rfl (.tmp 9) rfl g9 rfl B2 q9 ?_)
                clear hvk
                simp only [← hg15] at l hN15 ⊢
                rw [← hwc] at q9 q11 hts hvs hb l ⊢
                have hg9 : g9 ≠ g15 := by rw [hg15]; exact hq9
                have hg11 : g11 ≠ g15 := by rw [hg15]; exact hq11
                have hgw : w.heap.size ≤ g15 := hN15
                clear hwc hg15 hq9 hq11
                have l0 := l.c0
                have lf := l.fr 0
                have hvk := iv_at hvs hjv
                rw [← HVX.out] at hvk
                refine wp_region_held_drew (S := fun w' => w'.cell? ⟨vb, voff + j, none⟩ = some (.int .i32 vx)) (by kernel_rfl) ?_ (fun hHeld => ?_)
                · exact hvk
                refine wpAnyH_take (i := 0) (v := ?zv0) (by simp only [List.getElem?_toArray, List.getElem?_cons_zero]; rfl) (by kernel_rfl) (by kernel_rfl) (by kernel_rfl) (by exact fun _ _ _ h => h) (Or.inl ⟨by kernel_rfl, ?zy0⟩) hHeld ?_
                case zy0 => (intro w hSw; (try dsimp only at hSw); have hy0 := hSw; clear hSw; go_simp; try (with_reducible rfl))
                try simp only [Act.put, List.setIfInBounds_toArray, List.set_cons_zero, List.set_cons_succ]
                refine wpAnyH_take (i := 2) (v := ?zv2) (by simp only [List.getElem?_toArray, List.getElem?_cons_succ, List.getElem?_cons_zero]; rfl) (by kernel_rfl) (by kernel_rfl) (by kernel_rfl) (by exact fun _ _ _ h => h) (Or.inl ⟨by kernel_rfl, ?zy2⟩) hHeld ?_
                case zy2 => (intro w hSw; (try dsimp only at hSw); have hy0 := hSw; clear hSw; go_simp; try (with_reducible rfl))
                try simp only [Act.put, List.setIfInBounds_toArray, List.set_cons_zero, List.set_cons_succ]
                refine wpAnyH_take (i := 3) (v := ?zv3) (by simp only [List.getElem?_toArray, List.getElem?_cons_succ, List.getElem?_cons_zero]; rfl) (by kernel_rfl) (by kernel_rfl) (by kernel_rfl) (by exact fun _ _ _ h => h) (Or.inl ⟨by kernel_rfl, ?zy3⟩) hHeld ?_
                case zy3 => (intro w hSw; (try dsimp only at hSw); have hy0 := hSw; clear hSw; go_simp; try (with_reducible rfl))
                try simp only [Act.put, List.setIfInBounds_toArray, List.set_cons_zero, List.set_cons_succ]
                refine wpAnyH_take (i := 4) (v := ?zv4) (by simp only [List.getElem?_toArray, List.getElem?_cons_succ, List.getElem?_cons_zero]; rfl) (by kernel_rfl) (by kernel_rfl) (by kernel_rfl) (by exact fun _ _ _ h => h) (Or.inl ⟨by kernel_rfl, ?zy4⟩) hHeld ?_
                case zy4 => (intro w hSw; (try dsimp only at hSw); have hy0 := hSw; clear hSw; go_simp; try (with_reducible rfl))
                try simp only [Act.put, List.setIfInBounds_toArray, List.set_cons_zero, List.set_cons_succ]
                refine wpAnyH_take (i := 5) (v := ?zv5) (by simp only [List.getElem?_toArray, List.getElem?_cons_succ, List.getElem?_cons_zero]; rfl) (by kernel_rfl) (by kernel_rfl) (by kernel_rfl) (by exact fun _ _ _ h => h) (Or.inl ⟨by kernel_rfl, ?zy5⟩) hHeld ?_
                case zy5 => (intro w hSw; (try dsimp only at hSw); have hy0 := hSw; clear hSw; go_simp; try (with_reducible rfl))
                try simp only [Act.put, List.setIfInBounds_toArray, List.set_cons_zero, List.set_cons_succ]
                refine wpAnyH_ready (rs := [1]) (by kernel_rfl) (by simp) ?_
                refine AllReadyH.cons (by simp only [List.getElem?_toArray, List.getElem?_cons_succ, List.getElem?_cons_zero]; rfl) (fun KK hKK => ?_) AllReadyH.nil
                rw [if_pos (by kernel_rfl)]
                go_simp
                refine hKK.out _ _ ?_ (fun hHeld => ?_)
                · exact hvk
                clear hKK KK
                try simp only [Act.put, List.setIfInBounds_toArray, List.set_cons_zero, List.set_cons_succ]
                refine wpAnyH_take (i := 6) (v := ?zv6) (by simp only [List.getElem?_toArray, List.getElem?_cons_succ, List.getElem?_cons_zero]; rfl) (by kernel_rfl) (by kernel_rfl) (by kernel_rfl) (by exact fun _ _ _ h => h) (Or.inl ⟨by kernel_rfl, ?zy6⟩) hHeld ?_
                case zy6 => (intro w hSw; (try dsimp only at hSw); have hy0 := hSw; clear hSw; go_simp; try (with_reducible rfl))
                try simp only [Act.put, List.setIfInBounds_toArray, List.set_cons_zero, List.set_cons_succ]
                refine wpAnyH_take (i := 7) (v := ?zv7) (by simp only [List.getElem?_toArray, List.getElem?_cons_succ, List.getElem?_cons_zero]; rfl) (by kernel_rfl) (by kernel_rfl) (by kernel_rfl) (by exact fun _ _ _ h => h) (Or.inl ⟨by kernel_rfl, ?zy7⟩) hHeld ?_
                case zy7 => (intro w hSw; (try dsimp only at hSw); have hy0 := hSw; clear hSw; go_simp; try (with_reducible rfl))
                try simp only [Act.put, List.setIfInBounds_toArray, List.set_cons_zero, List.set_cons_succ]
                refine wpAnyH_ready (rs := [8]) (by kernel_rfl) (by simp) ?_
                refine AllReadyH.cons (by simp only [List.getElem?_toArray, List.getElem?_cons_succ, List.getElem?_cons_zero]; rfl) (fun KK hKK => ?_) AllReadyH.nil
                rw [if_pos (by kernel_rfl)]
                go_simp
                refine hKK.out _ _ ?_ (fun hHeld => ?_)
                · exact iv_far hvk (by have := hlv (by omega); simp only; omega) _
                clear hKK KK
                try simp only [Act.put, List.setIfInBounds_toArray, List.set_cons_zero, List.set_cons_succ]
                refine wpAnyH_done (by kernel_rfl) ?_ _
                go_wp2_with ((with_reducible refine at_ld 32 9 ?_); refine wpList_ld rfl (.tmp 9) rfl g9 rfl B2 q9 ?_)
                obtain ⟨X, hX⟩ : ∃ X, X = IntKind.i32.wrap (cx + vx) := ⟨_, rfl⟩
                have hXb : -2147483648 ≤ X ∧ X ≤ 2147483647 := by rw [hX, IntKind.wrap_i32]; omega
                rw [← hX]
                clear hX
                obtain ⟨wd, hwd⟩ : ∃ wd, wd = (wc.setCell ⟨g15, 0, none⟩ (.int .i32 X)).drew := ⟨_, rfl⟩
                have l : BoxC wd g15 X cy := by rw [hwd]; exact l.set0 X
                have hts : Sl wd tb (some ⟨tb, toff, none⟩) (uv turns) := by rw [hwd]; exact Sl.setCell hts (by have := hlt0 (by omega); simp only; omega) _
                have hvs : Sl wd vb (some ⟨vb, voff, none⟩) (iv vals) := by rw [hwd]; exact Sl.setCell hvs (by have := hlv (by omega); simp only; omega) _
                have q9 : BoxL wd g9 B2 := by rw [hwd]; exact q9.other hg9 _
                have q11 : BoxL wd g11 (viewL o B) := by rw [hwd]; exact q11.other hg11 _
                have hb : Below w.heap.size w wd := by rw [hwd]; exact below_drew (hb.setCell hgw _)
                rw [← hwd]
                clear hwd hHeld hvk l0 lf
                have l1 := l.c1
                have lf := l.fr 1
                go_wp2_with ((with_reducible refine at_ld 32 9 ?_); refine wpList_ld rfl (.tmp 9) rfl g9 rfl B2 q9 ?_)
                obtain ⟨r, hr⟩ : ∃ r : Nat, r = k % 8 := ⟨_, rfl⟩
                have e8 : (k : Int).tmod 8 = (r : Int) := by rw [Int.tmod_eq_emod_of_nonneg (by omega)]; omega
                have hr8 : (r : Int) ≤ 32 := by omega
                have hr0 : (0 : Int) ≤ (r : Int) := by omega
                obtain ⟨P, hP⟩ : ∃ P : Nat, P = 2 ^ r := ⟨_, rfl⟩
                have hPl : P < 4294967296 := by rw [hP]; have := Nat.pow_lt_pow_right (a := 2) (by omega) (show r < 32 by omega); omega
                have eP : IntKind.u32.wrap (2 ^ r) = (P : Int) := by rw [show (2 ^ r : Int) = (P : Int) by rw [hP]; simp]; exact IntWalk.u32_in _ (by omega)
                obtain ⟨Y, hY⟩ : ∃ Y : Nat, Y = cy ^^^ P := ⟨_, rfl⟩
                have hYl : Y < 4294967296 := by rw [hY]; exact Nat.xor_lt_two_pow (n := 32) hcc.2 (by omega)
                have ex : bits .xor .u32 (cy : Int) (P : Int) = (Y : Int) := by rw [hY]; exact u32_xor_nat cy P hcc.2 hPl
                clear hr hP hY
                refine wp_region_held_drew (S := fun _ => True) (by kernel_rfl) ?_ (fun hHeld => ?_)
                · exact trivial
                refine wpAnyH_take (i := 0) (v := ?yv0) (by simp only [List.getElem?_toArray, List.getElem?_cons_zero]; rfl) (by kernel_rfl) (by kernel_rfl) (by kernel_rfl) (by exact fun _ _ _ h => h) (Or.inl ⟨by kernel_rfl, ?yy0⟩) hHeld ?_
                case yy0 => (intro w hSw; (try dsimp only at hSw); clear hSw; go_simp; try (with_reducible rfl))
                try simp only [Act.put, List.setIfInBounds_toArray, List.set_cons_zero, List.set_cons_succ]
                refine wpAnyH_take (i := 2) (v := ?yv2) (by simp only [List.getElem?_toArray, List.getElem?_cons_succ, List.getElem?_cons_zero]; rfl) (by kernel_rfl) (by kernel_rfl) (by kernel_rfl) (by exact fun _ _ _ h => h) (Or.inl ⟨by kernel_rfl, ?yy2⟩) hHeld ?_
                case yy2 => (intro w hSw; (try dsimp only at hSw); clear hSw; go_simp; try (with_reducible rfl))
                try simp only [Act.put, List.setIfInBounds_toArray, List.set_cons_zero, List.set_cons_succ]
                refine wpAnyH_take (i := 3) (v := ?yv3) (by simp only [List.getElem?_toArray, List.getElem?_cons_succ, List.getElem?_cons_zero]; rfl) (by kernel_rfl) (by kernel_rfl) (by kernel_rfl) (by exact fun _ _ _ h => h) (Or.inl ⟨by kernel_rfl, ?yy3⟩) hHeld ?_
                case yy3 => (intro w hSw; (try dsimp only at hSw); clear hSw; go_simp; try (with_reducible rfl))
                try simp only [Act.put, List.setIfInBounds_toArray, List.set_cons_zero, List.set_cons_succ]
                refine wpAnyH_take (i := 4) (v := ?yv4) (by simp only [List.getElem?_toArray, List.getElem?_cons_succ, List.getElem?_cons_zero]; rfl) (by kernel_rfl) (by kernel_rfl) (by kernel_rfl) (by exact fun _ _ _ h => h) (Or.inl ⟨by kernel_rfl, ?yy4⟩) hHeld ?_
                case yy4 => (intro w hSw; (try dsimp only at hSw); clear hSw; go_simp; try (with_reducible rfl))
                try simp only [Act.put, List.setIfInBounds_toArray, List.set_cons_zero, List.set_cons_succ]
                refine wpAnyH_ready (rs := [1]) (by kernel_rfl) (by simp) ?_
                refine AllReadyH.cons (by simp only [List.getElem?_toArray, List.getElem?_cons_succ, List.getElem?_cons_zero]; rfl) (fun KK hKK => ?_) AllReadyH.nil
                rw [if_pos (by kernel_rfl)]
                go_simp
                refine hKK.out _ _ ?_ (fun hHeld => ?_)
                · exact trivial
                clear hKK KK
                try simp only [Act.put, List.setIfInBounds_toArray, List.set_cons_zero, List.set_cons_succ]
                refine wpAnyH_take (i := 5) (v := ?yv5) (by simp only [List.getElem?_toArray, List.getElem?_cons_succ, List.getElem?_cons_zero]; rfl) (by kernel_rfl) (by kernel_rfl) (by kernel_rfl) (by exact fun _ _ _ h => h) (Or.inl ⟨by kernel_rfl, ?yy5⟩) hHeld ?_
                case yy5 => (intro w hSw; (try dsimp only at hSw); clear hSw; go_simp; try (with_reducible rfl))
                try simp only [Act.put, List.setIfInBounds_toArray, List.set_cons_zero, List.set_cons_succ]
                refine wpAnyH_take (i := 6) (v := ?yv6) (by simp only [List.getElem?_toArray, List.getElem?_cons_succ, List.getElem?_cons_zero]; rfl) (by kernel_rfl) (by kernel_rfl) (by kernel_rfl) (by exact fun _ _ _ h => h) (Or.inl ⟨by kernel_rfl, ?yy6⟩) hHeld ?_
                case yy6 => (intro w hSw; (try dsimp only at hSw); clear hSw; go_simp; try (with_reducible rfl))
                try simp only [Act.put, List.setIfInBounds_toArray, List.set_cons_zero, List.set_cons_succ]
                refine wpAnyH_ready (rs := [7]) (by kernel_rfl) (by simp) ?_
                refine AllReadyH.cons (by simp only [List.getElem?_toArray, List.getElem?_cons_succ, List.getElem?_cons_zero]; rfl) (fun KK hKK => ?_) AllReadyH.nil
                rw [if_pos (by kernel_rfl)]
                go_simp
                refine hKK.out _ _ ?_ (fun hHeld => ?_)
                · exact trivial
                clear hKK KK
                try simp only [Act.put, List.setIfInBounds_toArray, List.set_cons_zero, List.set_cons_succ]
                refine wpAnyH_done (by kernel_rfl) ?_ _
                obtain ⟨wx, hwx⟩ : ∃ wx, wx = (wd.setCell ⟨g15, 1, none⟩ (.int .u32 (Y : Int))).drew := ⟨_, rfl⟩
                have l : BoxC wx g15 X Y := by rw [hwx]; exact l.set1 Y
                have hts : Sl wx tb (some ⟨tb, toff, none⟩) (uv turns) := by rw [hwx]; exact Sl.setCell hts (by have := hlt0 (by omega); simp only; omega) _
                have hvs : Sl wx vb (some ⟨vb, voff, none⟩) (iv vals) := by rw [hwx]; exact Sl.setCell hvs (by have := hlv (by omega); simp only; omega) _
                have q9 : BoxL wx g9 B2 := by rw [hwx]; exact q9.other hg9 _
                have q11 : BoxL wx g11 (viewL o B) := by rw [hwx]; exact q11.other hg11 _
                have hb : Below w.heap.size w wx := by rw [hwx]; exact below_drew (hb.setCell hgw _)
                rw [← hwx]
                clear hwx hHeld l1 lf e8 hr8 hr0 eP ex
                obtain ⟨l0, l1⟩ := And.intro l.c0 l.c1
                go_wp2_with ((with_reducible refine at_ld 32 9 ?_); refine wpList_ld rfl (.tmp 9) rfl g9 rfl B2 q9 ?_)
                refine (hPt X Y _).mono ?_
                rintro e w6 ⟨rfl, hb6⟩
                replace q9 := q9.ext hb6
                replace q11 := q11.ext hb6
                replace hts := Sl.ext hts hb6
                replace hvs := Sl.ext hvs hb6
                replace hb := hb.trans (hb6.mono hb.size)
                clear hb6
                clear hPt l0 l1
                go_wp2_with (first | ((with_reducible refine at_st 32 9 84 ?_); refine wpList_st rfl (.tmp 9) (.tmp 84) rfl g9 B2 (B2.set j (X, Y)) rfl rfl q9 ?_) | ((with_reducible refine at_ld 32 9 ?_); refine wpList_ld rfl (.tmp 9) rfl g9 rfl B2 q9 ?_))
                go_roundw
                case rel => exact ⟨j + 1, _, by omega, by go_num, HX.out (X, Y) (by trivial) ⟨hXb, hYl⟩, q9.row_ _, q11.orow (Ne.symm hgg.2.2) _, sl_row_ne hts (fun _ => by have := hlt0 (by omega); omega) _, sl_row_ne hvs (fun _ => by have := hlv (by omega); omega) _, below_setRow hb g9 _ (by omega)⟩
                case measure => simp [intOf]; omega
              · have evl : decide ((j : Int) < (vals.length : Int)) = false := by simp; omega
                go_wp2_with fail
                go_roundw
                case rel => exact ⟨j + 1, _, by omega, by go_num, hT, q9, q11, hts, hvs, hb⟩
                case measure => simp [intOf]; omega
          · obtain rfl : j = M.length := by omega
            have hBo2 := hT.ok
            have hVBl : (viewL o B).length = M.length := by simp [hBl]
            have hV2l : (viewL o B2).length = M.length := by simp [hB2]
            have hOf := fun W => Of_calls B2 t o k W hB2L hBo2 htl (by omega)
            have hView := fun W => View_calls B2 o W hB2L hBo2
            rw [hB2] at hOf
            have hA : ∀ (W : World) (Ap Ac : Option Addr) (cp cc bp bc : Nat) (_ : Bs W bp Ap (placesB t M.length)) (_ : Sl W bc Ac (cv (cellsTo (viewL o B2) t M.length))), Calls Try.prog 17 #[.agg #[.int .u32 k, .int .u32 (hashL (viewL o B2) : Nat), .slice Ap (placesB t M.length).length cp, .slice Ac (cellsTo (viewL o B2) t M.length).length cc], .agg (bdL (viewL o B))] W fun e w' => e = .returned (.tuple #[.agg (bdL (viewL o B2)), .int .i64 0]) ∧ Below W.heap.size W w' := by
              intro W Ap Ac cp cc bp bc h1 h2
              have hpt := (hT.view o).resolve_right (by omega)
              rw [hB2] at hpt
              have := Apply_calls k (hashL (viewL o B2)) Ap (placesB t M.length) _ cp bp Ac (cellsTo (viewL o B2) t M.length) _ cc bc (viewL o B) true W h1 rfl h2 rfl (by simp) (by have := placesTo_len t M.length; simp; omega) (by omega) (okC_view hBo o) (cellsTo_ok (okC_view hBo2 o) t M.length) (fun i hi => by rw [hVBl]; exact placesB_lt (by omega) hi) (by rw [hpt]; simp)
              rw [hpt] at this
              simpa using this
            obtain ⟨H2, hH2⟩ : ∃ H2, H2 = hashL (viewL o B2) := ⟨_, rfl⟩
            obtain ⟨VB, hVB⟩ : ∃ VB, VB = viewL o B := ⟨_, rfl⟩
            obtain ⟨V2, hV2⟩ : ∃ V2, V2 = viewL o B2 := ⟨_, rfl⟩
            obtain ⟨np, hnp⟩ : ∃ np, np = (placesB t M.length).length := ⟨_, rfl⟩
            obtain ⟨nc, hnc'⟩ : ∃ nc, nc = (cellsTo (viewL o B2) t M.length).length := ⟨_, rfl⟩
            rw [← hV2] at hnc'
            rw [← hH2, ← hV2] at hOf
            rw [← hH2, ← hVB, ← hV2, ← hnp, ← hnc'] at hA
            rw [← hVB] at hVBl q11
            rw [← hV2] at hV2l hView
            have HNP := Lib.hid hnp
            have HNC := Lib.hid hnc'
            have HV2 := Lib.hid hV2
            have hV2L : V2.length ≤ 48 := by omega
            obtain ⟨ps, hps0⟩ : ∃ ps, ps = placesB t M.length := ⟨_, rfl⟩
            obtain ⟨cs, hcs0⟩ : ∃ cs, cs = cellsTo V2 t M.length := ⟨_, rfl⟩
            rw [← hps0] at hOf hA HNP
            rw [← hcs0] at hOf hA HNC
            have ek : IntKind.u32.wrap (k : Int) = (k : Int) := IntWalk.u32_in _ (by omega)
            clear hH2 hVB hV2 hnp hnc' hps0 hcs0 hT hVBl hV2l
            go_upto_region 19 with fail
            obtain ⟨wq, rfl⟩ : ∃ wq : World, wq = wr := ⟨_, rfl⟩
            go_cut [17, 18] (fun s17 s18 wx => ∃ (G : Nat) (wz : World), wz = wx ∧ s17 = .pointer (some ⟨G, 0, none⟩) ∧ s18 = .int .i64 0 ∧ BoxL wz G V2 ∧ BoxL wz g9 B2 ∧ BoxL wz g11 VB ∧ Sl wz tb (some ⟨tb, toff, none⟩) (uv turns) ∧ Sl wz vb VA (iv vals) ∧ Below w.heap.size w wz)
            case first =>
              clear hView ej
              refine wp_region_held_drew (S := fun w' => BoxL w' g9 B2 ∧ BoxL w' g11 VB) (by kernel_rfl) ?_ (fun hHeld => ?_)
              · exact ⟨q9, q11⟩
              obtain ⟨wd2, hwd2⟩ : ∃ wd2, wd2 = World.drew wq := ⟨_, rfl⟩
              have h9 : Below wq.heap.size wq wd2 := by rw [hwd2]; exact below_drew (Below.refl _ _)
              rw [← hwd2] at hHeld ⊢
              replace q9 := q9.ext h9
              replace q11 := q11.ext h9
              replace hts := Sl.ext hts h9
              replace hvs := Sl.ext hvs h9
              replace hb := hb.trans (h9.mono hb.size)
              clear h9
              clear hwd2
              refine wpAnyH_take (i := 0) (by simp only [List.getElem?_toArray, List.getElem?_cons_zero]; rfl) (by kernel_rfl) (by kernel_rfl) (by kernel_rfl) (by exact fun _ _ _ h => h) (by exact yieldsIf_ld (by kernel_rfl) (.tmp 9) rfl g9 rfl B2 (fun w h => h.1)) hHeld ?_
              try simp only [Act.put, List.setIfInBounds_toArray, List.set_cons_zero, List.set_cons_succ]
              refine wpAnyH_take (i := 1) (v := ?vt13) (by simp only [List.getElem?_toArray, List.getElem?_cons_succ, List.getElem?_cons_zero]; rfl) (by kernel_rfl) (by kernel_rfl) (by kernel_rfl) (by exact fun _ _ _ h => h) (Or.inl ⟨by kernel_rfl, ?yt13⟩) hHeld ?_
              case yt13 => (intro ww hSw; (try dsimp only at hSw); clear hSw; go_simp; try (with_reducible rfl))
              try simp only [Act.put, List.setIfInBounds_toArray, List.set_cons_zero, List.set_cons_succ]
              refine wpAnyH_take (i := 2) (v := ?vt14) (by simp only [List.getElem?_toArray, List.getElem?_cons_succ, List.getElem?_cons_zero]; rfl) (by kernel_rfl) (by kernel_rfl) (by kernel_rfl) (by exact fun _ _ _ h => h) (Or.inl ⟨by kernel_rfl, ?yt14⟩) hHeld ?_
              case yt14 => (intro ww hSw; (try dsimp only at hSw); clear hSw; go_simp; try (with_reducible rfl))
              try simp only [Act.put, List.setIfInBounds_toArray, List.set_cons_zero, List.set_cons_succ]
              refine wpAnyH_take (i := 3) (v := ?vt15) (by simp only [List.getElem?_toArray, List.getElem?_cons_succ, List.getElem?_cons_zero]; rfl) (by kernel_rfl) (by kernel_rfl) (by kernel_rfl) (by exact fun _ _ _ h => h) (Or.inl ⟨by kernel_rfl, ?yt15⟩) hHeld ?_
              case yt15 => (intro ww hSw; (try dsimp only at hSw); clear hSw; go_simp; try (with_reducible rfl))
              try simp only [Act.put, List.setIfInBounds_toArray, List.set_cons_zero, List.set_cons_succ]
              refine wpAnyH_take (i := 4) (v := ?vt16) (by simp only [List.getElem?_toArray, List.getElem?_cons_succ, List.getElem?_cons_zero]; rfl) (by kernel_rfl) (by kernel_rfl) (by kernel_rfl) (by exact fun _ _ _ h => h) (Or.inl ⟨by kernel_rfl, ?yt16⟩) hHeld ?_
              case yt16 => (intro ww hSw; (try dsimp only at hSw); clear hSw; go_simp; try (with_reducible rfl))
              try simp only [Act.put, List.setIfInBounds_toArray, List.set_cons_zero, List.set_cons_succ]
              refine wpAnyH_take (i := 6) (by simp only [List.getElem?_toArray, List.getElem?_cons_succ, List.getElem?_cons_zero]; rfl) (by kernel_rfl) (by kernel_rfl) (by kernel_rfl) (by exact fun _ _ _ h => h) (by exact yieldsIf_ld (by kernel_rfl) (.tmp 11) rfl g11 rfl VB (fun w h => h.2)) hHeld ?_
              try simp only [Act.put, List.setIfInBounds_toArray, List.set_cons_zero, List.set_cons_succ]
              refine wpAnyH_ready (rs := [5, 11]) (by kernel_rfl) (by simp) ?_
              refine AllReadyH.cons (by simp only [List.getElem?_toArray, List.getElem?_cons_succ, List.getElem?_cons_zero]; rfl) (fun KK hKK => ?_) (AllReadyH.cons (by simp only [List.getElem?_toArray, List.getElem?_cons_succ, List.getElem?_cons_zero]; rfl) (fun KK hKK => ?_) AllReadyH.nil)
              · skip
                rw [if_pos (by kernel_rfl)]
                go_simp
                (with_reducible refine (hOf _).mono ?_)
                rintro e wc8 ⟨vp, vc, rfl, hp, hc, g7⟩
                replace q9 := q9.ext g7
                replace q11 := q11.ext g7
                replace hts := Sl.ext hts g7
                replace hvs := Sl.ext hvs g7
                replace hb := hb.trans (g7.mono hb.size)
                clear g7
                obtain ⟨Ap, cp, bp, hvp, -, -, -, -, hps, -⟩ := Row.sl hp
                obtain ⟨Ac, cc, bc, hvc, -, -, -, -, hcs, -⟩ := RowC.sl hc
                rw [← HNP.out] at hvp
                rw [← HNC.out] at hvc
                subst hvp hvc
                clear hp hc
                go_wp2_with fail
                refine hKK.out _ _ ?_ (fun hHeld => ?_)
                · exact ⟨q9, q11⟩
                clear hKK KK
                try simp only [Act.put, List.setIfInBounds_toArray, List.set_cons_zero, List.set_cons_succ]
                refine wpAnyH_ready (rs := [7, 11]) (by kernel_rfl) (by simp) ?_
                refine AllReadyH.cons (by simp only [List.getElem?_toArray, List.getElem?_cons_succ, List.getElem?_cons_zero]; rfl) (fun KK hKK => ?_) (AllReadyH.cons (by simp only [List.getElem?_toArray, List.getElem?_cons_succ, List.getElem?_cons_zero]; rfl) (fun KK hKK => ?_) AllReadyH.nil)
                · skip
                  rw [if_pos (by kernel_rfl)]
                  go_simp
                  (with_reducible refine (hA _ Ap Ac cp cc bp bc hps hcs).mono ?_)
                  rintro e wc10 ⟨rfl, g9⟩
                  replace q9 := q9.ext g9
                  replace q11 := q11.ext g9
                  replace hts := Sl.ext hts g9
                  replace hvs := Sl.ext hvs g9
                  replace hps := Sl.ext hps g9
                  replace hcs := Sl.ext hcs g9
                  replace hb := hb.trans (g9.mono hb.size)
                  clear g9
                  clear hps hcs
                  go_wp2_with fail
                  refine hKK.out _ _ ?_ (fun hHeld => ?_)
                  · exact ⟨q9, q11⟩
                  clear hKK KK
                  try simp only [Act.put, List.setIfInBounds_toArray, List.set_cons_zero, List.set_cons_succ]
                  refine wpAnyH_take (i := 8) (v := ?vt111) (by simp only [List.getElem?_toArray, List.getElem?_cons_succ, List.getElem?_cons_zero]; rfl) (by kernel_rfl) (by kernel_rfl) (by kernel_rfl) (by exact fun _ _ _ h => h) (Or.inl ⟨by kernel_rfl, ?yt111⟩) hHeld ?_
                  case yt111 => (intro ww hSw; (try dsimp only at hSw); clear hSw; go_simp; try (with_reducible rfl))
                  try simp only [Act.put, List.setIfInBounds_toArray, List.set_cons_zero, List.set_cons_succ]
                  refine wpAnyH_take (i := 9) (v := ?vt112) (by simp only [List.getElem?_toArray, List.getElem?_cons_succ, List.getElem?_cons_zero]; rfl) (by kernel_rfl) (by kernel_rfl) (by kernel_rfl) (by exact fun _ _ _ h => h) (Or.inl ⟨by kernel_rfl, ?yt112⟩) hHeld ?_
                  case yt112 => (intro ww hSw; (try dsimp only at hSw); clear hSw; go_simp; try (with_reducible rfl))
                  try simp only [Act.put, List.setIfInBounds_toArray, List.set_cons_zero, List.set_cons_succ]
                  refine wpAnyH_take (i := 10) (v := ?vt113) (by simp only [List.getElem?_toArray, List.getElem?_cons_succ, List.getElem?_cons_zero]; rfl) (by kernel_rfl) (by kernel_rfl) (by kernel_rfl) (by exact fun _ _ _ h => h) (Or.inl ⟨by kernel_rfl, ?yt113⟩) hHeld ?_
                  case yt113 => (intro ww hSw; (try dsimp only at hSw); clear hSw; go_simp; try (with_reducible rfl))
                  try simp only [Act.put, List.setIfInBounds_toArray, List.set_cons_zero, List.set_cons_succ]
                  refine wpAnyH_ready (rs := [11]) (by kernel_rfl) (by simp) ?_
                  refine AllReadyH.cons (by simp only [List.getElem?_toArray, List.getElem?_cons_succ, List.getElem?_cons_zero]; rfl) (fun KK hKK => ?_) AllReadyH.nil
                  rw [if_pos (by kernel_rfl)]
                  have ne_q9_k17 := Nat.ne_of_lt q9.lt
                  have ne_q11_k17 := Nat.ne_of_lt q11.lt
                  have ne_hts_k17 := fun h => Nat.ne_of_lt (Sl.lt hts h)
                  have ne_hvs_k17 := fun h => Nat.ne_of_lt (Sl.lt hvs h)
                  refine wp_al rfl ?_
                  obtain ⟨wa14, hwa14⟩ : ∃ wa14, wa14 = wc10.alloc (.cells (bdL []) 32) := ⟨_, rfl⟩
                  have h9 : Below wc10.heap.size wc10 wa14 := by rw [hwa14]; exact below_alloc1 _ _
                  have q17 : BoxL wa14 wc10.heap.size [] := by rw [hwa14]; exact BoxL.new_ _ _
                  rw [← hwa14]
                  clear hwa14
                  have ha_k17 := hb.size
                  replace q9 := q9.ext h9
                  replace q11 := q11.ext h9
                  replace hts := Sl.ext hts h9
                  replace hvs := Sl.ext hvs h9
                  replace hb := hb.trans (h9.mono hb.size)
                  clear h9
                  refine hKK.out _ _ ?_ (fun hHeld => ?_)
                  · exact ⟨q9, q11⟩
                  clear hKK KK
                  try simp only [Act.put, List.setIfInBounds_toArray, List.set_cons_zero, List.set_cons_succ]
                  refine wpAnyH_ready (rs := [12]) (by kernel_rfl) (by simp) ?_
                  refine AllReadyH.cons (by simp only [List.getElem?_toArray, List.getElem?_cons_succ, List.getElem?_cons_zero]; rfl) (fun KK hKK => ?_) AllReadyH.nil
                  rw [if_pos (by kernel_rfl)]
                  refine wp_store_row 32 (.tmp 17) (.tmp 96) rfl (wc10.heap.size) (bdL V2) rfl rfl _ _ q17 (bd_size _ _ _) (by rw [bdL_size, bdL_size]) (bdA_all _ _ _) ?_
                  obtain ⟨ws15, hws15⟩ : ∃ ws15, ws15 = wa14.setRow (wc10.heap.size) (bdL V2) := ⟨_, rfl⟩
                  replace q9 := q9.orow ne_q9_k17 (bdL V2)
                  replace q11 := q11.orow ne_q11_k17 (bdL V2)
                  replace hts := sl_row_ne hts ne_hts_k17 (bdL V2)
                  replace hvs := sl_row_ne hvs ne_hvs_k17 (bdL V2)
                  replace q17 := q17.row_ V2
                  replace hb := below_setRow hb (wc10.heap.size) (bdL V2) (by omega)
                  rw [← hws15] at hb ⊢
                  rw [← hws15] at q9 q11 hts hvs q17
                  clear hws15
                  refine hKK.out _ _ ?_ (fun hHeld => ?_)
                  · exact ⟨q9, q11⟩
                  clear hKK KK
                  try simp only [Act.put]
                  refine wpAnyH_take (i := 13) (v := ?vt116) (by simp only [List.getElem?_toArray, List.getElem?_cons_succ, List.getElem?_cons_zero]; rfl) (by kernel_rfl) (by kernel_rfl) (by kernel_rfl) (by exact fun _ _ _ h => h) (Or.inl ⟨by kernel_rfl, ?yt116⟩) hHeld ?_
                  case yt116 => (intro ww hSw; (try dsimp only at hSw); clear hSw; go_simp; try (with_reducible rfl))
                  try simp only [Act.put, List.setIfInBounds_toArray, List.set_cons_zero, List.set_cons_succ]
                  refine wpAnyH_done (by kernel_rfl) ?_ _
                  go_wp2_with fail
                  go_meet
                  exact ⟨_, _, rfl, rfl, rfl, q17, q9, q11, hts, hvs, hb⟩
                · skip
                  rw [if_pos (by kernel_rfl)]
                  have ne_q9_k17 := Nat.ne_of_lt q9.lt
                  have ne_q11_k17 := Nat.ne_of_lt q11.lt
                  have ne_hts_k17 := fun h => Nat.ne_of_lt (Sl.lt hts h)
                  have ne_hvs_k17 := fun h => Nat.ne_of_lt (Sl.lt hvs h)
                  have ne_hps_k17 := fun h => Nat.ne_of_lt (Sl.lt hps h)
                  have ne_hcs_k17 := fun h => Nat.ne_of_lt (Sl.lt hcs h)
                  refine wp_al rfl ?_
                  obtain ⟨wa17, hwa17⟩ : ∃ wa17, wa17 = wc8.alloc (.cells (bdL []) 32) := ⟨_, rfl⟩
                  have h9 : Below wc8.heap.size wc8 wa17 := by rw [hwa17]; exact below_alloc1 _ _
                  have q17 : BoxL wa17 wc8.heap.size [] := by rw [hwa17]; exact BoxL.new_ _ _
                  rw [← hwa17]
                  clear hwa17
                  have ha_k17 := hb.size
                  replace q9 := q9.ext h9
                  replace q11 := q11.ext h9
                  replace hts := Sl.ext hts h9
                  replace hvs := Sl.ext hvs h9
                  replace hps := Sl.ext hps h9
                  replace hcs := Sl.ext hcs h9
                  replace hb := hb.trans (h9.mono hb.size)
                  clear h9
                  refine hKK.out _ _ ?_ (fun hHeld => ?_)
                  · exact ⟨q9, q11⟩
                  clear hKK KK
                  try simp only [Act.put, List.setIfInBounds_toArray, List.set_cons_zero, List.set_cons_succ]
                  refine wpAnyH_ready (rs := [7]) (by kernel_rfl) (by simp) ?_
                  refine AllReadyH.cons (by simp only [List.getElem?_toArray, List.getElem?_cons_succ, List.getElem?_cons_zero]; rfl) (fun KK hKK => ?_) AllReadyH.nil
                  rw [if_pos (by kernel_rfl)]
                  go_simp
                  (with_reducible refine (hA _ Ap Ac cp cc bp bc hps hcs).mono ?_)
                  rintro e wc19 ⟨rfl, g18⟩
                  replace q9 := q9.ext g18
                  replace q11 := q11.ext g18
                  replace hts := Sl.ext hts g18
                  replace hvs := Sl.ext hvs g18
                  replace hps := Sl.ext hps g18
                  replace hcs := Sl.ext hcs g18
                  replace q17 := q17.ext g18
                  replace hb := hb.trans (g18.mono hb.size)
                  clear g18
                  clear hps hcs
                  go_wp2_with fail
                  refine hKK.out _ _ ?_ (fun hHeld => ?_)
                  · exact ⟨q9, q11⟩
                  clear hKK KK
                  try simp only [Act.put, List.setIfInBounds_toArray, List.set_cons_zero, List.set_cons_succ]
                  refine wpAnyH_take (i := 8) (v := ?vt120) (by simp only [List.getElem?_toArray, List.getElem?_cons_succ, List.getElem?_cons_zero]; rfl) (by kernel_rfl) (by kernel_rfl) (by kernel_rfl) (by exact fun _ _ _ h => h) (Or.inl ⟨by kernel_rfl, ?yt120⟩) hHeld ?_
                  case yt120 => (intro ww hSw; (try dsimp only at hSw); clear hSw; go_simp; try (with_reducible rfl))
                  try simp only [Act.put, List.setIfInBounds_toArray, List.set_cons_zero, List.set_cons_succ]
                  refine wpAnyH_take (i := 9) (v := ?vt121) (by simp only [List.getElem?_toArray, List.getElem?_cons_succ, List.getElem?_cons_zero]; rfl) (by kernel_rfl) (by kernel_rfl) (by kernel_rfl) (by exact fun _ _ _ h => h) (Or.inl ⟨by kernel_rfl, ?yt121⟩) hHeld ?_
                  case yt121 => (intro ww hSw; (try dsimp only at hSw); clear hSw; go_simp; try (with_reducible rfl))
                  try simp only [Act.put, List.setIfInBounds_toArray, List.set_cons_zero, List.set_cons_succ]
                  refine wpAnyH_take (i := 10) (v := ?vt122) (by simp only [List.getElem?_toArray, List.getElem?_cons_succ, List.getElem?_cons_zero]; rfl) (by kernel_rfl) (by kernel_rfl) (by kernel_rfl) (by exact fun _ _ _ h => h) (Or.inl ⟨by kernel_rfl, ?yt122⟩) hHeld ?_
                  case yt122 => (intro ww hSw; (try dsimp only at hSw); clear hSw; go_simp; try (with_reducible rfl))
                  try simp only [Act.put, List.setIfInBounds_toArray, List.set_cons_zero, List.set_cons_succ]
                  refine wpAnyH_ready (rs := [12]) (by kernel_rfl) (by simp) ?_
                  refine AllReadyH.cons (by simp only [List.getElem?_toArray, List.getElem?_cons_succ, List.getElem?_cons_zero]; rfl) (fun KK hKK => ?_) AllReadyH.nil
                  rw [if_pos (by kernel_rfl)]
                  refine wp_store_row 32 (.tmp 17) (.tmp 96) rfl (wc8.heap.size) (bdL V2) rfl rfl _ _ q17 (bd_size _ _ _) (by rw [bdL_size, bdL_size]) (bdA_all _ _ _) ?_
                  obtain ⟨ws23, hws23⟩ : ∃ ws23, ws23 = wc19.setRow (wc8.heap.size) (bdL V2) := ⟨_, rfl⟩
                  replace q9 := q9.orow ne_q9_k17 (bdL V2)
                  replace q11 := q11.orow ne_q11_k17 (bdL V2)
                  replace hts := sl_row_ne hts ne_hts_k17 (bdL V2)
                  replace hvs := sl_row_ne hvs ne_hvs_k17 (bdL V2)
                  replace q17 := q17.row_ V2
                  replace hb := below_setRow hb (wc8.heap.size) (bdL V2) (by omega)
                  rw [← hws23] at hb ⊢
                  rw [← hws23] at q9 q11 hts hvs q17
                  clear hws23
                  refine hKK.out _ _ ?_ (fun hHeld => ?_)
                  · exact ⟨q9, q11⟩
                  clear hKK KK
                  try simp only [Act.put]
                  refine wpAnyH_take (i := 13) (v := ?vt124) (by simp only [List.getElem?_toArray, List.getElem?_cons_succ, List.getElem?_cons_zero]; rfl) (by kernel_rfl) (by kernel_rfl) (by kernel_rfl) (by exact fun _ _ _ h => h) (Or.inl ⟨by kernel_rfl, ?yt124⟩) hHeld ?_
                  case yt124 => (intro ww hSw; (try dsimp only at hSw); clear hSw; go_simp; try (with_reducible rfl))
                  try simp only [Act.put, List.setIfInBounds_toArray, List.set_cons_zero, List.set_cons_succ]
                  refine wpAnyH_done (by kernel_rfl) ?_ _
                  go_wp2_with fail
                  go_meet
                  exact ⟨_, _, rfl, rfl, rfl, q17, q9, q11, hts, hvs, hb⟩
              · skip
                rw [if_pos (by kernel_rfl)]
                have ne_q9_k17 := Nat.ne_of_lt q9.lt
                have ne_q11_k17 := Nat.ne_of_lt q11.lt
                have ne_hts_k17 := fun h => Nat.ne_of_lt (Sl.lt hts h)
                have ne_hvs_k17 := fun h => Nat.ne_of_lt (Sl.lt hvs h)
                refine wp_al rfl ?_
                obtain ⟨wa25, hwa25⟩ : ∃ wa25, wa25 = wd2.alloc (.cells (bdL []) 32) := ⟨_, rfl⟩
                have h9 : Below wd2.heap.size wd2 wa25 := by rw [hwa25]; exact below_alloc1 _ _
                have q17 : BoxL wa25 wd2.heap.size [] := by rw [hwa25]; exact BoxL.new_ _ _
                rw [← hwa25]
                clear hwa25
                have ha_k17 := hb.size
                replace q9 := q9.ext h9
                replace q11 := q11.ext h9
                replace hts := Sl.ext hts h9
                replace hvs := Sl.ext hvs h9
                replace hb := hb.trans (h9.mono hb.size)
                clear h9
                refine hKK.out _ _ ?_ (fun hHeld => ?_)
                · exact ⟨q9, q11⟩
                clear hKK KK
                try simp only [Act.put, List.setIfInBounds_toArray, List.set_cons_zero, List.set_cons_succ]
                refine wpAnyH_ready (rs := [5]) (by kernel_rfl) (by simp) ?_
                refine AllReadyH.cons (by simp only [List.getElem?_toArray, List.getElem?_cons_succ, List.getElem?_cons_zero]; rfl) (fun KK hKK => ?_) AllReadyH.nil
                rw [if_pos (by kernel_rfl)]
                go_simp
                (with_reducible refine (hOf _).mono ?_)
                rintro e wc27 ⟨vp, vc, rfl, hp, hc, g26⟩
                replace q9 := q9.ext g26
                replace q11 := q11.ext g26
                replace hts := Sl.ext hts g26
                replace hvs := Sl.ext hvs g26
                replace q17 := q17.ext g26
                replace hb := hb.trans (g26.mono hb.size)
                clear g26
                obtain ⟨Ap, cp, bp, hvp, -, -, -, -, hps, -⟩ := Row.sl hp
                obtain ⟨Ac, cc, bc, hvc, -, -, -, -, hcs, -⟩ := RowC.sl hc
                rw [← HNP.out] at hvp
                rw [← HNC.out] at hvc
                subst hvp hvc
                clear hp hc
                go_wp2_with fail
                refine hKK.out _ _ ?_ (fun hHeld => ?_)
                · exact ⟨q9, q11⟩
                clear hKK KK
                try simp only [Act.put, List.setIfInBounds_toArray, List.set_cons_zero, List.set_cons_succ]
                refine wpAnyH_ready (rs := [7]) (by kernel_rfl) (by simp) ?_
                refine AllReadyH.cons (by simp only [List.getElem?_toArray, List.getElem?_cons_succ, List.getElem?_cons_zero]; rfl) (fun KK hKK => ?_) AllReadyH.nil
                rw [if_pos (by kernel_rfl)]
                go_simp
                (with_reducible refine (hA _ Ap Ac cp cc bp bc hps hcs).mono ?_)
                rintro e wc29 ⟨rfl, g28⟩
                replace q9 := q9.ext g28
                replace q11 := q11.ext g28
                replace hts := Sl.ext hts g28
                replace hvs := Sl.ext hvs g28
                replace q17 := q17.ext g28
                replace hps := Sl.ext hps g28
                replace hcs := Sl.ext hcs g28
                replace hb := hb.trans (g28.mono hb.size)
                clear g28
                clear hps hcs
                go_wp2_with fail
                refine hKK.out _ _ ?_ (fun hHeld => ?_)
                · exact ⟨q9, q11⟩
                clear hKK KK
                try simp only [Act.put, List.setIfInBounds_toArray, List.set_cons_zero, List.set_cons_succ]
                refine wpAnyH_take (i := 8) (v := ?vt130) (by simp only [List.getElem?_toArray, List.getElem?_cons_succ, List.getElem?_cons_zero]; rfl) (by kernel_rfl) (by kernel_rfl) (by kernel_rfl) (by exact fun _ _ _ h => h) (Or.inl ⟨by kernel_rfl, ?yt130⟩) hHeld ?_
                case yt130 => (intro ww hSw; (try dsimp only at hSw); clear hSw; go_simp; try (with_reducible rfl))
                try simp only [Act.put, List.setIfInBounds_toArray, List.set_cons_zero, List.set_cons_succ]
                refine wpAnyH_take (i := 9) (v := ?vt131) (by simp only [List.getElem?_toArray, List.getElem?_cons_succ, List.getElem?_cons_zero]; rfl) (by kernel_rfl) (by kernel_rfl) (by kernel_rfl) (by exact fun _ _ _ h => h) (Or.inl ⟨by kernel_rfl, ?yt131⟩) hHeld ?_
                case yt131 => (intro ww hSw; (try dsimp only at hSw); clear hSw; go_simp; try (with_reducible rfl))
                try simp only [Act.put, List.setIfInBounds_toArray, List.set_cons_zero, List.set_cons_succ]
                refine wpAnyH_take (i := 10) (v := ?vt132) (by simp only [List.getElem?_toArray, List.getElem?_cons_succ, List.getElem?_cons_zero]; rfl) (by kernel_rfl) (by kernel_rfl) (by kernel_rfl) (by exact fun _ _ _ h => h) (Or.inl ⟨by kernel_rfl, ?yt132⟩) hHeld ?_
                case yt132 => (intro ww hSw; (try dsimp only at hSw); clear hSw; go_simp; try (with_reducible rfl))
                try simp only [Act.put, List.setIfInBounds_toArray, List.set_cons_zero, List.set_cons_succ]
                refine wpAnyH_ready (rs := [12]) (by kernel_rfl) (by simp) ?_
                refine AllReadyH.cons (by simp only [List.getElem?_toArray, List.getElem?_cons_succ, List.getElem?_cons_zero]; rfl) (fun KK hKK => ?_) AllReadyH.nil
                rw [if_pos (by kernel_rfl)]
                refine wp_store_row 32 (.tmp 17) (.tmp 96) rfl (wd2.heap.size) (bdL V2) rfl rfl _ _ q17 (bd_size _ _ _) (by rw [bdL_size, bdL_size]) (bdA_all _ _ _) ?_
                obtain ⟨ws33, hws33⟩ : ∃ ws33, ws33 = wc29.setRow (wd2.heap.size) (bdL V2) := ⟨_, rfl⟩
                replace q9 := q9.orow ne_q9_k17 (bdL V2)
                replace q11 := q11.orow ne_q11_k17 (bdL V2)
                replace hts := sl_row_ne hts ne_hts_k17 (bdL V2)
                replace hvs := sl_row_ne hvs ne_hvs_k17 (bdL V2)
                replace q17 := q17.row_ V2
                replace hb := below_setRow hb (wd2.heap.size) (bdL V2) (by omega)
                rw [← hws33] at hb ⊢
                rw [← hws33] at q9 q11 hts hvs q17
                clear hws33
                refine hKK.out _ _ ?_ (fun hHeld => ?_)
                · exact ⟨q9, q11⟩
                clear hKK KK
                try simp only [Act.put]
                refine wpAnyH_take (i := 13) (v := ?vt134) (by simp only [List.getElem?_toArray, List.getElem?_cons_succ, List.getElem?_cons_zero]; rfl) (by kernel_rfl) (by kernel_rfl) (by kernel_rfl) (by exact fun _ _ _ h => h) (Or.inl ⟨by kernel_rfl, ?yt134⟩) hHeld ?_
                case yt134 => (intro ww hSw; (try dsimp only at hSw); clear hSw; go_simp; try (with_reducible rfl))
                try simp only [Act.put, List.setIfInBounds_toArray, List.set_cons_zero, List.set_cons_succ]
                refine wpAnyH_done (by kernel_rfl) ?_ _
                go_wp2_with fail
                go_meet
                exact ⟨_, _, rfl, rfl, rfl, q17, q9, q11, hts, hvs, hb⟩
            case rest =>
              clear q9 q11 hts hvs hb hA hOf ek
              obtain ⟨G17, wz, rfl, rfl, rfl, q17, q9, q11, hts, hvs, hb⟩ := hcut
              go_wp2_with fail
              refine wp_region_held_drew (S := fun w' => BoxL w' G17 V2 ∧ BoxL w' g9 B2) (by kernel_rfl) ?_ (fun hHeld => ?_)
              · exact ⟨q17, q9⟩
              refine wpAnyH_take (i := 0) (v := ?xv0) (by simp only [List.getElem?_toArray, List.getElem?_cons_zero]; rfl) (by kernel_rfl) (by kernel_rfl) (by kernel_rfl) (by exact fun _ _ _ h => h) (Or.inl ⟨by kernel_rfl, ?xy0⟩) hHeld ?_
              case xy0 => (intro w hSw; (try dsimp only at hSw); clear hSw; go_simp; try (with_reducible rfl))
              try simp only [Act.put, List.setIfInBounds_toArray, List.set_cons_zero, List.set_cons_succ]
              refine wpAnyH_take (i := 1) (v := ?xv1) (by simp only [List.getElem?_toArray, List.getElem?_cons_succ, List.getElem?_cons_zero]; rfl) (by kernel_rfl) (by kernel_rfl) (by kernel_rfl) (by exact fun _ _ _ h => h) (Or.inl ⟨by kernel_rfl, ?xy1⟩) hHeld ?_
              case xy1 => (intro w hSw; (try dsimp only at hSw); clear hSw; go_simp; try (with_reducible rfl))
              try simp only [Act.put, List.setIfInBounds_toArray, List.set_cons_zero, List.set_cons_succ]
              refine wpAnyH_take (i := 2) (v := ?xv2) (by simp only [List.getElem?_toArray, List.getElem?_cons_succ, List.getElem?_cons_zero]; rfl) (by kernel_rfl) (by kernel_rfl) (by kernel_rfl) (by exact fun _ _ _ h => h) (Or.inl ⟨by kernel_rfl, ?xy2⟩) hHeld ?_
              case xy2 => (intro w hSw; (try dsimp only at hSw); clear hSw; go_simp; try (with_reducible rfl))
              try simp only [Act.put, List.setIfInBounds_toArray, List.set_cons_zero, List.set_cons_succ]
              refine wpAnyH_take (i := 3) (by simp only [List.getElem?_toArray, List.getElem?_cons_succ, List.getElem?_cons_zero]; rfl) (by kernel_rfl) (by kernel_rfl) (by kernel_rfl) (by exact fun _ _ _ h => h) (by exact yieldsIf_ld (by kernel_rfl) (.tmp 17) rfl G17 rfl V2 (fun w h => h.1)) hHeld ?_
              try simp only [Act.put, List.setIfInBounds_toArray, List.set_cons_zero, List.set_cons_succ]
              refine wpAnyH_take (i := 4) (by simp only [List.getElem?_toArray, List.getElem?_cons_succ, List.getElem?_cons_zero]; rfl) (by kernel_rfl) (by kernel_rfl) (by kernel_rfl) (by exact fun _ _ _ h => h) (by exact yieldsIf_ld (by kernel_rfl) (.tmp 9) rfl g9 rfl B2 (fun w h => h.2)) hHeld ?_
              try simp only [Act.put, List.setIfInBounds_toArray, List.set_cons_zero, List.set_cons_succ]
              refine wpAnyH_take (i := 5) (v := ?xv5) (by simp only [List.getElem?_toArray, List.getElem?_cons_succ, List.getElem?_cons_zero]; rfl) (by kernel_rfl) (by kernel_rfl) (by kernel_rfl) (by exact fun _ _ _ h => h) (Or.inl ⟨by kernel_rfl, ?xy5⟩) hHeld ?_
              case xy5 => (intro w hSw; (try dsimp only at hSw); clear hSw; go_simp; try (with_reducible rfl))
              try simp only [Act.put, List.setIfInBounds_toArray, List.set_cons_zero, List.set_cons_succ]
              refine wpAnyH_ready (rs := [6]) (by kernel_rfl) (by simp) ?_
              refine AllReadyH.cons (by simp only [List.getElem?_toArray, List.getElem?_cons_succ, List.getElem?_cons_zero]; rfl) (fun KK hKK => ?_) AllReadyH.nil
              rw [if_pos (by kernel_rfl)]
              go_simp
              (with_reducible refine (hView _).mono ?_)
              rintro e w6 ⟨rfl, h9⟩
              have h9 := below_undrew2 h9
              have q9 := q9.ext h9
              have q11 := q11.ext h9
              have hts := Sl.ext hts h9
              have hvs := Sl.ext hvs h9
              have q17 := q17.ext h9
              have hb := hb.trans (h9.mono hb.size)
              clear h9
              go_wp2_with fail
              refine hKK.out _ _ ?_ (fun hHeld => ?_)
              · exact ⟨q17, q9⟩
              clear hKK KK
              try simp only [Act.put, List.setIfInBounds_toArray, List.set_cons_zero, List.set_cons_succ]
              refine wpAnyH_take (i := 7) (by simp only [List.getElem?_toArray, List.getElem?_cons_succ, List.getElem?_cons_zero]; rfl) (by kernel_rfl) (by kernel_rfl) (by kernel_rfl) (by exact fun _ _ _ h => h) (by exact yieldsIf_neq (by kernel_rfl) (.tmp 101) (.tmp 104) rfl V2 V2 rfl rfl hV2L true (by simp)) hHeld ?_
              try simp only [Act.put, List.setIfInBounds_toArray, List.set_cons_zero, List.set_cons_succ]
              refine wpAnyH_take (i := 8) (v := ?xv8) (by simp only [List.getElem?_toArray, List.getElem?_cons_succ, List.getElem?_cons_zero]; rfl) (by kernel_rfl) (by kernel_rfl) (by kernel_rfl) (by exact fun _ _ _ h => h) (Or.inl ⟨by kernel_rfl, ?xy8⟩) hHeld ?_
              case xy8 => (intro w hSw; (try dsimp only at hSw); clear hSw; go_simp; try (with_reducible rfl))
              try simp only [Act.put, List.setIfInBounds_toArray, List.set_cons_zero, List.set_cons_succ]
              refine wpAnyH_done (by kernel_rfl) ?_ _
              clear hView
              go_wp2_with (first | ((with_reducible refine at_ld 32 17 ?_); refine wpList_ld rfl (.tmp 17) rfl G17 rfl V2 q17 ?_) | ((with_reducible refine at_st 32 11 107 ?_); refine wpList_st rfl (.tmp 11) (.tmp 107) rfl g11 VB V2 rfl rfl q11 ?_))
              go_roundw
              case rel => exact ⟨k + 1, B2, by omega, by omega, by go_num, hB2, hBo2, q9.orow hgg.2.2 _, by rw [← HV2.out]; exact q11.row_ V2, sl_row_ne hts (fun _ => by have := hlt0 (by omega); omega) _, sl_row_ne hvs (fun h0 => by have := hlv (iv_pos h0); omega) _, below_setRow hb g11 _ (by omega)⟩
              case measure => simp [intOf]; omega
      · obtain rfl : k = 12 := by omega
        have e12 : decide (((12 : Nat) : Int) ≥ 12) = true := by simp
        have hBo2 := hBo
        have hFu := fun W => Full_calls B o 0 W hBL hBo (by omega)
        have hVl : (viewL o B).length = M.length := by simp [hBl]
        have hBd : ∀ (W : World) (Ap Ac : Option Addr) (cp cc bp bc : Nat) (_ : Bs W bp Ap (placesB 281474976710655 B.length)) (_ : Sl W bc Ac (cv (viewL o B))), Calls Try.prog 19 #[.agg #[.int .u32 0, .int .u32 (hashL (viewL o B) : Nat), .slice Ap (placesB 281474976710655 B.length).length cp, .slice Ac (viewL o B).length cc]] W fun e w' => e = .returned (.tuple #[.agg (bdL (viewL o B)), .int .i64 0]) ∧ Below W.heap.size W w' := by
          intro W Ap Ac cp cc bp bc h1 h2
          have hpl : (placesB 281474976710655 B.length).length = B.length := by rw [placesB_len, placesTo_all hBL]; simp
          rw [hpl, show (viewL o B).length = B.length by simp]
          have := Board_calls 0 (hashL (viewL o B)) Ap (placesB 281474976710655 B.length) B.length cp bp Ac (viewL o B) cc bc true W h1 hpl h2 (by simp) hBL (placesB_rises hBL) (fun i hi => placesB_all hBL hi) (okC_view hBo o) (by simp)
          simp only [if_true] at this
          exact this
        obtain ⟨H2, hH2⟩ : ∃ H2, H2 = hashL (viewL o B) := ⟨_, rfl⟩
        obtain ⟨VB, hVB⟩ : ∃ VB, VB = viewL o B := ⟨_, rfl⟩
        obtain ⟨mp, hmp⟩ : ∃ mp, mp = (placesB 281474976710655 B.length).length := ⟨_, rfl⟩
        obtain ⟨mc, hmc⟩ : ∃ mc, mc = (viewL o B).length := ⟨_, rfl⟩
        rw [← hVB] at hmc
        rw [← hH2, ← hVB] at hFu
        rw [← hH2, ← hVB, ← hmp, ← hmc] at hBd
        rw [← hVB] at hVl q11
        have HMP := Lib.hid hmp
        have HMC := Lib.hid hmc
        have hVL : VB.length ≤ 48 := by omega
        obtain ⟨qs, hqs⟩ : ∃ qs, qs = placesB 281474976710655 B.length := ⟨_, rfl⟩
        rw [← hqs] at hFu hBd HMP
        clear hH2 hVB hmp hmc hqs hVl hts hvs hBl hBo hBo2
        go_wp2_with (first | ((with_reducible refine at_ld 32 9 ?_); refine wpList_ld rfl (.tmp 9) rfl g9 rfl B q9 ?_) | ((with_reducible refine at_ld 32 11 ?_); refine wpList_ld rfl (.tmp 11) rfl g11 rfl VB q11 ?_))
        refine (hFu _).mono ?_
        rintro e w7 ⟨vp, vc, rfl, hp, hc, hb7⟩
        replace q9 := q9.ext hb7
        replace q11 := q11.ext hb7
        replace hb := hb.trans (hb7.mono hb.size)
        clear hb7
        clear hFu
        obtain ⟨Aq, cq, bq, hvp, -, -, -, -, hps, -⟩ := Row.sl hp
        obtain ⟨Ar, cr, br, hvc, -, -, -, -, hcs, -⟩ := RowC.sl hc
        rw [← HMP.out] at hvp
        rw [← HMC.out] at hvc
        subst hvp hvc
        clear hp hc
        go_wp2_with (first | ((with_reducible refine at_ld 32 9 ?_); refine wpList_ld rfl (.tmp 9) rfl g9 rfl B q9 ?_) | ((with_reducible refine at_ld 32 11 ?_); refine wpList_ld rfl (.tmp 11) rfl g11 rfl VB q11 ?_))
        refine (hBd _ Aq Ar cq cr bq br hps hcs).mono ?_
        rintro e w8 ⟨rfl, hb8⟩
        replace q9 := q9.ext hb8
        replace q11 := q11.ext hb8
        replace hps := Sl.ext hps hb8
        replace hcs := Sl.ext hcs hb8
        replace hb := hb.trans (hb8.mono hb.size)
        clear hb8
        clear hBd
        clear hps hcs
        replace q9 := q9.alloc (.cells (bdL VB) 32)
        replace q11 := q11.alloc (.cells (bdL VB) 32)
        replace hb := hb.alloc hb.size (.cells (bdL VB) 32)
        have q19 := BoxL.new_ w8 VB
        go_wp2_with (first | ((with_reducible refine at_al 32 19 ?_); refine wpList_al rfl rfl (some 19) rfl w8.heap.size rfl ?_) | ((with_reducible refine at_st 32 19 114 ?_); refine wpList_put rfl (.tmp 19) (.tmp 114) rfl rfl VB rfl rfl ?_) | ((with_reducible refine at_bi 121 .eql 32 32 (.tmp 119) (.tmp 120) ?_); refine wpList_eql_bd rfl (.tmp 119) (.tmp 120) rfl VB VB rfl rfl hVL true (by simp) ?_) | ((with_reducible refine at_ld 32 9 ?_); refine wpList_ld rfl (.tmp 9) rfl g9 rfl B q9 ?_) | ((with_reducible refine at_ld 32 11 ?_); refine wpList_ld rfl (.tmp 11) rfl g11 rfl VB q11 ?_) | ((with_reducible refine at_ld 32 19 ?_); refine wpList_ld rfl (.tmp 19) rfl w8.heap.size rfl VB q19 ?_))
        go_ret
        exact ⟨rfl, hb⟩
    · obtain rfl : k = turns.length := by omega
      have hBo2 := hBo
      have hFu := fun W => Full_calls B o 0 W hBL hBo (by omega)
      have hVl : (viewL o B).length = M.length := by simp [hBl]
      have hBd : ∀ (W : World) (Ap Ac : Option Addr) (cp cc bp bc : Nat) (_ : Bs W bp Ap (placesB 281474976710655 B.length)) (_ : Sl W bc Ac (cv (viewL o B))), Calls Try.prog 19 #[.agg #[.int .u32 0, .int .u32 (hashL (viewL o B) : Nat), .slice Ap (placesB 281474976710655 B.length).length cp, .slice Ac (viewL o B).length cc]] W fun e w' => e = .returned (.tuple #[.agg (bdL (viewL o B)), .int .i64 0]) ∧ Below W.heap.size W w' := by
        intro W Ap Ac cp cc bp bc h1 h2
        have hpl : (placesB 281474976710655 B.length).length = B.length := by rw [placesB_len, placesTo_all hBL]; simp
        rw [hpl, show (viewL o B).length = B.length by simp]
        have := Board_calls 0 (hashL (viewL o B)) Ap (placesB 281474976710655 B.length) B.length cp bp Ac (viewL o B) cc bc true W h1 hpl h2 (by simp) hBL (placesB_rises hBL) (fun i hi => placesB_all hBL hi) (okC_view hBo o) (by simp)
        simp only [if_true] at this
        exact this
      obtain ⟨H2, hH2⟩ : ∃ H2, H2 = hashL (viewL o B) := ⟨_, rfl⟩
      obtain ⟨VB, hVB⟩ : ∃ VB, VB = viewL o B := ⟨_, rfl⟩
      obtain ⟨mp, hmp⟩ : ∃ mp, mp = (placesB 281474976710655 B.length).length := ⟨_, rfl⟩
      obtain ⟨mc, hmc⟩ : ∃ mc, mc = (viewL o B).length := ⟨_, rfl⟩
      rw [← hVB] at hmc
      rw [← hH2, ← hVB] at hFu
      rw [← hH2, ← hVB, ← hmp, ← hmc] at hBd
      rw [← hVB] at hVl q11
      have HMP := Lib.hid hmp
      have HMC := Lib.hid hmc
      have hVL : VB.length ≤ 48 := by omega
      obtain ⟨qs, hqs⟩ : ∃ qs, qs = placesB 281474976710655 B.length := ⟨_, rfl⟩
      rw [← hqs] at hFu hBd HMP
      clear hH2 hVB hmp hmc hqs hVl hts hvs hBl hBo hBo2
      go_wp2_with (first | ((with_reducible refine at_ld 32 9 ?_); refine wpList_ld rfl (.tmp 9) rfl g9 rfl B q9 ?_) | ((with_reducible refine at_ld 32 11 ?_); refine wpList_ld rfl (.tmp 11) rfl g11 rfl VB q11 ?_))
      refine (hFu _).mono ?_
      rintro e w9 ⟨vp, vc, rfl, hp, hc, hb9⟩
      replace q9 := q9.ext hb9
      replace q11 := q11.ext hb9
      replace hb := hb.trans (hb9.mono hb.size)
      clear hb9
      clear hFu
      obtain ⟨Aq, cq, bq, hvp, -, -, -, -, hps, -⟩ := Row.sl hp
      obtain ⟨Ar, cr, br, hvc, -, -, -, -, hcs, -⟩ := RowC.sl hc
      rw [← HMP.out] at hvp
      rw [← HMC.out] at hvc
      subst hvp hvc
      clear hp hc
      go_wp2_with (first | ((with_reducible refine at_ld 32 9 ?_); refine wpList_ld rfl (.tmp 9) rfl g9 rfl B q9 ?_) | ((with_reducible refine at_ld 32 11 ?_); refine wpList_ld rfl (.tmp 11) rfl g11 rfl VB q11 ?_))
      refine (hBd _ Aq Ar cq cr bq br hps hcs).mono ?_
      rintro e w10 ⟨rfl, hb10⟩
      replace q9 := q9.ext hb10
      replace q11 := q11.ext hb10
      replace hps := Sl.ext hps hb10
      replace hcs := Sl.ext hcs hb10
      replace hb := hb.trans (hb10.mono hb.size)
      clear hb10
      clear hBd
      clear hps hcs
      replace q9 := q9.alloc (.cells (bdL VB) 32)
      replace q11 := q11.alloc (.cells (bdL VB) 32)
      replace hb := hb.alloc hb.size (.cells (bdL VB) 32)
      have q19 := BoxL.new_ w10 VB
      go_wp2_with (first | ((with_reducible refine at_al 32 19 ?_); refine wpList_al rfl rfl (some 19) rfl w10.heap.size rfl ?_) | ((with_reducible refine at_st 32 19 114 ?_); refine wpList_put rfl (.tmp 19) (.tmp 114) rfl rfl VB rfl rfl ?_) | ((with_reducible refine at_bi 121 .eql 32 32 (.tmp 119) (.tmp 120) ?_); refine wpList_eql_bd rfl (.tmp 119) (.tmp 120) rfl VB VB rfl rfl hVL true (by simp) ?_) | ((with_reducible refine at_ld 32 9 ?_); refine wpList_ld rfl (.tmp 9) rfl g9 rfl B q9 ?_) | ((with_reducible refine at_ld 32 11 ?_); refine wpList_ld rfl (.tmp 11) rfl g11 rfl VB q11 ?_) | ((with_reducible refine at_ld 32 19 ?_); refine wpList_ld rfl (.tmp 19) rfl w10.heap.size rfl VB q19 ?_))
      go_ret
      exact ⟨rfl, hb⟩
end Go.Proofs.Ytpppjlcfhijdgaa
