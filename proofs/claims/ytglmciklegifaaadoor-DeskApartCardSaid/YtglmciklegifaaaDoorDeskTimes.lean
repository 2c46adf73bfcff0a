/- DeskTimes: the walk. Conditions: the numbers fit; the table lies. -/
import Derived.Test.YtglmciklegifaaaDoorDeskWrong
namespace Go.Proofs.YtglmciklegifaaaDoor
open Go.RowKit

theorem takeF_none (T k : Nat) : takeF (fun _ _ => none) T k = fun _ _ => none := by
  funext p t
  unfold takeF
  split <;> rfl
theorem one_len {l : List Nat} {t : Nat} (hn : l.Nodup) (hm : ∀ u, u ∈ l ↔ u = t) : l.length = 1 := by
  have h1 := len_le_of_mem l [t] hn (fun u hu => by simp [(hm u).1 hu])
  have h2 := len_le_of_mem [t] l (by simp) (fun u hu => by simp at hu; exact (hm u).2 hu)
  simp at h1 h2
  omega
theorem Held_one (b bm : Nat) (s : DkS) (p : Int) (t T : Nat) (w : World) (h : Dk w b bm s) (hp : inI p) (ht : t < 4294967296) (h1 : T < t) (h2 : t ≤ T + 8) (hf : ∀ u, (s.f p u).isSome = true ↔ u = t) :
    Calls Tryd.prog 21 #[.pointer (some ⟨b, 0, none⟩), .int .i64 p] w fun e w' => (∃ A c, e = .returned (.slice A 1 c)) ∧ Below w.heap.size w w' :=
  (Held_calls b bm s p T w h hp (fun u _ hs => by have := (hf u).1 hs; omega)).mono fun e w' ⟨v, l, he, hr, _, hn, hm, hb⟩ => by
    have hl := one_len hn (t := t) (fun u => by rw [hm u, hf u]; constructor <;> omega)
    rw [hl] at hr
    rcases hr.2 with ⟨hv, h0⟩ | ⟨g, cap, cur, hv, _⟩
    · omega
    · exact ⟨⟨_, _, by rw [he, hv]⟩, hb⟩
theorem Drop_one (b bm : Nat) (s : DkS) (p : Int) (t T : Nat) (w : World) (h : Dk w b bm s) (hp : inI p) (ht : t < 4294967296) (h1 : T < t) (h2 : t ≤ T + 8) (hf : ∀ u, (s.f p u).isSome = true ↔ u = t) :
    Calls Tryd.prog 16 #[.pointer (some ⟨b, 0, none⟩), .int .i64 p] w fun e w' => e = .returned (.int .i64 1) ∧ Dk w' b bm (dropS s p) ∧ Mod (fun i => i = bm) w w' :=
  (Drop_calls b bm s p T w h hp (fun u _ hs => by have := (hf u).1 hs; omega)).mono fun e w' ⟨l, he, hn, hm, hd, hM⟩ => by
    have hl := one_len hn (t := t) (fun u => by rw [hm u, hf u]; constructor <;> omega)
    exact ⟨by rw [he, hl]; rfl, hd, hM⟩
abbrev tkS (k : Nat) : DkS := ⟨1, 2, 0, k, 0, fun _ _ => none⟩
set_option maxHeartbeats 4000000 in
set_option maxRecDepth 20000 in
theorem DeskTimes_walk (nw : Nat) (a : Int) (w : World) (hT : CTab w) (hn : nw ≤ 255) (ha : -32768 ≤ a ∧ a ≤ 32767) :
    Calls Tryd.prog 7 #[.int .u8 (nw : Int), .int .i16 a] w fun e w' => e = .returned (.bool true) ∧ Below w.heap.size w w' := by
  have hA := awake_calls w hT
  obtain ⟨m, hm⟩ : ∃ m, a.tmod 20 = m := ⟨_, rfl⟩
  have hmb : -20 < m ∧ m < 20 := by
    rcases Int.le_total 0 a with h | h
    · rw [Int.tmod_eq_emod_of_nonneg h] at hm
      omega
    · have h2 := Int.neg_tmod (a := -a) (b := 20)
      rw [Int.neg_neg, hm, Int.tmod_eq_emod_of_nonneg (by omega)] at h2
      omega
  have e1 : IntKind.i16.wrap m = m := IntWalk.i16_in _ (by omega)
  have e2 : IntKind.i64.wrap m = m := IntWalk.i64_in _ (by omega)
  obtain ⟨T, hTt⟩ : ∃ T, (nw : Int) + m = T := ⟨_, rfl⟩
  have hTb := Lib.hid hTt
  have e3 : IntKind.i64.wrap T = T := IntWalk.i64_in _ (by omega)
  go_enter Tryd.func7, Tryd.ntmps7
  go_wp2_with fail
  refine hA.mono ?_
  rintro e w1 ⟨rfl, hb⟩
  clear hA
  have hN := New_plain 1 1 2 0 1 1 2 0 w1 rfl rfl rfl rfl (by omega) (by omega) (by omega) (by omega) (by omega) (by omega) (hT.ext hb)
  go_wp2_with fail
  refine hN.mono ?_
  rintro e w2 ⟨b, bm, rfl, hd, h1, h2, hb2⟩
  have hbz := hb.size
  have hb := hb.trans (hb2.mono hbz)
  have h1 : w.heap.size ≤ b := by omega
  have h2 : w.heap.size ≤ bm := by omega
  clear hN hb2 hT hbz
  go_wp2_with fail
  go_loopw [14] (fun i wr => ∃ k : Nat, k ≤ nw ∧ i = .int .u8 (k : Int) ∧ Dk wr b bm (tkS k) ∧ Below w.heap.size w wr) (fun i _ => nw - (intOf i).toNat)
  case atStart => exact ⟨0, Nat.zero_le _, rfl, hd, hb⟩
  case round =>
    obtain ⟨k, hk, rfl, hd, hb⟩ := hrel
    by_cases hlt : k < nw
    · have hlt' : (k : Int) < (nw : Int) := by omega
      have hK := Take_calls b bm _ wr hd
      have eS : takeS (tkS k) = tkS (k + 1) := by
        unfold takeS takT
        simp only [takeF_none]
        rw [Nat.mod_eq_of_lt (by omega)]
      rw [eS] at hK
      have hbz := hb.size
      have e4 : IntKind.u8.wrap ((k : Int) + 1) = ((k + 1 : Nat) : Int) := IntWalk.u8_in _ (by omega)
      have e5 : ((k : Int) + 1) % 256 = ((k + 1 : Nat) : Int) := by omega
      clear eS
      go_wp2_with fail
      refine hK.mono ?_
      rintro e w3 ⟨g, rfl, -, -, hd3, m3⟩
      have hb := Mod.below2 hb m3 hbz (fun i hi e => by omega)
      clear hK m3
      go_wp2_with fail
      refine ⟨⟨k + 1, by omega, by go_num, hd3, hb⟩, by simp [intOf]; omega⟩
    · obtain rfl : k = nw := by omega
      have hTm := hTb.out
      by_cases ht0 : T < 0
      · go_wp2_with fail
        go_ret
        exact ⟨rfl, hb⟩
      · obtain ⟨tN, rfl⟩ := Int.eq_ofNat_of_zero_le (by omega : 0 ≤ T)
        have e6 : IntKind.u32.wrap (tN : Int) = (tN : Int) := IntWalk.u32_in _ (by omega)
        have e7 : (tN : Int) - (k : Int) = m := by omega
        have e8 : ((tN : Int) : Int) % 4294967296 = (tN : Int) := by omega
        have htN : tN < 4294967296 := by omega
        have hbz := hb.size
        have HB := Lib.hid (And.intro hTm hmb)
        by_cases hm0 : m ≤ 0
        · have hE : putE (tkS k) 0 tN 1 = 11 := (by unfold putE; rw [if_neg (by show ¬ ((0 : Int) < 0 ∨ (1 : Int) ≤ 0); omega), if_neg (show ¬ 2 ≤ 1 by omega), if_pos (show tN ≤ k by omega)])
          have hP := Put_lit b bm (tkS k) 0 tN 1 (tN : Int) 1 wr hd rfl rfl (by constructor <;> omega) htN (by omega) (by simp [maxLen]) 11 11 (tkS k) hE rfl (by unfold putS; rw [hE]; rfl)
          clear hE
          clear hTm hmb
          go_wp2_with fail
          refine hP.mono ?_
          rintro e w3 ⟨rfl, hd3, m3⟩
          have hb := Mod.below2 hb m3 hbz (fun i hi e => by omega)
          clear hP m3
          go_wp2_with fail
          go_ret
          exact ⟨rfl, hb⟩
        · by_cases hm8 : 8 < m
          · have hE : putE (tkS k) 0 tN 1 = 14 := (by unfold putE; rw [if_neg (by show ¬ ((0 : Int) < 0 ∨ (1 : Int) ≤ 0); omega), if_neg (show ¬ 2 ≤ 1 by omega), if_neg (show ¬ tN ≤ k by omega), if_pos (show k + 8 < tN by omega)])
            have hP := Put_lit b bm (tkS k) 0 tN 1 (tN : Int) 1 wr hd rfl rfl (by constructor <;> omega) htN (by omega) (by simp [maxLen]) 14 14 (tkS k) hE rfl (by unfold putS; rw [hE]; rfl)
            clear hE
            clear hTm hmb
            go_wp2_with fail
            refine hP.mono ?_
            rintro e w3 ⟨rfl, hd3, m3⟩
            have hb := Mod.below2 hb m3 hbz (fun i hi e => by omega)
            clear hP m3
            go_wp2_with fail
            go_ret
            exact ⟨rfl, hb⟩
          · have hE : putE (tkS k) 0 tN 1 = 0 := (by unfold putE; rw [if_neg (by show ¬ ((0 : Int) < 0 ∨ (1 : Int) ≤ 0); omega), if_neg (show ¬ 2 ≤ 1 by omega), if_neg (show ¬ tN ≤ k by omega), if_neg (show ¬ k + 8 < tN by omega)]; rfl)
            have hP := Put_lit b bm (tkS k) 0 tN 1 (tN : Int) 1 wr hd rfl rfl (by constructor <;> omega) htN (by omega) (by simp [maxLen]) 0 0 ⟨1, 2, 0, k, 1, updF (fun _ _ => none) 0 tN (some 1)⟩ hE rfl (by unfold putS; rw [hE]; rfl)
            clear hE
            have hf : ∀ u, (updF (fun _ _ => none) 0 tN (some 1) 0 u).isSome = true ↔ u = tN := fun u => by
              unfold updF
              by_cases e : u = tN
              · simp [e]
              · simp [e]
            have hI0 : inI 0 := by constructor <;> omega
            have hH := fun W h => Held_one b bm ⟨1, 2, 0, k, 1, updF (fun _ _ => none) 0 tN (some 1)⟩ 0 tN k W h hI0 htN (by omega) (by omega) hf
            have hDr := fun W h => Drop_one b bm ⟨1, 2, 0, k, 1, updF (fun _ _ => none) 0 tN (some 1)⟩ 0 tN k W h hI0 htN (by omega) (by omega) hf
            have hH0 := fun W h => Held_none b bm (dropS ⟨1, 2, 0, k, 1, updF (fun _ _ => none) 0 tN (some 1)⟩ 0) 0 W h hI0 (fun u => by show dropF (updF (fun _ _ => none) 0 tN (some 1)) 0 0 u = none; unfold dropF; rw [if_pos rfl])
            clear hTm hmb hf
            go_wp2_with fail
            refine hP.mono ?_
            rintro e w3 ⟨rfl, hd3, m3⟩
            have hb := Mod.below2 hb m3 hbz (fun i hi e => by omega)
            clear hP m3
            have hbz := hb.size
            go_wp2_with fail
            refine (hH _ hd3).mono ?_
            rintro e w4 ⟨⟨A, c, rfl⟩, hb4⟩
            have hb := hb.trans (hb4.mono hbz)
            have hd4 := hd3.ext hb4
            clear hb4 hH hd3
            have hbz := hb.size
            go_wp2_with fail
            refine (hDr _ hd4).mono ?_
            rintro e w5 ⟨rfl, hd5, m5⟩
            have hb := Mod.below2 hb m5 hbz (fun i hi e => by omega)
            clear hDr hd4 m5
            have hbz := hb.size
            go_wp2_with fail
            refine (hH0 _ hd5).mono ?_
            rintro e w6 ⟨⟨A', c', rfl⟩, hb6⟩
            have hb := hb.trans (hb6.mono hbz)
            clear hb6 hH0 hd5
            go_wp2_with fail
            go_ret
            exact ⟨rfl, hb⟩
end Go.Proofs.YtglmciklegifaaaDoor
