/- DeskFirst: the walk. Conditions: the numbers fit; the table lies. -/
import Derived.Test.YtglmciklegifaaaDoorDeskTimes
namespace Go.Proofs.YtglmciklegifaaaDoor
open Go.RowKit

theorem dbox6_all {w : World} {g : Nat} {t : TypeId} {c0 c1 c2 c3 c4 c5 : Value} (h : w.heap[g]? = some (.cells #[c0, c1, c2, c3, c4, c5] t (0, 0))) : w.cell? ⟨g, 0, none⟩ = some c0 ∧ w.cell? ⟨g, 1, none⟩ = some c1 ∧ w.cell? ⟨g, 2, none⟩ = some c2 ∧ w.cell? ⟨g, 3, none⟩ = some c3 := by
  refine ⟨?_, ?_, ?_, ?_⟩ <;> (rw [cell_of_row w g _ _ _ _ h]; rfl)
/-- The moves when so many ticks were taken: one, till its tick. -/
def gF (p t a k : Nat) : MF := if k < t then updF (fun _ _ => none) (p : Int) t (some a) else fun _ _ => none
abbrev fsS (p m t a k : Nat) : DkS := ⟨p + 1, m, 0, k, 1, gF p t a k⟩
theorem fs_take {p m t a k : Nat} (hk : k < t) (ht : t ≤ 8) : takeS (fsS p m t a k) = fsS p m t a (k + 1) := by
  unfold takeS takT
  have h1 : (k + 1) % 4294967296 = k + 1 := Nat.mod_eq_of_lt (by omega)
  have h2 : takeF (gF p t a k) (k + 1) (p + 1) = gF p t a (k + 1) := by
    funext q u
    unfold takeF gF
    rw [if_pos hk]
    by_cases h : k + 1 < t
    · rw [if_pos h]
      unfold updF
      by_cases e : q = (p : Int) ∧ u = t
      · rw [if_pos e, if_neg (by omega)]
      · rw [if_neg e]
        split <;> rfl
    · rw [if_neg h]
      unfold updF
      by_cases e : q = (p : Int) ∧ u = t
      · rw [if_pos (by omega)]
      · rw [if_neg e]
        split <;> rfl
  simp only [h1, h2]
theorem fs_list {p m t a k : Nat} (hk : k < t) (ht : t ≤ 8) {i : Nat} (hi : i < p + 1) : (takeL (fsS p m t a k))[i]? = some (if i = p ∧ k + 1 = t then a else 0) := by
  unfold takeL takT
  have h1 : (k + 1) % 4294967296 = k + 1 := Nat.mod_eq_of_lt (by omega)
  simp only [h1, List.getElem?_map, List.getElem?_range hi, Option.map_some, Option.some.injEq]
  unfold gF
  rw [if_pos hk]
  unfold updF
  by_cases e : i = p ∧ k + 1 = t
  · rw [if_pos e, if_pos (by omega)]
    rfl
  · rw [if_neg e, if_neg (by omega)]
    rfl
set_option maxHeartbeats 4000000 in
set_option maxRecDepth 20000 in
theorem DeskFirst_walk (mv pl ah a b0 : Nat) (w : World) (hT : CTab w) (hmv : mv ≤ 255) (hpl : pl ≤ 255) (hah : ah ≤ 255) (ha : a ≤ 4294967295) (hb0 : b0 ≤ 4294967295) :
    Calls Tryd.prog 6 #[.int .u8 (mv : Int), .int .u8 (pl : Int), .int .u8 (ah : Int), .int .u32 (a : Int), .int .u32 (b0 : Int)] w fun e w' => e = .returned (.bool true) ∧ Below w.heap.size w w' := by
  have hA := awake_calls w hT
  obtain ⟨p, hp⟩ : ∃ p, p = pl % 6 := ⟨_, rfl⟩
  obtain ⟨r, ht⟩ : ∃ r, r = ah % 8 := ⟨_, rfl⟩
  obtain ⟨M, hM⟩ : ∃ M, M = 1 + mv := ⟨_, rfl⟩
  obtain ⟨x, hx⟩ : ∃ x, x = a % M := ⟨_, rfl⟩
  obtain ⟨y, hy⟩ : ∃ y, y = b0 % M := ⟨_, rfl⟩
  have p1 : (pl : Int) % 6 = (p : Int) := by omega
  have p2 : (pl : Int).tmod 6 = (p : Int) := by rw [Int.tmod_eq_emod_of_nonneg (by omega)]; omega
  have p3 : IntKind.u8.wrap (p : Int) = (p : Int) := IntWalk.u8_in _ (by omega)
  have p4 : IntKind.i64.wrap (p : Int) = (p : Int) := IntWalk.i64_in _ (by omega)
  have p5 : (1 : Int) + (p : Int) = (p : Int) + 1 := by omega
  have t1 : (ah : Int) % 8 = (r : Int) := by omega
  have t2 : (ah : Int).tmod 8 = (r : Int) := by rw [Int.tmod_eq_emod_of_nonneg (by omega)]; omega
  have t3 : IntKind.u8.wrap (r : Int) = (r : Int) := IntWalk.u8_in _ (by omega)
  have t4 : IntKind.u32.wrap (r : Int) = (r : Int) := IntWalk.u32_in _ (by omega)
  have t5 : (1 : Int) + (r : Int) = (r : Int) + 1 := by omega
  have t6 : ((r : Int) + 1) % 4294967296 = (r : Int) + 1 := by omega
  have m1 : (1 + (mv : Int)) % 4294967296 = (M : Int) := by omega
  have m2 : (1 : Int) + (mv : Int) = (M : Int) := by omega
  have x1 : (a : Int) % (M : Int) = (x : Int) := by rw [hx]; simp
  have x2 : (a : Int).tmod (M : Int) = (x : Int) := by rw [Int.tmod_eq_emod_of_nonneg (by omega)]; exact x1
  have y1 : (b0 : Int) % (M : Int) = (y : Int) := by rw [hy]; simp
  have y2 : (b0 : Int).tmod (M : Int) = (y : Int) := by rw [Int.tmod_eq_emod_of_nonneg (by omega)]; exact y1
  have hxM : x < M := by rw [hx]; exact Nat.mod_lt _ (by omega)
  have hyM : y < M := by rw [hy]; exact Nat.mod_lt _ (by omega)
  have hp5 : p ≤ 5 := by omega
  have hr7 : r ≤ 7 := by omega
  have hM6 : 1 ≤ M ∧ M ≤ 256 := by omega
  clear hp ht hM hx hy
  go_enter Tryd.func6, Tryd.ntmps6
  go_wp2_with fail
  refine hA.mono ?_
  rintro e w1 ⟨rfl, hb⟩
  clear hA
  have h9 := below_alloc1 w1 (.cells #[.int .i64 ((p : Int) + 1), .int .i64 ((p : Int) + 1), .int .u32 (M : Int), .int .u32 0, .slice none 0 0, .slice none 0 0] 26)
  have hq : (w1.alloc (.cells #[.int .i64 ((p : Int) + 1), .int .i64 ((p : Int) + 1), .int .u32 (M : Int), .int .u32 0, .slice none 0 0, .slice none 0 0] 26)).heap[w1.heap.size]? = some (.cells #[.int .i64 ((p : Int) + 1), .int .i64 ((p : Int) + 1), .int .u32 (M : Int), .int .u32 0, .slice none 0 0, .slice none 0 0] 26 (0, 0)) := heap_alloc_new w1 _
  have hT9 := (hT.ext hb).ext h9
  have hbz := hb.size
  have hb := hb.trans (h9.mono hbz)
  have hN := New_plain (p + 1) (p + 1) M 0 ((p : Int) + 1) ((p : Int) + 1) (M : Int) 0 (w1.alloc (.cells #[.int .i64 ((p : Int) + 1), .int .i64 ((p : Int) + 1), .int .u32 (M : Int), .int .u32 0, .slice none 0 0, .slice none 0 0] 26)) rfl rfl rfl rfl (by omega) (by omega) (by omega) (by omega) (by omega) (by omega) hT9
  clear hT9 h9 hT
  go_wp2_with fail
  refine hN.mono ?_
  rintro e w2 ⟨b, bm, rfl, hd, h1, h2, hb2⟩
  have hbz2 := hb.size
  have hb := hb.trans (hb2.mono hbz2)
  replace hq := dbox_ext hq hb2
  have hqb : b ≠ w1.heap.size := by rw [World.size_alloc] at h1; omega
  have hqm : bm ≠ w1.heap.size := by rw [World.size_alloc] at h2; omega
  have h1 : w.heap.size ≤ b := by omega
  have h2 : w.heap.size ≤ bm := by omega
  obtain ⟨X, hX⟩ : ∃ X, X = w1.heap.size := ⟨_, rfl⟩
  rw [← hX] at hq hqb hqm ⊢
  clear hN hb2 hbz hbz2 hX
  obtain ⟨c0, c1, c2, c3⟩ := dbox6_all hq
  have hM0 : ((M : Int) == 0) = false := by simp; omega
  have hM1 : ¬ (M : Int) = 0 := by omega
  go_wp2_with fail
  go_region
  all_goals go_wp2_with fail
  have hip : inI (p : Int) := by constructor <;> omega
  have hE : putE ⟨p + 1, M, 0, 0, 0, fun _ _ => none⟩ (p : Int) (r + 1) x = 0 := by
    unfold putE
    rw [if_neg (by show ¬ ((p : Int) < 0 ∨ ((p + 1 : Nat) : Int) ≤ (p : Int)); omega), if_neg (show ¬ M ≤ x by omega), if_neg (show ¬ r + 1 ≤ 0 by omega), if_neg (show ¬ 0 + 8 < r + 1 by omega)]
    rfl
  have hP := Put_lit b bm ⟨p + 1, M, 0, 0, 0, fun _ _ => none⟩ (p : Int) (r + 1) x ((r : Int) + 1) (x : Int) w2.drew hd.drew rfl rfl hip (by omega) (by omega) (by simp [maxLen]) 0 0 (fsS p M (r + 1) x 0) hE rfl (by unfold putS; rw [hE]; unfold fsS gF; rw [if_pos (by omega)]; rfl)
  have hE2 : putE (fsS p M (r + 1) x 0) (p : Int) (r + 1) y = 12 := by
    unfold putE
    rw [if_neg (by show ¬ ((p : Int) < 0 ∨ ((p + 1 : Nat) : Int) ≤ (p : Int)); omega), if_neg (show ¬ M ≤ y by omega), if_neg (show ¬ r + 1 ≤ 0 by omega), if_neg (show ¬ 0 + 8 < r + 1 by omega), if_pos]
    show (gF p (r + 1) x 0 (p : Int) (r + 1)).isSome = true
    unfold gF updF
    rw [if_pos (by omega), if_pos ⟨rfl, rfl⟩]
    rfl
  have hP2 := fun W h => Put_lit b bm (fsS p M (r + 1) x 0) (p : Int) (r + 1) y ((r : Int) + 1) (y : Int) W h rfl rfl hip (by omega) (by omega) (by simp [maxLen]) 12 12 (fsS p M (r + 1) x 0) hE2 rfl (by unfold putS; rw [hE2]; rfl)
  have hE3 : putE (fsS p M (r + 1) x (r + 1)) (p : Int) (r + 1) y = 11 := by
    unfold putE
    rw [if_neg (by show ¬ ((p : Int) < 0 ∨ ((p + 1 : Nat) : Int) ≤ (p : Int)); omega), if_neg (show ¬ M ≤ y by omega), if_pos (show r + 1 ≤ r + 1 by omega)]
  have hP3 := fun W h => Put_lit b bm (fsS p M (r + 1) x (r + 1)) (p : Int) (r + 1) y ((r : Int) + 1) (y : Int) W h rfl rfl hip (by omega) (by omega) (by simp [maxLen]) 11 11 (fsS p M (r + 1) x (r + 1)) hE3 rfl (by unfold putS; rw [hE3]; rfl)
  have hH3 := fun W h => Held_none b bm (fsS p M (r + 1) x (r + 1)) (p : Int) W h hip (fun u => by show gF p (r + 1) x (r + 1) (p : Int) u = none; unfold gF; rw [if_neg (by omega)])
  have hb := below_drew hb
  replace hq : w2.drew.heap[X]? = some (.cells #[.int .i64 ((p : Int) + 1), .int .i64 ((p : Int) + 1), .int .u32 (M : Int), .int .u32 0, .slice none 0 0, .slice none 0 0] 26 (0, 0)) := hq
  have hbz := hb.size
  clear hE hE2 hE3 c0 c1 c2 c3 hd hM0 hM1
  refine hP.mono ?_
  rintro e w3 ⟨rfl, hd3, m3⟩
  have hb := Mod.below2 hb m3 hbz (fun i hi e => by omega)
  replace hq := (m3.block X (dbox_lt hq) (fun e => hqm e.symm)).trans hq
  clear hP m3 hbz
  have hbz := hb.size
  go_wp2_with fail
  refine (hP2 _ hd3).mono ?_
  rintro e w4 ⟨rfl, hd4, m4⟩
  have hb := Mod.below2 hb m4 hbz (fun i hi e => by omega)
  replace hq := (m4.block X (dbox_lt hq) (fun e => hqm e.symm)).trans hq
  clear hP2 m4 hbz hd3
  go_wp2_with fail
  go_loopw [15] (fun i wr => ∃ j : Nat, j ≤ r + 1 ∧ i = .int .u32 ((j : Int) + 1) ∧ Dk wr b bm (fsS p M (r + 1) x j) ∧ wr.heap[X]? = some (.cells #[.int .i64 ((p : Int) + 1), .int .i64 ((p : Int) + 1), .int .u32 (M : Int), .int .u32 0, .slice none 0 0, .slice none 0 0] 26 (0, 0)) ∧ Below w.heap.size w wr) (fun i _ => 20 - (intOf i).toNat)
  case atStart => exact ⟨0, by omega, by go_num, hd4, hq, hb⟩
  case round =>
    obtain ⟨j, hj, rfl, hd, hq, hb⟩ := hrel
    clear hd4
    by_cases hjr : j < r + 1
    · have e1 : (j : Int) + 1 ≤ (r : Int) + 1 := by omega
      have hK := Take_calls b bm _ wr hd
      rw [fs_take hjr (by omega)] at hK
      have hls := fun i hi => fs_list (p := p) (m := M) (t := r + 1) (a := x) (k := j) hjr (by omega) (i := i) hi
      obtain ⟨L, hL⟩ : ∃ L, L = takeL (fsS p M (r + 1) x j) := ⟨_, rfl⟩
      rw [← hL] at hK hls
      have HLS := Lib.hid hls
      have hbz := hb.size
      clear hL hls
      go_wp2_with fail
      refine hK.mono ?_
      rintro e w5 ⟨g, rfl, hrow, hg, hd5, m5⟩
      have hb := Mod.below2 hb m5 hbz (fun i hi e => by omega)
      replace hq := (m5.block X (dbox_lt hq) (fun e => by rcases e with e | e <;> omega)).trans hq
      obtain ⟨_, _, hsl⟩ := RowW.sl hrow
      have HSL := Lib.hid hsl
      obtain ⟨c0, c1, c2, c3⟩ := dbox6_all hq
      clear hK m5 hbz hd hrow hsl hg
      go_wp2_with fail
      go_loopw [73] (fun i wr => ∃ n : Nat, n ≤ p + 1 ∧ i = .int .i64 (n : Int) ∧ wr = w5) (fun i _ => p + 1 - (intOf i).toNat)
      case atStart => exact ⟨0, by omega, by go_num, rfl⟩
      case round =>
        obtain ⟨n, hn, rfl, rfl⟩ := hrel
        by_cases hnp : n < p + 1
        · have e2 : (n : Int) < (p : Int) + 1 := by omega
          have e9 : n < p + 1 := hnp
          obtain ⟨V, hV⟩ : ∃ V, V = (if n = p ∧ j + 1 = r + 1 then x else 0) := ⟨_, rfl⟩
          have hcell : wr.cell? ⟨g, n, none⟩ = some (.int .u32 (V : Int)) := by
            have h8 := HLS.out n hnp
            rw [← hV] at h8
            obtain ⟨off, e, hc⟩ := HSL.out (by intro h0; have h7 := congrArg List.length h0; simp only [wv_length, List.length_nil] at h7; have := (List.getElem?_eq_some_iff.1 h8).1; omega)
            injection e with e
            injection e with _ e
            subst e
            have h9 := hc n _ (wv_get? h8)
            rwa [Nat.zero_add] at h9
          by_cases hA : n = p ∧ j = r
          · obtain ⟨rfl, rfl⟩ := hA
            have hVx : V = x := by rw [hV, if_pos ⟨rfl, rfl⟩]
            subst hVx
            clear hV
            go_wp2_with fail
            refine ⟨⟨n + 1, by omega, by go_num, by trivial⟩, by simp [intOf] <;> omega⟩
          · have hV0 : V = 0 := by rw [hV, if_neg (by omega)]
            subst hV0
            clear hV
            by_cases hnp2 : n = p
            · subst hnp2
              have hjr2 : ¬ j = r := fun e => hA ⟨rfl, e⟩
              have e3 : (((j : Int) + 1) == ((r : Int) + 1)) = false := by simp; omega
              have e4 : ((j : Int) == (r : Int)) = false := by simp; omega
              clear hA
              go_wp2_with fail
              refine ⟨⟨n + 1, by omega, by go_num, by trivial⟩, by simp [intOf] <;> omega⟩
            · have e3 : ((n : Int) == (p : Int)) = false := by simp; omega
              clear hA
              go_wp2_with fail
              refine ⟨⟨n + 1, by omega, by go_num, by trivial⟩, by simp [intOf] <;> omega⟩
        · have e2 : ¬ (n : Int) < (p : Int) + 1 := by omega
          have e5 : ((j : Int) + 1 + 1) % 4294967296 = (j : Int) + 1 + 1 := by omega
          go_wp2_with fail

          refine ⟨⟨j + 1, by omega, by go_num, hd5, hq, hb⟩, by simp [intOf]; omega⟩
    · obtain rfl : j = r + 1 := by omega
      have e1 : ¬ ((r : Int) + 1 + 1 ≤ (r : Int) + 1) := by omega
      have e2 : ¬ (((r + 1 : Nat) : Int) + 1 ≤ (r : Int) + 1) := by omega
      go_wp2_with fail
      refine (hH3 _ hd).mono ?_
      rintro e w5 ⟨⟨A, c, rfl⟩, hb5⟩
      have hb := hb.trans (hb5.mono hb.size)
      have hd5 := hd.ext hb5
      clear hb5 hH3 hd
      have hbz := hb.size
      go_wp2_with fail
      refine (hP3 _ hd5).mono ?_
      rintro e w6 ⟨rfl, hd6, m6⟩
      have hb := Mod.below2 hb m6 hbz (fun i hi e => by omega)
      clear hP3 hd5 m6
      go_wp2_with fail
      go_ret
      exact ⟨rfl, hb⟩
end Go.Proofs.YtglmciklegifaaaDoor
