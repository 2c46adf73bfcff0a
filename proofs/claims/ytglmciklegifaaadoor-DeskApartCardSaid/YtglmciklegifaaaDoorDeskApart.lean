/- DeskApart: the walk. Conditions: the numbers fit; the table lies. -/
import Derived.Test.YtglmciklegifaaaDoorDeskTimes
import Derived.Test.YtglmciklegifaaaDoorFewG
import Derived.Test.YtglmciklegifaaaDoorDkK
namespace Go.Proofs.YtglmciklegifaaaDoor
open Go.RowKit
set_option linter.unusedVariables false

theorem new_ok {g : Gm} {s : Gs} (h : GOk g s) (hr : rightB g = true) : newS g = ⟨g.pl.toNat, g.mv, g.df, 0, 0, fun _ _ => none⟩ ∧ 1 ≤ g.pl ∧ g.pl ≤ 6 ∧ g.df < g.mv ∧ g.mv < 4294967296 := by
  obtain ⟨h1, h2, h3⟩ := right_pl hr
  refine ⟨by unfold newS; rw [if_pos hr], h1, h2, h3, ?_⟩
  have := h.m1
  omega
theorem new_no {g : Gm} (hr : rightB g = false) : newS g = ⟨0, 0, 0, 0, 0, fun _ _ => none⟩ := by unfold newS; rw [if_neg (by rw [hr]; simp)]
abbrev apS (P M D k : Nat) : DkS := ⟨P, M, D, k, 0, fun _ _ => none⟩
theorem ap_take {P M D k : Nat} (hk : k < 100) : takeS (apS P M D k) = apS P M D (k + 1) := by
  unfold takeS takT
  simp only [takeF_none]
  rw [Nat.mod_eq_of_lt (by omega)]
theorem ap_list {P M D k i : Nat} (hi : i < P) : (takeL (apS P M D k))[i]? = some D := by
  unfold takeL
  simp only [List.getElem?_map, List.getElem?_range hi, Option.map_some]
  rfl
/-- What comes of a move for the next tick. -/
def apE (P M : Nat) (p : Int) (m : Nat) : Nat := if p < 0 ∨ (P : Int) ≤ p then 3 else if M ≤ m then 1 else 0
def apS' (P M D k : Nat) (p : Int) (m : Nat) : DkS := if apE P M p m = 0 then ⟨P, M, D, k, 1, updF (fun _ _ => none) p (k + 1) (some m)⟩ else apS P M D k
theorem ap_put {P M D k m : Nat} {p : Int} : putE (apS P M D k) p (k + 1) m = apE P M p m := by
  unfold putE apE
  split
  · rfl
  · split
    · rfl
    · rw [if_neg (show ¬ k + 1 ≤ k by omega), if_neg (show ¬ k + 8 < k + 1 by omega), if_neg (by simp)]
theorem ap_putS {P M D k m : Nat} {p : Int} : putS (apS P M D k) p (k + 1) m = apS' P M D k p m := by
  unfold putS apS'
  rw [ap_put]
theorem ap_pl {P M D k m : Nat} {p : Int} : (apS' P M D k p m).pl = P ∧ (apS' P M D k p m).tk = k ∧ (apS' P M D k p m).n ≤ 1 := by
  unfold apS'
  split <;> exact ⟨rfl, rfl, by simp⟩
theorem ap_list2 {P M D k m i : Nat} {p : Int} (hk : k < 100) (hi : i < P) : (takeL (apS' P M D k p m))[i]? = some (if apE P M p m = 0 ∧ (i : Int) = p then m else D) := by
  unfold apS'
  by_cases hE : apE P M p m = 0
  · rw [if_pos hE]
    unfold takeL takT
    simp only [List.getElem?_map, List.getElem?_range hi, Option.map_some, Option.some.injEq]
    rw [Nat.mod_eq_of_lt (by omega)]
    unfold updF
    by_cases hip : (i : Int) = p
    · rw [if_pos ⟨hip, rfl⟩, if_pos ⟨hE, hip⟩]
      rfl
    · rw [if_neg (fun h => hip h.1), if_neg (fun h => hip h.2)]
      rfl
  · rw [if_neg hE, ap_list hi, if_neg (fun h => hE h.1)]
theorem ap_take2 {P M D k m : Nat} {p : Int} (hk : k < 100) : (takeS (apS' P M D k p m)).tk = k + 1 := by
  unfold takeS takT
  show ((apS' P M D k p m).tk + 1) % 4294967296 = k + 1
  rw [ap_pl.2.1, Nat.mod_eq_of_lt (by omega)]
theorem sl_atW {w : World} {g i x : Nat} {l : List Nat} (h : Sl w g (some ⟨g, 0, none⟩) (wv l)) (hx : l[i]? = some x) : w.cell? ⟨g, i, none⟩ = some (.int .u32 (x : Int)) := by
  obtain ⟨off, e, hc⟩ := h (by intro h0; have h7 := congrArg List.length h0; simp only [wv_length, List.length_nil] at h7; have := (List.getElem?_eq_some_iff.1 hx).1; omega)
  injection e with e
  injection e with _ e
  subst e
  have h9 := hc i _ (wv_get? hx)
  rwa [Nat.zero_add] at h9
theorem GIn.past {w1 w w' : World} {g : Gm} {s : Gs} {S : Nat → Prop} (h1 : GIn w1 g s) (h : GIn w g s) (hm : Mod S w w') (hS : ∀ i, S i → w1.heap.size ≤ i) : GIn w' g s :=
  ⟨fun hx => (h.sc.keep (fun hlt => hm.block _ hlt (fun e => by have h8 := Sl.lt h1.sc hx; have h9 := hS _ e; omega))) hx, fun hx => (h.sk.keep (fun hlt => hm.block _ hlt (fun e => by have h8 := Sl.lt h1.sk hx; have h9 := hS _ e; omega))) hx⟩
set_option maxHeartbeats 8000000 in
set_option maxRecDepth 20000 in
theorem DeskApart_walk (g0 : Gm) (s0 : Gs) (p : Int) (m tk : Nat) (w : World) (hT : CTab w) (hr0 : GRaw g0 s0) (hi0 : GIn w g0 s0) (hp : inI p) (hm : m ≤ 4294967295) (htk : tk ≤ 255) :
    Calls Tryd.prog 4 #[.agg (gmA g0 s0), .int .i64 p, .int .u32 (m : Int), .int .u8 (tk : Int)] w fun e w' => e = .returned (.bool true) ∧ Below w.heap.size w w' := by
  have hb := below_alloc1 w (.cells (gmA g0 s0) 26)
  have hG := GBox.new_ w g0 s0
  have hi := hi0.ext hb
  have hT1 := hT.ext hb
  have hA := awake_calls _ hT1
  go_enter Tryd.func4, Tryd.ntmps4
  go_wp2_with fail
  refine hA.mono ?_
  rintro e w1 ⟨rfl, h1⟩
  replace hG := hG.ext h1
  replace hi := hi.ext h1
  replace hT1 := hT1.ext h1
  replace hb := hb.trans (h1.mono hb.size)
  have hw1s : w.heap.size < w1.heap.size := hG.lt
  clear hA h1 hi0 hT1
  have hF := FewG_calls g0 s0 w1 hi hr0
  have z0 := hG.c0
  have z1 := hG.c1
  have z2 := hG.c2
  have z3 := hG.c3
  have z4 := hG.c4
  have z5 := hG.c5
  go_wp2_with fail
  refine hF.mono ?_
  rintro e w2 ⟨s, rfl, hi2, hok, hsb, h1⟩
  obtain ⟨g, hg⟩ : ∃ g, g = fewG g0 := ⟨_, rfl⟩
  rw [← hg] at hi2 hok ⊢
  replace hG := hG.ext h1
  replace hb := hb.trans (h1.mono hb.size)
  clear hF h1 hg hi z0 z1 z2 z3 z4 z5
  have z0 := hG.c0
  have z1 := hG.c1
  have z2 := hG.c2
  have z3 := hG.c3
  have z4 := hG.c4
  have z5 := hG.c5
  have hfz := hG.free
  go_upto_region 4 with fail
  obtain ⟨h9, m9⟩ := six_set6 (.int .i64 g.ob) (.int .i64 g.pl) (.int .u32 (g.mv : Int)) (.int .u32 (g.df : Int)) (.slice s.A g.L.length s.c) (.slice s.A' g.K.length s.c') hG
  obtain ⟨w3, hw3⟩ : ∃ w3, w3 = ((((((w2.setCell ⟨w.heap.size, 0, none⟩ (.int .i64 g.ob)).setCell ⟨w.heap.size, 1, none⟩ (.int .i64 g.pl)).setCell ⟨w.heap.size, 2, none⟩ (.int .u32 (g.mv : Int))).setCell ⟨w.heap.size, 3, none⟩ (.int .u32 (g.df : Int))).setCell ⟨w.heap.size, 4, none⟩ (.slice s.A g.L.length s.c)).setCell ⟨w.heap.size, 5, none⟩ (.slice s.A' g.K.length s.c')) := ⟨_, rfl⟩
  rw [← hw3] at h9 m9 ⊢
  have hb3 : Below w.heap.size w w3 := hb.trans (m9.below hb.size (fun i hi e => by have e : i = w.heap.size := e; omega))
  replace hi2 : GIn w3 g s := ⟨hi2.sc.mod m9 (by show ¬ s.b = w.heap.size; omega), hi2.sk.mod m9 (by show ¬ s.b' = w.heap.size; omega)⟩
  have hG3 : GBox w3 w.heap.size g s := h9
  clear hw3 h9 m9 hG hb hfz z0 z1 z2 z3 z4 z5
  have hR := GRight_calls g s w3 hi2 hok (hT.ext hb3)
  have hN := fun W h hb => New_calls g s W h hok (hT.ext hb)
  obtain ⟨R, hRr⟩ : ∃ R, R = rightB g := ⟨_, rfl⟩
  rw [← hRr] at hR
  have HR := Lib.hid hRr
  have z0 := hG3.c0
  have z1 := hG3.c1
  have z2 := hG3.c2
  have z3 := hG3.c3
  have z4 := hG3.c4
  have z5 := hG3.c5
  clear hRr
  go_wp2_with fail
  refine hR.mono ?_
  rintro e w4 ⟨rfl, h1⟩
  replace hG3 := hG3.ext h1
  replace hi2 := hi2.ext h1
  replace hb3 := hb3.trans (h1.mono hb3.size)
  clear hR h1 z0 z1 z2 z3 z4 z5
  have z0 := hG3.c0
  have z1 := hG3.c1
  have z2 := hG3.c2
  have z3 := hG3.c3
  have z4 := hG3.c4
  have z5 := hG3.c5
  cases R with
  | false =>
    have hNn := hN w4 hi2 hb3
    rw [new_no HR.out.symm] at hNn
    go_wp2_with fail
    refine hNn.mono ?_
    rintro e w5 ⟨b, bm, rfl, hd, h1, h2, hb5⟩
    replace hG3 := hG3.ext hb5
    have hi4 := hi2
    replace hi2 := hi2.ext hb5
    have hz3 := hb3.size
    replace hb3 := hb3.trans (hb5.mono hz3)
    have hE : putE ⟨0, 0, 0, 0, 0, fun _ _ => none⟩ p 1 m = 3 := by
      unfold putE
      rw [if_pos (by show p < 0 ∨ (0 : Int) ≤ p; omega)]
    have hP := Put_lit b bm ⟨0, 0, 0, 0, 0, fun _ _ => none⟩ p 1 m 1 (m : Int) w5 hd rfl rfl hp (by omega) (by omega) (by simp [maxLen]) 3 3 ⟨0, 0, 0, 0, 0, fun _ _ => none⟩ hE rfl (by unfold putS; rw [hE]; rfl)
    have hbm4 := h2
    clear hNn hb5 z0 z1 z2 z3 z4 z5 hE
    have h1 : w.heap.size ≤ b := by omega
    have h2 : w.heap.size ≤ bm := by omega
    have hz4 := hb3.size
    have hbmX : bm ≠ w.heap.size := fun e => by
      obtain ⟨es, clock, h8⟩ := hd.mv.isMap
      have h9 : w5.heap[w.heap.size]? = _ := hG3
      rw [e, h9] at h8
      cases h8
    go_wp2_with fail
    refine hP.mono ?_
    rintro e w6 ⟨rfl, hd6, m6⟩
    replace hG3 := hG3.modG m6 (fun e => hbmX e.symm)
    have hi6 : GIn w6 g s := hi4.past hi2 m6 (fun i e => by subst e; exact hbm4)
    replace hb3 := Mod.below2 hb3 m6 hz4 (fun i hi e => by omega)
    have hNm := hN w6 hi6 hb3
    rw [new_no HR.out.symm] at hNm
    have hz6 := hb3.size
    clear hP hd m6 hi2 hi4 hd6 hN hi6 h1 h2 hz3 hz4 hbm4 hbmX
    have z0 := hG3.c0
    have z1 := hG3.c1
    have z2 := hG3.c2
    have z3 := hG3.c3
    have z4 := hG3.c4
    have z5 := hG3.c5
    go_wp2_with fail
    refine hNm.mono ?_
    rintro e w7 ⟨b', bm', rfl, hd7, h1, h2, hb7⟩
    replace hb3 := hb3.trans (hb7.mono hz6)
    have hK := Take_calls b' bm' _ w7 hd7
    have h1 : w.heap.size ≤ b' := by omega
    have h2 : w.heap.size ≤ bm' := by omega
    have hz7 := hb3.size
    clear hNm hb7 z0 z1 z2 z3 z4 z5 hG3
    go_wp2_with fail
    refine hK.mono ?_
    rintro e w8 ⟨g', rfl, -, -, -, m8⟩
    replace hb3 := Mod.below2 hb3 m8 hz7 (fun i hi e => by omega)
    clear hK m8 hd7
    go_wp2_with fail
    go_ret
    exact ⟨rfl, hb3⟩
  | true =>
    obtain ⟨hnew, hp1, hp6, hdf, hmv⟩ := new_ok hok HR.out.symm
    have hNn := hN w4 hi2 hb3
    rw [hnew] at hNn
    obtain ⟨P, hP⟩ : ∃ P : Nat, P = g.pl.toNat := ⟨_, rfl⟩
    have hPi : g.pl = (P : Int) := by rw [hP]; exact (Int.toNat_of_nonneg (by omega)).symm
    obtain ⟨M, hM⟩ : ∃ M : Nat, M = g.mv := ⟨_, rfl⟩
    obtain ⟨D, hD⟩ : ∃ D : Nat, D = g.df := ⟨_, rfl⟩
    rw [← hP, ← hM, ← hD] at hNn
    rw [← hM] at hmv hdf
    rw [← hD] at hdf
    have hP16 : 1 ≤ P ∧ P ≤ 6 := by omega
    have HPM := Lib.hid (And.intro hPi (And.intro hM hD))
    obtain ⟨K, hK⟩ : ∃ K, K = tk % 10 := ⟨_, rfl⟩
    have k1 : (tk : Int) % 10 = (K : Int) := by omega
    have k2 : (tk : Int).tmod 10 = (K : Int) := by rw [Int.tmod_eq_emod_of_nonneg (by omega)]; omega
    have k3 : IntKind.u8.wrap (K : Int) = (K : Int) := IntWalk.u8_in _ (by omega)
    have hK10 : K < 10 := by omega
    clear hN hnew hP hM hD hp1 hp6 hK hPi
    go_wp2_with fail
    refine hNn.mono ?_
    rintro e w5 ⟨b, bm, rfl, hd, h1, h2, hb5⟩
    replace hG3 := hG3.ext hb5
    have hz3 := hb3.size
    replace hb3 := hb3.trans (hb5.mono hz3)
    have h1 : w.heap.size ≤ b := by omega
    have h2 : w.heap.size ≤ bm := by omega
    have hbX : b ≠ w.heap.size := fun e => by
      have h8 := hd.box
      have h9 : w5.heap[w.heap.size]? = _ := hG3
      rw [e, h9] at h8
      injection h8 with h8
      injection h8 with _ h8 _
      exact absurd h8 (by decide)
    have hbmX : bm ≠ w.heap.size := fun e => by
      obtain ⟨es, clock, h8⟩ := hd.mv.isMap
      have h9 : w5.heap[w.heap.size]? = _ := hG3
      rw [e, h9] at h8
      cases h8
    clear hNn hb5 z0 z1 z2 z3 z4 z5 hi2 hz3
    go_wp2_with fail
    go_loopw [39] (fun i wr => ∃ k : Nat, k ≤ K ∧ i = .int .u8 (k : Int) ∧ Dk wr b bm (apS P M D k) ∧ GBox wr w.heap.size g s ∧ Below w.heap.size w wr) (fun i _ => K - (intOf i).toNat)
    case atStart => exact ⟨0, Nat.zero_le _, rfl, hd, hG3, hb3⟩
    case round =>
      obtain ⟨k, hk, rfl, hd, hG3, hb3⟩ := hrel
      by_cases hlt : k < K
      · have hlt' : (k : Int) < (K : Int) := by omega
        have hTk := Take_calls b bm _ wr hd
        rw [ap_take (by omega)] at hTk
        have hbz := hb3.size
        have e4 : IntKind.u8.wrap ((k : Int) + 1) = ((k + 1 : Nat) : Int) := IntWalk.u8_in _ (by omega)
        have e5 : ((k : Int) + 1) % 256 = ((k + 1 : Nat) : Int) := by omega
        go_wp2_with fail
        refine hTk.mono ?_
        rintro e w6 ⟨g', rfl, -, -, hd6, m6⟩
        have hG6 := hG3.modG m6 (fun e => by rcases e with e | e <;> omega)
        have hb6 := Mod.below2 hb3 m6 hbz (fun i hi e => by omega)
        clear hTk m6
        go_wp2_with fail
        refine ⟨⟨k + 1, by omega, by go_num, hd6, hG6, hb6⟩, by simp [intOf]; omega⟩
      · have hkK : k = K := by omega
        subst hkK
        have hCp := Copy_calls b bm _ wr hd
        have hdl := hd.lt
        have hdm := hd.ltm
        have hz5 := hb3.size
        obtain ⟨E, hEE⟩ : ∃ E, E = apE P M p m := ⟨_, rfl⟩
        have HE := Lib.hid hEE
        clear hEE hlt k1 k2 k3 hk
        go_wp2_with fail
        refine hCp.mono ?_
        rintro e w6 ⟨b2, bm2, rfl, hd2, hd6, hn1, hn2, h6⟩
        replace hG3 := hG3.ext h6
        replace hb3 := hb3.trans (h6.mono hz5)
        have hTk := Tick_calls b bm _ w6 hd6
        have e5 : ((k : Int) + 1) % 4294967296 = (k : Int) + 1 := by omega
        have hz6 := hb3.size
        have hb2X : b2 ≠ w.heap.size := by omega
        have hbm2X : bm2 ≠ w.heap.size := by omega
        have hb2b : b2 ≠ bm := by omega
        have hbm2b : bm2 ≠ bm := by omega
        have hbb2 : b ≠ b2 ∧ b ≠ bm2 ∧ bm ≠ b2 ∧ bm ≠ bm2 := by omega
        have h3 : w.heap.size ≤ b2 := by omega
        have h4 : w.heap.size ≤ bm2 := by omega
        clear hCp h6 hd
        go_wp2_with fail
        refine hTk.mono ?_
        rintro e w7 ⟨rfl, rfl⟩
        have hP := Put_lit b bm (apS P M D k) p (k + 1) m ((k : Int) + 1) (m : Int) w7 hd6 rfl rfl hp (by omega) (by omega) (by simp [maxLen]) E (E : Int) (apS' P M D k p m) (by rw [ap_put, HE.out]) rfl ap_putS
        clear hTk
        go_wp2_with fail
        refine hP.mono ?_
        rintro e w8 ⟨rfl, hd8, m8⟩
        replace hG3 := hG3.modG m8 (fun e => hbmX e.symm)
        replace hd2 := hd2.mod m8 hb2b hbm2b
        replace hb3 := Mod.below2 hb3 m8 hz6 (fun i hi e => by omega)
        have hz8 := hb3.size
        have hT1 := Take_calls b bm _ w8 hd8
        rw [ap_pl.1] at hT1
        clear hP m8 hd6 hz6
        go_wp2_with fail
        refine hT1.mono ?_
        rintro e w9 ⟨g1, rfl, hrow1, hg1, hd9, m9⟩
        replace hG3 := hG3.modG m9 (fun e => by rcases e with e | e <;> omega)
        have hd2l := hd2.lt
        have hd2m := hd2.ltm
        replace hd2 := hd2.mod m9 (fun e => by rcases e with e | e <;> omega) (fun e => by rcases e with e | e <;> omega)
        replace hb3 := Mod.below2 hb3 m9 hz8 (fun i hi e => by omega)
        obtain ⟨_, _, hsl1⟩ := RowW.sl hrow1
        have hz9 := hb3.size
        have hT2 := Take_calls b2 bm2 _ w9 hd2
        rw [ap_take (by omega)] at hT2
        clear hT1 m9 hd8 hz8 hrow1
        go_wp2_with fail
        refine hT2.mono ?_
        rintro e w10 ⟨g2, rfl, hrow2, hg2, hd10, m10⟩
        replace hG3 := hG3.modG m10 (fun e => by rcases e with e | e <;> omega)
        replace hd9 := hd9.mod m10 (fun e => by rcases e with e | e <;> omega) (fun e => by rcases e with e | e <;> omega)
        replace hsl1 := hsl1.mod m10 (fun e => by rcases e with e | e <;> omega)
        replace hb3 := Mod.below2 hb3 m10 hz9 (fun i hi e => by omega)
        obtain ⟨_, _, hsl2⟩ := RowW.sl hrow2
        clear hT2 m10 hd2 hz9 hrow2 hg1 hg2
        have HL1 := Lib.hid (fun i hi => ap_list2 (P := P) (M := M) (D := D) (k := k) (m := m) (i := i) (p := p) (by omega) hi)
        have HL2 := Lib.hid (fun i hi => ap_list (P := P) (M := M) (D := D) (k := k) (i := i) hi)
        have hS1 : (takeS (apS' P M D k p m)).tk = k + 1 := ap_take2 (by omega)
        obtain ⟨S1, hS1e⟩ : ∃ S, S = takeS (apS' P M D k p m) := ⟨_, rfl⟩
        rw [← hS1e] at hd9 hS1
        have HS1 := Lib.hid hS1
        obtain ⟨L1, hL1⟩ : ∃ L, L = takeL (apS' P M D k p m) := ⟨_, rfl⟩
        rw [← hL1] at hsl1 HL1
        obtain ⟨L2, hL2⟩ : ∃ L, L = takeL (apS P M D k) := ⟨_, rfl⟩
        rw [← hL2] at hsl2 HL2
        clear hS1 hS1e hL1 hL2
        go_wp2_with fail
        go_loopw [59] (fun i wr => ∃ n : Nat, n ≤ P ∧ i = .int .i64 (n : Int) ∧ GBox wr w.heap.size g s ∧ Sl wr g1 (some ⟨g1, 0, none⟩) (wv L1) ∧ Sl wr g2 (some ⟨g2, 0, none⟩) (wv L2) ∧ Dk wr b bm S1 ∧ Dk wr b2 bm2 (apS P M D (k + 1)) ∧ Below w.heap.size w wr) (fun i _ => P - (intOf i).toNat)
        case atStart => exact ⟨0, Nat.zero_le _, rfl, hG3, hsl1, hsl2, hd9, hd10, hb3⟩
        case round =>
          obtain ⟨n, hn, rfl, hG3, hsl1, hsl2, hd9, hd10, hb3⟩ := hrel
          have z1 := hG3.c1
          have z3 := hG3.c3
          rw [HPM.out.1] at z1
          rw [← HPM.out.2.2] at z3
          by_cases hlt : n < P
          · have hlt' : (n : Int) < (P : Int) := by omega
            have hcc1 := sl_atW hsl1 (HL1.out n hlt)
            have hcc2 := sl_atW hsl2 (HL2.out n hlt)
            rw [← HE.out] at hcc1
            obtain ⟨V, hV⟩ : ∃ V, V = (if E = 0 ∧ (n : Int) = p then m else D) := ⟨_, rfl⟩
            rw [← hV] at hcc1
            have HBB := Lib.hid (And.intro hd9 (And.intro hd10 (And.intro hsl1 hsl2)))
            have HGB := Lib.hid (And.intro hG3 hb3)
            clear hd9 hd10 hsl1 hsl2 hG3 hb3
            by_cases hip : (n : Int) = p
            · subst hip
              by_cases hE0 : E = 0
              · have hVm : V = m := by rw [hV, if_pos ⟨hE0, rfl⟩]
                subst hVm
                subst hE0
                clear hV
                go_wp2_with fail
                go_region
                go_wp2_with fail
                refine ⟨⟨n + 1, by omega, by go_num, HGB.out.1, HBB.out.2.2.1, HBB.out.2.2.2, HBB.out.1.drew, HBB.out.2.1.drew, below_drew HGB.out.2⟩, by simp [intOf] <;> omega⟩
              · have hVD : V = D := by rw [hV, if_neg (fun h => hE0 h.1)]
                subst hVD
                have e3 : ((E : Int) == 0) = false := by simp; omega
                clear hV
                go_wp2_with fail
                go_region
                go_wp2_with fail
                refine ⟨⟨n + 1, by omega, by go_num, HGB.out.1, HBB.out.2.2.1, HBB.out.2.2.2, HBB.out.1.drew, HBB.out.2.1.drew, below_drew HGB.out.2⟩, by simp [intOf] <;> omega⟩
            · have hVD : V = D := by rw [hV, if_neg (fun h => hip h.2)]
              subst hVD
              have e3 : ((n : Int) == p) = false := by simpa using hip
              have e4 : ((n : Int) != p) = true := by simpa using hip
              clear hV
              go_wp2_with fail
              go_region
              go_wp2_with fail
              refine ⟨⟨n + 1, by omega, by go_num, HGB.out.1, HBB.out.2.2.1, HBB.out.2.2.2, HBB.out.1.drew, HBB.out.2.1.drew, below_drew HGB.out.2⟩, by simp [intOf] <;> omega⟩
          · obtain rfl : n = P := by omega
            have hT1 := Tick_calls b bm _ wr hd9
            rw [HS1.out] at hT1
            have hT2 := Tick_calls b2 bm2 _ wr hd10
            have HB := Lib.hid hb3
            clear hd9 hd10 hsl1 hsl2 hG3 hb3 hlt
            go_wp2_with fail
            refine hT1.mono ?_
            rintro e w11 ⟨rfl, rfl⟩
            clear hT1
            go_wp2_with fail
            refine hT2.mono ?_
            rintro e w12 ⟨rfl, rfl⟩
            clear hT2
            go_wp2_with fail
            go_ret
            exact ⟨rfl, HB.out⟩
end Go.Proofs.YtglmciklegifaaaDoor
