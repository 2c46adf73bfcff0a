/- WireCounts: of frames as many come as weren't lost, one more for each that comes twice; within three Takes all are there. No condition. -/
import Derived.Test.YtbcfelihncnofaaWiCn
import Derived.Test.YtbcfelihncnofaaWiF
import Derived.Test.YtbcfelihncnofaaOpenW
namespace Go.Proofs.Ytbcfelihncnofaa
open Go.RowKit
set_option linter.unusedVariables false

theorem TMod.boxT {T1 T2 : TypeId} {B : Nat} {w w' : World} (h : TMod T1 T2 B w w') {g : Nat} {a b : Value} (q : BoxT w g a b) (h1 : 34 ≠ T1) (h2 : 34 ≠ T2) : BoxT w' g a b := (h.keep g _ _ _ q h1 h2).trans q
theorem TMod.setT {w : World} {B g j : Nat} {a b u : Value} (q : BoxT w g a b) (hB : B ≤ w.heap.size) (hg : B ≤ g) : TMod 34 34 B w (w.setCell ⟨g, j, none⟩ u) :=
  ⟨(Below.refl _ _).setCell hg u, fun b cur e fr hc h1 _ => heap_setCell_other w ⟨g, j, none⟩ b u (fun h => by
    subst h
    unfold BoxT at q
    rw [q] at hc
    injection hc with hc
    injection hc with _ h2 _
    exact h1 h2.symm)⟩
theorem few_small (ls : List (List UInt8)) (k : Nat) : ∀ l ∈ fewL ls k, l.length ≤ 40 := by
  intro l hl
  unfold fewL at hl
  obtain ⟨x, _, rfl⟩ := List.mem_map.1 hl
  rw [List.length_take]
  omega
theorem fewF_ok {fs : List Ft} (k : Nat) (h : ∀ f ∈ fs, f.ok) : ∀ f ∈ fewF fs k, f.ok := fun f hf => h f (List.mem_of_mem_take (List.mem_of_mem_take hf))
set_option maxHeartbeats 8000000 in
set_option maxRecDepth 20000 in
theorem WireCounts_walk (x : TV) (w : World) (hx : TV.In w x) :
    Calls Try.prog 6 #[.agg x.cells.toArray] w fun e w' => e = .returned (.bool true) ∧ Below w.heap.size w w' := by
  obtain ⟨A1, us, ls, c1, b1, A2, fs, c2, b2⟩ := x
  obtain ⟨n1, hn1⟩ : ∃ n1, ls.length = n1 := ⟨_, rfl⟩
  obtain ⟨n2, hn2⟩ : ∃ n2, fs.length = n2 := ⟨_, rfl⟩
  have hb := below_alloc1 w (.cells #[.slice A1 n1 c1, .slice A2 n2 c2] 34)
  have q1 : BoxT (w.alloc (.cells #[.slice A1 n1 c1, .slice A2 n2 c2] 34)) w.heap.size (.slice A1 n1 c1) (.slice A2 n2 c2) := heap_alloc_new w _
  replace hx := hx.ext hb
  show Calls Try.prog 6 #[.agg #[.slice A1 ls.length c1, .slice A2 fs.length c2]] w _
  rw [hn1, hn2]
  obtain ⟨w1, hw1⟩ : ∃ w1, w1 = w.alloc (.cells #[.slice A1 n1 c1, .slice A2 n2 c2] 34) := ⟨_, rfl⟩
  rw [← hw1] at hb q1 hx
  obtain ⟨g, hg⟩ : ∃ g, g = w.heap.size := ⟨_, rfl⟩
  rw [← hg] at q1
  have hgw : w.heap.size ≤ g := by omega
  go_enter Try.func6, Try.ntmps6
  go_wp2_with fail
  rw [← hw1, ← hg]
  clear hw1 hg
  refine (awake_calls _).mono ?_
  rintro e w2 ⟨rfl, hb2⟩
  replace q1 := q1.ext hb2
  replace hx := hx.ext hb2
  replace hb := hb.trans (hb2.mono hb.size)
  have l0 := q1.c0
  have l1 := q1.c1
  have hF := few_calls A1 us ls n1 c1 b1 A2 fs n2 c2 b2 w2 hx.hs hx.hu hn1 (hn1 ▸ hx.hm1) hx.hll hx.hf hn2 (hn2 ▸ hx.hm2)
  have hok := hx.hok
  have HOK := Lib.hid hok
  clear hb2 hx hok hn1 hn2
  go_wp2_with fail
  refine hF.mono ?_
  rintro e w3 ⟨x1, x2, x3, rfl, ⟨us1, hr1, hi1, ha1, -, hb3⟩⟩
  clear l0 l1 hF
  obtain ⟨M, hM⟩ : ∃ M, M = fewL ls ls.length := ⟨_, rfl⟩
  obtain ⟨F, hFe⟩ : ∃ F, F = fewF fs fs.length := ⟨_, rfl⟩
  have hl1 : M.length ≤ 8 := by rw [hM]; exact fewL_length _ _
  have hz1 : ∀ l ∈ M, l.length ≤ 1000000 := by rw [hM]; exact fun l h => Nat.le_trans (few_small _ _ l h) (by decide)
  have hl2 : F.length ≤ 8 := by rw [hFe]; exact fewF_length _ _
  have hz2 : ∀ f ∈ F, f.ok := by rw [hFe]; exact fewF_ok _ HOK.out
  rw [← hM] at hi1
  rw [← hFe] at ha1
  obtain ⟨m, hm⟩ : ∃ m, M.length = m := ⟨_, rfl⟩
  obtain ⟨n, hn⟩ : ∃ n, F.length = n := ⟨_, rfl⟩
  rw [hm] at hl1
  rw [hn] at hl2 ha1
  obtain ⟨B1, d1, e1, rfl, -, r1, t1⟩ := res_sl hr1 hi1 hm
  obtain ⟨B2, d2, e2, rfl, -, -, -, r2, -⟩ := SlT.of_own ha1
  replace q1 := q1.ext hb3
  replace hb := hb.trans (hb3.mono hb.size)
  have HM := Lib.hid hm
  have HN := Lib.hid hn
  have y0 := q1.c0
  have y1 := q1.c1
  have y2 := q1.fz 0
  have y3 := q1.fz 1
  have hT1 := TMod.setT (j := 0) (u := .slice B1 m d1) q1 hb.size hgw
  have q2 := q1.set0 (.slice B1 m d1)
  have hT2 := TMod.setT (j := 1) (u := .slice B2 n d2) q2 (Nat.le_trans hb.size hT1.bel.size) hgw
  have q3 := q2.set1 (.slice B2 n d2)
  have hT := hT1.trans hT2
  replace r1 := hT.slT r1 (by decide) (by decide)
  replace t1 := hT.bssT t1 (by decide) (by decide)
  replace r2 := hT.slT r2 (by decide) (by decide)
  replace hb := hb.trans hT.bel
  obtain ⟨w4, hw4⟩ : ∃ w4, w4 = (w3.setCell ⟨g, 0, none⟩ (.slice B1 m d1)).setCell ⟨g, 1, none⟩ (.slice B2 n d2) := ⟨_, rfl⟩
  have hs4 : w4.heap.size = w3.heap.size := by rw [hw4]; simp [World.setCell]
  rw [← hw4] at r1 t1 r2 hb q3
  have bx := below_alloc1 w4 (.cells #[.slice none 0 0] 26)
  have qx : Box (w4.alloc (.cells #[.slice none 0 0] 26)) w3.heap.size (.slice none 0 0) 26 := by rw [← hs4]; exact Box.new_ _ _ _
  obtain ⟨w5, hw5⟩ : ∃ w5, w5 = w4.alloc (.cells #[.slice none 0 0] 26) := ⟨_, rfl⟩
  rw [← hw5] at bx qx
  replace r1 := r1.ext bx
  replace t1 := t1.ext bx
  replace r2 := r2.ext bx
  replace q3 := q3.ext bx
  have hB5 : w3.heap.size ≤ w5.heap.size := by have := bx.size; omega
  have HB3 := Lib.hid (show w.heap.size ≤ w3.heap.size by have := hb.size; omega)
  replace hb := hb.trans (bx.mono hb.size)
  have hq0 : Wi w3.heap.size 0 w3.heap.size w5 [] := Wi.new_ qx
  have hP := WPut_calls w3.heap.size 0 w3.heap.size [] B1 us1 M m d1 e1 B2 F n d2 e2 w5 hq0 r1 t1 HM.out hz1 r2 HN.out hz2 (by simp; omega) (by simp only [maxLen]; omega) hB5 (Nat.le_refl _) (Nat.zero_le _)
  rw [List.nil_append] at hP
  obtain ⟨ks, hks⟩ : ∃ ks, ks = putsN M F m := ⟨_, rfl⟩
  rw [← hks] at hP
  have z0 : World.cell? (((w3.setCell ⟨g, 0, none⟩ (.slice B1 m d1)).setCell ⟨g, 1, none⟩ (.slice B2 n d2)).alloc (.cells #[.slice none 0 0] 26)) ⟨g, 0, none⟩ = some (.slice B1 m d1) := by rw [← hw4, ← hw5]; exact q3.c0
  have z1 : World.cell? (((w3.setCell ⟨g, 0, none⟩ (.slice B1 m d1)).setCell ⟨g, 1, none⟩ (.slice B2 n d2)).alloc (.cells #[.slice none 0 0] 26)) ⟨g, 1, none⟩ = some (.slice B2 n d2) := by rw [← hw4, ← hw5]; exact q3.c1
  have HW4 := Lib.hid hw4
  have HW5 := Lib.hid hw5
  have HKS := Lib.hid hks
  clear hr1 hi1 ha1 hM hFe hm hn hb3 hT1 hT2 hT q1 q2 hw4 hw5 hs4 bx qx hq0 hks
  go_wp2_with fail
  rw [← HW4.out, ← HW5.out]
  refine hP.mono ?_
  rintro e w6 ⟨rfl, hw, hm⟩
  clear hP z0 z1 y0 y1 y2 y3 HW4 HW5
  replace r2 := hm.slT r2 (by decide) (by decide)
  replace q3 := hm.boxT q3 (by decide) (by decide)
  replace hb := hb.trans (hm.bel.mono HB3.out)
  replace hB5 := Nat.le_trans hB5 hm.bel.size
  have c0 := q3.c0
  have c1' := q3.c1
  clear hm
  go_wp2_with fail
  go_loopw [4, 27] (fun v i wr => ∃ k : Nat, k ≤ n ∧ i = .int .i64 k ∧ v = .int .i64 (wantN m F k) ∧ Below w6.heap.size w6 wr) (fun _ i _ => n - (intOf i).toNat)
  case atStart => exact ⟨0, Nat.zero_le _, rfl, rfl, Below.refl _ _⟩
  case round =>
    obtain ⟨k, hk, rfl, rfl, hbr⟩ := hrel
    clear c0 c1'
    have q4 := q3.ext hbr
    by_cases hlt : k < n
    · have hkl : k < F.length := by rw [HN.out]; exact hlt
      obtain ⟨of, rfl, f0, f1, f2⟩ := sl_ft (r2.ext hbr).1 hkl
      obtain ⟨f, hfe⟩ : ∃ f, f = F[k] := ⟨_, rfl⟩
      have hfg : F.getD k fz = f := by rw [hfe, List.getD_eq_getElem?_getD, List.getElem?_eq_getElem hkl]; rfl
      rw [← hfe] at f0 f1 f2
      have h9 := below_alloc1 wr (.cells f.cells.toArray 50)
      have c0 := (q4.ext h9).c0
      have hwb := wantN_bnd m F k
      have hwn : wantN m F (k + 1) = wantN m F k + (if k < m then adjF f else 0) := by rw [wantN, hfg]
      obtain ⟨W, hW⟩ : ∃ W, W = wantN m F k := ⟨_, rfl⟩
      rw [← hW] at hwb hwn ⊢
      have HWN := Lib.hid hwn
      have HB9 := Lib.hid (fun o => hbr.trans ((below_alloc1 wr o).mono hbr.size))
      have c01 := (q4.ext (below_alloc1 wr (.cells #[.int .u8 1, .int .u16 (f.pos : Int), .int .u32 (f.mask : Int)] 50))).c0
      have c02 := (q4.ext (below_alloc1 wr (.cells #[.int .u8 2, .int .u16 (f.pos : Int), .int .u32 (f.mask : Int)] 50))).c0
      clear hfe hfg hwn h9 hW q4 hbr
      by_cases hkm : k < m
      · have hd : decide ((k : Int) < (m : Int)) = true := by simp; omega
        rw [if_pos hkm] at HWN
        by_cases h1 : f.how = 1
        · have e1 : ((f.how : Int) == 1) = true := by simp; omega
          have hadj : adjF f = -1 := by unfold adjF; rw [if_pos h1]
          have HA := Lib.hid hadj
          have hw1 := IntWalk.i64_in (W - 1) (by omega)
          clear hadj
          go_wp2_with fail
          go_roundw
          case rel => exact ⟨k + 1, by omega, by go_num, by rw [HWN.out, HA.out]; rfl, HB9.out _⟩
          case measure => simp [intOf]; omega
        · by_cases h2 : f.how = 2
          · have e1 : ((f.how : Int) == 1) = false := by simp; omega
            have e2 : ((f.how : Int) == 2) = true := by simp; omega
            have hadj : adjF f = 1 := by unfold adjF; rw [if_neg h1, if_pos h2]
            have HA := Lib.hid hadj
            have hw1 := IntWalk.i64_in (W + 1) (by omega)
            clear hadj h1
            go_wp2_with fail
            go_roundw
            case rel => exact ⟨k + 1, by omega, by go_num, by rw [HWN.out, HA.out], HB9.out _⟩
            case measure => simp [intOf]; omega
          · have e1 : ((f.how : Int) == 1) = false := by simp; omega
            have e2 : ((f.how : Int) == 2) = false := by simp; omega
            have hadj : adjF f = 0 := by unfold adjF; rw [if_neg h1, if_neg h2]
            have HA := Lib.hid hadj
            clear hadj h1 h2
            go_wp2_with fail
            go_roundw
            case rel => exact ⟨k + 1, by omega, by go_num, by rw [HWN.out, HA.out, Int.add_zero], HB9.out _⟩
            case measure => simp [intOf]; omega
      · have hd : decide ((k : Int) < (m : Int)) = false := by simp; omega
        rw [if_neg hkm] at HWN
        go_wp2_with fail
        go_roundw
        case rel => exact ⟨k + 1, by omega, by go_num, by rw [HWN.out, Int.add_zero], HB9.out _⟩
        case measure => simp [intOf]; omega
    · obtain rfl : k = n := by omega
      have hwant : wantN m F k = (ks.length : Int) := by rw [HKS.out, ← HN.out]; exact wantN_all M F m
      rw [hwant]
      have hkl8 : ks.length ≤ 16 := by have := putsN_length M F m; rw [HKS.out]; omega
      have ht : ∀ x ∈ ks, x.2 = 1 ∨ x.2 = 2 ∨ x.2 = 3 := by rw [HKS.out]; exact putsN_t M F m
      obtain ⟨h3, h4⟩ := three ks ht
      have t1 : ∀ x ∈ ks, 1 ≤ x.2 ∧ x.2 ≤ 3 := fun x hx => by rcases ht x hx with h | h | h <;> omega
      have t2 := later_small t1
      have t3 := later_small t2
      have k2 := later_le ks
      have k3 := later_le (laterK ks)
      have j1 := now_le ks
      have j2 := now_le (laterK ks)
      have j3 := now_le (laterK (laterK ks))
      have hwr := hw.ext hbr
      have hBr := Nat.le_trans hB5 hbr.size
      replace hb := hb.trans (hbr.mono hb.size)
      have hW1 := WWait_calls w3.heap.size 0 w3.heap.size ks wr hwr
      have hK1 := WTake_calls w3.heap.size 0 w3.heap.size ks wr hwr (by omega) (fun x hx => by have := t1 x hx; omega) hBr (Nat.le_refl _)
      have HT2 := Lib.hid (fun W h1 h2 => WTake_calls w3.heap.size 0 w3.heap.size (laterK ks) W h1 (by omega) (fun x hx => by have := t2 x hx; omega) h2 (Nat.le_refl _))
      have HT3 := Lib.hid (fun W h1 h2 => WTake_calls w3.heap.size 0 w3.heap.size (laterK (laterK ks)) W h1 (by omega) (fun x hx => by have := t3 x hx; omega) h2 (Nat.le_refl _))
      have HT4 := Lib.hid (fun W h1 h2 => WTake_calls w3.heap.size 0 w3.heap.size [] W h1 (by simp) (by simp) h2 (Nat.le_refl _))
      have H4 := Lib.hid h4
      obtain ⟨N, hN⟩ : ∃ N, N = ks.length := ⟨_, rfl⟩
      obtain ⟨N1, hN1⟩ : ∃ N1, (nowK ks).length = N1 := ⟨_, rfl⟩
      obtain ⟨N2, hN2⟩ : ∃ N2, (nowK (laterK ks)).length = N2 := ⟨_, rfl⟩
      obtain ⟨N3, hN3⟩ : ∃ N3, (nowK (laterK (laterK ks))).length = N3 := ⟨_, rfl⟩
      rw [← hN] at hW1 hkl8 ⊢
      have hsum : N1 + N2 + N3 = N := by omega
      have HN1 := Lib.hid hN1
      have HN2 := Lib.hid hN2
      have HN3 := Lib.hid hN3
      have g1 : (N1 : Int) + (N2 : Int) + (N3 : Int) = (N : Int) := by omega
      have g2 := IntWalk.i64_in ((N1 : Int) + (N2 : Int)) (by omega)
      have g3 := IntWalk.i64_in ((N1 : Int) + (N2 : Int) + (N3 : Int)) (by omega)
      clear hwant h3 h4 t1 t2 t3 k2 k3 j1 j2 j3 hwr hw ht hN hN1 hN2 hN3 q3 q4 hbr r2 hB5
      go_wp2_with fail
      refine hW1.mono ?_
      rintro e w7 ⟨rfl, rfl⟩
      clear hW1
      go_wp2_with fail
      refine hK1.mono ?_
      rintro e w8 ⟨vo8, rfl, ⟨us8, hr8, hi8, -, hw, hm⟩⟩
      obtain ⟨C8, f8, j8, rfl, -, -, -⟩ := res_sl hr8 hi8 HN1.out
      replace hb := hb.trans (hm.bel.mono HB3.out)
      have hB8 := Nat.le_trans hBr hm.bel.size
      have hK2 := HT2.out _ hw hB8
      clear hK1 hm hw hr8 hi8 hBr HT2
      go_wp2_with fail
      refine hK2.mono ?_
      rintro e w9 ⟨vo9, rfl, ⟨us9, hr9, hi9, -, hw, hm⟩⟩
      obtain ⟨C9, f9, j9, rfl, -, -, -⟩ := res_sl hr9 hi9 HN2.out
      replace hb := hb.trans (hm.bel.mono HB3.out)
      have hB9 := Nat.le_trans hB8 hm.bel.size
      have hK3 := HT3.out _ hw hB9
      clear hK2 hm hw hr9 hi9 hB8 HT3
      go_wp2_with fail
      refine hK3.mono ?_
      rintro e w10 ⟨vo10, rfl, ⟨us10, hr10, hi10, -, hw, hm⟩⟩
      obtain ⟨C10, f10, j10, rfl, -, -, -⟩ := res_sl hr10 hi10 HN3.out
      rw [H4.out] at hw
      replace hb := hb.trans (hm.bel.mono HB3.out)
      have hB10 := Nat.le_trans hB9 hm.bel.size
      have hW4 := WWait_calls w3.heap.size 0 w3.heap.size [] w10 hw
      rw [show ((([] : List (List UInt8 × Int)).length : Nat) : Int) = 0 from rfl] at hW4
      have hK4 := HT4.out _ hw hB10
      clear hK3 hm hw hr10 hi10 hB9 HT4
      go_wp2_with fail
      refine hW4.mono ?_
      rintro e w11 ⟨rfl, rfl⟩
      clear hW4
      go_wp2_with fail
      refine hK4.mono ?_
      rintro e w12 ⟨vo12, rfl, ⟨us12, hr12, hi12, -, hw, hm⟩⟩
      obtain ⟨C12, f12, j12, rfl, -, -, -⟩ := res_sl (n := 0) hr12 hi12 rfl
      have HBE := Lib.hid (hb.trans (hm.bel.mono HB3.out))
      clear hK4 hm hw hr12 hi12 hb
      go_wp2_with fail
      go_ret
      exact ⟨rfl, HBE.out⟩
end Go.Proofs.Ytbcfelihncnofaa
