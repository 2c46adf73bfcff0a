/- ClipCounts: the walk. Conditions: the numbers fit. -/
import Derived.Test.YtgkflgnlodhelaaClipW
import Derived.Test.YtgkflgnlodhelaaRefSame
namespace Go.Proofs.Ytgkflgnlodhelaa
open Go.RowKit

theorem take_piece (l : List UInt8) (k : Nat) : l.take (64 * k) ++ (pieceAt l k).data = l.take (64 * (k + 1)) := by
  unfold pieceAt
  simp only
  rw [show 64 * (k + 1) = 64 * k + 64 by omega, List.take_add]
theorem piece_len (l : List UInt8) (k : Nat) (hk : k < cnt l.length) : (pieceAt l k).data.length ≤ 64 ∧ ((pieceAt l k).last = false → (pieceAt l k).data.length = 64) := by
  unfold pieceAt
  simp only [List.length_take, List.length_drop, decide_eq_false_iff_not]
  unfold cnt at hk ⊢
  split at hk <;> (refine ⟨by omega, fun h => ?_⟩; simp_all; try omega)
theorem pcs_get {xs : List PV} {l : List UInt8} (h : xs.map PV.p = splitP l) {k : Nat} (hk : k < xs.length) : xs[k].p = pieceAt l k := by
  have hk2 : k < (splitP l).length := by rw [← h]; simpa using hk
  rw [← splitP_get l k hk2]
  simp only [← h, List.getElem_map]
theorem take_cnt (l : List UInt8) : l.take (64 * cnt l.length) = l := List.take_of_length_le (by unfold cnt; split <;> omega)

set_option maxHeartbeats 2000000 in
set_option maxRecDepth 20000 in
theorem ClipCounts_walk (n b : Nat) (w : World) (hn : n ≤ 65535) (_hb : b ≤ 255) :
    Calls Try.prog 8 #[.int .u16 (n : Int), .int .u8 (b : Int)] w fun e w' => e = .returned (.bool true) ∧ Below w.heap.size w w' := by
  obtain ⟨n1, hn1⟩ : ∃ n1, n1 = n % 1025 := ⟨_, rfl⟩
  have e1 : (n : Int).tmod 1025 = (n1 : Int) := by rw [hn1, Int.tmod_eq_emod_of_nonneg (by omega)]; omega
  have e2 : IntKind.u16.wrap (n1 : Int) = (n1 : Int) := IntWalk.u16_in _ (by omega)
  have hn2 : n1 ≤ 1024 := by omega
  obtain ⟨l, hl⟩ : ∃ l, l = bytesN (n1 % 1100) b := ⟨_, rfl⟩
  have hll : l.length = n1 := by rw [hl, bytesN_length]; omega
  clear hn1
  have hB := fun W => bytes_calls n1 b W (by omega)
  rw [← hl] at hB
  clear hl
  go_enter Try.func8, Try.ntmps8
  go_wp2_with fail
  refine (Awake_calls _).mono ?_
  rintro e w1 ⟨rfl, h1⟩
  go_wp2_with fail
  refine (hB _).mono ?_
  rintro e w2 ⟨vp, rfl, hp, h2⟩
  obtain ⟨Ap, cp, bp, rfl, hcp, hcm, -, -, hsp, -⟩ := hp.sl
  clear hp hB
  rw [hll] at hcp
  have HLL := Lib.hid hll
  rw [hll]
  go_wp2_with fail
  refine (Split_calls Ap l n1 cp bp _ hsp HLL.out hn2 hcp hcm).mono ?_
  rintro e w3 ⟨v, xs, rfl, hxp, hrow, hin, h3⟩
  obtain ⟨A1, c1, b1, rfl, hc1, hc2, -, -, hs1, -⟩ := ownsP_sl hrow
  obtain ⟨N, hN⟩ : ∃ N, N = cnt n1 := ⟨_, rfl⟩
  have hxl : xs.length = N := by have := congrArg List.length hxp; rw [splitP_length, HLL.out, ← hN] at this; simpa using this
  have hN2 : N ≤ 16 := by rw [hN]; exact cnt_le _ hn2
  have hs3 := Sl.ext hsp h3
  rw [hxl]
  have HN := Lib.hid hN
  have HXP := Lib.hid hxp
  have HXL := Lib.hid hxl
  have HIN := Lib.hid hin
  clear hrow hN hxp hxl hin hll hc1 hc2 hsp
  have hbw : Below w.heap.size w w3 := (h1.trans (h2.mono h1.size)).trans (h3.mono (h1.trans (h2.mono h1.size)).size)
  clear h1 h2 h3
  go_wp2_with fail
  go_loopw [8, 24] (fun v i wr => ∃ k : Nat, k ≤ N ∧ i = .int .i64 k ∧ Hid (Row wr w3.heap.size v (l.take (64 * k))) ∧ Below w3.heap.size w3 wr) (fun _ i _ => N - (intOf i).toNat)
  case atStart => exact ⟨0, Nat.zero_le _, rfl, Lib.hid (by simpa using Row.nil_ _ _), Below.refl _ _⟩
  case round =>
    obtain ⟨k, hk, rfl, hown, hb⟩ := hrel
    by_cases hlt : k < N
    · have hkx : k < xs.length := by rw [HXL.out]; exact hlt
      obtain ⟨off, rfl, a0, a1, a2⟩ := sl_pv (Sl.ext hs1 hb) hkx
      have hpk := pcs_get HXP.out hkx
      obtain ⟨hl1, hl2⟩ := piece_len l k (by rw [HLL.out, ← HN.out]; exact hlt)
      obtain ⟨⟨xd, -⟩, -⟩ := HIN.out _ (List.getElem_mem hkx)
      replace xd := Sl.ext xd hb
      obtain ⟨y, hy⟩ : ∃ y, y = xs[k] := ⟨_, rfl⟩
      rw [← hy] at a0 a1 a2 hpk xd
      clear hy
      have hpc := take_piece l k
      rw [hpk] at a0 a1 a2 xd
      obtain ⟨⟨f, la, d⟩, hP⟩ : ∃ P, P = pieceAt l k := ⟨_, rfl⟩
      rw [← hP] at a0 a1 a2 xd hl1 hl2 hpc
      simp only at a0 a1 a2 xd hl1 hl2 hpc
      have hf : f = decide (k = 0) := congrArg Pc.first hP
      have hla : la = decide (k + 1 = N) := by rw [HN.out, ← HLL.out]; exact congrArg Pc.last hP
      have e26 : ((k : Int) == 0) = f := by rw [hf, Bool.eq_iff_iff]; simp
      have e29 := IntWalk.i64_in ((N : Int) - 1) (by omega)
      have e30 : ((k : Int) == (N : Int) - 1) = la := by rw [hla, Bool.eq_iff_iff]; simp; omega
      have hpl : (l.take (64 * k)).length + d.length ≤ 140737488355328 := by simp; have := HLL.out; omega
      have hbs := hb.size
      obtain ⟨s, hs⟩ : ∃ s, s = d.length := ⟨_, rfl⟩
      rw [← hs] at a2 hl1 hl2 hpl
      have HS := Lib.hid hs
      have HPC := Lib.hid hpc
      clear hP hf hla hpk hpc hs
      have hxa := below_alloc1 wr (.cells #[.bool f, .bool la, .slice y.A s y.c] 36)
      have xd2 := Sl.ext xd hxa
      have hown2 := Lib.hid (Row.ext hown.out hxa)
      clear xd
      cases la with
      | true =>
        go_wp2_with (at_builtin; refine wpList_app _ rfl (.tmp 61) (.tmp 63) rfl w3.heap.size _ _ rfl hown2.out y.b y.A s y.c d rfl xd2 HS.out.symm hpl (by simp; omega) ?_; intro v' w4 hown' hmod _)
        refine ⟨⟨k + 1, by omega, by go_num, Lib.hid (hown'.cast HPC.out), (hb.trans (hxa.mono hbs)).trans (hmod.below (by simp; omega) (fun i hi hv => by have := (Row.lt hown.out i hv).1; omega))⟩, by simp [intOf]; omega⟩
      | false =>
        have hs64 : s = 64 := hl2 rfl
        have e52 : ((s : Int) != 64) = false := by rw [hs64]; rfl
        clear hl2 hs64
        go_wp2_with (at_builtin; refine wpList_app _ rfl (.tmp 61) (.tmp 63) rfl w3.heap.size _ _ rfl hown2.out y.b y.A s y.c d rfl xd2 HS.out.symm hpl (by simp; omega) ?_; intro v' w4 hown' hmod _)
        refine ⟨⟨k + 1, by omega, by go_num, Lib.hid (hown'.cast HPC.out), (hb.trans (hxa.mono hbs)).trans (hmod.below (by simp; omega) (fun i hi hv => by have := (Row.lt hown.out i hv).1; omega))⟩, by simp [intOf]; omega⟩
    · have hkN : k = N := by omega
      subst hkN
      have hv := hown.out
      rw [HN.out, ← HLL.out, take_cnt] at hv
      obtain ⟨A9, c9, b9, rfl, -, -, -, -, hs9, -⟩ := hv.sl
      have hsl := Sl.ext hs3 hb
      rw [HLL.out]
      have hC := fun W => Count_calls n1 W hn2
      rw [← HN.out] at hC
      clear hv
      go_wp2_with fail
      refine (hC _).mono ?_
      rintro e w5 ⟨rfl, rfl⟩
      go_wp2_with fail
      refine (Same_calls A9 Ap l l n1 n1 c9 cp b9 bp _ hs9 hsl HLL.out HLL.out (by simp only [maxLen]; omega) (by simp only [maxLen]; omega)).mono ?_
      rintro e w6 ⟨rfl, j, rfl⟩
      have hd : decide (l = l) = true := by simp
      rw [hd]
      go_wp2_with fail
      go_ret
      exact ⟨rfl, below_drewN (hbw.trans (hb.mono hbw.size)) j⟩
end Go.Proofs.Ytgkflgnlodhelaa
