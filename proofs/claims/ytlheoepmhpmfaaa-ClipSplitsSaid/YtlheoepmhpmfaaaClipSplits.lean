/- ClipSplits: the walk. Conditions: the numbers fit. -/
import Derived.Test.YtlheoepmhpmfaaaClipR
import Derived.Test.YtlheoepmhpmfaaaOpenP
namespace Go.Proofs.Ytlheoepmhpmfaaa
open Go.RowKit

theorem put_len (k : Bk) (x : Pc) (h : k.held.length ≤ 1024) : (putB k x).1.held.length ≤ 1024 := by
  unfold putB
  split
  · exact h
  · split
    · simp
    · rename_i h2
      have h0 : refuseN k x = 0 := by
        rcases Nat.eq_zero_or_pos (refuseN k x) with h | h
        · exact h
        · exact absurd (by omega) h2
      obtain ⟨_, h3, _⟩ := refuse_ok h0
      split
      · simp
      · simpa using h3

set_option maxHeartbeats 4000000 in
set_option maxRecDepth 20000 in
theorem ClipSplits_walk (n b : Nat) (A : Option Addr) (bs : List PV) (m c bb : Nat) (w : World) (hn : n ≤ 65535) (_hb : b ≤ 255) (hs : PcsIn w bb A bs) (hl : bs.length = m) (hm : m ≤ maxLen) :
    Calls Try.prog 3 #[.int .u16 (n : Int), .int .u8 (b : Int), .slice A m c] w fun e w' => e = .returned (.bool true) ∧ Below w.heap.size w w' := by
  obtain ⟨n1, hn1⟩ : ∃ n1, n1 = n % 1100 := ⟨_, rfl⟩
  obtain ⟨l, hl1⟩ : ∃ l, l = bytesN (n % 1100) b := ⟨_, rfl⟩
  have hll : l.length = n1 := by rw [hl1, bytesN_length, hn1]
  have hn2 : n1 < 1100 := by omega
  have hB := fun W => bytes_calls n b W (by omega)
  rw [← hl1] at hB
  clear hl1 hn1
  have HM := Lib.hid hl
  unfold maxLen at hm
  clear hl
  go_enter Try.func3, Try.ntmps3
  go_wp2_with fail
  refine (Awake_calls _).mono ?_
  rintro e w1 ⟨rfl, h1⟩
  go_wp2_with fail
  refine (hB _).mono ?_
  rintro e w2 ⟨vp, rfl, hp, h2⟩
  obtain ⟨Ap, cp, bp, rfl, hcp, hcm, -, -, hsp, -⟩ := hp.sl
  clear hp hB
  rw [hll] at hcp
  have HLL := Lib.hid hll
  rw [hll]
  have hb2 := h1.trans (h2.mono h1.size)
  clear hll h1 h2
  by_cases hlong : 1024 < n1
  · have hC := fun W => Count_out (n1 : Int) W (Or.inr (by omega))
    have hlong' : 1024 < (n1 : Int) := by omega
    go_wp2_with fail
    refine (Split_long Ap n1 cp w2 hlong (by simp only [maxLen]; omega)).mono ?_
    rintro e w3 ⟨rfl, rfl⟩
    go_wp2_with fail
    refine (hC _).mono ?_
    rintro e w4 ⟨rfl, rfl⟩
    go_wp2_with fail
    go_ret
    exact ⟨rfl, hb2⟩
  · have hn3 : n1 ≤ 1024 := by omega
    have hlong' : ¬ 1024 < (n1 : Int) := by omega
    go_wp2_with fail
    refine (Split_calls Ap l n1 cp bp _ hsp HLL.out hn3 hcp hcm).mono ?_
    rintro e w3 ⟨v, xs, rfl, hxp, hrow, hin, h3⟩
    obtain ⟨A1, c1, b1, rfl, hc1, hc2, -, -, hs1, -⟩ := ownsP_sl hrow
    obtain ⟨N, hN⟩ : ∃ N, N = cnt n1 := ⟨_, rfl⟩
    have hxl : xs.length = N := by have := congrArg List.length hxp; rw [splitP_length, HLL.out, ← hN] at this; simpa using this
    have hN2 : N ≤ 16 := by rw [hN]; exact cnt_le _ hn3
    have hN1 : 1 ≤ N := by rw [hN]; exact cnt_pos _
    have hs3 := Sl.ext hsp h3
    have hb3 := hb2.trans (h3.mono hb2.size)
    rw [hxl]
    have HN := Lib.hid hN
    have HXP := Lib.hid hxp
    have HXL := Lib.hid hxl
    have hin3 : ∀ x ∈ xs, PV.In w3 x := fun x hx => (hin x hx).1
    clear hrow hN hxp hxl hin hc1 hc2 hsp hb2 h3
    go_wp2_with fail
    refine (RSplit_calls Ap l n1 cp bp _ hs3 HLL.out hn3).mono ?_
    rintro e w4 ⟨vz, zs, rfl, hzp, hrowz, hinz, h4⟩
    obtain ⟨Az, cz, bz, rfl, -, -, -, -, hsz, -⟩ := ownsP_sl hrowz
    have hzl : zs.length = N := by have := congrArg List.length hzp; rw [splitP_length, HLL.out, ← HN.out] at this; simpa using this
    rw [hzl]
    have HZP := Lib.hid hzp
    have HZL := Lib.hid hzl
    have hp4 := Sl.ext hs3 h4
    have hs14 : PcsIn w4 b1 A1 xs := PcsIn.ext ⟨hs1, hin3⟩ h4
    have hsz4 : PcsIn w4 bz Az zs := ⟨hsz, hinz⟩
    have hb4 := hb3.trans (h4.mono hb3.size)
    have hC := fun W => Count_calls n1 W hn3
    rw [← HN.out] at hC
    have HP := Lib.hid (And.intro hp4 (And.intro hs14 hsz4))
    clear hrowz hzl hzp hinz h4 hb3 hs3 hs1 hin3 hp4 hs14 hsz4 hsz
    go_wp2_with fail
    refine (hC _).mono ?_
    rintro e w5 ⟨rfl, rfl⟩
    have q0 : BoxK (w5.alloc (.cells #[.slice none 0 0, .bool false] 34)) w5.heap.size (.slice none 0 0) false := heap_alloc_new w5 _
    have hba := below_alloc1 w5 (.cells #[.slice none 0 0, .bool false] 34)
    have hb6 := hb4.trans (hba.mono hb4.size)
    have hws := hb4.size
    go_wp2_with fail
    obtain ⟨g, hg⟩ : ∃ g, g = w5.heap.size := ⟨_, rfl⟩
    obtain ⟨w6, hw6⟩ : ∃ w6, w6 = w5.alloc (.cells #[.slice none 0 0, .bool false] 34) := ⟨_, rfl⟩
    have hs6 : w6.heap.size = g + 1 := by rw [hw6, hg]; simp
    rw [← hg, ← hw6] at q0
    rw [← hw6] at hb6 hba
    rw [← hg, ← hw6]
    have HG := Lib.hid (And.intro hg hs6)
    clear hg hw6 hs6 hC
    go_loopw [66] (fun i wr => ∃ (k : Nat) (v : Value) (K : Bk), k ≤ m ∧ i = .int .i64 k ∧ Hid (KIn wr w6.heap.size g v K) ∧ Hid (K.held.length ≤ 1024) ∧ Mod (fun i => i = g ∨ w6.heap.size ≤ i) w6 wr) (fun i _ => m - (intOf i).toNat)
    case atStart => exact ⟨0, _, ⟨[], false⟩, Nat.zero_le _, rfl, Lib.hid ⟨q0, Row.nil_ _ _, fun _ => rfl⟩, Lib.hid (by simp), Mod.refl _ _⟩
    case round =>
      obtain ⟨k, v, K, hk, rfl, hK, hKl, hmx⟩ := hrel
      have hsx := hmx.size
      have hbw : Below w.heap.size w wr := hb6.trans (hmx.below hb6.size (fun i hi h => by have := HG.out; have := hb6.size; omega))
      by_cases hltk : k < m
      · have hkx : k < bs.length := by rw [HM.out]; exact hltk
        obtain ⟨off, rfl, a0, a1, a2⟩ := sl_pv (Sl.below hs.1 hbw (Sl.lt hs.1 (by intro h; have := congrArg List.length h; rw [pvs_length] at this; simp at this; omega))) hkx
        obtain ⟨xd, hxm⟩ := hs.2 _ (List.getElem_mem hkx)
        replace xd := Bs.modne xd (Mod.of_below hbw) (fun hne h => by have := Bs.lt xd hne; omega)
        obtain ⟨y, hy⟩ : ∃ y, y = bs[k] := ⟨_, rfl⟩
        rw [← hy] at a0 a1 a2 xd hxm
        clear hy
        obtain ⟨WX, hWX⟩ : ∃ WX, WX = wr.alloc (.cells #[.bool y.p.first, .bool y.p.last, .slice y.A y.p.data.length y.c] 36) := ⟨_, rfl⟩
        have hxa : Below wr.heap.size wr WX := by rw [hWX]; exact below_alloc1 wr _
        have hKa := hK.out.ext hxa
        by_cases h20 : k < 20
        · have hPut := Put_calls w6.heap.size g v K y.p y.A y.c y.b WX hKa hKl.out (Sl.ext xd hxa) hxm (Nat.le_trans hsx hxa.size)
          have hvl := Lib.hid hK.out.row.lt
          have hpl := Lib.hid (put_len K y.p hKl.out)
          have h20' : (k : Int) < 20 := by omega
          subst hWX
          clear xd hxm
          go_wp2_with fail
          refine hPut.mono ?_
          rintro e w7 ⟨v2, vo, rfl, hK7, -, hm7⟩
          have hm8 : Mod (fun i => i = g ∨ w6.heap.size ≤ i) w6 w7 := (hmx.trans (Mod.of_below hxa) (fun i _ h => h) (fun i _ h => .inr (by omega))).trans hm7 (fun i _ h => h) (fun i hi h => h.imp id (fun h => (hvl.out _ h).1))
          go_wp2_with fail
          exact ⟨⟨k + 1, v2, _, by omega, by go_num, Lib.hid hK7, hpl, hm8⟩, by simp [intOf]; omega⟩
        · have h20' : ¬ (k : Int) < 20 := by omega
          subst hWX
          go_wp2_with fail
          exact ⟨⟨k + 1, v, K, by omega, by go_num, Lib.hid hKa, hKl, hmx.trans (Mod.of_below hxa) (fun i _ h => h) (fun i _ h => .inr (by omega))⟩, by simp [intOf]; omega⟩
      · go_wp2_with fail
        refine (Clear_calls wr.heap.size g v K.leaving wr hK.out.box).mono ?_
        rintro e w7 ⟨rfl, hK7, hm7⟩
        obtain ⟨wz, rfl⟩ : ∃ wz : World, wz = wr := ⟨_, rfl⟩
        obtain ⟨hp4, hs14, hsz4⟩ := HP.out
        have hm57 : Mod (fun i => i = g ∨ g ≤ i) w5 w7 := ((Mod.of_below hba).trans hmx (S := fun i => i = g ∨ g ≤ i) (fun i _ h => .inr (by have := HG.out; omega)) (fun i _ h => h.imp id (fun h => by have := HG.out; omega))).trans hm7 (fun i _ h => h) (fun i _ h => .inl h)
        have hbe7 : Below w5.heap.size w5 w7 := hm57.below (Nat.le_refl _) (fun i hi h => by have := HG.out; omega)
        have hp7 := Sl.ext hp4 hbe7
        have hs7 := hs14.ext hbe7
        have hz7 := hsz4.ext hbe7
        have hb7 := hb4.trans (hbe7.mono hb4.size)
        have h7s := hm7.size
        have hK8 : KIn w7 w7.heap.size g (.slice none 0 0) ⟨heldAt l 0, false⟩ := by rw [heldAt_zero]; exact hK7.empty rfl
        have hbg : ∀ i, i < w5.heap.size → i ≠ g := fun i hi h => by have := HG.out; omega
        have HBG := Lib.hid hbg
        have H5 := Lib.hid hbe7.size
        have hblk : ∀ x : PV, x ∈ xs ∨ x ∈ zs → x.p.data ≠ [] → x.b < w5.heap.size := fun x hx hne => by
          rcases hx with hx | hx
          · exact Bs.lt (hs14.2 x hx).1 hne
          · exact Bs.lt (hsz4.2 x hx).1 hne
        have HBLK := Lib.hid hblk
        have hxne : pvs xs ≠ [] := by
          intro h
          have h9 := congrArg List.length h
          rw [pvs_length, HXL.out] at h9
          simp at h9
          omega
        have hzne : pvs zs ≠ [] := by
          intro h
          have h9 := congrArg List.length h
          rw [pvs_length, HZL.out] at h9
          simp at h9
          omega
        have hb1l := Sl.lt hs14.1 hxne
        have hbzl := Sl.lt hsz4.1 hzne
        have hbpl := Lib.hid (fun hne => Bs.lt hp4 hne)
        have HE := Lib.hid (And.intro hp7 (And.intro hs7 hz7))
        clear hm57 hp4 hs14 hsz4 hp7 hs7 hz7 hbg hblk hxne hzne hm7 hK7 hK hmx hbe7 hbw hsx hs hlong hlong'
        go_wp2_with fail
        go_loopw [79] (fun i wr => ∃ (k : Nat) (v : Value), k ≤ N ∧ i = .int .i64 k ∧ Hid (KIn wr w7.heap.size g v ⟨heldAt l k, false⟩) ∧ Mod (fun i => i = g ∨ w7.heap.size ≤ i) w7 wr) (fun i _ => N - (intOf i).toNat)
        case atStart => exact ⟨0, _, Nat.zero_le _, rfl, Lib.hid hK8, Mod.refl _ _⟩
        case round =>
          obtain ⟨k, v, hk, rfl, hKx, hmx⟩ := hrel
          by_cases hltk : k < N
          · obtain ⟨hp7, hs7, hz7⟩ := HE.out
            have hkx : k < xs.length := by rw [HXL.out]; exact hltk
            have hkz : k < zs.length := by rw [HZL.out]; exact hltk
            obtain ⟨off, rfl, a0, a1, a2⟩ := sl_pv (Sl.mod hs7.1 hmx (fun h => by have := HBG.out _ hb1l; have := H5.out; omega)) hkx
            obtain ⟨offz, rfl, z0, z1, z2⟩ := sl_pv (Sl.mod hz7.1 hmx (fun h => by have := HBG.out _ hbzl; have := H5.out; omega)) hkz
            have hpk := pcs_get HXP.out hkx
            have hqk := pcs_get HZP.out hkz
            obtain ⟨xd, hxm⟩ := hs7.2 _ (List.getElem_mem hkx)
            obtain ⟨zd, -⟩ := hz7.2 _ (List.getElem_mem hkz)
            replace xd := Bs.modne xd hmx (fun hne h => by have h8 := HBLK.out _ (Or.inl (List.getElem_mem hkx)) hne; have := HBG.out _ h8; have := H5.out; omega)
            replace zd := Bs.modne zd hmx (fun hne h => by have h8 := HBLK.out _ (Or.inr (List.getElem_mem hkz)) hne; have := HBG.out _ h8; have := H5.out; omega)
            have pd := Bs.modne hp7 hmx (fun hne h => by have h8 := hbpl.out hne; have := HBG.out _ h8; have := H5.out; omega)
            obtain ⟨y, hy⟩ : ∃ y, y = xs[k] := ⟨_, rfl⟩
            obtain ⟨z, hz⟩ : ∃ z, z = zs[k] := ⟨_, rfl⟩
            rw [← hy] at a0 a1 a2 hpk xd hxm
            rw [← hz] at z0 z1 z2 hqk zd
            clear hy hz hp7 hs7 hz7
            rw [hpk] at a0 a1 a2 xd hxm
            rw [hqk] at z0 z1 z2 zd
            have hput := put_at l k false (by rw [HLL.out, ← HN.out]; exact hltk) (by rw [HLL.out]; exact hn3) (Or.inl rfl)
            rw [HLL.out, ← HN.out] at hput
            obtain ⟨P, hP⟩ : ∃ P, P = pieceAt l k := ⟨_, rfl⟩
            have hla : P.last = decide (k + 1 = N) := by rw [HN.out, ← HLL.out, hP]; rfl
            rw [← hP] at a0 a1 a2 xd hput hxm z0 z1 z2 zd
            have hsx := hmx.size
            obtain ⟨WX, hWX⟩ : ∃ WX, WX = wr.alloc (.cells #[.bool P.first, .bool P.last, .slice y.A P.data.length y.c] 36) := ⟨_, rfl⟩
            have hxa : Below wr.heap.size wr WX := by rw [hWX]; exact below_alloc1 wr _
            have hKa := hKx.out.ext hxa
            have xda := Sl.ext xd hxa
            have zda := Sl.ext zd hxa
            have hbox : WX.heap[wr.heap.size]? = some (.cells #[.bool P.first, .bool P.last, .slice y.A P.data.length y.c] 36 (0, 0)) := by rw [hWX]; exact heap_alloc_new wr _
            have hSm := fun j => (Same_calls y.A z.A P.data P.data P.data.length P.data.length y.c z.c y.b z.b (WX.drewN j) (Sl.drewN xda j) (Sl.drewN zda j) rfl rfl hxm hxm)
            simp only [decide_true] at hSm
            obtain ⟨la, hlae⟩ : ∃ la, la = decide (k + 1 = N) := ⟨_, rfl⟩
            rw [← hlae] at hput hla
            have e29 := IntWalk.i64_in ((N : Int) - 1) (by omega)
            have e30 : ((k : Int) == (N : Int) - 1) = la := by rw [hlae, Bool.eq_iff_iff]; simp; omega
            have hvl := Lib.hid hKx.out.row.lt
            have HPUT := Lib.hid (And.intro hput (And.intro hKa (And.intro xda hxm)))
            have HPD := Lib.hid (Sl.ext pd hxa)
            have b0 := (cell_of_row WX wr.heap.size 0 _ _ _ hbox).trans (show _ = some (.bool P.first) from rfl)
            have b1' := (cell_of_row WX wr.heap.size 1 _ _ _ hbox).trans (show _ = some (.bool P.last) from rfl)
            have b2 := (cell_of_row WX wr.heap.size 2 _ _ _ hbox).trans (show _ = some (.slice y.A P.data.length y.c) from rfl)
            have HXA := Lib.hid hxa
            have HLA := Lib.hid hla
            have y0 : WX.cell? ⟨bz, offz + k * 3, none⟩ = some (.bool P.first) := by rw [hWX]; exact cell_alloc z0
            have y1 : WX.cell? ⟨bz, offz + k * 3 + 1, none⟩ = some (.bool P.last) := by rw [hWX]; exact cell_alloc z1
            have y2 : WX.cell? ⟨bz, offz + k * 3 + 2, none⟩ = some (.slice z.A P.data.length z.c) := by rw [hWX]; exact cell_alloc z2
            clear z0 z1 z2 hla
            clear hput hKa xd zd pd hpk hqk hP xda zda hbox hxa
            have hhl : decide (0 < (heldAt l (k + 1)).length) = !la := by
              rw [hlae, Bool.eq_iff_iff]
              simp only [decide_eq_true_eq, Bool.not_eq_true', decide_eq_false_iff_not]
              unfold heldAt
              rw [HLL.out, ← HN.out]
              have hc := HN.out
              unfold cnt at hc
              split
              · simp; assumption
              · simp only [List.length_take, HLL.out]
                split at hc <;> omega
            have HHL := Lib.hid hhl
            have HLAE := Lib.hid hlae
            subst hWX
            clear hhl hlae
            go_wp2_with fail
            go_quiet ((go_at_call 16; exact Calls.quiet_of (hSm _)))
            obtain ⟨hput, hKa, xda, hxm2⟩ := HPUT.out
            have hPut := Put_calls w7.heap.size g v ⟨heldAt l k, false⟩ P y.A y.c y.b ((wr.alloc (.cells #[.bool P.first, .bool P.last, .slice y.A P.data.length y.c] 36)).drewN nq) ⟨hKa.box, hKa.row, hKa.none_⟩ (by show (heldAt l k).length ≤ 1024; have := heldAt_le l k; have := HLL.out; omega) (Sl.drewN xda nq) hxm2 (Nat.le_trans hsx HXA.out.size)
            rw [hput] at hPut
            obtain ⟨Pf, Pl, Pd⟩ := P
            have hla := HLA.out
            simp only at hla a0 a1 a2 hPut b0 b1' b2 y0 y1 y2
            subst hla
            clear hput hKa xda hxm2 hSm
            skip -- LOOK
            cases Pl with
            | true =>
              have hkN : k + 1 = N := by simpa using HLAE.out.symm
              rw [if_pos hkN] at hPut
              go_wp2_with fail
              refine hPut.mono ?_
              rintro e w8 ⟨v2, vo, rfl, hK8, hr8, hm8⟩
              obtain ⟨Ao, co, bo, rfl, -, -, -, -, hso, -⟩ := hr8.sl
              have hm9 : Mod (fun i => i = g ∨ w7.heap.size ≤ i) w7 w8 := (hmx.trans ((Mod.of_below HXA.out).trans (Mod.drewN (fun _ => False) _ nq) (S := fun i => wr.heap.size ≤ i) (fun i _ h => h) (fun i _ h => h.elim)) (fun i _ h => h) (fun i _ h => .inr (by omega))).trans hm8 (fun i _ h => h) (fun i hi h => h.imp id (fun h => (hvl.out _ h).1))
              have hp8 := Bs.modne HPD.out ((Mod.drewN (fun _ => False) _ nq).trans hm8 (S := fun i => i = g ∨ v.ownBlock = some i) (fun i _ h => h.elim) (fun i _ h => h)) (fun hne h => by have h8 := hbpl.out hne; have := HBG.out _ h8; have := H5.out; rcases h with h | h; omega; have := (hvl.out _ h).1; omega)
              rw [HLL.out]
              go_wp2_with fail
              refine (Same_calls Ao Ap l l n1 n1 co cp bo bp _ hso hp8 HLL.out HLL.out (by simp only [maxLen]; omega) (by simp only [maxLen]; omega)).mono ?_
              rintro e w9 ⟨rfl, jj, rfl⟩
              rw [show decide (l = l) = true by simp]
              have hK9 : KIn (w8.drewN jj) w7.heap.size g v2 ⟨heldAt l (k + 1), false⟩ := ⟨hK8.box, hK8.row, hK8.none_⟩
              have hO := Open_calls w7.heap.size g v2 _ _ hK9
              simp only [HHL.out, Bool.not_true] at hO
              go_wp2_with fail
              refine hO.mono ?_
              rintro e w10 ⟨rfl, rfl⟩
              go_wp2_with fail
              exact ⟨⟨k + 1, v2, by omega, by go_num, Lib.hid hK9, hm9.trans (Mod.drewN (fun _ => False) _ _) (fun i _ h => h) (fun i _ h => h.elim)⟩, by simp [intOf]; omega⟩
            | false =>
              go_wp2_with fail
              refine hPut.mono ?_
              rintro e w8 ⟨v2, vo, rfl, hK8, -, hm8⟩
              have hm9 : Mod (fun i => i = g ∨ w7.heap.size ≤ i) w7 w8 := (hmx.trans ((Mod.of_below HXA.out).trans (Mod.drewN (fun _ => False) _ nq) (S := fun i => wr.heap.size ≤ i) (fun i _ h => h) (fun i _ h => h.elim)) (fun i _ h => h) (fun i _ h => .inr (by omega))).trans hm8 (fun i _ h => h) (fun i hi h => h.imp id (fun h => (hvl.out _ h).1))
              have hO := Open_calls w7.heap.size g v2 _ _ hK8
              simp only [HHL.out, Bool.not_false] at hO
              go_wp2_with fail
              refine hO.mono ?_
              rintro e w10 ⟨rfl, rfl⟩
              go_wp2_with fail
              exact ⟨⟨k + 1, v2, by omega, by go_num, Lib.hid hK8, hm9⟩, by simp [intOf]; omega⟩
          · have hkN : k = N := by omega
            subst hkN
            have hK9 := hKx.out
            rw [HN.out, ← HLL.out, heldAt_cnt] at hK9
            have hH := Held_calls w7.heap.size g v ⟨[], false⟩ wr hK9
            simp only [List.length_nil] at hH
            go_wp2_with fail
            refine hH.mono ?_
            rintro e w9 ⟨rfl, rfl⟩
            go_wp2_with fail
            go_ret
            exact ⟨rfl, hb7.trans (hmx.below hb7.size (fun i hi h => by have := HG.out; have := H5.out; omega))⟩
end Go.Proofs.Ytlheoepmhpmfaaa
