/- ClipRows: the walk. Conditions: the numbers fit. -/
import Derived.Test.YtlheoepmhpmfaaaClipG
import Derived.Test.YtlheoepmhpmfaaaOpenU16
namespace Go.Proofs.Ytlheoepmhpmfaaa
open Go.RowKit

theorem us_get {l : List Nat} {k : Nat} (hk : k < l.length) : (us l)[k]? = some (.int .u16 (l[k] : Int)) := by simp [us, hk]
set_option maxHeartbeats 4000000 in
set_option maxRecDepth 20000 in
theorem ClipRows_walk (A : Option Addr) (L : List Nat) (n c bb : Nat) (b : Nat) (w : World) (hs : Sl w bb A (us L)) (hn : L.length = n) (_hm : n ≤ maxLen) (hu : ∀ y ∈ L, y < 65536) (_hb : b ≤ 255) :
    Calls Try.prog 7 #[.slice A n c, .int .u8 (b : Int)] w fun e w' => e = .returned (.bool true) ∧ Below w.heap.size w w' := by

  have HN := Lib.hid hn
  have HU := Lib.hid hu
  clear hn hu
  go_enter Try.func7, Try.ntmps7
  go_wp2_with fail
  refine (Awake_calls _).mono ?_
  rintro e w1 ⟨rfl, h1⟩
  have q0 : BoxK (w1.alloc (.cells #[.slice none 0 0, .bool false] 34)) w1.heap.size (.slice none 0 0) false := heap_alloc_new w1 _
  have hb1 := h1.trans ((below_alloc1 w1 (.cells #[.slice none 0 0, .bool false] 34)).mono h1.size)
  have hg0 := h1.size
  obtain ⟨g, hg⟩ : ∃ g, g = w1.heap.size := ⟨_, rfl⟩
  obtain ⟨w2, hw2⟩ : ∃ w2, w2 = w1.alloc (.cells #[.slice none 0 0, .bool false] 34) := ⟨_, rfl⟩
  go_wp2_with fail
  rw [← hg] at hg0 q0 ⊢
  rw [← hw2] at q0 hb1 ⊢
  clear hg hw2 h1
  go_loopw [20] (fun i wr => ∃ j : Nat, j ≤ n ∧ i = .int .i64 j ∧ Hid (KIn wr 0 g (.slice none 0 0) ⟨[], false⟩) ∧ Below w.heap.size w wr) (fun i _ => n - (intOf i).toNat)
  case atStart => exact ⟨0, Nat.zero_le _, rfl, Lib.hid ⟨q0, Row.nil_ _ _, fun _ => rfl⟩, hb1⟩
  case round =>
    obtain ⟨j, hj, rfl, hK, hbw⟩ := hrel
    by_cases hlt : j < n
    · by_cases h6 : 6 ≤ j
      · have hO := Open_calls 0 g _ _ wr hK.out
        have hH := Held_calls 0 g _ _ wr hK.out
        simp only [List.length_nil, Nat.lt_irrefl, decide_false] at hO hH
        have hjL : j < L.length := by rw [HN.out]; exact hlt
        obtain ⟨offl, rfl, hcl, -⟩ := Sl.at_ (Sl.below hs hbw (Sl.lt hs (by intro h; have := congrArg List.length h; simp [us] at this; rw [this] at hjL; simp at hjL))) (k := j) (by simpa [us] using hjL)
        have hcl2 : wr.cell? ⟨bb, offl + j, none⟩ = some (.int .u16 (L[j] : Int)) := by rw [hcl]; simp [us]
        clear hcl
        go_wp2_with fail
        refine hO.mono ?_
        rintro e w5 ⟨rfl, rfl⟩
        go_wp2_with fail
        refine hH.mono ?_
        rintro e w6 ⟨rfl, rfl⟩
        go_wp2_with fail
        go_ret
        exact ⟨rfl, hbw⟩
      · have hjL : j < L.length := by rw [HN.out]; exact hlt
        obtain ⟨offl, rfl, hcl, -⟩ := Sl.at_ (Sl.below hs hbw (Sl.lt hs (by intro h; have := congrArg List.length h; simp [us] at this; rw [this] at hjL; simp at hjL))) (k := j) (by simpa [us] using hjL)
        have hcl2 : wr.cell? ⟨bb, offl + j, none⟩ = some (.int .u16 (L[j] : Int)) := by rw [hcl]; simp [us]
        have hz := HU.out _ (List.getElem_mem hjL)
        obtain ⟨z, hzz⟩ : ∃ z, z = L[j] := ⟨_, rfl⟩
        rw [← hzz] at hcl2 hz
        clear hcl hzz
        obtain ⟨n1, hn1⟩ : ∃ n1, n1 = z % 1025 := ⟨_, rfl⟩
        have e1 : (z : Int).tmod 1025 = (n1 : Int) := by rw [hn1, Int.tmod_eq_emod_of_nonneg (by omega)]; omega
        have e2 : IntKind.u16.wrap (n1 : Int) = (n1 : Int) := IntWalk.u16_in _ (by omega)
        have hn2 : n1 ≤ 1024 := by omega
        obtain ⟨b', hb'⟩ : ∃ b', b' = (b + j) % 256 := ⟨_, rfl⟩
        have e3 : ((b : Int) + (j : Int)) % 256 = (b' : Int) := by rw [hb']; omega
        obtain ⟨l, hl⟩ : ∃ l, l = bytesN (n1 % 1100) b' := ⟨_, rfl⟩
        have hll : l.length = n1 := by rw [hl, bytesN_length]; omega
        have hB := fun W => bytes_calls n1 b' W (by omega)
        rw [← hl] at hB
        clear hl hn1 hb'
        go_wp2_with fail
        refine (hB _).mono ?_
        rintro e w4 ⟨vp, rfl, hp, h2⟩
        obtain ⟨Ap, cp, bp, rfl, hcp, hcm, -, hpB, hsp, -⟩ := hp.sl
        have hpb : ∀ k, (Value.slice Ap l.length cp).ownBlock = some k → k ≠ g := fun k hk => by have := (Row.lt hp k hk).1; have := hK.out.box.lt; omega
        clear hp hB
        rw [hll] at hcp
        have HLL := Lib.hid hll
        rw [hll]
        go_wp2_with fail
        refine (Split_calls Ap l n1 cp bp _ hsp HLL.out hn2 hcp hcm).mono ?_
        rintro e w3 ⟨v, xs, rfl, hxp, hrow, hin, h3⟩
        obtain ⟨A1, c1, b1, rfl, hc1, hc2, -, hb1w, hs1, -⟩ := ownsP_sl hrow
        obtain ⟨N, hN⟩ : ∃ N, N = cnt n1 := ⟨_, rfl⟩
        have hxl : xs.length = N := by have := congrArg List.length hxp; rw [splitP_length, HLL.out, ← hN] at this; simpa using this
        have hN2 : N ≤ 16 := by rw [hN]; exact cnt_le _ hn2
        have hgr := hK.out.box.lt
        have h2s := h2.size
        have h3s := h3.size
        have hK3 : KIn w3 w3.heap.size g (.slice none 0 0) ⟨heldAt l 0, false⟩ := by
          rw [heldAt_zero]
          exact (((hK.out.ext h2).ext h3).empty rfl)
        have hbp : wr.heap.size ≤ bp := hpB
        have hs3 := Sl.ext hsp h3
        have hb3 := (h2.trans (h3.mono h2s))
        have hbw3 := hbw.trans (hb3.mono hbw.size)
        have hxne : pvs xs ≠ [] := by
          intro h
          have h9 := congrArg List.length h
          rw [pvs_length, hxl] at h9
          have := cnt_pos n1
          simp at h9
          omega
        have hb1l := Sl.lt hs1 hxne
        rw [hxl]
        have HN1 := Lib.hid hN
        have HXP := Lib.hid hxp
        have HXL := Lib.hid hxl
        have HIN := Lib.hid hin
        have HNB := Lib.hid hb1w
        clear hrow hN hxp hxl hin hll hc1 hc2 hsp hxne hb1w
        go_wp2_with fail
        obtain ⟨wz, rfl⟩ : ∃ wz : World, wz = wr := ⟨_, rfl⟩
        go_loopw [43] (fun i wr => ∃ (k : Nat) (v : Value), k ≤ N ∧ i = .int .i64 k ∧ Hid (KIn wr w3.heap.size g v ⟨heldAt l k, false⟩) ∧ Mod (fun i => i = g ∨ w3.heap.size ≤ i) w3 wr) (fun i _ => N - (intOf i).toNat)
        case atStart => exact ⟨0, _, Nat.zero_le _, rfl, Lib.hid hK3, Mod.refl _ _⟩
        case round =>
          obtain ⟨k, v, hk, rfl, hKx, hmx⟩ := hrel
          by_cases hltk : k < N
          · have hkx : k < xs.length := by rw [HXL.out]; exact hltk
            have hn1b := HNB.out
            obtain ⟨off, rfl, a0, a1, a2⟩ := sl_pv (Sl.mod hs1 hmx (fun h => by omega)) hkx
            have hpk := pcs_get HXP.out hkx
            obtain ⟨⟨xd, hxm⟩, hxb⟩ := HIN.out _ (List.getElem_mem hkx)
            replace xd := Bs.modne xd hmx (fun hne h => by have := Bs.lt xd hne; omega)
            obtain ⟨y, hy⟩ : ∃ y, y = xs[k] := ⟨_, rfl⟩
            rw [← hy] at a0 a1 a2 hpk xd hxm hxb
            clear hy
            rw [hpk] at a0 a1 a2 xd hxm
            have hput := put_at l k false (by rw [HLL.out, ← HN1.out]; exact hltk) (by rw [HLL.out]; exact hn2) (Or.inl rfl)
            rw [HLL.out, ← HN1.out] at hput
            obtain ⟨P, hP⟩ : ∃ P, P = pieceAt l k := ⟨_, rfl⟩
            have hla : P.last = decide (k + 1 = N) := by rw [HN1.out, ← HLL.out, hP]; rfl
            rw [← hP] at a0 a1 a2 xd hput hxm
            have hsx := hmx.size
            have hpx := Bs.modne hs3 hmx (fun hne h => by have := Bs.lt hs3 hne; omega)
            obtain ⟨WX, hWX⟩ : ∃ WX, WX = wr.alloc (.cells #[.bool P.first, .bool P.last, .slice y.A P.data.length y.c] 36) := ⟨_, rfl⟩
            have hxa : Below wr.heap.size wr WX := by rw [hWX]; exact below_alloc1 wr _
            have hKa := hKx.out.ext hxa
            have xda := Sl.ext xd hxa
            have hpa := Sl.ext hpx hxa
            have hPut := Put_calls w3.heap.size g v ⟨heldAt l k, false⟩ P y.A y.c y.b WX hKa (by show (heldAt l k).length ≤ 1024; have := heldAt_le l k; have := HLL.out; omega) xda hxm (Nat.le_trans hsx hxa.size)
            rw [hput] at hPut
            have hvl := hKx.out.row.lt
            obtain ⟨la, hlae⟩ : ∃ la, la = decide (k + 1 = N) := ⟨_, rfl⟩
            rw [← hlae] at hPut hla
            have e29 := IntWalk.i64_in ((N : Int) - 1) (by omega)
            have e30 : ((k : Int) == (N : Int) - 1) = la := by rw [hlae, Bool.eq_iff_iff]; simp; omega
            have HVL := Lib.hid hvl
            have HP := Lib.hid hP
            subst hWX
            obtain ⟨Pf, Pl, Pd⟩ := P
            simp only at hla a0 a1 a2 hPut xda
            subst hla
            clear hP hput xd hpk hvl
            cases Pl with
            | true =>
              have hkN : k + 1 = N := by simpa using hlae.symm
              rw [if_pos hkN] at hPut
              clear hlae
              go_wp2_with fail
              refine hPut.mono ?_
              rintro e w5 ⟨v2, vo, rfl, hK5, hr5, hm5⟩
              obtain ⟨Ao, co, bo, rfl, -, -, -, -, hso, -⟩ := hr5.sl
              have hm6 : Mod (fun i => i = g ∨ w3.heap.size ≤ i) w3 w5 := (hmx.trans (Mod.of_below hxa) (fun i _ h => h) (fun i _ h => .inr (by omega))).trans hm5 (fun i _ h => h) (fun i hi h => h.imp id (fun h => (HVL.out _ h).1))
              have hp5 := Bs.modne hs3 hm6 (fun hne h => by have := Bs.lt hs3 hne; omega)

              rw [HLL.out]
              go_wp2_with fail
              refine (Same_calls Ao Ap l l n1 n1 co cp bo bp _ hso hp5 HLL.out HLL.out (by simp only [maxLen]; omega) (by simp only [maxLen]; omega)).mono ?_
              rintro e w6 ⟨rfl, jj, rfl⟩
              rw [show decide (l = l) = true by simp]
              go_wp2_with fail
              exact ⟨⟨k + 1, v2, by omega, by go_num, Lib.hid ⟨hK5.box, hK5.row, hK5.none_⟩, hm6.trans (Mod.drewN (fun _ => False) _ _) (fun i _ h => h) (fun i _ h => h.elim)⟩, by simp [intOf]; omega⟩
            | false =>
              clear hlae
              go_wp2_with fail
              refine hPut.mono ?_
              rintro e w5 ⟨v2, vo, rfl, hK5, hr5, hm5⟩
              have hm6 : Mod (fun i => i = g ∨ w3.heap.size ≤ i) w3 w5 := (hmx.trans (Mod.of_below hxa) (fun i _ h => h) (fun i _ h => .inr (by omega))).trans hm5 (fun i _ h => h) (fun i hi h => h.imp id (fun h => (HVL.out _ h).1))
              go_wp2_with fail
              exact ⟨⟨k + 1, v2, by omega, by go_num, Lib.hid hK5, hm6⟩, by simp [intOf]; omega⟩
          · have hkN : k = N := by omega
            subst hkN
            have hK9 := hKx.out
            rw [HN1.out, ← HLL.out, heldAt_cnt] at hK9
            have hv9 := hK9.none_ rfl
            subst hv9
            go_wp2_with fail
            exact ⟨⟨j + 1, by omega, by go_num, Lib.hid (hK9.empty rfl), hbw3.trans (hmx.below hbw3.size (fun i hi h => by omega))⟩, by simp [intOf]; omega⟩
    · have hO := Open_calls 0 g _ _ wr hK.out
      have hH := Held_calls 0 g _ _ wr hK.out
      simp only [List.length_nil, Nat.lt_irrefl, decide_false] at hO hH
      go_wp2_with fail
      refine hO.mono ?_
      rintro e w5 ⟨rfl, rfl⟩
      go_wp2_with fail
      refine hH.mono ?_
      rintro e w6 ⟨rfl, rfl⟩
      go_wp2_with fail
      go_ret
      exact ⟨rfl, hbw⟩
end Go.Proofs.Ytlheoepmhpmfaaa
