/- The reference's Put. Conditions: those said. -/
import Derived.Test.YtbcfelihncnofaaWiQ
namespace Go.Proofs.Ytbcfelihncnofaa
open Go.RowKit
set_option linter.unusedVariables false

structure RPutO (w0 : World) (C g : Nat) (fs : List (List UInt8 × Int)) (now : Int) (w : World) : Prop where
  out : ∃ v ps, RF w0 C g now v v ps w ∧ ps.map keyP = fs
set_option maxHeartbeats 16000000 in
set_option maxRecDepth 40000 in
theorem RPut_calls (C g : Nat) (now : Int) (fs0 : List (List UInt8 × Int)) (A1 : Option Addr) (us : List Value) (ls : List (List UInt8)) (n1 c1 b1 : Nat) (A2 : Option Addr) (fs : List Ft) (n2 c2 b2 : Nat) (w : World) (h : Ri C g w fs0 now)
    (hs : SlT 46 w b1 A1 us) (hu : BssT w us ls) (hn1 : ls.length = n1) (hll : ∀ l ∈ ls, l.length ≤ 1000000) (hf : SlT 55 w b2 A2 (ftv fs)) (hn2 : fs.length = n2) (hfo : ∀ f ∈ fs, f.ok) (hps : fs0.length + 2 * n1 ≤ 99000) (hm2 : n2 ≤ maxLen) (hC : C ≤ w.heap.size) (hCg : C ≤ g) (hnow : 0 ≤ now ∧ now ≤ 1000) :
    Calls Try.prog 12 #[.pointer (some ⟨g, 0, none⟩), .slice A1 n1 c1, .slice A2 n2 c2] w fun e w' => e = .returned (.tuple #[]) ∧ RPutO w C g (fs0 ++ (putsN ls fs n1).map (shK now)) now w' := by
  unfold maxLen at hm2
  have HN1 := Lib.hid hn1
  have HN2 := Lib.hid hn2
  have HPS := Lib.hid hps
  have hn1m : n1 ≤ 99000 := by omega
  obtain ⟨v0, ps0, q0, hr0, hk0, hx0⟩ := h.out
  have F0 : RF w C g now v0 v0 ps0 w := ⟨TMod.refl hC, ⟨hC, hCg⟩, q0, hr0, hx0⟩
  clear hn1 hn2 hps h q0 hr0 hx0
  go_enter Try.func12, Try.ntmps12
  go_wp2_with fail
  go_loopw [11] (fun i wr => ∃ k : Nat, k ≤ n1 ∧ i = .int .i64 k ∧ RPutO w C g (fs0 ++ (putsN ls fs k).map (shK now)) now wr) (fun i _ => n1 - (intOf i).toNat)
  case atStart => exact ⟨0, Nat.zero_le _, rfl, ⟨v0, ps0, F0, by simp [putsN, hk0]⟩⟩
  case round =>
    clear F0 hk0
    obtain ⟨k, hk, rfl, ⟨v, ps, F, hkey⟩⟩ := hrel
    by_cases hlt : k < n1
    · have hkl : k < ls.length := by rw [HN1.out]; exact hlt
      have hs1 := F.hT.slT hs (by decide) (by decide)
      obtain ⟨A3, c3, b3, hv1, hp⟩ := (F.hT.bssT hu (by decide) (by decide)).2 k ls[k] (List.getElem?_eq_getElem hkl)
      obtain ⟨oa, rfl, hca⟩ := hs1.1 (by rintro rfl; simp at hv1)
      have ca := hca k _ hv1
      have hxl : ps.length ≤ 99000 := by
        have h1 := congrArg List.length hkey
        have h2 := putsN_length ls fs k
        rw [List.length_map, List.length_append, List.length_map] at h1
        have := HPS.out
        omega
      have hll1 := hll ls[k] (List.getElem_mem _)
      obtain ⟨l, hl⟩ : ∃ l, l = ls[k] := ⟨_, rfl⟩
      have hlg : ls.getD k [] = l := by rw [hl, List.getD_eq_getElem?_getD, List.getElem?_eq_getElem hkl]; rfl
      rw [← hl] at ca hp hll1
      obtain ⟨Av, cv, bv', hvq, -⟩ := own_sl F.hr
      obtain ⟨nv, hnv⟩ : ∃ nv, nv = ps.length := ⟨_, rfl⟩
      rw [← hnv] at hvq hxl
      subst hvq
      have HNV := Lib.hid hnv
      have HKEY := Lib.hid hkey
      have HLG := Lib.hid hlg
      have hsp := hll1
      clear hl hlg hca hv1 hs1 hkey hnv
      by_cases hf2 : k < n2
      · have hkf : k < fs.length := by rw [HN2.out]; exact hf2
        obtain ⟨of, rfl, d0, d1, d2⟩ := sl_ft (F.hT.slT hf (by decide) (by decide)).1 hkf
        have hok := hfo fs[k] (List.getElem_mem _)
        obtain ⟨f, hfe⟩ : ∃ f, f = fs[k] := ⟨_, rfl⟩
        have hfg : fs.getD k fz = f := by rw [hfe, List.getD_eq_getElem?_getD, List.getElem?_eq_getElem hkf]; rfl
        rw [← hfe] at d0 d1 d2 hok
        have HFG := Lib.hid hfg
        have HF := Lib.hid F
        have HP := Lib.hid hp
        have ha := below_alloc1 wr (.cells #[.int .u8 0, .int .u16 0, .int .u32 0] 55)
        replace d0 := sl_same ha d0
        replace d1 := sl_same ha d1
        replace d2 := sl_same ha d2
        obtain ⟨fh, fp, fm⟩ := f
        simp only at d0 d1 d2
        clear hfe hfg F hp ha
        by_cases h1 : fh = 1
        · subst h1
          go_wp2_with fail
          have F1 := HF.out.ext (below_alloc1 wr (.cells #[.int .u8 1, .int .u16 (fp : Int), .int .u32 (fm : Int)] 55))
          go_roundw
          case rel => exact ⟨k + 1, by omega, by go_num, ⟨_, _, F1, by rw [HKEY.out, putsN_next, HLG.out, HFG.out]; simp [putN]⟩⟩
          case measure => simp [intOf]; omega
        by_cases h2 : fh = 2
        · subst h2
          go_wp2_with fail
          have F := HF.out.ext (below_alloc1 wr (.cells #[.int .u8 2, .int .u16 (fp : Int), .int .u32 (fm : Int)] 55))
          have hp := HP.out.ext (below_alloc1 wr (.cells #[.int .u8 2, .int .u16 (fp : Int), .int .u32 (fm : Int)] 55))
          obtain ⟨wx, hwx⟩ : ∃ wx, wx = wr.alloc (.cells #[.int .u8 2, .int .u16 (fp : Int), .int .u32 (fm : Int)] 55) := ⟨_, rfl⟩
          rw [← hwx] at F hp ⊢
          clear hwx HF HP
          refine wp_region_E (fun j => j == 21) (fun w9 => BoxR w9 g (.slice Av nv cv) now) (by kernel_rfl) ?_ (fun hHeld => ?_)
          · exact (by first | exact F.q | exact F.q.ext (below_drew (Below.refl _ _)))
          obtain ⟨wd18', hwd⟩ : ∃ wd18', wd18' = World.drew wx := ⟨_, rfl⟩
          have h9 : Below wx.heap.size wx wd18' := by rw [hwd]; exact below_drew (Below.refl _ _)
          rw [← hwd] at hHeld ⊢
          clear hwd
          replace F := F.ext h9
          replace hp := hp.ext h9
          clear h9
          refine wpAnyE_take (i := 0) (by simp only [List.getElem?_toArray]; rfl) (by kernel_rfl) (by kernel_rfl) (by kernel_rfl) (by kernel_rfl) (by kernel_rfl) (by exact fun _ _ _ h => h) (by exact yk (.pointer (some ⟨g, 0, none⟩)) (by kernel_rfl) (fun _ => by kernel_rfl)) hHeld ?_
          refine wpAnyE_take (i := 1) (by simp only [List.getElem?_toArray]; rfl) (by kernel_rfl) (by kernel_rfl) (by kernel_rfl) (by kernel_rfl) (by kernel_rfl) (by exact fun _ _ _ h => h) (by exact yk (.pointer (some ⟨g, 0, none⟩)) (by kernel_rfl) (fun _ => by kernel_rfl)) hHeld ?_
          refine wpAnyE_take (i := 2) (by simp only [List.getElem?_toArray]; rfl) (by kernel_rfl) (by kernel_rfl) (by kernel_rfl) (by kernel_rfl) (by kernel_rfl) (by exact fun _ _ _ h => h) (by exact yk (.pointer (some ⟨g, 0, none⟩)) (by kernel_rfl) (fun _ => by kernel_rfl)) hHeld ?_
          refine wpAnyE_take (i := 3) (by simp only [List.getElem?_toArray]; rfl) (by kernel_rfl) (by kernel_rfl) (by kernel_rfl) (by kernel_rfl) (by kernel_rfl) (by exact fun _ _ _ h => h) (by exact yk (.pointer (some ⟨g, 0, none⟩)) (by kernel_rfl) (fun _ => by kernel_rfl)) hHeld ?_
          refine wpAnyE_take (i := 4) (by simp only [List.getElem?_toArray]; rfl) (by kernel_rfl) (by kernel_rfl) (by kernel_rfl) (by kernel_rfl) (by kernel_rfl) (by exact fun _ _ _ h => h) (by exact yk_ldF (by kernel_rfl) (.tmp 49) rfl ⟨g, 0, none⟩ (.slice Av nv cv) (by kernel_rfl) (fun w hh => hh.c0)) hHeld ?_
          refine wpAnyE_take (i := 5) (by simp only [List.getElem?_toArray]; rfl) (by kernel_rfl) (by kernel_rfl) (by kernel_rfl) (by kernel_rfl) (by kernel_rfl) (by exact fun _ _ _ h => h) (by exact yk (.slice A3 l.length c3) (by kernel_rfl) (fun _ => by kernel_rfl)) hHeld ?_
          refine wpAnyE_take (i := 6) (by simp only [List.getElem?_toArray]; rfl) (by kernel_rfl) (by kernel_rfl) (by kernel_rfl) (by kernel_rfl) (by kernel_rfl) (by exact fun _ _ _ h => h) (by exact yk (.pointer (some ⟨g, 0, none⟩)) (by kernel_rfl) (fun _ => by kernel_rfl)) hHeld ?_
          refine wpAnyE_take (i := 7) (by simp only [List.getElem?_toArray]; rfl) (by kernel_rfl) (by kernel_rfl) (by kernel_rfl) (by kernel_rfl) (by kernel_rfl) (by exact fun _ _ _ h => h) (by exact yk (.pointer (some ⟨g, 0, none⟩)) (by kernel_rfl) (fun _ => by kernel_rfl)) hHeld ?_
          refine wpAnyE_take (i := 8) (by simp only [List.getElem?_toArray]; rfl) (by kernel_rfl) (by kernel_rfl) (by kernel_rfl) (by kernel_rfl) (by kernel_rfl) (by exact fun _ _ _ h => h) (by exact yk (.pointer (some ⟨g, 1, none⟩)) (by kernel_rfl) (fun _ => by kernel_rfl)) hHeld ?_
          refine wpAnyE_take (i := 9) (by simp only [List.getElem?_toArray]; rfl) (by kernel_rfl) (by kernel_rfl) (by kernel_rfl) (by kernel_rfl) (by kernel_rfl) (by exact fun _ _ _ h => h) (by exact yk_ldI (by kernel_rfl) (.tmp 54) rfl ⟨g, 1, none⟩ now (by kernel_rfl) (fun w hh => hh.c1)) hHeld ?_
          refine wpAnyE_take (i := 10) (by simp only [List.getElem?_toArray]; rfl) (by kernel_rfl) (by kernel_rfl) (by kernel_rfl) (by kernel_rfl) (by kernel_rfl) (by exact fun _ _ _ h => h) (by exact yk (.agg (Pl.mk l (now) A3 c3 b3).cells.toArray) (by kernel_rfl) (fun _ => by kernel_rfl)) hHeld ?_
          refine wpAnyE_take (i := 11) (by simp only [List.getElem?_toArray]; rfl) (by kernel_rfl) (by kernel_rfl) (by kernel_rfl) (by kernel_rfl) (by kernel_rfl) (by exact fun _ _ _ h => h) (by exact yk (.slice A3 l.length c3) (by kernel_rfl) (fun _ => by kernel_rfl)) hHeld ?_
          refine wpAnyE_take (i := 12) (by simp only [List.getElem?_toArray]; rfl) (by kernel_rfl) (by kernel_rfl) (by kernel_rfl) (by kernel_rfl) (by kernel_rfl) (by exact fun _ _ _ h => h) (by exact yk (.pointer (some ⟨g, 0, none⟩)) (by kernel_rfl) (fun _ => by kernel_rfl)) hHeld ?_
          refine wpAnyE_take (i := 13) (by simp only [List.getElem?_toArray]; rfl) (by kernel_rfl) (by kernel_rfl) (by kernel_rfl) (by kernel_rfl) (by kernel_rfl) (by exact fun _ _ _ h => h) (by exact yk (.pointer (some ⟨g, 0, none⟩)) (by kernel_rfl) (fun _ => by kernel_rfl)) hHeld ?_
          refine wpAnyE_take (i := 14) (by simp only [List.getElem?_toArray]; rfl) (by kernel_rfl) (by kernel_rfl) (by kernel_rfl) (by kernel_rfl) (by kernel_rfl) (by exact fun _ _ _ h => h) (by exact yk (.pointer (some ⟨g, 1, none⟩)) (by kernel_rfl) (fun _ => by kernel_rfl)) hHeld ?_
          refine wpAnyE_take (i := 15) (by simp only [List.getElem?_toArray]; rfl) (by kernel_rfl) (by kernel_rfl) (by kernel_rfl) (by kernel_rfl) (by kernel_rfl) (by exact fun _ _ _ h => h) (by exact yk_ldI (by kernel_rfl) (.tmp 60) rfl ⟨g, 1, none⟩ now (by kernel_rfl) (fun w hh => hh.c1)) hHeld ?_
          refine wpAnyE_take (i := 16) (by simp only [List.getElem?_toArray]; rfl) (by kernel_rfl) (by kernel_rfl) (by kernel_rfl) (by kernel_rfl) (by kernel_rfl) (by exact fun _ _ _ h => h) (by exact yk (.agg (Pl.mk l (now) A3 c3 b3).cells.toArray) (by kernel_rfl) (fun _ => by kernel_rfl)) hHeld ?_
          try simp only [Act.put, List.setIfInBounds_toArray, List.set_cons_zero, List.set_cons_succ]
          refine wpAnyE_ready (rs := [17]) (by kernel_rfl) (by simp) ?_
          refine EachE.cons (by rfl) (by simp only [List.getElem?_toArray]; rfl) (fun KK hKK => ?_) EachE.nil
          rw [if_pos (by kernel_rfl)]
          refine wp_bsF2 (.tmp 56) (.tmp 62) rfl ⟨l, now, A3, c3, b3⟩ (by kernel_rfl) (by kernel_rfl) ?_
          have hsn := SlT.new_ wd18' #[(Pl.mk l now A3 c3 b3).sv, .int .i64 now, (Pl.mk l now A3 c3 b3).sv, .int .i64 now] 65
          have h9 := below_alloc1 wd18' (.cells #[(Pl.mk l now A3 c3 b3).sv, .int .i64 now, (Pl.mk l now A3 c3 b3).sv, .int .i64 now] 65)
          obtain ⟨b6, hb6⟩ : ∃ b6, b6 = wd18'.heap.size := ⟨_, rfl⟩
          obtain ⟨w19', e⟩ : ∃ w19', w19' = World.alloc wd18' (.cells #[(Pl.mk l now A3 c3 b3).sv, .int .i64 now, (Pl.mk l now A3 c3 b3).sv, .int .i64 now] 65) := ⟨_, rfl⟩
          rw [← e] at hsn h9 ⊢
          rw [← hb6] at hsn ⊢
          clear e hb6
          replace F := F.ext h9
          replace hp := hp.ext h9
          clear h9
          refine hKK.out _ _ ?_ (fun hHeld => ?_)
          · exact (by first | exact F.q | exact F.q.ext (below_drew (Below.refl _ _)))
          clear hKK KK
          try simp only [Act.put, List.setIfInBounds_toArray, List.set_cons_zero, List.set_cons_succ]
          refine wpAnyE_ready (rs := [18]) (by kernel_rfl) (by simp) ?_
          refine EachE.cons (by rfl) (by simp only [List.getElem?_toArray]; rfl) (fun KK hKK => ?_) EachE.nil
          rw [if_pos (by kernel_rfl)]
          have hlen : ps.length + 2 ≤ 1000000 := by have := HNV.out; omega
          refine wp_appF (.tmp 50) (.tmp 63) rfl C _ ps (by kernel_rfl) F.hr b6 _ 2 2 [⟨l, now, A3, c3, b3⟩, ⟨l, now, A3, c3, b3⟩] (by kernel_rfl) (show Sl _ _ _ (plv _) from hsn.1) rfl hlen (Nat.le_trans F.hC.1 F.hT.bel.size) ?_
          intro v7 w20' hr7 hm7 _
          have hxs : ∀ x ∈ ([⟨l, now, A3, c3, b3⟩, ⟨l, now, A3, c3, b3⟩] : List Pl), SlT 5 w19' x.b x.A (bv x.l) := by
            intro x hx
            simp at hx
            subst hx
            exact hp
          replace F := F.app hm7 hr7 hxs
          obtain ⟨A7, c7, b7, hv7, -⟩ := own_sl F.hr
          obtain ⟨N7, hN7⟩ : ∃ N7, N7 = (ps ++ ([⟨l, now, A3, c3, b3⟩, ⟨l, now, A3, c3, b3⟩] : List Pl)).length := ⟨_, rfl⟩
          rw [← hN7] at hv7
          subst hv7
          clear hm7 hr7 hsn hN7 hxs hlen
          refine hKK.out _ _ ?_ (fun hHeld => ?_)
          · exact (by first | exact F.q | exact F.q.ext (below_drew (Below.refl _ _)))
          clear hKK KK
          refine wpAnyE_take (i := 19) (by simp only [List.getElem?_toArray]; rfl) (by kernel_rfl) (by kernel_rfl) (by kernel_rfl) (by kernel_rfl) (by kernel_rfl) (by exact fun _ _ _ h => h) (by exact yk (.pointer (some ⟨g, 0, none⟩)) (by kernel_rfl) (fun _ => by kernel_rfl)) hHeld ?_
          refine wpAnyE_take (i := 20) (by simp only [List.getElem?_toArray]; rfl) (by kernel_rfl) (by kernel_rfl) (by kernel_rfl) (by kernel_rfl) (by kernel_rfl) (by exact fun _ _ _ h => h) (by exact yk (.pointer (some ⟨g, 0, none⟩)) (by kernel_rfl) (fun _ => by kernel_rfl)) hHeld ?_
          try simp only [Act.put, List.setIfInBounds_toArray, List.set_cons_zero, List.set_cons_succ]
          refine wpAnyE_ready (rs := [21]) (by kernel_rfl) (by simp) ?_
          refine EachE.last (by rfl) (by simp only [List.getElem?_toArray]; rfl) (fun KK hKK => ?_)
          rw [if_pos (by kernel_rfl)]
          refine wp_stF (.tmp 66) (.tmp 64) rfl ⟨g, 0, none⟩ A7 N7 c7 (by kernel_rfl) (by kernel_rfl) _ F.q.c0 (F.q.fz 0) ?_
          replace F := F.set0 (.slice A7 N7 c7)
          refine hKK.out _ _ ?_
          clear hKK KK
          refine wpAnyE_done (by kernel_rfl) ?_ _
          go_wp2_with fail
          go_roundw
          case rel => exact ⟨k + 1, by omega, by go_num, ⟨_, _, F, by rw [List.map_append, HKEY.out, putsN_next, HLG.out, HFG.out, List.map_append, List.append_assoc]; simp [putN, shK, keyP]⟩⟩
          case measure => simp [intOf]; omega
        by_cases h3 : fh = 3
        · subst h3
          go_wp2_with fail
          have F := HF.out.ext (below_alloc1 wr (.cells #[.int .u8 3, .int .u16 (fp : Int), .int .u32 (fm : Int)] 55))
          have hp := HP.out.ext (below_alloc1 wr (.cells #[.int .u8 3, .int .u16 (fp : Int), .int .u32 (fm : Int)] 55))
          obtain ⟨wx, hwx⟩ : ∃ wx, wx = wr.alloc (.cells #[.int .u8 3, .int .u16 (fp : Int), .int .u32 (fm : Int)] 55) := ⟨_, rfl⟩
          rw [← hwx] at F hp ⊢
          clear hwx HF HP
          refine wp_region_E (fun j => j == 16) (fun w9 => BoxR w9 g (.slice Av nv cv) now) (by kernel_rfl) ?_ (fun hHeld => ?_)
          · exact (by first | exact F.q | exact F.q.ext (below_drew (Below.refl _ _)))
          obtain ⟨wd21', hwd⟩ : ∃ wd21', wd21' = World.drew wx := ⟨_, rfl⟩
          have h9 : Below wx.heap.size wx wd21' := by rw [hwd]; exact below_drew (Below.refl _ _)
          rw [← hwd] at hHeld ⊢
          clear hwd
          replace F := F.ext h9
          replace hp := hp.ext h9
          clear h9
          refine wpAnyE_take (i := 0) (by simp only [List.getElem?_toArray]; rfl) (by kernel_rfl) (by kernel_rfl) (by kernel_rfl) (by kernel_rfl) (by kernel_rfl) (by exact fun _ _ _ h => h) (by exact yk (.pointer (some ⟨g, 0, none⟩)) (by kernel_rfl) (fun _ => by kernel_rfl)) hHeld ?_
          refine wpAnyE_take (i := 1) (by simp only [List.getElem?_toArray]; rfl) (by kernel_rfl) (by kernel_rfl) (by kernel_rfl) (by kernel_rfl) (by kernel_rfl) (by exact fun _ _ _ h => h) (by exact yk (.pointer (some ⟨g, 0, none⟩)) (by kernel_rfl) (fun _ => by kernel_rfl)) hHeld ?_
          refine wpAnyE_take (i := 2) (by simp only [List.getElem?_toArray]; rfl) (by kernel_rfl) (by kernel_rfl) (by kernel_rfl) (by kernel_rfl) (by kernel_rfl) (by exact fun _ _ _ h => h) (by exact yk (.pointer (some ⟨g, 0, none⟩)) (by kernel_rfl) (fun _ => by kernel_rfl)) hHeld ?_
          refine wpAnyE_take (i := 3) (by simp only [List.getElem?_toArray]; rfl) (by kernel_rfl) (by kernel_rfl) (by kernel_rfl) (by kernel_rfl) (by kernel_rfl) (by exact fun _ _ _ h => h) (by exact yk (.pointer (some ⟨g, 0, none⟩)) (by kernel_rfl) (fun _ => by kernel_rfl)) hHeld ?_
          refine wpAnyE_take (i := 4) (by simp only [List.getElem?_toArray]; rfl) (by kernel_rfl) (by kernel_rfl) (by kernel_rfl) (by kernel_rfl) (by kernel_rfl) (by exact fun _ _ _ h => h) (by exact yk_ldF (by kernel_rfl) (.tmp 72) rfl ⟨g, 0, none⟩ (.slice Av nv cv) (by kernel_rfl) (fun w hh => hh.c0)) hHeld ?_
          refine wpAnyE_take (i := 5) (by simp only [List.getElem?_toArray]; rfl) (by kernel_rfl) (by kernel_rfl) (by kernel_rfl) (by kernel_rfl) (by kernel_rfl) (by exact fun _ _ _ h => h) (by exact yk (.slice A3 l.length c3) (by kernel_rfl) (fun _ => by kernel_rfl)) hHeld ?_
          refine wpAnyE_take (i := 6) (by simp only [List.getElem?_toArray]; rfl) (by kernel_rfl) (by kernel_rfl) (by kernel_rfl) (by kernel_rfl) (by kernel_rfl) (by exact fun _ _ _ h => h) (by exact yk (.pointer (some ⟨g, 0, none⟩)) (by kernel_rfl) (fun _ => by kernel_rfl)) hHeld ?_
          refine wpAnyE_take (i := 7) (by simp only [List.getElem?_toArray]; rfl) (by kernel_rfl) (by kernel_rfl) (by kernel_rfl) (by kernel_rfl) (by kernel_rfl) (by exact fun _ _ _ h => h) (by exact yk (.pointer (some ⟨g, 0, none⟩)) (by kernel_rfl) (fun _ => by kernel_rfl)) hHeld ?_
          refine wpAnyE_take (i := 8) (by simp only [List.getElem?_toArray]; rfl) (by kernel_rfl) (by kernel_rfl) (by kernel_rfl) (by kernel_rfl) (by kernel_rfl) (by exact fun _ _ _ h => h) (by exact yk (.pointer (some ⟨g, 1, none⟩)) (by kernel_rfl) (fun _ => by kernel_rfl)) hHeld ?_
          refine wpAnyE_take (i := 9) (by simp only [List.getElem?_toArray]; rfl) (by kernel_rfl) (by kernel_rfl) (by kernel_rfl) (by kernel_rfl) (by kernel_rfl) (by exact fun _ _ _ h => h) (by exact yk_ldI (by kernel_rfl) (.tmp 77) rfl ⟨g, 1, none⟩ now (by kernel_rfl) (fun w hh => hh.c1)) hHeld ?_
          refine wpAnyE_take (i := 10) (by simp only [List.getElem?_toArray]; rfl) (by kernel_rfl) (by kernel_rfl) (by kernel_rfl) (by kernel_rfl) (by kernel_rfl) (by exact fun _ _ _ h => h) (by exact yk_addI (by kernel_rfl) (.tmp 78) (.const (.int .i64 1)) _ rfl now 1 (by kernel_rfl) (by kernel_rfl) (by omega)) hHeld ?_
          refine wpAnyE_take (i := 11) (by simp only [List.getElem?_toArray]; rfl) (by kernel_rfl) (by kernel_rfl) (by kernel_rfl) (by kernel_rfl) (by kernel_rfl) (by exact fun _ _ _ h => h) (by exact yk (.agg (Pl.mk l (now + 1) A3 c3 b3).cells.toArray) (by kernel_rfl) (fun _ => by kernel_rfl)) hHeld ?_
          try simp only [Act.put, List.setIfInBounds_toArray, List.set_cons_zero, List.set_cons_succ]
          refine wpAnyE_ready (rs := [12]) (by kernel_rfl) (by simp) ?_
          refine EachE.cons (by rfl) (by simp only [List.getElem?_toArray]; rfl) (fun KK hKK => ?_) EachE.nil
          rw [if_pos (by kernel_rfl)]
          refine wp_bsF (.tmp 80) rfl ⟨l, now + 1, A3, c3, b3⟩ (by kernel_rfl) ?_
          have hsn := SlT.new_ wd21' (Pl.mk l (now + 1) A3 c3 b3).cells.toArray 65
          have h9 := below_alloc1 wd21' (.cells (Pl.mk l (now + 1) A3 c3 b3).cells.toArray 65)
          obtain ⟨b6, hb6⟩ : ∃ b6, b6 = wd21'.heap.size := ⟨_, rfl⟩
          obtain ⟨w22', e⟩ : ∃ w22', w22' = World.alloc wd21' (.cells (Pl.mk l (now + 1) A3 c3 b3).cells.toArray 65) := ⟨_, rfl⟩
          rw [← e] at hsn h9 ⊢
          rw [← hb6] at hsn ⊢
          clear e hb6
          replace F := F.ext h9
          replace hp := hp.ext h9
          clear h9
          refine hKK.out _ _ ?_ (fun hHeld => ?_)
          · exact (by first | exact F.q | exact F.q.ext (below_drew (Below.refl _ _)))
          clear hKK KK
          try simp only [Act.put, List.setIfInBounds_toArray, List.set_cons_zero, List.set_cons_succ]
          refine wpAnyE_ready (rs := [13]) (by kernel_rfl) (by simp) ?_
          refine EachE.cons (by rfl) (by simp only [List.getElem?_toArray]; rfl) (fun KK hKK => ?_) EachE.nil
          rw [if_pos (by kernel_rfl)]
          have hlen : ps.length + 1 ≤ 1000000 := by have := HNV.out; omega
          refine wp_appF (.tmp 73) (.tmp 81) rfl C _ ps (by kernel_rfl) F.hr b6 _ 1 1 [⟨l, now + 1, A3, c3, b3⟩] (by kernel_rfl) (show Sl _ _ _ (plv _) from hsn.1) rfl hlen (Nat.le_trans F.hC.1 F.hT.bel.size) ?_
          intro v7 w23' hr7 hm7 _
          have hxs : ∀ x ∈ ([⟨l, now + 1, A3, c3, b3⟩] : List Pl), SlT 5 w22' x.b x.A (bv x.l) := by
            intro x hx
            simp at hx
            subst hx
            exact hp
          replace F := F.app hm7 hr7 hxs
          obtain ⟨A7, c7, b7, hv7, -⟩ := own_sl F.hr
          obtain ⟨N7, hN7⟩ : ∃ N7, N7 = (ps ++ ([⟨l, now + 1, A3, c3, b3⟩] : List Pl)).length := ⟨_, rfl⟩
          rw [← hN7] at hv7
          subst hv7
          clear hm7 hr7 hsn hN7 hxs hlen
          refine hKK.out _ _ ?_ (fun hHeld => ?_)
          · exact (by first | exact F.q | exact F.q.ext (below_drew (Below.refl _ _)))
          clear hKK KK
          refine wpAnyE_take (i := 14) (by simp only [List.getElem?_toArray]; rfl) (by kernel_rfl) (by kernel_rfl) (by kernel_rfl) (by kernel_rfl) (by kernel_rfl) (by exact fun _ _ _ h => h) (by exact yk (.pointer (some ⟨g, 0, none⟩)) (by kernel_rfl) (fun _ => by kernel_rfl)) hHeld ?_
          refine wpAnyE_take (i := 15) (by simp only [List.getElem?_toArray]; rfl) (by kernel_rfl) (by kernel_rfl) (by kernel_rfl) (by kernel_rfl) (by kernel_rfl) (by exact fun _ _ _ h => h) (by exact yk (.pointer (some ⟨g, 0, none⟩)) (by kernel_rfl) (fun _ => by kernel_rfl)) hHeld ?_
          try simp only [Act.put, List.setIfInBounds_toArray, List.set_cons_zero, List.set_cons_succ]
          refine wpAnyE_ready (rs := [16]) (by kernel_rfl) (by simp) ?_
          refine EachE.last (by rfl) (by simp only [List.getElem?_toArray]; rfl) (fun KK hKK => ?_)
          rw [if_pos (by kernel_rfl)]
          refine wp_stF (.tmp 84) (.tmp 82) rfl ⟨g, 0, none⟩ A7 N7 c7 (by kernel_rfl) (by kernel_rfl) _ F.q.c0 (F.q.fz 0) ?_
          replace F := F.set0 (.slice A7 N7 c7)
          refine hKK.out _ _ ?_
          clear hKK KK
          refine wpAnyE_done (by kernel_rfl) ?_ _
          go_wp2_with fail
          go_roundw
          case rel => exact ⟨k + 1, by omega, by go_num, ⟨_, _, F, by rw [List.map_append, HKEY.out, putsN_next, HLG.out, HFG.out, List.map_append, List.append_assoc]; simp [putN, shK, keyP]⟩⟩
          case measure => simp [intOf]; omega
        by_cases h4 : fh = 4
        · subst h4
          go_wp2_with fail
          have F := HF.out.ext (below_alloc1 wr (.cells #[.int .u8 4, .int .u16 (fp : Int), .int .u32 (fm : Int)] 55))
          have hp := HP.out.ext (below_alloc1 wr (.cells #[.int .u8 4, .int .u16 (fp : Int), .int .u32 (fm : Int)] 55))
          have z := heap_alloc_new wr (.cells #[.int .u8 4, .int .u16 (fp : Int), .int .u32 (fm : Int)] 55)
          obtain ⟨g9, hg9⟩ : ∃ g9, g9 = wr.heap.size := ⟨_, rfl⟩
          rw [← hg9] at z ⊢
          clear hg9
          obtain ⟨wx, hwx⟩ : ∃ wx, wx = wr.alloc (.cells #[.int .u8 4, .int .u16 (fp : Int), .int .u32 (fm : Int)] 55) := ⟨_, rfl⟩
          rw [← hwx] at F hp z ⊢
          clear hwx HF HP
          refine wp_region_E (fun j => j == 17) (fun w9 => BoxR w9 g (.slice Av nv cv) now ∧ w9.heap[g9]? = some (.cells (Ft.mk 4 fp fm).cells.toArray 55 (0, 0))) (by kernel_rfl) ?_ (fun hHeld => ?_)
          · exact (by first | exact ⟨F.q, z⟩ | exact ⟨F.q.ext (below_drew (Below.refl _ _)), z⟩)
          obtain ⟨wd24', hwd⟩ : ∃ wd24', wd24' = World.drew wx := ⟨_, rfl⟩
          have h9 : Below wx.heap.size wx wd24' := by rw [hwd]; exact below_drew (Below.refl _ _)
          rw [← hwd] at hHeld ⊢
          clear hwd
          replace F := F.ext h9
          replace hp := hp.ext h9
          replace z := (h9.block g9 (Array.getElem?_eq_some_iff.1 z).1).trans z
          clear h9
          refine wpAnyE_take (i := 0) (by simp only [List.getElem?_toArray]; rfl) (by kernel_rfl) (by kernel_rfl) (by kernel_rfl) (by kernel_rfl) (by kernel_rfl) (by exact fun _ _ _ h => h) (by exact yk (.pointer (some ⟨g, 0, none⟩)) (by kernel_rfl) (fun _ => by kernel_rfl)) hHeld ?_
          refine wpAnyE_take (i := 1) (by simp only [List.getElem?_toArray]; rfl) (by kernel_rfl) (by kernel_rfl) (by kernel_rfl) (by kernel_rfl) (by kernel_rfl) (by exact fun _ _ _ h => h) (by exact yk (.pointer (some ⟨g, 0, none⟩)) (by kernel_rfl) (fun _ => by kernel_rfl)) hHeld ?_
          refine wpAnyE_take (i := 2) (by simp only [List.getElem?_toArray]; rfl) (by kernel_rfl) (by kernel_rfl) (by kernel_rfl) (by kernel_rfl) (by kernel_rfl) (by exact fun _ _ _ h => h) (by exact yk (.pointer (some ⟨g, 0, none⟩)) (by kernel_rfl) (fun _ => by kernel_rfl)) hHeld ?_
          refine wpAnyE_take (i := 3) (by simp only [List.getElem?_toArray]; rfl) (by kernel_rfl) (by kernel_rfl) (by kernel_rfl) (by kernel_rfl) (by kernel_rfl) (by exact fun _ _ _ h => h) (by exact yk (.pointer (some ⟨g, 0, none⟩)) (by kernel_rfl) (fun _ => by kernel_rfl)) hHeld ?_
          refine wpAnyE_take (i := 4) (by simp only [List.getElem?_toArray]; rfl) (by kernel_rfl) (by kernel_rfl) (by kernel_rfl) (by kernel_rfl) (by kernel_rfl) (by exact fun _ _ _ h => h) (by exact yk_ldF (by kernel_rfl) (.tmp 90) rfl ⟨g, 0, none⟩ (.slice Av nv cv) (by kernel_rfl) (fun w hh => hh.1.c0)) hHeld ?_
          refine wpAnyE_take (i := 5) (by simp only [List.getElem?_toArray]; rfl) (by kernel_rfl) (by kernel_rfl) (by kernel_rfl) (by kernel_rfl) (by kernel_rfl) (by exact fun _ _ _ h => h) (by exact yk (.slice A3 l.length c3) (by kernel_rfl) (fun _ => by kernel_rfl)) hHeld ?_
          refine wpAnyE_take (i := 6) (by simp only [List.getElem?_toArray]; rfl) (by kernel_rfl) (by kernel_rfl) (by kernel_rfl) (by kernel_rfl) (by kernel_rfl) (by exact fun _ _ _ h => h) (by exact yk_lvRA (by kernel_rfl) (.tmp 8) rfl g9 ⟨4, fp, fm⟩ (by kernel_rfl) (fun w hh => hh.2)) hHeld ?_
          refine wpAnyE_take (i := 8) (by simp only [List.getElem?_toArray]; rfl) (by kernel_rfl) (by kernel_rfl) (by kernel_rfl) (by kernel_rfl) (by kernel_rfl) (by exact fun _ _ _ h => h) (by exact yk (.pointer (some ⟨g, 0, none⟩)) (by kernel_rfl) (fun _ => by kernel_rfl)) hHeld ?_
          refine wpAnyE_take (i := 9) (by simp only [List.getElem?_toArray]; rfl) (by kernel_rfl) (by kernel_rfl) (by kernel_rfl) (by kernel_rfl) (by kernel_rfl) (by exact fun _ _ _ h => h) (by exact yk (.pointer (some ⟨g, 0, none⟩)) (by kernel_rfl) (fun _ => by kernel_rfl)) hHeld ?_
          refine wpAnyE_take (i := 10) (by simp only [List.getElem?_toArray]; rfl) (by kernel_rfl) (by kernel_rfl) (by kernel_rfl) (by kernel_rfl) (by kernel_rfl) (by exact fun _ _ _ h => h) (by exact yk (.pointer (some ⟨g, 1, none⟩)) (by kernel_rfl) (fun _ => by kernel_rfl)) hHeld ?_
          refine wpAnyE_take (i := 11) (by simp only [List.getElem?_toArray]; rfl) (by kernel_rfl) (by kernel_rfl) (by kernel_rfl) (by kernel_rfl) (by kernel_rfl) (by exact fun _ _ _ h => h) (by exact yk_ldI (by kernel_rfl) (.tmp 97) rfl ⟨g, 1, none⟩ now (by kernel_rfl) (fun w hh => hh.1.c1)) hHeld ?_
          try simp only [Act.put, List.setIfInBounds_toArray, List.set_cons_zero, List.set_cons_succ]
          refine wpAnyE_ready (rs := [7]) (by kernel_rfl) (by simp) ?_
          refine EachE.cons (by rfl) (by simp only [List.getElem?_toArray]; rfl) (fun KK hKK => ?_) EachE.nil
          rw [if_pos (by kernel_rfl)]
          refine wp_callF 21 #[.slice A3 l.length c3, .agg (Ft.mk 4 fp fm).cells.toArray] (by kernel_rfl) ?_
          refine (RSpoil_calls A3 l l.length c3 b3 ⟨4, fp, fm⟩ _ hp.1 rfl hsp hok).mono ?_
          rintro e w25' ⟨v5, rfl, hrow, h9⟩
          refine ⟨_, rfl, ?_⟩
          replace F := F.ext h9
          replace hp := hp.ext h9
          replace z := (h9.block g9 (Array.getElem?_eq_some_iff.1 z).1).trans z
          obtain ⟨spl, hspl⟩ : ∃ spl, spl = spoilN l (Ft.mk 4 fp fm).pos (Ft.mk 4 fp fm).mask := ⟨_, rfl⟩
          rw [← hspl] at hrow
          obtain ⟨A5, c5, b5, hv5, -, -, -, hp5, -⟩ := SlT.of_own hrow
          subst hv5
          have HSPL := Lib.hid hspl
          clear h9 hrow hspl
          replace hp := hp5
          clear hp5
          refine hKK.out _ _ ?_ (fun hHeld => ?_)
          · exact (by first | exact ⟨F.q, z⟩ | exact ⟨F.q.ext (below_drew (Below.refl _ _)), z⟩)
          clear hKK KK
          refine wpAnyE_take (i := 12) (by simp only [List.getElem?_toArray]; rfl) (by kernel_rfl) (by kernel_rfl) (by kernel_rfl) (by kernel_rfl) (by kernel_rfl) (by exact fun _ _ _ h => h) (by exact yk (.agg (Pl.mk spl (now) A5 c5 b5).cells.toArray) (by kernel_rfl) (fun _ => by kernel_rfl)) hHeld ?_
          try simp only [Act.put, List.setIfInBounds_toArray, List.set_cons_zero, List.set_cons_succ]
          refine wpAnyE_ready (rs := [13]) (by kernel_rfl) (by simp) ?_
          refine EachE.cons (by rfl) (by simp only [List.getElem?_toArray]; rfl) (fun KK hKK => ?_) EachE.nil
          rw [if_pos (by kernel_rfl)]
          refine wp_bsF (.tmp 99) rfl ⟨spl, now, A5, c5, b5⟩ (by kernel_rfl) ?_
          have hsn := SlT.new_ w25' (Pl.mk spl (now) A5 c5 b5).cells.toArray 65
          have h9 := below_alloc1 w25' (.cells (Pl.mk spl (now) A5 c5 b5).cells.toArray 65)
          obtain ⟨b6, hb6⟩ : ∃ b6, b6 = w25'.heap.size := ⟨_, rfl⟩
          obtain ⟨w26', e⟩ : ∃ w26', w26' = World.alloc w25' (.cells (Pl.mk spl (now) A5 c5 b5).cells.toArray 65) := ⟨_, rfl⟩
          rw [← e] at hsn h9 ⊢
          rw [← hb6] at hsn ⊢
          clear e hb6
          replace F := F.ext h9
          replace hp := hp.ext h9
          replace z := (h9.block g9 (Array.getElem?_eq_some_iff.1 z).1).trans z
          clear h9
          refine hKK.out _ _ ?_ (fun hHeld => ?_)
          · exact (by first | exact ⟨F.q, z⟩ | exact ⟨F.q.ext (below_drew (Below.refl _ _)), z⟩)
          clear hKK KK
          try simp only [Act.put, List.setIfInBounds_toArray, List.set_cons_zero, List.set_cons_succ]
          refine wpAnyE_ready (rs := [14]) (by kernel_rfl) (by simp) ?_
          refine EachE.cons (by rfl) (by simp only [List.getElem?_toArray]; rfl) (fun KK hKK => ?_) EachE.nil
          rw [if_pos (by kernel_rfl)]
          have hlen : ps.length + 1 ≤ 1000000 := by have := HNV.out; omega
          refine wp_appF (.tmp 91) (.tmp 100) rfl C _ ps (by kernel_rfl) F.hr b6 _ 1 1 [⟨spl, now, A5, c5, b5⟩] (by kernel_rfl) (show Sl _ _ _ (plv _) from hsn.1) rfl hlen (Nat.le_trans F.hC.1 F.hT.bel.size) ?_
          intro v7 w27' hr7 hm7 _
          replace z := (hm7.block g9 (Array.getElem?_eq_some_iff.1 z).1 (row_apart F.hr z (by decide))).trans z
          have hxs : ∀ x ∈ ([⟨spl, now, A5, c5, b5⟩] : List Pl), SlT 5 w26' x.b x.A (bv x.l) := by
            intro x hx
            simp at hx
            subst hx
            exact hp
          replace F := F.app hm7 hr7 hxs
          obtain ⟨A7, c7, b7, hv7, -⟩ := own_sl F.hr
          obtain ⟨N7, hN7⟩ : ∃ N7, N7 = (ps ++ ([⟨spl, now, A5, c5, b5⟩] : List Pl)).length := ⟨_, rfl⟩
          rw [← hN7] at hv7
          subst hv7
          clear hm7 hr7 hsn hN7 hxs hlen
          refine hKK.out _ _ ?_ (fun hHeld => ?_)
          · exact (by first | exact ⟨F.q, z⟩ | exact ⟨F.q.ext (below_drew (Below.refl _ _)), z⟩)
          clear hKK KK
          refine wpAnyE_take (i := 15) (by simp only [List.getElem?_toArray]; rfl) (by kernel_rfl) (by kernel_rfl) (by kernel_rfl) (by kernel_rfl) (by kernel_rfl) (by exact fun _ _ _ h => h) (by exact yk (.pointer (some ⟨g, 0, none⟩)) (by kernel_rfl) (fun _ => by kernel_rfl)) hHeld ?_
          refine wpAnyE_take (i := 16) (by simp only [List.getElem?_toArray]; rfl) (by kernel_rfl) (by kernel_rfl) (by kernel_rfl) (by kernel_rfl) (by kernel_rfl) (by exact fun _ _ _ h => h) (by exact yk (.pointer (some ⟨g, 0, none⟩)) (by kernel_rfl) (fun _ => by kernel_rfl)) hHeld ?_
          try simp only [Act.put, List.setIfInBounds_toArray, List.set_cons_zero, List.set_cons_succ]
          refine wpAnyE_ready (rs := [17]) (by kernel_rfl) (by simp) ?_
          refine EachE.last (by rfl) (by simp only [List.getElem?_toArray]; rfl) (fun KK hKK => ?_)
          rw [if_pos (by kernel_rfl)]
          refine wp_stF (.tmp 103) (.tmp 101) rfl ⟨g, 0, none⟩ A7 N7 c7 (by kernel_rfl) (by kernel_rfl) _ F.q.c0 (F.q.fz 0) ?_
          replace F := F.set0 (.slice A7 N7 c7)
          refine hKK.out _ _ ?_
          clear hKK KK
          refine wpAnyE_done (by kernel_rfl) ?_ _
          go_wp2_with fail
          go_roundw
          case rel => exact ⟨k + 1, by omega, by go_num, ⟨_, _, F, by rw [List.map_append, HKEY.out, putsN_next, HLG.out, HFG.out, List.map_append, List.append_assoc]; simp [putN, shK, keyP, HSPL.out]⟩⟩
          case measure => simp [intOf]; omega
        by_cases h5 : fh = 5
        · subst h5
          go_wp2_with fail
          have F := HF.out.ext (below_alloc1 wr (.cells #[.int .u8 5, .int .u16 (fp : Int), .int .u32 (fm : Int)] 55))
          have hp := HP.out.ext (below_alloc1 wr (.cells #[.int .u8 5, .int .u16 (fp : Int), .int .u32 (fm : Int)] 55))
          obtain ⟨wx, hwx⟩ : ∃ wx, wx = wr.alloc (.cells #[.int .u8 5, .int .u16 (fp : Int), .int .u32 (fm : Int)] 55) := ⟨_, rfl⟩
          rw [← hwx] at F hp ⊢
          clear hwx HF HP
          refine wp_region_E (fun j => j == 16) (fun w9 => BoxR w9 g (.slice Av nv cv) now) (by kernel_rfl) ?_ (fun hHeld => ?_)
          · exact (by first | exact F.q | exact F.q.ext (below_drew (Below.refl _ _)))
          obtain ⟨wd28', hwd⟩ : ∃ wd28', wd28' = World.drew wx := ⟨_, rfl⟩
          have h9 : Below wx.heap.size wx wd28' := by rw [hwd]; exact below_drew (Below.refl _ _)
          rw [← hwd] at hHeld ⊢
          clear hwd
          replace F := F.ext h9
          replace hp := hp.ext h9
          clear h9
          refine wpAnyE_take (i := 0) (by simp only [List.getElem?_toArray]; rfl) (by kernel_rfl) (by kernel_rfl) (by kernel_rfl) (by kernel_rfl) (by kernel_rfl) (by exact fun _ _ _ h => h) (by exact yk (.pointer (some ⟨g, 0, none⟩)) (by kernel_rfl) (fun _ => by kernel_rfl)) hHeld ?_
          refine wpAnyE_take (i := 1) (by simp only [List.getElem?_toArray]; rfl) (by kernel_rfl) (by kernel_rfl) (by kernel_rfl) (by kernel_rfl) (by kernel_rfl) (by exact fun _ _ _ h => h) (by exact yk (.pointer (some ⟨g, 0, none⟩)) (by kernel_rfl) (fun _ => by kernel_rfl)) hHeld ?_
          refine wpAnyE_take (i := 2) (by simp only [List.getElem?_toArray]; rfl) (by kernel_rfl) (by kernel_rfl) (by kernel_rfl) (by kernel_rfl) (by kernel_rfl) (by exact fun _ _ _ h => h) (by exact yk (.pointer (some ⟨g, 0, none⟩)) (by kernel_rfl) (fun _ => by kernel_rfl)) hHeld ?_
          refine wpAnyE_take (i := 3) (by simp only [List.getElem?_toArray]; rfl) (by kernel_rfl) (by kernel_rfl) (by kernel_rfl) (by kernel_rfl) (by kernel_rfl) (by exact fun _ _ _ h => h) (by exact yk (.pointer (some ⟨g, 0, none⟩)) (by kernel_rfl) (fun _ => by kernel_rfl)) hHeld ?_
          refine wpAnyE_take (i := 4) (by simp only [List.getElem?_toArray]; rfl) (by kernel_rfl) (by kernel_rfl) (by kernel_rfl) (by kernel_rfl) (by kernel_rfl) (by exact fun _ _ _ h => h) (by exact yk_ldF (by kernel_rfl) (.tmp 109) rfl ⟨g, 0, none⟩ (.slice Av nv cv) (by kernel_rfl) (fun w hh => hh.c0)) hHeld ?_
          refine wpAnyE_take (i := 5) (by simp only [List.getElem?_toArray]; rfl) (by kernel_rfl) (by kernel_rfl) (by kernel_rfl) (by kernel_rfl) (by kernel_rfl) (by exact fun _ _ _ h => h) (by exact yk (.slice A3 l.length c3) (by kernel_rfl) (fun _ => by kernel_rfl)) hHeld ?_
          refine wpAnyE_take (i := 6) (by simp only [List.getElem?_toArray]; rfl) (by kernel_rfl) (by kernel_rfl) (by kernel_rfl) (by kernel_rfl) (by kernel_rfl) (by exact fun _ _ _ h => h) (by exact yk (.pointer (some ⟨g, 0, none⟩)) (by kernel_rfl) (fun _ => by kernel_rfl)) hHeld ?_
          refine wpAnyE_take (i := 7) (by simp only [List.getElem?_toArray]; rfl) (by kernel_rfl) (by kernel_rfl) (by kernel_rfl) (by kernel_rfl) (by kernel_rfl) (by exact fun _ _ _ h => h) (by exact yk (.pointer (some ⟨g, 0, none⟩)) (by kernel_rfl) (fun _ => by kernel_rfl)) hHeld ?_
          refine wpAnyE_take (i := 8) (by simp only [List.getElem?_toArray]; rfl) (by kernel_rfl) (by kernel_rfl) (by kernel_rfl) (by kernel_rfl) (by kernel_rfl) (by exact fun _ _ _ h => h) (by exact yk (.pointer (some ⟨g, 1, none⟩)) (by kernel_rfl) (fun _ => by kernel_rfl)) hHeld ?_
          refine wpAnyE_take (i := 9) (by simp only [List.getElem?_toArray]; rfl) (by kernel_rfl) (by kernel_rfl) (by kernel_rfl) (by kernel_rfl) (by kernel_rfl) (by exact fun _ _ _ h => h) (by exact yk_ldI (by kernel_rfl) (.tmp 114) rfl ⟨g, 1, none⟩ now (by kernel_rfl) (fun w hh => hh.c1)) hHeld ?_
          refine wpAnyE_take (i := 10) (by simp only [List.getElem?_toArray]; rfl) (by kernel_rfl) (by kernel_rfl) (by kernel_rfl) (by kernel_rfl) (by kernel_rfl) (by exact fun _ _ _ h => h) (by exact yk_addI (by kernel_rfl) (.tmp 115) (.const (.int .i64 2)) _ rfl now 2 (by kernel_rfl) (by kernel_rfl) (by omega)) hHeld ?_
          refine wpAnyE_take (i := 11) (by simp only [List.getElem?_toArray]; rfl) (by kernel_rfl) (by kernel_rfl) (by kernel_rfl) (by kernel_rfl) (by kernel_rfl) (by exact fun _ _ _ h => h) (by exact yk (.agg (Pl.mk l (now + 2) A3 c3 b3).cells.toArray) (by kernel_rfl) (fun _ => by kernel_rfl)) hHeld ?_
          try simp only [Act.put, List.setIfInBounds_toArray, List.set_cons_zero, List.set_cons_succ]
          refine wpAnyE_ready (rs := [12]) (by kernel_rfl) (by simp) ?_
          refine EachE.cons (by rfl) (by simp only [List.getElem?_toArray]; rfl) (fun KK hKK => ?_) EachE.nil
          rw [if_pos (by kernel_rfl)]
          refine wp_bsF (.tmp 117) rfl ⟨l, now + 2, A3, c3, b3⟩ (by kernel_rfl) ?_
          have hsn := SlT.new_ wd28' (Pl.mk l (now + 2) A3 c3 b3).cells.toArray 65
          have h9 := below_alloc1 wd28' (.cells (Pl.mk l (now + 2) A3 c3 b3).cells.toArray 65)
          obtain ⟨b6, hb6⟩ : ∃ b6, b6 = wd28'.heap.size := ⟨_, rfl⟩
          obtain ⟨w29', e⟩ : ∃ w29', w29' = World.alloc wd28' (.cells (Pl.mk l (now + 2) A3 c3 b3).cells.toArray 65) := ⟨_, rfl⟩
          rw [← e] at hsn h9 ⊢
          rw [← hb6] at hsn ⊢
          clear e hb6
          replace F := F.ext h9
          replace hp := hp.ext h9
          clear h9
          refine hKK.out _ _ ?_ (fun hHeld => ?_)
          · exact (by first | exact F.q | exact F.q.ext (below_drew (Below.refl _ _)))
          clear hKK KK
          try simp only [Act.put, List.setIfInBounds_toArray, List.set_cons_zero, List.set_cons_succ]
          refine wpAnyE_ready (rs := [13]) (by kernel_rfl) (by simp) ?_
          refine EachE.cons (by rfl) (by simp only [List.getElem?_toArray]; rfl) (fun KK hKK => ?_) EachE.nil
          rw [if_pos (by kernel_rfl)]
          have hlen : ps.length + 1 ≤ 1000000 := by have := HNV.out; omega
          refine wp_appF (.tmp 110) (.tmp 118) rfl C _ ps (by kernel_rfl) F.hr b6 _ 1 1 [⟨l, now + 2, A3, c3, b3⟩] (by kernel_rfl) (show Sl _ _ _ (plv _) from hsn.1) rfl hlen (Nat.le_trans F.hC.1 F.hT.bel.size) ?_
          intro v7 w30' hr7 hm7 _
          have hxs : ∀ x ∈ ([⟨l, now + 2, A3, c3, b3⟩] : List Pl), SlT 5 w29' x.b x.A (bv x.l) := by
            intro x hx
            simp at hx
            subst hx
            exact hp
          replace F := F.app hm7 hr7 hxs
          obtain ⟨A7, c7, b7, hv7, -⟩ := own_sl F.hr
          obtain ⟨N7, hN7⟩ : ∃ N7, N7 = (ps ++ ([⟨l, now + 2, A3, c3, b3⟩] : List Pl)).length := ⟨_, rfl⟩
          rw [← hN7] at hv7
          subst hv7
          clear hm7 hr7 hsn hN7 hxs hlen
          refine hKK.out _ _ ?_ (fun hHeld => ?_)
          · exact (by first | exact F.q | exact F.q.ext (below_drew (Below.refl _ _)))
          clear hKK KK
          refine wpAnyE_take (i := 14) (by simp only [List.getElem?_toArray]; rfl) (by kernel_rfl) (by kernel_rfl) (by kernel_rfl) (by kernel_rfl) (by kernel_rfl) (by exact fun _ _ _ h => h) (by exact yk (.pointer (some ⟨g, 0, none⟩)) (by kernel_rfl) (fun _ => by kernel_rfl)) hHeld ?_
          refine wpAnyE_take (i := 15) (by simp only [List.getElem?_toArray]; rfl) (by kernel_rfl) (by kernel_rfl) (by kernel_rfl) (by kernel_rfl) (by kernel_rfl) (by exact fun _ _ _ h => h) (by exact yk (.pointer (some ⟨g, 0, none⟩)) (by kernel_rfl) (fun _ => by kernel_rfl)) hHeld ?_
          try simp only [Act.put, List.setIfInBounds_toArray, List.set_cons_zero, List.set_cons_succ]
          refine wpAnyE_ready (rs := [16]) (by kernel_rfl) (by simp) ?_
          refine EachE.last (by rfl) (by simp only [List.getElem?_toArray]; rfl) (fun KK hKK => ?_)
          rw [if_pos (by kernel_rfl)]
          refine wp_stF (.tmp 121) (.tmp 119) rfl ⟨g, 0, none⟩ A7 N7 c7 (by kernel_rfl) (by kernel_rfl) _ F.q.c0 (F.q.fz 0) ?_
          replace F := F.set0 (.slice A7 N7 c7)
          refine hKK.out _ _ ?_
          clear hKK KK
          refine wpAnyE_done (by kernel_rfl) ?_ _
          go_wp2_with fail
          go_roundw
          case rel => exact ⟨k + 1, by omega, by go_num, ⟨_, _, F, by rw [List.map_append, HKEY.out, putsN_next, HLG.out, HFG.out, List.map_append, List.append_assoc]; simp [putN, shK, keyP]⟩⟩
          case measure => simp [intOf]; omega
        have e1 : ((fh : Int) == 1) = false := by simp; omega
        have e2 : ((fh : Int) == 2) = false := by simp; omega
        have e3 : ((fh : Int) == 3) = false := by simp; omega
        have e4 : ((fh : Int) == 4) = false := by simp; omega
        have e5 : ((fh : Int) == 5) = false := by simp; omega
        go_wp2_with fail
        have F := HF.out.ext (below_alloc1 wr (.cells #[.int .u8 (fh : Int), .int .u16 (fp : Int), .int .u32 (fm : Int)] 55))
        have hp := HP.out.ext (below_alloc1 wr (.cells #[.int .u8 (fh : Int), .int .u16 (fp : Int), .int .u32 (fm : Int)] 55))
        obtain ⟨wx, hwx⟩ : ∃ wx, wx = wr.alloc (.cells #[.int .u8 (fh : Int), .int .u16 (fp : Int), .int .u32 (fm : Int)] 55) := ⟨_, rfl⟩
        rw [← hwx] at F hp ⊢
        clear hwx HF HP
        refine wp_region_E (fun j => j == 15) (fun w9 => BoxR w9 g (.slice Av nv cv) now) (by kernel_rfl) ?_ (fun hHeld => ?_)
        · exact (by first | exact F.q | exact F.q.ext (below_drew (Below.refl _ _)))
        obtain ⟨wd31', hwd⟩ : ∃ wd31', wd31' = World.drew wx := ⟨_, rfl⟩
        have h9 : Below wx.heap.size wx wd31' := by rw [hwd]; exact below_drew (Below.refl _ _)
        rw [← hwd] at hHeld ⊢
        clear hwd
        replace F := F.ext h9
        replace hp := hp.ext h9
        clear h9
        refine wpAnyE_take (i := 0) (by simp only [List.getElem?_toArray]; rfl) (by kernel_rfl) (by kernel_rfl) (by kernel_rfl) (by kernel_rfl) (by kernel_rfl) (by exact fun _ _ _ h => h) (by exact yk (.pointer (some ⟨g, 0, none⟩)) (by kernel_rfl) (fun _ => by kernel_rfl)) hHeld ?_
        refine wpAnyE_take (i := 1) (by simp only [List.getElem?_toArray]; rfl) (by kernel_rfl) (by kernel_rfl) (by kernel_rfl) (by kernel_rfl) (by kernel_rfl) (by exact fun _ _ _ h => h) (by exact yk (.pointer (some ⟨g, 0, none⟩)) (by kernel_rfl) (fun _ => by kernel_rfl)) hHeld ?_
        refine wpAnyE_take (i := 2) (by simp only [List.getElem?_toArray]; rfl) (by kernel_rfl) (by kernel_rfl) (by kernel_rfl) (by kernel_rfl) (by kernel_rfl) (by exact fun _ _ _ h => h) (by exact yk (.pointer (some ⟨g, 0, none⟩)) (by kernel_rfl) (fun _ => by kernel_rfl)) hHeld ?_
        refine wpAnyE_take (i := 3) (by simp only [List.getElem?_toArray]; rfl) (by kernel_rfl) (by kernel_rfl) (by kernel_rfl) (by kernel_rfl) (by kernel_rfl) (by exact fun _ _ _ h => h) (by exact yk (.pointer (some ⟨g, 0, none⟩)) (by kernel_rfl) (fun _ => by kernel_rfl)) hHeld ?_
        refine wpAnyE_take (i := 4) (by simp only [List.getElem?_toArray]; rfl) (by kernel_rfl) (by kernel_rfl) (by kernel_rfl) (by kernel_rfl) (by kernel_rfl) (by exact fun _ _ _ h => h) (by exact yk_ldF (by kernel_rfl) (.tmp 30) rfl ⟨g, 0, none⟩ (.slice Av nv cv) (by kernel_rfl) (fun w hh => hh.c0)) hHeld ?_
        refine wpAnyE_take (i := 5) (by simp only [List.getElem?_toArray]; rfl) (by kernel_rfl) (by kernel_rfl) (by kernel_rfl) (by kernel_rfl) (by kernel_rfl) (by exact fun _ _ _ h => h) (by exact yk (.slice A3 l.length c3) (by kernel_rfl) (fun _ => by kernel_rfl)) hHeld ?_
        refine wpAnyE_take (i := 6) (by simp only [List.getElem?_toArray]; rfl) (by kernel_rfl) (by kernel_rfl) (by kernel_rfl) (by kernel_rfl) (by kernel_rfl) (by exact fun _ _ _ h => h) (by exact yk (.pointer (some ⟨g, 0, none⟩)) (by kernel_rfl) (fun _ => by kernel_rfl)) hHeld ?_
        refine wpAnyE_take (i := 7) (by simp only [List.getElem?_toArray]; rfl) (by kernel_rfl) (by kernel_rfl) (by kernel_rfl) (by kernel_rfl) (by kernel_rfl) (by exact fun _ _ _ h => h) (by exact yk (.pointer (some ⟨g, 0, none⟩)) (by kernel_rfl) (fun _ => by kernel_rfl)) hHeld ?_
        refine wpAnyE_take (i := 8) (by simp only [List.getElem?_toArray]; rfl) (by kernel_rfl) (by kernel_rfl) (by kernel_rfl) (by kernel_rfl) (by kernel_rfl) (by exact fun _ _ _ h => h) (by exact yk (.pointer (some ⟨g, 1, none⟩)) (by kernel_rfl) (fun _ => by kernel_rfl)) hHeld ?_
        refine wpAnyE_take (i := 9) (by simp only [List.getElem?_toArray]; rfl) (by kernel_rfl) (by kernel_rfl) (by kernel_rfl) (by kernel_rfl) (by kernel_rfl) (by exact fun _ _ _ h => h) (by exact yk_ldI (by kernel_rfl) (.tmp 35) rfl ⟨g, 1, none⟩ now (by kernel_rfl) (fun w hh => hh.c1)) hHeld ?_
        refine wpAnyE_take (i := 10) (by simp only [List.getElem?_toArray]; rfl) (by kernel_rfl) (by kernel_rfl) (by kernel_rfl) (by kernel_rfl) (by kernel_rfl) (by exact fun _ _ _ h => h) (by exact yk (.agg (Pl.mk l (now) A3 c3 b3).cells.toArray) (by kernel_rfl) (fun _ => by kernel_rfl)) hHeld ?_
        try simp only [Act.put, List.setIfInBounds_toArray, List.set_cons_zero, List.set_cons_succ]
        refine wpAnyE_ready (rs := [11]) (by kernel_rfl) (by simp) ?_
        refine EachE.cons (by rfl) (by simp only [List.getElem?_toArray]; rfl) (fun KK hKK => ?_) EachE.nil
        rw [if_pos (by kernel_rfl)]
        refine wp_bsF (.tmp 37) rfl ⟨l, now, A3, c3, b3⟩ (by kernel_rfl) ?_
        have hsn := SlT.new_ wd31' (Pl.mk l (now) A3 c3 b3).cells.toArray 65
        have h9 := below_alloc1 wd31' (.cells (Pl.mk l (now) A3 c3 b3).cells.toArray 65)
        obtain ⟨b6, hb6⟩ : ∃ b6, b6 = wd31'.heap.size := ⟨_, rfl⟩
        obtain ⟨w32', e⟩ : ∃ w32', w32' = World.alloc wd31' (.cells (Pl.mk l (now) A3 c3 b3).cells.toArray 65) := ⟨_, rfl⟩
        rw [← e] at hsn h9 ⊢
        rw [← hb6] at hsn ⊢
        clear e hb6
        replace F := F.ext h9
        replace hp := hp.ext h9
        clear h9
        refine hKK.out _ _ ?_ (fun hHeld => ?_)
        · exact (by first | exact F.q | exact F.q.ext (below_drew (Below.refl _ _)))
        clear hKK KK
        try simp only [Act.put, List.setIfInBounds_toArray, List.set_cons_zero, List.set_cons_succ]
        refine wpAnyE_ready (rs := [12]) (by kernel_rfl) (by simp) ?_
        refine EachE.cons (by rfl) (by simp only [List.getElem?_toArray]; rfl) (fun KK hKK => ?_) EachE.nil
        rw [if_pos (by kernel_rfl)]
        have hlen : ps.length + 1 ≤ 1000000 := by have := HNV.out; omega
        refine wp_appF (.tmp 31) (.tmp 38) rfl C _ ps (by kernel_rfl) F.hr b6 _ 1 1 [⟨l, now, A3, c3, b3⟩] (by kernel_rfl) (show Sl _ _ _ (plv _) from hsn.1) rfl hlen (Nat.le_trans F.hC.1 F.hT.bel.size) ?_
        intro v7 w33' hr7 hm7 _
        have hxs : ∀ x ∈ ([⟨l, now, A3, c3, b3⟩] : List Pl), SlT 5 w32' x.b x.A (bv x.l) := by
          intro x hx
          simp at hx
          subst hx
          exact hp
        replace F := F.app hm7 hr7 hxs
        obtain ⟨A7, c7, b7, hv7, -⟩ := own_sl F.hr
        obtain ⟨N7, hN7⟩ : ∃ N7, N7 = (ps ++ ([⟨l, now, A3, c3, b3⟩] : List Pl)).length := ⟨_, rfl⟩
        rw [← hN7] at hv7
        subst hv7
        clear hm7 hr7 hsn hN7 hxs hlen
        refine hKK.out _ _ ?_ (fun hHeld => ?_)
        · exact (by first | exact F.q | exact F.q.ext (below_drew (Below.refl _ _)))
        clear hKK KK
        refine wpAnyE_take (i := 13) (by simp only [List.getElem?_toArray]; rfl) (by kernel_rfl) (by kernel_rfl) (by kernel_rfl) (by kernel_rfl) (by kernel_rfl) (by exact fun _ _ _ h => h) (by exact yk (.pointer (some ⟨g, 0, none⟩)) (by kernel_rfl) (fun _ => by kernel_rfl)) hHeld ?_
        refine wpAnyE_take (i := 14) (by simp only [List.getElem?_toArray]; rfl) (by kernel_rfl) (by kernel_rfl) (by kernel_rfl) (by kernel_rfl) (by kernel_rfl) (by exact fun _ _ _ h => h) (by exact yk (.pointer (some ⟨g, 0, none⟩)) (by kernel_rfl) (fun _ => by kernel_rfl)) hHeld ?_
        try simp only [Act.put, List.setIfInBounds_toArray, List.set_cons_zero, List.set_cons_succ]
        refine wpAnyE_ready (rs := [15]) (by kernel_rfl) (by simp) ?_
        refine EachE.last (by rfl) (by simp only [List.getElem?_toArray]; rfl) (fun KK hKK => ?_)
        rw [if_pos (by kernel_rfl)]
        refine wp_stF (.tmp 41) (.tmp 39) rfl ⟨g, 0, none⟩ A7 N7 c7 (by kernel_rfl) (by kernel_rfl) _ F.q.c0 (F.q.fz 0) ?_
        replace F := F.set0 (.slice A7 N7 c7)
        refine hKK.out _ _ ?_
        clear hKK KK
        refine wpAnyE_done (by kernel_rfl) ?_ _
        go_wp2_with fail
        go_roundw
        case rel => exact ⟨k + 1, by omega, by go_num, ⟨_, _, F, by rw [List.map_append, HKEY.out, putsN_next, HLG.out, HFG.out, List.map_append, List.append_assoc]; simp [putN, shK, keyP, h1, h2, h3, h4, h5]⟩⟩
        case measure => simp [intOf]; omega
      · have hfg : fs.getD k fz = fz := by rw [List.getD_eq_getElem?_getD, List.getElem?_eq_none (by rw [HN2.out]; omega)]; rfl
        have HFG := Lib.hid hfg
        have HF := Lib.hid F
        have HP := Lib.hid hp
        clear hfg F hp
        go_wp2_with fail
        have F := HF.out.ext (below_alloc1 wr (.cells #[.int .u8 0, .int .u16 0, .int .u32 0] 55))
        have hp := HP.out.ext (below_alloc1 wr (.cells #[.int .u8 0, .int .u16 0, .int .u32 0] 55))
        obtain ⟨wx, hwx⟩ : ∃ wx, wx = wr.alloc (.cells #[.int .u8 0, .int .u16 0, .int .u32 0] 55) := ⟨_, rfl⟩
        rw [← hwx] at F hp ⊢
        clear hwx HF HP
        refine wp_region_E (fun j => j == 15) (fun w9 => BoxR w9 g (.slice Av nv cv) now) (by kernel_rfl) ?_ (fun hHeld => ?_)
        · exact (by first | exact F.q | exact F.q.ext (below_drew (Below.refl _ _)))
        obtain ⟨wd34', hwd⟩ : ∃ wd34', wd34' = World.drew wx := ⟨_, rfl⟩
        have h9 : Below wx.heap.size wx wd34' := by rw [hwd]; exact below_drew (Below.refl _ _)
        rw [← hwd] at hHeld ⊢
        clear hwd
        replace F := F.ext h9
        replace hp := hp.ext h9
        clear h9
        refine wpAnyE_take (i := 0) (by simp only [List.getElem?_toArray]; rfl) (by kernel_rfl) (by kernel_rfl) (by kernel_rfl) (by kernel_rfl) (by kernel_rfl) (by exact fun _ _ _ h => h) (by exact yk (.pointer (some ⟨g, 0, none⟩)) (by kernel_rfl) (fun _ => by kernel_rfl)) hHeld ?_
        refine wpAnyE_take (i := 1) (by simp only [List.getElem?_toArray]; rfl) (by kernel_rfl) (by kernel_rfl) (by kernel_rfl) (by kernel_rfl) (by kernel_rfl) (by exact fun _ _ _ h => h) (by exact yk (.pointer (some ⟨g, 0, none⟩)) (by kernel_rfl) (fun _ => by kernel_rfl)) hHeld ?_
        refine wpAnyE_take (i := 2) (by simp only [List.getElem?_toArray]; rfl) (by kernel_rfl) (by kernel_rfl) (by kernel_rfl) (by kernel_rfl) (by kernel_rfl) (by exact fun _ _ _ h => h) (by exact yk (.pointer (some ⟨g, 0, none⟩)) (by kernel_rfl) (fun _ => by kernel_rfl)) hHeld ?_
        refine wpAnyE_take (i := 3) (by simp only [List.getElem?_toArray]; rfl) (by kernel_rfl) (by kernel_rfl) (by kernel_rfl) (by kernel_rfl) (by kernel_rfl) (by exact fun _ _ _ h => h) (by exact yk (.pointer (some ⟨g, 0, none⟩)) (by kernel_rfl) (fun _ => by kernel_rfl)) hHeld ?_
        refine wpAnyE_take (i := 4) (by simp only [List.getElem?_toArray]; rfl) (by kernel_rfl) (by kernel_rfl) (by kernel_rfl) (by kernel_rfl) (by kernel_rfl) (by exact fun _ _ _ h => h) (by exact yk_ldF (by kernel_rfl) (.tmp 30) rfl ⟨g, 0, none⟩ (.slice Av nv cv) (by kernel_rfl) (fun w hh => hh.c0)) hHeld ?_
        refine wpAnyE_take (i := 5) (by simp only [List.getElem?_toArray]; rfl) (by kernel_rfl) (by kernel_rfl) (by kernel_rfl) (by kernel_rfl) (by kernel_rfl) (by exact fun _ _ _ h => h) (by exact yk (.slice A3 l.length c3) (by kernel_rfl) (fun _ => by kernel_rfl)) hHeld ?_
        refine wpAnyE_take (i := 6) (by simp only [List.getElem?_toArray]; rfl) (by kernel_rfl) (by kernel_rfl) (by kernel_rfl) (by kernel_rfl) (by kernel_rfl) (by exact fun _ _ _ h => h) (by exact yk (.pointer (some ⟨g, 0, none⟩)) (by kernel_rfl) (fun _ => by kernel_rfl)) hHeld ?_
        refine wpAnyE_take (i := 7) (by simp only [List.getElem?_toArray]; rfl) (by kernel_rfl) (by kernel_rfl) (by kernel_rfl) (by kernel_rfl) (by kernel_rfl) (by exact fun _ _ _ h => h) (by exact yk (.pointer (some ⟨g, 0, none⟩)) (by kernel_rfl) (fun _ => by kernel_rfl)) hHeld ?_
        refine wpAnyE_take (i := 8) (by simp only [List.getElem?_toArray]; rfl) (by kernel_rfl) (by kernel_rfl) (by kernel_rfl) (by kernel_rfl) (by kernel_rfl) (by exact fun _ _ _ h => h) (by exact yk (.pointer (some ⟨g, 1, none⟩)) (by kernel_rfl) (fun _ => by kernel_rfl)) hHeld ?_
        refine wpAnyE_take (i := 9) (by simp only [List.getElem?_toArray]; rfl) (by kernel_rfl) (by kernel_rfl) (by kernel_rfl) (by kernel_rfl) (by kernel_rfl) (by exact fun _ _ _ h => h) (by exact yk_ldI (by kernel_rfl) (.tmp 35) rfl ⟨g, 1, none⟩ now (by kernel_rfl) (fun w hh => hh.c1)) hHeld ?_
        refine wpAnyE_take (i := 10) (by simp only [List.getElem?_toArray]; rfl) (by kernel_rfl) (by kernel_rfl) (by kernel_rfl) (by kernel_rfl) (by kernel_rfl) (by exact fun _ _ _ h => h) (by exact yk (.agg (Pl.mk l (now) A3 c3 b3).cells.toArray) (by kernel_rfl) (fun _ => by kernel_rfl)) hHeld ?_
        try simp only [Act.put, List.setIfInBounds_toArray, List.set_cons_zero, List.set_cons_succ]
        refine wpAnyE_ready (rs := [11]) (by kernel_rfl) (by simp) ?_
        refine EachE.cons (by rfl) (by simp only [List.getElem?_toArray]; rfl) (fun KK hKK => ?_) EachE.nil
        rw [if_pos (by kernel_rfl)]
        refine wp_bsF (.tmp 37) rfl ⟨l, now, A3, c3, b3⟩ (by kernel_rfl) ?_
        have hsn := SlT.new_ wd34' (Pl.mk l (now) A3 c3 b3).cells.toArray 65
        have h9 := below_alloc1 wd34' (.cells (Pl.mk l (now) A3 c3 b3).cells.toArray 65)
        obtain ⟨b6, hb6⟩ : ∃ b6, b6 = wd34'.heap.size := ⟨_, rfl⟩
        obtain ⟨w35', e⟩ : ∃ w35', w35' = World.alloc wd34' (.cells (Pl.mk l (now) A3 c3 b3).cells.toArray 65) := ⟨_, rfl⟩
        rw [← e] at hsn h9 ⊢
        rw [← hb6] at hsn ⊢
        clear e hb6
        replace F := F.ext h9
        replace hp := hp.ext h9
        clear h9
        refine hKK.out _ _ ?_ (fun hHeld => ?_)
        · exact (by first | exact F.q | exact F.q.ext (below_drew (Below.refl _ _)))
        clear hKK KK
        try simp only [Act.put, List.setIfInBounds_toArray, List.set_cons_zero, List.set_cons_succ]
        refine wpAnyE_ready (rs := [12]) (by kernel_rfl) (by simp) ?_
        refine EachE.cons (by rfl) (by simp only [List.getElem?_toArray]; rfl) (fun KK hKK => ?_) EachE.nil
        rw [if_pos (by kernel_rfl)]
        have hlen : ps.length + 1 ≤ 1000000 := by have := HNV.out; omega
        refine wp_appF (.tmp 31) (.tmp 38) rfl C _ ps (by kernel_rfl) F.hr b6 _ 1 1 [⟨l, now, A3, c3, b3⟩] (by kernel_rfl) (show Sl _ _ _ (plv _) from hsn.1) rfl hlen (Nat.le_trans F.hC.1 F.hT.bel.size) ?_
        intro v7 w36' hr7 hm7 _
        have hxs : ∀ x ∈ ([⟨l, now, A3, c3, b3⟩] : List Pl), SlT 5 w35' x.b x.A (bv x.l) := by
          intro x hx
          simp at hx
          subst hx
          exact hp
        replace F := F.app hm7 hr7 hxs
        obtain ⟨A7, c7, b7, hv7, -⟩ := own_sl F.hr
        obtain ⟨N7, hN7⟩ : ∃ N7, N7 = (ps ++ ([⟨l, now, A3, c3, b3⟩] : List Pl)).length := ⟨_, rfl⟩
        rw [← hN7] at hv7
        subst hv7
        clear hm7 hr7 hsn hN7 hxs hlen
        refine hKK.out _ _ ?_ (fun hHeld => ?_)
        · exact (by first | exact F.q | exact F.q.ext (below_drew (Below.refl _ _)))
        clear hKK KK
        refine wpAnyE_take (i := 13) (by simp only [List.getElem?_toArray]; rfl) (by kernel_rfl) (by kernel_rfl) (by kernel_rfl) (by kernel_rfl) (by kernel_rfl) (by exact fun _ _ _ h => h) (by exact yk (.pointer (some ⟨g, 0, none⟩)) (by kernel_rfl) (fun _ => by kernel_rfl)) hHeld ?_
        refine wpAnyE_take (i := 14) (by simp only [List.getElem?_toArray]; rfl) (by kernel_rfl) (by kernel_rfl) (by kernel_rfl) (by kernel_rfl) (by kernel_rfl) (by exact fun _ _ _ h => h) (by exact yk (.pointer (some ⟨g, 0, none⟩)) (by kernel_rfl) (fun _ => by kernel_rfl)) hHeld ?_
        try simp only [Act.put, List.setIfInBounds_toArray, List.set_cons_zero, List.set_cons_succ]
        refine wpAnyE_ready (rs := [15]) (by kernel_rfl) (by simp) ?_
        refine EachE.last (by rfl) (by simp only [List.getElem?_toArray]; rfl) (fun KK hKK => ?_)
        rw [if_pos (by kernel_rfl)]
        refine wp_stF (.tmp 41) (.tmp 39) rfl ⟨g, 0, none⟩ A7 N7 c7 (by kernel_rfl) (by kernel_rfl) _ F.q.c0 (F.q.fz 0) ?_
        replace F := F.set0 (.slice A7 N7 c7)
        refine hKK.out _ _ ?_
        clear hKK KK
        refine wpAnyE_done (by kernel_rfl) ?_ _
        go_wp2_with fail
        go_roundw
        case rel => exact ⟨k + 1, by omega, by go_num, ⟨_, _, F, by rw [List.map_append, HKEY.out, putsN_next, HLG.out, HFG.out, List.map_append, List.append_assoc]; simp [putN, shK, keyP, fz]⟩⟩
        case measure => simp [intOf]; omega
    · obtain rfl : k = n1 := by omega
      go_wp2_with fail
      go_end0
      exact ⟨rfl, ⟨v, ps, F, hkey⟩⟩
end Go.Proofs.Ytbcfelihncnofaa
