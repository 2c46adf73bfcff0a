/- few: a turn that isn't too great, and as the document has it. Conditions: those said. -/
import Derived.Test.YtbcfelihncnofaaWiG
namespace Go.Proofs.Ytbcfelihncnofaa
open Go.RowKit
set_option linter.unusedVariables false

structure FewO (w w' : World) (v1 v2 v3 : Value) (ls : List (List UInt8)) (fs : List Ft) : Prop where
  out : ∃ us, RowS w' w.heap.size v1 us ∧ RowsIn w' w.heap.size us (fewL ls ls.length) ∧ w'.ownsRow w.heap.size 50 3 v2 (fewF fs fs.length).length (ftv (fewF fs fs.length)) ∧ w'.ownsRow w.heap.size 55 3 v3 (fewF fs fs.length).length (ftv (fewF fs fs.length)) ∧ Below w.heap.size w w'
set_option maxHeartbeats 16000000 in
set_option maxRecDepth 40000 in
theorem few_calls (A1 : Option Addr) (us0 : List Value) (ls : List (List UInt8)) (n1 c1 b1 : Nat) (A2 : Option Addr) (fs : List Ft) (n2 c2 b2 : Nat) (w : World) (hs : Sl w b1 A1 us0) (hu : Bss w us0 ls) (hn1 : ls.length = n1) (hm1 : n1 ≤ maxLen) (hll : ∀ l ∈ ls, l.length ≤ maxLen) (hf : Sl w b2 A2 (ftv fs)) (hn2 : fs.length = n2) (hm2 : n2 ≤ maxLen) :
    Calls Try.prog 10 #[.agg #[.slice A1 n1 c1, .slice A2 n2 c2]] w fun e w' => ∃ v1 v2 v3, e = .returned (.tuple #[.agg #[v1, v2], v3]) ∧ FewO w w' v1 v2 v3 ls fs := by
  unfold maxLen at hm1 hm2
  obtain ⟨g, hg⟩ : ∃ g, g = w.heap.size := ⟨_, rfl⟩
  have x1 := heap_alloc_new w (.cells #[.slice A1 n1 c1, .slice A2 n2 c2] 34)
  have x2 := below_alloc1 w (.cells #[.slice A1 n1 c1, .slice A2 n2 c2] 34)
  have x3 : (w.alloc (.cells #[.slice A1 n1 c1, .slice A2 n2 c2] 34)).heap.size = g + 1 := by simp [hg]
  obtain ⟨wa, ea⟩ : ∃ wa, wa = w.alloc (.cells #[.slice A1 n1 c1, .slice A2 n2 c2] 34) := ⟨_, rfl⟩
  rw [← ea] at x1 x2 x3
  rw [← hg] at x1
  have y1 := heap_alloc_new wa (.cells #[.slice none 0 0, .slice none 0 0] 34)
  have y2 := below_alloc1 wa (.cells #[.slice none 0 0, .slice none 0 0] 34)
  have y3 : (wa.alloc (.cells #[.slice none 0 0, .slice none 0 0] 34)).heap.size = g + 1 + 1 := by simp [x3]
  obtain ⟨wb, eb⟩ : ∃ wb, wb = wa.alloc (.cells #[.slice none 0 0, .slice none 0 0] 34) := ⟨_, rfl⟩
  rw [← eb] at y1 y2 y3
  rw [x3] at y1
  have z1 := heap_alloc_new wb (.cells #[.slice none 0 0, .slice none 0 0] 34)
  have z2 := below_alloc1 wb (.cells #[.slice none 0 0, .slice none 0 0] 34)
  obtain ⟨wc, ec⟩ : ∃ wc, wc = wb.alloc (.cells #[.slice none 0 0, .slice none 0 0] 34) := ⟨_, rfl⟩
  rw [← ec] at z1 z2
  rw [y3] at z1
  have hyz := y2.trans (z2.mono y2.size)
  have F0 : FW w g (g + 1) (g + 1 + 1) (.slice A1 n1 c1) (.slice A2 n2 c2) (.slice none 0 0) (.slice none 0 0) (.slice none 0 0) [] (fewL ls 0) (.slice none 0 0) (fewF fs 0) (.slice none 0 0) (fewF fs 0) wc :=
    ⟨x2.trans (hyz.mono x2.size), by omega, BoxT.ext x1 hyz, BoxT.ext y1 z2, z1, RowS.nil_ _ _, by simp [fewL]; exact RowsIn.nil_ _ _, by simp [fewF]; exact World.ownsRow_nil _ _ _ _, by simp [fewF]; exact World.ownsRow_nil _ _ _ _⟩
  have HN1 := Lib.hid hn1
  have HN2 := Lib.hid hn2
  have f01 := F0.q1.c0
  rw [ec, eb, ea, hg] at f01
  have gs1 : w.heap.size + 1 = g + 1 := by omega
  have gs2 : w.heap.size + 1 + 1 = g + 1 + 1 := by omega
  clear x1 x2 x3 y1 y2 y3 z1 z2 hyz hn1 hn2
  go_enter Try.func10, Try.ntmps10
  go_wp2_with fail
  rw [← ea, ← eb, ← ec, ← hg]
  have hgw : w.heap.size ≤ g := by omega
  have hgw2 : w.heap.size ≤ g + 1 := by omega
  clear ea eb ec gs1 gs2 f01 hg
  obtain ⟨g2, hg2⟩ : ∃ g2, g2 = g + 1 := ⟨_, rfl⟩
  obtain ⟨g4, hg4⟩ : ∃ g4, g4 = g + 1 + 1 := ⟨_, rfl⟩
  rw [← hg4, ← hg2] at F0 ⊢
  rw [← hg2] at hgw2
  clear hg2 hg4
  go_loopw [13] (fun i wr => ∃ (k : Nat) (qf : Value) (us : List Value), k ≤ n1 ∧ i = .int .i64 k ∧ FW w g g2 g4 (.slice A1 n1 c1) (.slice A2 n2 c2) qf (.slice none 0 0) qf us (fewL ls k) (.slice none 0 0) (fewF fs 0) (.slice none 0 0) (fewF fs 0) wr) (fun i _ => n1 - (intOf i).toNat)
  case atStart => exact ⟨0, _, [], Nat.zero_le _, rfl, F0⟩
  case round =>
    obtain ⟨k, qf, us, hk, rfl, F⟩ := hrel
    by_cases hlt : k < n1
    · have hkl : k < ls.length := by rw [HN1.out]; exact hlt
      obtain ⟨A3, c3, b3, hv1, hs3⟩ := (hu.ext F.hb).2 k ls[k] (List.getElem?_eq_getElem hkl)
      obtain ⟨oa, rfl, hca⟩ := (Sl.ext hs F.hb) (by rintro rfl; simp at hv1)
      have ca := hca k _ hv1
      have hl1 := hll ls[k] (List.getElem_mem _)
      obtain ⟨l, hl⟩ : ∃ l, l = ls[k] := ⟨_, rfl⟩
      rw [← hl] at ca hs3 hl1
      by_cases h8 : k < 8
      · have hnx := fewL_next ls k hkl h8
        rw [← hl] at hnx
        obtain ⟨n3, hn3⟩ : ∃ n3, l.length = n3 := ⟨_, rfl⟩
        rw [hn3] at ca hl1
        have HNX := Lib.hid hnx
        have HN3 := Lib.hid hn3
        have hCut := fun W h => Cut_calls A3 l n3 c3 b3 40 W h hn3 hl1 (by rw [List.length_take]; exact Nat.le_trans (Nat.min_le_left _ _) (by decide))
        rw [show (40 : Int).toNat = 40 from rfl] at hCut
        obtain ⟨pk, hpk⟩ : ∃ pk, pk = l.take 40 := ⟨_, rfl⟩
        have hpl : pk.length ≤ 40 := by rw [hpk, List.length_take]; omega
        rw [← hpk] at hCut
        have HPK := Lib.hid hpk
        obtain ⟨Aq, cq, bq, hqf, -⟩ := own_sl F.hF
        obtain ⟨nq, hnq⟩ : ∃ nq, nq = us.length := ⟨_, rfl⟩
        rw [← hnq] at hqf
        subst hqf
        have hul : us.length ≤ 8 := by rw [F.hI.1]; exact fewL_length ls k
        have HUL := Lib.hid hul
        clear hnx hl hca hv1 hn3 hpk F0 hnq hul
        go_wp2_with fail
        replace hs3 : Bs wr b3 A3 l := hs3
        refine wp_region_E (fun j => j == 7) (fun w9 => BoxT w9 g4 (.slice Aq nq cq) (.slice none 0 0)) (by kernel_rfl) ?_ (fun hHeld => ?_)
        · exact (by first | exact F.q4 | exact F.q4.ext (below_drew (Below.refl _ _)))
        obtain ⟨wd1', hwd⟩ : ∃ wd1', wd1' = World.drew wr := ⟨_, rfl⟩
        have h9 : Below wr.heap.size wr wd1' := by rw [hwd]; exact below_drew (Below.refl _ _)
        rw [← hwd] at hHeld ⊢
        clear hwd
        replace F := F.ext h9
        replace hs3 := Sl.ext hs3 h9
        clear h9
        refine wpAnyE_take (i := 0) (by simp only [List.getElem?_toArray]; rfl) (by kernel_rfl) (by kernel_rfl) (by kernel_rfl) (by kernel_rfl) (by kernel_rfl) (by exact fun _ _ _ h => h) (by exact yk (.pointer (some ⟨g4, 0, none⟩)) (by kernel_rfl) (fun _ => by kernel_rfl)) hHeld ?_
        refine wpAnyE_take (i := 1) (by simp only [List.getElem?_toArray]; rfl) (by kernel_rfl) (by kernel_rfl) (by kernel_rfl) (by kernel_rfl) (by kernel_rfl) (by exact fun _ _ _ h => h) (by exact yk_ldB (by kernel_rfl) (.tmp 20) rfl ⟨g4, 0, none⟩ (.slice Aq nq cq) (by kernel_rfl) (fun w hh => hh.c0)) hHeld ?_
        refine wpAnyE_take (i := 2) (by simp only [List.getElem?_toArray]; rfl) (by kernel_rfl) (by kernel_rfl) (by kernel_rfl) (by kernel_rfl) (by kernel_rfl) (by exact fun _ _ _ h => h) (by exact yk (.slice A3 n3 c3) (by kernel_rfl) (fun _ => by kernel_rfl)) hHeld ?_
        refine wpAnyE_ready (rs := [3]) (by kernel_rfl) (by simp) ?_
        refine EachE.cons (by rfl) (by simp only [List.getElem?_toArray]; rfl) (fun KK hKK => ?_) EachE.nil
        rw [if_pos (by kernel_rfl)]
        refine wp_callF 18 #[.slice A3 n3 c3, .int .i64 40] (by kernel_rfl) ?_
        refine (hCut _ hs3).mono ?_
        rintro e w2' ⟨v5, rfl, hrow, h9⟩
        replace hrow := hrow.low F.hb.size
        obtain ⟨A5, c5, b5, hve, -⟩ := Row.sl hrow
        obtain ⟨N5, hN5⟩ : ∃ N5, pk.length = N5 := ⟨_, rfl⟩
        rw [hN5] at hve
        subst hve
        clear hN5
        refine ⟨_, rfl, ?_⟩
        replace F := F.ext h9
        clear h9 hs3
        refine hKK.out _ _ ?_ (fun hHeld => ?_)
        · exact (by first | exact F.q4 | exact F.q4.ext (below_drew (Below.refl _ _)))
        clear hKK KK
        refine wpAnyE_ready (rs := [4]) (by kernel_rfl) (by simp) ?_
        refine EachE.cons (by rfl) (by simp only [List.getElem?_toArray]; rfl) (fun KK hKK => ?_) EachE.nil
        rw [if_pos (by kernel_rfl)]
        refine wp_bsB (.tmp 23) rfl A5 N5 c5 (by kernel_rfl) ?_
        have hsn := Sl.cells_new w2' #[.slice A5 N5 c5] 46
        have h9 := below_alloc1 w2' (.cells #[.slice A5 N5 c5] 46)
        obtain ⟨b6, hb6⟩ : ∃ b6, b6 = w2'.heap.size := ⟨_, rfl⟩
        obtain ⟨w3', e⟩ : ∃ w3', w3' = World.alloc w2' (.cells #[.slice A5 N5 c5] 46) := ⟨_, rfl⟩
        rw [← e] at hsn h9 ⊢
        rw [← hb6] at hsn ⊢
        clear e hb6
        replace F := F.ext h9
        replace hrow := Row.ext hrow h9
        clear h9
        refine hKK.out _ _ ?_ (fun hHeld => ?_)
        · exact (by first | exact F.q4 | exact F.q4.ext (below_drew (Below.refl _ _)))
        clear hKK KK
        refine wpAnyE_ready (rs := [5]) (by kernel_rfl) (by simp) ?_
        refine EachE.cons (by rfl) (by simp only [List.getElem?_toArray]; rfl) (fun KK hKK => ?_) EachE.nil
        rw [if_pos (by kernel_rfl)]
        refine wp_appB (.tmp 21) (.tmp 24) rfl w.heap.size _ us (by kernel_rfl) F.hF b6 _ 1 1 [.slice A5 N5 c5] (by kernel_rfl) hsn rfl (by intro u hu; rw [List.mem_singleton] at hu; subst hu; rfl) (by have := HUL.out; omega) F.hb.size ?_
        intro v7 w4' hr7 hm7 _
        have hr5 := Row.mod hrow hm7 (fun i hi hh => own_apart F.hF hrow (by decide) hh hi)
        have hI7 : RowsIn w4' w.heap.size us (fewL ls k) := ⟨F.hI.1, fun i l hl => by obtain ⟨u, h4, h5⟩ := F.hI.2 i l hl; exact ⟨u, h4, h5.mod hm7 (fun j hj hh => own_apart F.hF h5 (by decide) hh hj)⟩⟩
        replace F := F.modF hm7 hr7 (hI7.snoc hr5)
        obtain ⟨A7, c7, b7, hv7, -⟩ := own_sl hr7
        obtain ⟨N7, hN7⟩ : ∃ N7, N7 = (us ++ [Value.slice A5 N5 c5]).length := ⟨_, rfl⟩
        rw [← hN7] at hv7
        subst hv7
        clear hm7 hr7 hr5 hI7 hrow hsn hN7
        refine hKK.out _ _ ?_ (fun hHeld => ?_)
        · exact (by first | exact F.q4 | exact F.q4.ext (below_drew (Below.refl _ _)))
        clear hKK KK
        refine wpAnyE_take (i := 6) (by simp only [List.getElem?_toArray]; rfl) (by kernel_rfl) (by kernel_rfl) (by kernel_rfl) (by kernel_rfl) (by kernel_rfl) (by exact fun _ _ _ h => h) (by exact yk (.pointer (some ⟨g4, 0, none⟩)) (by kernel_rfl) (fun _ => by kernel_rfl)) hHeld ?_
        try simp only [Act.put, List.setIfInBounds_toArray, List.set_cons_zero, List.set_cons_succ]
        refine wpAnyE_ready (rs := [7]) (by kernel_rfl) (by simp) ?_
        refine EachE.last (by rfl) (by simp only [List.getElem?_toArray]; rfl) (fun KK hKK => ?_)
        rw [if_pos (by kernel_rfl)]
        refine wp_stB (.tmp 26) (.tmp 25) rfl ⟨g4, 0, none⟩ A7 N7 c7 (by kernel_rfl) (by kernel_rfl) _ F.q4.c0 (F.q4.fz 0) ?_
        replace F := F.set4f (.slice A7 N7 c7)
        refine hKK.out _ _ ?_
        clear hKK KK
        refine wpAnyE_done (by kernel_rfl) ?_ _
        go_wp2_with fail
        go_roundw
        case rel => exact ⟨k + 1, _, _, by omega, by go_num, by rw [HNX.out, ← HPK.out]; exact F⟩
        case measure => simp [intOf]; omega
      · have h8' : 8 ≤ k := by omega
        have hpast := Lib.hid (fewL_past ls k h8')
        clear hl hca hv1 hs3 F0
        go_wp2_with fail
        go_roundw
        case rel => exact ⟨k + 1, qf, us, by omega, by go_num, by rw [hpast.out]; exact F⟩
        case measure => simp [intOf]; omega
    · obtain rfl : k = n1 := by omega
      have d1 := F.q1.c1
      have d1' := F.q1.c0
      have hn0 := F0
      clear F0 hn0
      go_wp2_with fail
      go_loopw [7, 31] (fun vR i wr => ∃ (j : Nat) (qa : Value), j ≤ n2 ∧ i = .int .i64 j ∧ FW w g g2 g4 (.slice A1 k c1) (.slice A2 n2 c2) qf qa qf us (fewL ls k) qa (fewF fs j) vR (fewF fs j) wr) (fun _ i _ => n2 - (intOf i).toNat)
      case atStart => exact ⟨0, _, Nat.zero_le _, rfl, F⟩
      case round =>
        clear F d1 d1'
        obtain ⟨j, qa, hj, rfl, F⟩ := hrel
        by_cases hlt : j < n2
        · have hjl : j < fs.length := by rw [HN2.out]; exact hlt
          obtain ⟨of, rfl, d0, d1, d2⟩ := sl_ft (Sl.ext hf F.hb) hjl
          obtain ⟨f, hfe⟩ : ∃ f, f = fs[j] := ⟨_, rfl⟩
          rw [← hfe] at d0 d1 d2
          by_cases h8 : j < 8
          · have hnx := fewF_next fs j hjl h8
            rw [← hfe] at hnx
            have HNX := Lib.hid hnx
            obtain ⟨Aa, ca, ba, hqa, -⟩ := own_sl F.hA
            obtain ⟨Ar, cr, br, hvr, -⟩ := own_sl F.hR
            obtain ⟨na, hna⟩ : ∃ na, na = (fewF fs j).length := ⟨_, rfl⟩
            rw [← hna] at hqa hvr
            subst hqa hvr
            obtain ⟨fl, hfl⟩ : ∃ fl, fl = fewF fs j := ⟨_, rfl⟩
            have hf8 : fl.length ≤ 8 := by rw [hfl]; exact fewF_length fs j
            rw [← hfl] at F HNX
            have HF8 := Lib.hid hf8
            have h9b := below_alloc1 wr (.cells f.cells.toArray 50)
            have z := heap_alloc_new wr (.cells f.cells.toArray 50)
            have hap9 : (Value.slice Aa na ca).ownBlock ≠ some wr.heap.size := fun e => by have := (World.ownsRow.lt F.hA _ e).2; omega
            have F1 := F.ext h9b
            have ZF := Lib.hid F1
            have ZZ := Lib.hid z
            have D0 := sl_same h9b d0
            clear hnx hfe hna hfl hf8 F F1 z h9b D0
            go_wp2_with fail
            obtain ⟨wx, hwx⟩ : ∃ wx, wx = wr.alloc (.cells f.cells.toArray 50) := ⟨_, rfl⟩
            have F := ZF.out
            have z := ZZ.out
            rw [← hwx] at F z ⊢
            clear ZF ZZ hwx d0 d1 d2
            obtain ⟨g9, hg9⟩ : ∃ g9, g9 = wr.heap.size := ⟨_, rfl⟩
            rw [← hg9] at z hap9 ⊢
            clear hg9
            refine wp_region_E (fun j => j == 10 || j == 11) (fun w9 => BoxT w9 g4 qf (.slice Aa na ca) ∧ w9.heap[g9]? = some (.cells f.cells.toArray 50 (0, 0))) (by kernel_rfl) ?_ (fun hHeld => ?_)
            · exact (by first | exact ⟨F.q4, z⟩ | exact ⟨F.q4.ext (below_drew (Below.refl _ _)), z⟩)
            obtain ⟨wd6', hwd⟩ : ∃ wd6', wd6' = World.drew wx := ⟨_, rfl⟩
            have h9 : Below wx.heap.size wx wd6' := by rw [hwd]; exact below_drew (Below.refl _ _)
            rw [← hwd] at hHeld ⊢
            clear hwd
            replace F := F.ext h9
            replace z := (h9.block g9 (Array.getElem?_eq_some_iff.1 z).1).trans z
            clear h9
            refine wpAnyE_take (i := 0) (by simp only [List.getElem?_toArray]; rfl) (by kernel_rfl) (by kernel_rfl) (by kernel_rfl) (by kernel_rfl) (by kernel_rfl) (by exact fun _ _ _ h => h) (by exact yk (.pointer (some ⟨g4, 1, none⟩)) (by kernel_rfl) (fun _ => by kernel_rfl)) hHeld ?_
            refine wpAnyE_take (i := 1) (by simp only [List.getElem?_toArray]; rfl) (by kernel_rfl) (by kernel_rfl) (by kernel_rfl) (by kernel_rfl) (by kernel_rfl) (by exact fun _ _ _ h => h) (by exact yk_ldA (by kernel_rfl) (.tmp 38) rfl ⟨g4, 1, none⟩ (.slice Aa na ca) (by kernel_rfl) (fun w hh => hh.1.c1)) hHeld ?_
            refine wpAnyE_take (i := 2) (by simp only [List.getElem?_toArray]; rfl) (by kernel_rfl) (by kernel_rfl) (by kernel_rfl) (by kernel_rfl) (by kernel_rfl) (by exact fun _ _ _ h => h) (by exact yk_lvA (by kernel_rfl) (.tmp 9) rfl g9 f (by kernel_rfl) (fun w hh => hh.2)) hHeld ?_
            refine wpAnyE_take (i := 5) (by simp only [List.getElem?_toArray]; rfl) (by kernel_rfl) (by kernel_rfl) (by kernel_rfl) (by kernel_rfl) (by kernel_rfl) (by exact fun _ _ _ h => h) (by exact yk (.slice Ar na cr) (by kernel_rfl) (fun _ => by kernel_rfl)) hHeld ?_
            refine wpAnyE_take (i := 6) (by simp only [List.getElem?_toArray]; rfl) (by kernel_rfl) (by kernel_rfl) (by kernel_rfl) (by kernel_rfl) (by kernel_rfl) (by exact fun _ _ _ h => h) (by exact yk_lvA (by kernel_rfl) (.tmp 9) rfl g9 f (by kernel_rfl) (fun w hh => hh.2)) hHeld ?_
            refine wpAnyE_ready (rs := [3, 7]) (by kernel_rfl) (by simp) ?_
            refine EachE.cons (by rfl) (by simp only [List.getElem?_toArray]; rfl) (fun KK hKK => ?_) (EachE.cons (by rfl) (by simp only [List.getElem?_toArray]; rfl) (fun KK hKK => ?_) EachE.nil)
            ·
             rw [if_pos (by kernel_rfl)]
             refine wp_bsA (.tmp 40) rfl f (by kernel_rfl) ?_
             have sA := SlT.new_ wd6' f.cells.toArray 50
             have h9 := below_alloc1 wd6' (.cells f.cells.toArray 50)
             obtain ⟨bA, hb6⟩ : ∃ bA, bA = wd6'.heap.size := ⟨_, rfl⟩
             obtain ⟨w7', e⟩ : ∃ w7', w7' = World.alloc wd6' (.cells f.cells.toArray 50) := ⟨_, rfl⟩
             rw [← e] at sA h9 ⊢
             rw [← hb6] at sA ⊢
             clear e hb6
             replace F := F.ext h9
             replace z := (h9.block g9 (Array.getElem?_eq_some_iff.1 z).1).trans z
             clear h9
             refine hKK.out _ _ ?_ (fun hHeld => ?_)
             · exact (by first | exact ⟨F.q4, z⟩ | exact ⟨F.q4.ext (below_drew (Below.refl _ _)), z⟩)
             clear hKK KK
             refine wpAnyE_ready (rs := [4, 7]) (by kernel_rfl) (by simp) ?_
             refine EachE.cons (by rfl) (by simp only [List.getElem?_toArray]; rfl) (fun KK hKK => ?_) (EachE.cons (by rfl) (by simp only [List.getElem?_toArray]; rfl) (fun KK hKK => ?_) EachE.nil)
             ·
              rw [if_pos (by kernel_rfl)]
              refine wp_appA (.tmp 39) (.tmp 41) rfl w.heap.size _ fl (by kernel_rfl) F.hA bA _ 1 1 [f] (by kernel_rfl) (show Sl _ _ _ (ftv [f]) from sA.1) rfl (by have := HF8.out; omega) F.hb.size ?_
              intro v7 w8' hr7 hm7 _
              replace z := (hm7.block g9 (Array.getElem?_eq_some_iff.1 z).1 hap9).trans z
              replace F := F.modA hm7 hr7
              obtain ⟨AA, cA', bA', hv7, -⟩ := own_sl hr7
              obtain ⟨NA, hN7⟩ : ∃ NA, NA = (fl ++ [f]).length := ⟨_, rfl⟩
              rw [← hN7] at hv7
              subst hv7
              clear hm7 hr7 sA hN7
              refine hKK.out _ _ ?_ (fun hHeld => ?_)
              · exact (by first | exact ⟨F.q4, z⟩ | exact ⟨F.q4.ext (below_drew (Below.refl _ _)), z⟩)
              clear hKK KK
              refine wpAnyE_take (i := 9) (by simp only [List.getElem?_toArray]; rfl) (by kernel_rfl) (by kernel_rfl) (by kernel_rfl) (by kernel_rfl) (by kernel_rfl) (by exact fun _ _ _ h => h) (by exact yk (.pointer (some ⟨g4, 1, none⟩)) (by kernel_rfl) (fun _ => by kernel_rfl)) hHeld ?_
              refine wpAnyE_ready (rs := [7]) (by kernel_rfl) (by simp) ?_
              refine EachE.cons (by rfl) (by simp only [List.getElem?_toArray]; rfl) (fun KK hKK => ?_) EachE.nil
              rw [if_pos (by kernel_rfl)]
              refine wp_bsR (.tmp 44) rfl f (by kernel_rfl) ?_
              have sR := SlT.new_ w8' f.cells.toArray 55
              have h9 := below_alloc1 w8' (.cells f.cells.toArray 55)
              obtain ⟨bR, hb6⟩ : ∃ bR, bR = w8'.heap.size := ⟨_, rfl⟩
              obtain ⟨w9', e⟩ : ∃ w9', w9' = World.alloc w8' (.cells f.cells.toArray 55) := ⟨_, rfl⟩
              rw [← e] at sR h9 ⊢
              rw [← hb6] at sR ⊢
              clear e hb6
              replace F := F.ext h9
              replace z := (h9.block g9 (Array.getElem?_eq_some_iff.1 z).1).trans z
              clear h9
              refine hKK.out _ _ ?_ (fun hHeld => ?_)
              · exact (by first | exact ⟨F.q4, z⟩ | exact ⟨F.q4.ext (below_drew (Below.refl _ _)), z⟩)
              clear hKK KK
              refine wpAnyE_ready (rs := [8]) (by kernel_rfl) (by simp) ?_
              refine EachE.cons (by rfl) (by simp only [List.getElem?_toArray]; rfl) (fun KK hKK => ?_) EachE.nil
              rw [if_pos (by kernel_rfl)]
              refine wp_appR (.tmp 43) (.tmp 45) rfl w.heap.size _ fl (by kernel_rfl) F.hR bR _ 1 1 [f] (by kernel_rfl) (show Sl _ _ _ (ftv [f]) from sR.1) rfl (by have := HF8.out; omega) F.hb.size ?_
              intro v7 w10' hr7 hm7 _
              replace z := (hm7.block g9 (Array.getElem?_eq_some_iff.1 z).1 (row_apart F.hR z (by decide))).trans z
              replace F := F.modR hm7 hr7
              obtain ⟨AR, cR', bR', hv7, -⟩ := own_sl hr7
              obtain ⟨NR, hN7⟩ : ∃ NR, NR = (fl ++ [f]).length := ⟨_, rfl⟩
              rw [← hN7] at hv7
              subst hv7
              clear hm7 hr7 sR hN7
              refine hKK.out _ _ ?_ (fun hHeld => ?_)
              · exact (by first | exact ⟨F.q4, z⟩ | exact ⟨F.q4.ext (below_drew (Below.refl _ _)), z⟩)
              clear hKK KK
              try simp only [Act.put, List.setIfInBounds_toArray, List.set_cons_zero, List.set_cons_succ]
              refine wpAnyE_ready (rs := [10]) (by kernel_rfl) (by simp) ?_
              refine EachE.last (by rfl) (by simp only [List.getElem?_toArray]; rfl) (fun KK hKK => ?_)
              rw [if_pos (by kernel_rfl)]
              refine wp_stA (.tmp 47) (.tmp 42) rfl ⟨g4, 1, none⟩ AA NA cA' (by kernel_rfl) (by kernel_rfl) _ F.q4.c1 (F.q4.fz 1) ?_
              replace F := F.set4a (.slice AA NA cA')
              refine hKK.out _ _ ?_
              clear hKK KK
              try simp only [Act.put]
              refine wpAnyE_ready (rs := [11]) (by kernel_rfl) (by simp) ?_
              refine EachE.last (by rfl) (by simp only [List.getElem?_toArray]; rfl) (fun KK hKK => ?_)
              rw [if_pos (by kernel_rfl)]
              refine wp_pure (.slice AR NR cR') (fun _ => by kernel_rfl) ?_
              refine hKK.out _ _ ?_
              clear hKK KK
              refine wpAnyE_done (by kernel_rfl) ?_ _
              go_wp2_with fail
              go_roundw
              case rel => exact ⟨j + 1, _, by omega, by go_num, by rw [HNX.out]; exact F⟩
              case measure => simp [intOf]; omega
             ·
              rw [if_pos (by kernel_rfl)]
              refine wp_bsR (.tmp 44) rfl f (by kernel_rfl) ?_
              have sR := SlT.new_ w7' f.cells.toArray 55
              have h9 := below_alloc1 w7' (.cells f.cells.toArray 55)
              obtain ⟨bR, hb6⟩ : ∃ bR, bR = w7'.heap.size := ⟨_, rfl⟩
              obtain ⟨w11', e⟩ : ∃ w11', w11' = World.alloc w7' (.cells f.cells.toArray 55) := ⟨_, rfl⟩
              rw [← e] at sR h9 ⊢
              rw [← hb6] at sR ⊢
              clear e hb6
              replace F := F.ext h9
              replace z := (h9.block g9 (Array.getElem?_eq_some_iff.1 z).1).trans z
              replace sA := SlT.ext sA h9
              clear h9
              refine hKK.out _ _ ?_ (fun hHeld => ?_)
              · exact (by first | exact ⟨F.q4, z⟩ | exact ⟨F.q4.ext (below_drew (Below.refl _ _)), z⟩)
              clear hKK KK
              refine wpAnyE_ready (rs := [4]) (by kernel_rfl) (by simp) ?_
              refine EachE.cons (by rfl) (by simp only [List.getElem?_toArray]; rfl) (fun KK hKK => ?_) EachE.nil
              rw [if_pos (by kernel_rfl)]
              refine wp_appA (.tmp 39) (.tmp 41) rfl w.heap.size _ fl (by kernel_rfl) F.hA bA _ 1 1 [f] (by kernel_rfl) (show Sl _ _ _ (ftv [f]) from sA.1) rfl (by have := HF8.out; omega) F.hb.size ?_
              intro v7 w12' hr7 hm7 _
              replace z := (hm7.block g9 (Array.getElem?_eq_some_iff.1 z).1 hap9).trans z
              replace sR := SlT.mod sR hm7 (fun cur fr hc => row_apart F.hA hc (by decide))
              replace F := F.modA hm7 hr7
              obtain ⟨AA, cA', bA', hv7, -⟩ := own_sl hr7
              obtain ⟨NA, hN7⟩ : ∃ NA, NA = (fl ++ [f]).length := ⟨_, rfl⟩
              rw [← hN7] at hv7
              subst hv7
              clear hm7 hr7 sA hN7
              refine hKK.out _ _ ?_ (fun hHeld => ?_)
              · exact (by first | exact ⟨F.q4, z⟩ | exact ⟨F.q4.ext (below_drew (Below.refl _ _)), z⟩)
              clear hKK KK
              refine wpAnyE_take (i := 9) (by simp only [List.getElem?_toArray]; rfl) (by kernel_rfl) (by kernel_rfl) (by kernel_rfl) (by kernel_rfl) (by kernel_rfl) (by exact fun _ _ _ h => h) (by exact yk (.pointer (some ⟨g4, 1, none⟩)) (by kernel_rfl) (fun _ => by kernel_rfl)) hHeld ?_
              refine wpAnyE_ready (rs := [8]) (by kernel_rfl) (by simp) ?_
              refine EachE.cons (by rfl) (by simp only [List.getElem?_toArray]; rfl) (fun KK hKK => ?_) EachE.nil
              rw [if_pos (by kernel_rfl)]
              refine wp_appR (.tmp 43) (.tmp 45) rfl w.heap.size _ fl (by kernel_rfl) F.hR bR _ 1 1 [f] (by kernel_rfl) (show Sl _ _ _ (ftv [f]) from sR.1) rfl (by have := HF8.out; omega) F.hb.size ?_
              intro v7 w13' hr7 hm7 _
              replace z := (hm7.block g9 (Array.getElem?_eq_some_iff.1 z).1 (row_apart F.hR z (by decide))).trans z
              replace F := F.modR hm7 hr7
              obtain ⟨AR, cR', bR', hv7, -⟩ := own_sl hr7
              obtain ⟨NR, hN7⟩ : ∃ NR, NR = (fl ++ [f]).length := ⟨_, rfl⟩
              rw [← hN7] at hv7
              subst hv7
              clear hm7 hr7 sR hN7
              refine hKK.out _ _ ?_ (fun hHeld => ?_)
              · exact (by first | exact ⟨F.q4, z⟩ | exact ⟨F.q4.ext (below_drew (Below.refl _ _)), z⟩)
              clear hKK KK
              try simp only [Act.put, List.setIfInBounds_toArray, List.set_cons_zero, List.set_cons_succ]
              refine wpAnyE_ready (rs := [10]) (by kernel_rfl) (by simp) ?_
              refine EachE.last (by rfl) (by simp only [List.getElem?_toArray]; rfl) (fun KK hKK => ?_)
              rw [if_pos (by kernel_rfl)]
              refine wp_stA (.tmp 47) (.tmp 42) rfl ⟨g4, 1, none⟩ AA NA cA' (by kernel_rfl) (by kernel_rfl) _ F.q4.c1 (F.q4.fz 1) ?_
              replace F := F.set4a (.slice AA NA cA')
              refine hKK.out _ _ ?_
              clear hKK KK
              try simp only [Act.put]
              refine wpAnyE_ready (rs := [11]) (by kernel_rfl) (by simp) ?_
              refine EachE.last (by rfl) (by simp only [List.getElem?_toArray]; rfl) (fun KK hKK => ?_)
              rw [if_pos (by kernel_rfl)]
              refine wp_pure (.slice AR NR cR') (fun _ => by kernel_rfl) ?_
              refine hKK.out _ _ ?_
              clear hKK KK
              refine wpAnyE_done (by kernel_rfl) ?_ _
              go_wp2_with fail
              go_roundw
              case rel => exact ⟨j + 1, _, by omega, by go_num, by rw [HNX.out]; exact F⟩
              case measure => simp [intOf]; omega
            ·
             rw [if_pos (by kernel_rfl)]
             refine wp_bsR (.tmp 44) rfl f (by kernel_rfl) ?_
             have sR := SlT.new_ wd6' f.cells.toArray 55
             have h9 := below_alloc1 wd6' (.cells f.cells.toArray 55)
             obtain ⟨bR, hb6⟩ : ∃ bR, bR = wd6'.heap.size := ⟨_, rfl⟩
             obtain ⟨w14', e⟩ : ∃ w14', w14' = World.alloc wd6' (.cells f.cells.toArray 55) := ⟨_, rfl⟩
             rw [← e] at sR h9 ⊢
             rw [← hb6] at sR ⊢
             clear e hb6
             replace F := F.ext h9
             replace z := (h9.block g9 (Array.getElem?_eq_some_iff.1 z).1).trans z
             clear h9
             refine hKK.out _ _ ?_ (fun hHeld => ?_)
             · exact (by first | exact ⟨F.q4, z⟩ | exact ⟨F.q4.ext (below_drew (Below.refl _ _)), z⟩)
             clear hKK KK
             refine wpAnyE_ready (rs := [3]) (by kernel_rfl) (by simp) ?_
             refine EachE.cons (by rfl) (by simp only [List.getElem?_toArray]; rfl) (fun KK hKK => ?_) EachE.nil
             rw [if_pos (by kernel_rfl)]
             refine wp_bsA (.tmp 40) rfl f (by kernel_rfl) ?_
             have sA := SlT.new_ w14' f.cells.toArray 50
             have h9 := below_alloc1 w14' (.cells f.cells.toArray 50)
             obtain ⟨bA, hb6⟩ : ∃ bA, bA = w14'.heap.size := ⟨_, rfl⟩
             obtain ⟨w15', e⟩ : ∃ w15', w15' = World.alloc w14' (.cells f.cells.toArray 50) := ⟨_, rfl⟩
             rw [← e] at sA h9 ⊢
             rw [← hb6] at sA ⊢
             clear e hb6
             replace F := F.ext h9
             replace z := (h9.block g9 (Array.getElem?_eq_some_iff.1 z).1).trans z
             replace sR := SlT.ext sR h9
             clear h9
             refine hKK.out _ _ ?_ (fun hHeld => ?_)
             · exact (by first | exact ⟨F.q4, z⟩ | exact ⟨F.q4.ext (below_drew (Below.refl _ _)), z⟩)
             clear hKK KK
             refine wpAnyE_ready (rs := [4]) (by kernel_rfl) (by simp) ?_
             refine EachE.cons (by rfl) (by simp only [List.getElem?_toArray]; rfl) (fun KK hKK => ?_) EachE.nil
             rw [if_pos (by kernel_rfl)]
             refine wp_appA (.tmp 39) (.tmp 41) rfl w.heap.size _ fl (by kernel_rfl) F.hA bA _ 1 1 [f] (by kernel_rfl) (show Sl _ _ _ (ftv [f]) from sA.1) rfl (by have := HF8.out; omega) F.hb.size ?_
             intro v7 w16' hr7 hm7 _
             replace z := (hm7.block g9 (Array.getElem?_eq_some_iff.1 z).1 hap9).trans z
             replace sR := SlT.mod sR hm7 (fun cur fr hc => row_apart F.hA hc (by decide))
             replace F := F.modA hm7 hr7
             obtain ⟨AA, cA', bA', hv7, -⟩ := own_sl hr7
             obtain ⟨NA, hN7⟩ : ∃ NA, NA = (fl ++ [f]).length := ⟨_, rfl⟩
             rw [← hN7] at hv7
             subst hv7
             clear hm7 hr7 sA hN7
             refine hKK.out _ _ ?_ (fun hHeld => ?_)
             · exact (by first | exact ⟨F.q4, z⟩ | exact ⟨F.q4.ext (below_drew (Below.refl _ _)), z⟩)
             clear hKK KK
             refine wpAnyE_take (i := 9) (by simp only [List.getElem?_toArray]; rfl) (by kernel_rfl) (by kernel_rfl) (by kernel_rfl) (by kernel_rfl) (by kernel_rfl) (by exact fun _ _ _ h => h) (by exact yk (.pointer (some ⟨g4, 1, none⟩)) (by kernel_rfl) (fun _ => by kernel_rfl)) hHeld ?_
             refine wpAnyE_ready (rs := [8]) (by kernel_rfl) (by simp) ?_
             refine EachE.cons (by rfl) (by simp only [List.getElem?_toArray]; rfl) (fun KK hKK => ?_) EachE.nil
             rw [if_pos (by kernel_rfl)]
             refine wp_appR (.tmp 43) (.tmp 45) rfl w.heap.size _ fl (by kernel_rfl) F.hR bR _ 1 1 [f] (by kernel_rfl) (show Sl _ _ _ (ftv [f]) from sR.1) rfl (by have := HF8.out; omega) F.hb.size ?_
             intro v7 w17' hr7 hm7 _
             replace z := (hm7.block g9 (Array.getElem?_eq_some_iff.1 z).1 (row_apart F.hR z (by decide))).trans z
             replace F := F.modR hm7 hr7
             obtain ⟨AR, cR', bR', hv7, -⟩ := own_sl hr7
             obtain ⟨NR, hN7⟩ : ∃ NR, NR = (fl ++ [f]).length := ⟨_, rfl⟩
             rw [← hN7] at hv7
             subst hv7
             clear hm7 hr7 sR hN7
             refine hKK.out _ _ ?_ (fun hHeld => ?_)
             · exact (by first | exact ⟨F.q4, z⟩ | exact ⟨F.q4.ext (below_drew (Below.refl _ _)), z⟩)
             clear hKK KK
             try simp only [Act.put, List.setIfInBounds_toArray, List.set_cons_zero, List.set_cons_succ]
             refine wpAnyE_ready (rs := [10]) (by kernel_rfl) (by simp) ?_
             refine EachE.last (by rfl) (by simp only [List.getElem?_toArray]; rfl) (fun KK hKK => ?_)
             rw [if_pos (by kernel_rfl)]
             refine wp_stA (.tmp 47) (.tmp 42) rfl ⟨g4, 1, none⟩ AA NA cA' (by kernel_rfl) (by kernel_rfl) _ F.q4.c1 (F.q4.fz 1) ?_
             replace F := F.set4a (.slice AA NA cA')
             refine hKK.out _ _ ?_
             clear hKK KK
             try simp only [Act.put]
             refine wpAnyE_ready (rs := [11]) (by kernel_rfl) (by simp) ?_
             refine EachE.last (by rfl) (by simp only [List.getElem?_toArray]; rfl) (fun KK hKK => ?_)
             rw [if_pos (by kernel_rfl)]
             refine wp_pure (.slice AR NR cR') (fun _ => by kernel_rfl) ?_
             refine hKK.out _ _ ?_
             clear hKK KK
             refine wpAnyE_done (by kernel_rfl) ?_ _
             go_wp2_with fail
             go_roundw
             case rel => exact ⟨j + 1, _, by omega, by go_num, by rw [HNX.out]; exact F⟩
             case measure => simp [intOf]; omega
          · have h8' : 8 ≤ j := by omega
            have hpast := Lib.hid (fewF_past fs j h8')
            have h9b := below_alloc1 wr (.cells f.cells.toArray 50)
            have F1 := Lib.hid (F.ext h9b)
            clear hfe F h9b
            go_wp2_with fail
            go_roundw
            case rel => exact ⟨j + 1, qa, by omega, by go_num, by rw [hpast.out]; exact F1.out⟩
            case measure => simp [intOf]; omega
        · obtain rfl : j = n2 := by omega
          have e0 := F.q4.c0
          have e1 := F.q4.c1
          have y0 := F.q2.c0
          have y1 := F.q2.c1
          have y2 := F.q2.fz 0
          have y3 := F.q2.fz 1
          have hE := (F.q2.set0 qf).set1 qa
          have hm2 : Mod (fun i => i = g2) wr ((wr.setCell ⟨g2, 0, none⟩ qf).setCell ⟨g2, 1, none⟩ qa) := (Mod.setCell wr ⟨g2, 0, none⟩ qf).trans (Mod.setCell _ ⟨g2, 1, none⟩ qa) (fun _ _ h => h) (fun _ _ h => h)
          have r1 := own_mod F.hF hm2 (fun i hi hh => F.q2.ne_row F.hF (by decide) (by rw [← show i = g2 from hh]; exact hi))
          have r2 := own_mod F.hA hm2 (fun i hi hh => F.q2.ne_row F.hA (by decide) (by rw [← show i = g2 from hh]; exact hi))
          have r3 := own_mod F.hR hm2 (fun i hi hh => F.q2.ne_row F.hR (by decide) (by rw [← show i = g2 from hh]; exact hi))
          have r4 : RowsIn ((wr.setCell ⟨g2, 0, none⟩ qf).setCell ⟨g2, 1, none⟩ qa) w.heap.size us (fewL ls k) := ⟨F.hI.1, fun i l hl => by obtain ⟨u, h4, h5⟩ := F.hI.2 i l hl; exact ⟨u, h4, h5.mod hm2 (fun i hi hh => F.q2.ne_row h5 (by decide) (by rw [← show i = g2 from hh]; exact hi))⟩⟩
          have r5 : Below w.heap.size w ((wr.setCell ⟨g2, 0, none⟩ qf).setCell ⟨g2, 1, none⟩ qa) := F.hb.trans (hm2.below F.hb.size (fun i hi hh => by have h : i = g2 := hh; omega))
          obtain ⟨Aq, cq, bq, hqf, -⟩ := own_sl F.hF
          obtain ⟨Aa, ca, ba, hqa, -⟩ := own_sl F.hA
          have HR := Lib.hid (And.intro r1 (And.intro r2 (And.intro r3 (And.intro r4 r5))))
          have HE := Lib.hid hE
          obtain ⟨nq, hnq⟩ : ∃ nq, nq = us.length := ⟨_, rfl⟩
          obtain ⟨na, hna⟩ : ∃ na, na = (fewF fs j).length := ⟨_, rfl⟩
          rw [← hnq] at hqf
          rw [← hna] at hqa
          subst hqf hqa
          clear r1 r2 r3 r4 r5 hE hm2 F hnq hna
          go_wp2_with fail
          refine bodyPost_ret (results_ct (P := Try.prog) rfl _ _ g2 34 _ (0, 0) _ rfl HE.out Try.underlying34 rfl (by kernel_rfl)) rfl ⟨_, _, _, rfl, ⟨us, ?_, ?_, ?_, ?_, ?_⟩⟩
          · exact HR.out.1
          · rw [HN1.out]; exact HR.out.2.2.2.1
          · rw [HN2.out]; exact HR.out.2.1
          · rw [HN2.out]; exact HR.out.2.2.1
          · exact HR.out.2.2.2.2
end Go.Proofs.Ytbcfelihncnofaa
