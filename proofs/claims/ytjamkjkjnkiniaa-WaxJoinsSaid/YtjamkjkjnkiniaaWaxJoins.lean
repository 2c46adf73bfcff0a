/- WaxJoins: for every list of texts, place and turning the Go text returns true: parts may be cut anywhere, in however many; texts that differ in one byte have unlike sums. No condition. -/
import Derived.Test.YtjamkjkjnkiniaaWaxPlain
import Derived.Test.YtjamkjkjnkiniaaRefSame
import Derived.Test.YtjamkjkjnkiniaaRefCut
import Derived.Test.YtjamkjkjnkiniaaRowSet
import Derived.Test.YtjamkjkjnkiniaaRowS
import Derived.Deep.RegionHeld3
import Derived.Deep.MidRow
import Derived.Outline
namespace Go.Proofs.Ytjamkjkjnkiniaa
open Go.RowKit

theorem TableSum_J (A : Option Addr) (vs : List Value) (ls : List (List UInt8)) (n c b : Nat) (w : World) (s : Nat) (hs : Sl w b A vs) (hv : Bss w vs ls) (hn : ls.length = n) (hf : sumN ls.flatten = s) (h1 : n ≤ maxLen) (h2 : ls.flatten.length ≤ 140737488355328) :
    Calls Try.prog 13 #[.agg tabL.toArray, .slice A n c] w fun e w' => e = .returned (.int .u32 (s : Nat)) ∧ Below w.heap.size w w' := by
  have h := TableSum_calls A vs ls n c b w hs hv hn h1 h2
  rw [tabL_eq, hf] at h
  exact h
theorem tab_keep {w w' : World} {G : Nat} (h : w.rangeAt G 0 tabL ∧ G < w.heap.size) (hb : Below w.heap.size w w') : w'.rangeAt G 0 tabL ∧ G < w'.heap.size := ⟨range_below h.1 hb h.2, Nat.lt_of_lt_of_le h.2 hb.size⟩
/-- What the law keeps of a list of texts. -/
def ownJ (ls : List (List UInt8)) (k : Nat) : List (List UInt8) := (ls.take (min k 6)).map (List.take 60)
theorem ownJ_small (ls : List (List UInt8)) {k : Nat} (h6 : k < 6) (hk : k < ls.length) : ownJ ls (k + 1) = ownJ ls k ++ [ls[k].take 60] := by
  unfold ownJ
  rw [show min (k + 1) 6 = k + 1 by omega, show min k 6 = k by omega, List.take_succ_eq_append_getElem hk, List.map_append]
  rfl
theorem ownJ_big (ls : List (List UInt8)) {k : Nat} (h6 : 6 ≤ k) : ownJ ls (k + 1) = ownJ ls k := by
  unfold ownJ
  rw [show min (k + 1) 6 = 6 by omega, show min k 6 = 6 by omega]
theorem ownJ_len (ls : List (List UInt8)) (k : Nat) : (ownJ ls k).length ≤ 6 := by
  unfold ownJ
  simp
  omega
theorem flat_le : ∀ (L : List (List UInt8)), (∀ l ∈ L, l.length ≤ 60) → L.flatten.length ≤ 60 * L.length
  | [], _ => by simp
  | l :: L, h => by
    have h1 := h l (by simp)
    have h2 := flat_le L (fun x hx => h x (by simp [hx]))
    simp only [List.flatten_cons, List.length_append, List.length_cons]
    omega
theorem ownJ_flat (ls : List (List UInt8)) (k : Nat) : (ownJ ls k).flatten.length ≤ 360 := by
  have h := flat_le (ownJ ls k) (fun l hl => by
    unfold ownJ at hl
    obtain ⟨x, _, rfl⟩ := List.mem_map.1 hl
    simp
    omega)
  have := ownJ_len ls k
  omega

set_option maxHeartbeats 4000000 in
set_option maxRecDepth 20000 in
theorem WaxJoins_walk (A : Option Addr) (ls : List (List UInt8)) (vs : List Value) (n c b : Nat) (k t : Nat) (w : World) (hs : Sl w b A vs) (hv : Bss w vs ls) (hlong : ∀ l ∈ ls, l.length ≤ maxLen) (hn : ls.length = n) (hnm : n ≤ maxLen) (hk : k ≤ 65535) (ht : t ≤ 255) :
    Calls Try.prog 6 #[.slice A n c, .int .u16 k, .int .u8 t] w fun e w' => e = .returned (.bool true) ∧ Below w.heap.size w w' := by
  unfold maxLen at hnm
  have HN := Lib.hid hn
  have HLG := Lib.hid hlong
  clear hn hlong
  go_enter Try.func6, Try.ntmps6
  go_wp2_with fail
  refine (awake_calls _).mono ?_
  rintro e w1 ⟨rfl, hb1⟩
  have HS := Lib.hid (Sl.ext hs hb1)
  have HV := Lib.hid (hv.ext hb1)
  clear hs hv
  go_wp2_with fail
  go_loopw [7, 17] (fun v i wr => ∃ (j : Nat) (us : List Value), j ≤ n ∧ i = .int .i64 j ∧ Hid (RowS wr w1.heap.size v us) ∧ Hid (RowsIn wr w1.heap.size us (ownJ ls j)) ∧ Below w1.heap.size w1 wr) (fun _ i _ => n - (intOf i).toNat)
  case atStart => exact ⟨0, [], by omega, rfl, Lib.hid (RowS.nil_ _ _), Lib.hid (RowsIn.nil_ _ _), Below.refl _ _⟩
  case round =>
    obtain ⟨j, us, hj, rfl, hown, hin, hb⟩ := hrel
    by_cases hlt : j < n
    · have hjl : j < ls.length := by rw [HN.out]; exact hlt
      obtain ⟨A1, c1, b1, hv1, hs1⟩ := (HV.out.ext hb).2 j ls[j] (List.getElem?_eq_getElem hjl)
      obtain ⟨oa, rfl, hca⟩ := (Sl.ext HS.out hb) (by rintro rfl; simp at hv1)
      have ca := hca j _ hv1
      have hbs : w1.heap.size ≤ wr.heap.size := hb.size
      have hql := HLG.out _ (List.getElem_mem hjl)
      by_cases h6 : j < 6
      · have e1 := Lib.hid (ownJ_small ls h6 hjl)
        obtain ⟨q, hq⟩ : ∃ q, q = ls[j] := ⟨_, rfl⟩
        rw [← hq] at ca hs1 hql e1
        have h6' : (j : Int) < 6 := by omega
        have hcut := Cut_calls A1 q q.length c1 b1 60 wr hs1 rfl hql (by simp only [List.length_take]; omega)
        rw [show (60 : Int).toNat = 60 from rfl] at hcut
        have HCUT := Lib.hid hcut
        have HLEN : Hid (us.length + 1 ≤ 1000000) := Lib.hid (by have h1 := hin.out.1; have h2 := ownJ_len ls j; omega)
        clear hca hv1 hq hcut hs1 hql
        go_wp2_with fail
        refine HCUT.out.mono ?_
        rintro e w2 ⟨v2, rfl, hrow2, h2⟩
        obtain ⟨q2, hq2⟩ : ∃ q2, q2 = q.take 60 := ⟨_, rfl⟩
        rw [← hq2] at hrow2 e1
        have hown2 := Lib.hid (hown.out.ext h2)
        have hin2 : Hid (RowsIn w2 w1.heap.size (us ++ [v2]) (ownJ ls (j + 1))) := Lib.hid (by rw [e1.out]; exact (hin.out.ext h2).snoc (hrow2.low hbs))
        obtain ⟨A2, c2, b2, rfl, -, -, -, -, -, -⟩ := hrow2.sl
        have h2s := h2.size
        have hb2 := hb.trans (h2.mono hbs)
        clear hq2 hrow2 h2 hown hin e1 HCUT
        go_wp2_with (at_builtin; go_loud (refine wpList_appS w2 rfl (.tmp 24) (.tmp 27) rfl w1.heap.size _ us rfl hown2.out rfl rfl HLEN.out (by omega) ?_); intro v' w3 hown' hmod _)
        go_roundw
        case rel => exact ⟨j + 1, _, by omega, by go_num, Lib.hid hown', Lib.hid (hin2.out.mod hown2.out hmod), hb2.trans (hmod.below (by omega) (fun i hi hv => by have := (World.ownsRow.lt hown2.out i hv).1; omega))⟩
        case measure => simp [intOf]; omega
      · have h6' : ¬ (j : Int) < 6 := by omega
        have e1 := Lib.hid (ownJ_big ls (k := j) (by omega))
        clear hca hv1 hs1 hql
        go_wp2_with fail
        go_roundw
        case rel => exact ⟨j + 1, us, by omega, by go_num, hown, Lib.hid (by rw [e1.out]; exact hin.out), hb⟩
        case measure => simp [intOf]; omega
    · have hjn : j = n := by omega
      have hJ : ownJ ls j = ownJ ls n := by rw [hjn]
      rw [hJ] at hin
      have hfl := ownJ_flat ls n
      have hfn := ownJ_len ls n
      obtain ⟨L, hL⟩ : ∃ L, L = ownJ ls n := ⟨_, rfl⟩
      rw [← hL] at hin hfl hfn
      clear hL hJ
      obtain ⟨A7, c7, b7, rfl, -, -, hB7, hs7, -⟩ := hown.out.sl
      have hv7 := hin.out.bss
      obtain ⟨m, hm⟩ : ∃ m, m = us.length := ⟨_, rfl⟩
      have HLM : Hid (L.length = m) := Lib.hid (by rw [hm]; exact hin.out.1.symm)
      rw [← hm]
      have hm6 : m ≤ 6 := by rw [← HLM.out]; exact hfn
      have hbw := hb1.trans (hb.mono hb1.size)
      clear hown hin hm hjn
      go_wp2_with fail
      refine (Join_calls A7 us L m c7 b7 _ hs7 hv7 HLM.out (by simp only [maxLen]; omega) (by omega)).mono ?_
      rintro e w2 ⟨v2, rfl, hrow2, hb2⟩
      have HFL := Lib.hid hfl
      obtain ⟨p, hp⟩ : ∃ p, p = L.flatten := ⟨_, rfl⟩
      rw [← hp] at hrow2 hfl
      have HP := Lib.hid hp
      obtain ⟨A2, c2, b2, rfl, hc2, hm2, hn2, hB2, hs2, -⟩ := hrow2.sl
      replace hs7 := Sl.ext hs7 hb2
      replace hv7 := hv7.ext hb2
      have hbw2 := hbw.trans (hb2.mono hbw.size)
      clear hrow2 hp hb2 hbw
      go_wp2_with fail
      refine (Make_calls _).mono ?_
      rintro e w3 ⟨rfl, hb3⟩
      have hs3 := Sl.ext hs2 hb3
      replace hs7 := Sl.ext hs7 hb3
      replace hv7 := hv7.ext hb3
      have hbw3 := hbw2.trans (hb3.mono hbw2.size)
      clear hs2 hb3 hbw2
      go_wp2_with fail
      rw [zeroTable]
      simp only [Result.andThen_ok]
      go_wp2_with fail
      have hg3 := heap_alloc_new w3 (.cells (tabTo 0) 28)
      have hst := run_storeCells_from (P := Try.prog) w3.heap.size _ (tabTo 256).toList 0 _ (w3.alloc (.cells (tabTo 0) 28)) hg3 (by simp [tabTo_size]) (fun v hv => (Array.all_eq_true_iff_forall_mem.1 (tabTo_all 256)) v (by simpa using hv))
      rw [List.take_zero, List.nil_append, Array.toArray_toList] at hst
      rw [hst]
      simp only [Result.andThen_ok]
      have hg4 := setRow_heap (w3.alloc (.cells (tabTo 0) 28)) w3.heap.size _ (tabTo 256) _ _ hg3
      have hb4 := below_setRow (below_alloc1 w3 (.cells (tabTo 0) 28)) w3.heap.size (tabTo 256) (Nat.le_refl _)
      obtain ⟨w4, hw4⟩ : ∃ w4, w4 = (w3.alloc (.cells (tabTo 0) 28)).setRow w3.heap.size (tabTo 256) := ⟨_, rfl⟩
      rw [← hw4] at hg4 hb4 ⊢
      replace hs3 := Sl.ext hs3 hb4
      replace hs7 := Sl.ext hs7 hb4
      replace hv7 := hv7.ext hb4
      have hb := hbw3.trans (hb4.mono hbw3.size)
      obtain ⟨G, hGe⟩ : ∃ G, G = w3.heap.size := ⟨_, rfl⟩
      rw [← hGe] at hg4 ⊢
      have hT : w4.rangeAt G 0 tabL ∧ G < w4.heap.size := ⟨tabL_range hg4, (Array.getElem?_eq_some_iff.1 hg4).1⟩
      have hu := table_under
      have hi := tab_info
      clear hst hw4 hg3 hbw3 hb4 hGe hg4
      obtain ⟨s, hs⟩ : ∃ s, s = sumN p := ⟨_, rfl⟩
      have HF1 : Hid (sumN L.flatten = s) := Lib.hid (by rw [hs, HP.out])
      have HF2 : Hid (sumN [p].flatten = s) := Lib.hid (by rw [hs]; simp)
      have HSN := Lib.hid hs
      clear hs
      have hbs4 := hb.size
      obtain ⟨z, hz⟩ : ∃ z, z = ((p.length : Int) == 0) := ⟨_, rfl⟩
      have hz' := hz.symm
      have HZ := Lib.hid hz
      clear hz
      go_wp2_with fail
      refine wp_region_held_drew (S := fun w' => w'.rangeAt G 0 tabL) (by kernel_rfl) ?_ (fun hHeld => ?_)
      · exact hT.1
      obtain ⟨wd2, hwd2⟩ : ∃ wd2, wd2 = World.drew w4 := ⟨_, rfl⟩
      have h9 : Below w4.heap.size w4 wd2 := by rw [hwd2]; exact below_drew (Below.refl _ _)
      rw [← hwd2] at hHeld ⊢
      replace hT := tab_keep hT h9
      replace hs3 := Sl.ext hs3 h9
      replace hs7 := Sl.ext hs7 h9
      replace hv7 := hv7.ext h9
      replace hb := hb.trans (h9.mono hb.size)
      clear h9
      clear hwd2
      refine wpAnyH_take (i := 0) (by simp only [List.getElem?_toArray, List.getElem?_cons_zero]; rfl) (by kernel_rfl) (by kernel_rfl) (by kernel_rfl) (by exact fun _ _ _ h => h) (by exact yieldsIf_load_mid (by kernel_rfl) _ _ rfl _ _ rfl tabL _ (fun w h => h) hu rfl hi) hHeld ?_
      try simp only [Act.put, List.setIfInBounds_toArray, List.set_cons_zero, List.set_cons_succ]
      refine wpAnyH_take (i := 1) (v := ?vt13) (by simp only [List.getElem?_toArray, List.getElem?_cons_succ, List.getElem?_cons_zero]; rfl) (by kernel_rfl) (by kernel_rfl) (by kernel_rfl) (by exact fun _ _ _ h => h) (Or.inl ⟨by kernel_rfl, ?yt13⟩) hHeld ?_
      case yt13 => (intro ww hSw; (try dsimp only at hSw); clear hSw; go_simp; try (with_reducible rfl))
      try simp only [Act.put, List.setIfInBounds_toArray, List.set_cons_zero, List.set_cons_succ]
      refine wpAnyH_take (i := 3) (by simp only [List.getElem?_toArray, List.getElem?_cons_succ, List.getElem?_cons_zero]; rfl) (by kernel_rfl) (by kernel_rfl) (by kernel_rfl) (by exact fun _ _ _ h => h) (by exact yieldsIf_load_mid (by kernel_rfl) _ _ rfl _ _ rfl tabL _ (fun w h => h) hu rfl hi) hHeld ?_
      try simp only [Act.put, List.setIfInBounds_toArray, List.set_cons_zero, List.set_cons_succ]
      refine wpAnyH_take (i := 4) (v := ?vt14) (by simp only [List.getElem?_toArray, List.getElem?_cons_succ, List.getElem?_cons_zero]; rfl) (by kernel_rfl) (by kernel_rfl) (by kernel_rfl) (by exact fun _ _ _ h => h) (Or.inl ⟨by kernel_rfl, ?yt14⟩) hHeld ?_
      case yt14 => (intro ww hSw; (try dsimp only at hSw); clear hSw; go_simp; try (with_reducible rfl))
      try simp only [Act.put, List.setIfInBounds_toArray, List.set_cons_zero, List.set_cons_succ]
      refine wpAnyH_ready (rs := [2, 5]) (by kernel_rfl) (by simp) ?_
      refine AllReadyH.cons (by simp only [List.getElem?_toArray, List.getElem?_cons_succ, List.getElem?_cons_zero]; rfl) (fun KK hKK => ?_) (AllReadyH.cons (by simp only [List.getElem?_toArray, List.getElem?_cons_succ, List.getElem?_cons_zero]; rfl) (fun KK hKK => ?_) AllReadyH.nil)
      · skip
        rw [if_pos (by kernel_rfl)]
        go_simp
        (with_reducible refine (TableSum_J A7 us L m c7 b7 _ s hs7 hv7 HLM.out HF1.out (by simp only [maxLen]; omega) (by have := HFL.out; omega)).mono ?_)
        rintro e wc6 ⟨rfl, g5⟩
        replace hT := tab_keep hT g5
        replace hs3 := Sl.ext hs3 g5
        replace hs7 := Sl.ext hs7 g5
        replace hv7 := hv7.ext g5
        replace hb := hb.trans (g5.mono hb.size)
        clear g5
        go_wp2_with fail
        refine hKK.out _ _ ?_ (fun hHeld => ?_)
        · exact hT.1
        clear hKK KK
        try simp only [Act.put, List.setIfInBounds_toArray, List.set_cons_zero, List.set_cons_succ]
        refine wpAnyH_ready (rs := [5]) (by kernel_rfl) (by simp) ?_
        refine AllReadyH.cons (by simp only [List.getElem?_toArray, List.getElem?_cons_succ, List.getElem?_cons_zero]; rfl) (fun KK hKK => ?_) AllReadyH.nil
        rw [if_pos (by kernel_rfl)]
        go_simp
        obtain ⟨wa7, hwa7⟩ : ∃ wa7, wa7 = wc6.alloc (.cells #[.slice A2 p.length c2] 22) := ⟨_, rfl⟩
        have h9 : Below wc6.heap.size wc6 wa7 := by rw [hwa7]; exact below_alloc1 _ _
        have qx : Sl wa7 wc6.heap.size (some ⟨wc6.heap.size, 0, none⟩) [.slice A2 p.length c2] := by rw [hwa7]; exact Sl.cells_new _ _ _
        rw [← hwa7]
        clear hwa7
        replace hT := tab_keep hT h9
        replace hs3 := Sl.ext hs3 h9
        replace hs7 := Sl.ext hs7 h9
        replace hv7 := hv7.ext h9
        replace hb := hb.trans (h9.mono hb.size)
        clear h9
        refine hKK.out _ _ ?_ (fun hHeld => ?_)
        · exact hT.1
        clear hKK KK
        try simp only [Act.put, List.setIfInBounds_toArray, List.set_cons_zero, List.set_cons_succ]
        refine wpAnyH_ready (rs := [6]) (by kernel_rfl) (by simp) ?_
        refine AllReadyH.cons (by simp only [List.getElem?_toArray, List.getElem?_cons_succ, List.getElem?_cons_zero]; rfl) (fun KK hKK => ?_) AllReadyH.nil
        rw [if_pos (by kernel_rfl)]
        go_simp
        (with_reducible refine (TableSum_J (some ⟨wc6.heap.size, 0, none⟩) [.slice A2 p.length c2] [p] 1 1 wc6.heap.size _ s qx (Bss.cons hs3 rfl (Bss.nil_ _)) rfl HF2.out (by simp [maxLen]) (by simp; omega)).mono ?_)
        rintro e wc9 ⟨rfl, g8⟩
        replace hT := tab_keep hT g8
        replace hs3 := Sl.ext hs3 g8
        replace hs7 := Sl.ext hs7 g8
        replace hv7 := hv7.ext g8
        replace qx := Sl.ext qx g8
        replace hb := hb.trans (g8.mono hb.size)
        clear g8
        go_wp2_with fail
        refine hKK.out _ _ ?_ (fun hHeld => ?_)
        · exact hT.1
        clear hKK KK
        try simp only [Act.put, List.setIfInBounds_toArray, List.set_cons_zero, List.set_cons_succ]
        refine wpAnyH_take (i := 7) (v := ?vt110) (by simp only [List.getElem?_toArray, List.getElem?_cons_succ, List.getElem?_cons_zero]; rfl) (by kernel_rfl) (by kernel_rfl) (by kernel_rfl) (by exact fun _ _ _ h => h) (Or.inl ⟨by kernel_rfl, ?yt110⟩) hHeld ?_
        case yt110 => (intro ww hSw; (try dsimp only at hSw); clear hSw; go_simp; try (with_reducible rfl))
        try simp only [Act.put, List.setIfInBounds_toArray, List.set_cons_zero, List.set_cons_succ]
        refine wpAnyH_take (i := 8) (v := ?vt111) (by simp only [List.getElem?_toArray, List.getElem?_cons_succ, List.getElem?_cons_zero]; rfl) (by kernel_rfl) (by kernel_rfl) (by kernel_rfl) (by exact fun _ _ _ h => h) (Or.inl ⟨by kernel_rfl, ?yt111⟩) hHeld ?_
        case yt111 => (intro ww hSw; (try dsimp only at hSw); clear hSw; go_simp; try (with_reducible rfl))
        try simp only [Act.put, List.setIfInBounds_toArray, List.set_cons_zero, List.set_cons_succ]
        refine wpAnyH_take (i := 9) (v := ?vt112) (by simp only [List.getElem?_toArray, List.getElem?_cons_succ, List.getElem?_cons_zero]; rfl) (by kernel_rfl) (by kernel_rfl) (by kernel_rfl) (by exact fun _ _ _ h => h) (Or.inl ⟨by kernel_rfl, ?yt112⟩) hHeld ?_
        case yt112 => (intro ww hSw; (try dsimp only at hSw); clear hSw; go_simp; try (with_reducible rfl))
        try simp only [Act.put, List.setIfInBounds_toArray, List.set_cons_zero, List.set_cons_succ]
        refine wpAnyH_take (i := 10) (v := ?vt113) (by simp only [List.getElem?_toArray, List.getElem?_cons_succ, List.getElem?_cons_zero]; rfl) (by kernel_rfl) (by kernel_rfl) (by kernel_rfl) (by exact fun _ _ _ h => h) (Or.inl ⟨by kernel_rfl, ?yt113⟩) hHeld ?_
        case yt113 => (intro ww hSw; (try dsimp only at hSw); clear hSw; go_simp; try (with_reducible rfl))
        try simp only [Act.put, List.setIfInBounds_toArray, List.set_cons_zero, List.set_cons_succ]
        refine wpAnyH_take (i := 11) (v := ?vt114) (by simp only [List.getElem?_toArray, List.getElem?_cons_succ, List.getElem?_cons_zero]; rfl) (by kernel_rfl) (by kernel_rfl) (by kernel_rfl) (by exact fun _ _ _ h => h) (Or.inl ⟨by kernel_rfl, ?yt114⟩) hHeld ?_
        case yt114 => (intro ww hSw; (try dsimp only at hSw); clear hSw; go_simp; try (with_reducible rfl))
        try simp only [Act.put, List.setIfInBounds_toArray, List.set_cons_zero, List.set_cons_succ]
        refine wpAnyH_take (i := 12) (v := ?vt115) (by simp only [List.getElem?_toArray, List.getElem?_cons_succ, List.getElem?_cons_zero]; rfl) (by kernel_rfl) (by kernel_rfl) (by kernel_rfl) (by exact fun _ _ _ h => h) (Or.inl ⟨by kernel_rfl, ?yt115⟩) hHeld ?_
        case yt115 => (intro ww hSw; (try dsimp only at hSw); clear hSw; go_simp; try (with_reducible rfl))
        try simp only [Act.put, List.setIfInBounds_toArray, List.set_cons_zero, List.set_cons_succ]
        refine wpAnyH_done (by kernel_rfl) ?_ _
        cases z with
        | true =>
          go_wp2_with fail
          refine wp_region_held_drew (S := fun w' => w'.rangeAt G 0 tabL) (by kernel_rfl) ?_ (fun hHeld => ?_)
          · exact hT.1
          obtain ⟨wd17, hwd17⟩ : ∃ wd17, wd17 = World.drew wc9 := ⟨_, rfl⟩
          have h9 : Below wc9.heap.size wc9 wd17 := by rw [hwd17]; exact below_drew (Below.refl _ _)
          rw [← hwd17] at hHeld ⊢
          replace hT := tab_keep hT h9
          replace hs3 := Sl.ext hs3 h9
          replace hs7 := Sl.ext hs7 h9
          replace hv7 := hv7.ext h9
          replace hb := hb.trans (h9.mono hb.size)
          clear h9
          clear hwd17
          refine wpAnyH_take (i := 0) (by simp only [List.getElem?_toArray, List.getElem?_cons_zero]; rfl) (by kernel_rfl) (by kernel_rfl) (by kernel_rfl) (by exact fun _ _ _ h => h) (by exact yieldsIf_load_mid (by kernel_rfl) _ _ rfl _ _ rfl tabL _ (fun w h => h) hu rfl hi) hHeld ?_
          try simp only [Act.put, List.setIfInBounds_toArray, List.set_cons_zero, List.set_cons_succ]
          refine wpAnyH_take (i := 1) (v := ?vt1618) (by simp only [List.getElem?_toArray, List.getElem?_cons_succ, List.getElem?_cons_zero]; rfl) (by kernel_rfl) (by kernel_rfl) (by kernel_rfl) (by exact fun _ _ _ h => h) (Or.inl ⟨by kernel_rfl, ?yt1618⟩) hHeld ?_
          case yt1618 => (intro ww hSw; (try dsimp only at hSw); clear hSw; go_simp; try (with_reducible rfl))
          try simp only [Act.put, List.setIfInBounds_toArray, List.set_cons_zero, List.set_cons_succ]
          refine wpAnyH_take (i := 3) (by simp only [List.getElem?_toArray, List.getElem?_cons_succ, List.getElem?_cons_zero]; rfl) (by kernel_rfl) (by kernel_rfl) (by kernel_rfl) (by exact fun _ _ _ h => h) (by exact yieldsIf_load_mid (by kernel_rfl) _ _ rfl _ _ rfl tabL _ (fun w h => h) hu rfl hi) hHeld ?_
          try simp only [Act.put, List.setIfInBounds_toArray, List.set_cons_zero, List.set_cons_succ]
          refine wpAnyH_take (i := 4) (v := ?vt1619) (by simp only [List.getElem?_toArray, List.getElem?_cons_succ, List.getElem?_cons_zero]; rfl) (by kernel_rfl) (by kernel_rfl) (by kernel_rfl) (by exact fun _ _ _ h => h) (Or.inl ⟨by kernel_rfl, ?yt1619⟩) hHeld ?_
          case yt1619 => (intro ww hSw; (try dsimp only at hSw); clear hSw; go_simp; try (with_reducible rfl))
          try simp only [Act.put, List.setIfInBounds_toArray, List.set_cons_zero, List.set_cons_succ]
          refine wpAnyH_ready (rs := [2, 5]) (by kernel_rfl) (by simp) ?_
          refine AllReadyH.cons (by simp only [List.getElem?_toArray, List.getElem?_cons_succ, List.getElem?_cons_zero]; rfl) (fun KK hKK => ?_) (AllReadyH.cons (by simp only [List.getElem?_toArray, List.getElem?_cons_succ, List.getElem?_cons_zero]; rfl) (fun KK hKK => ?_) AllReadyH.nil)
          · skip
            rw [if_pos (by kernel_rfl)]
            go_simp
            (with_reducible refine (TableSum_J A7 us L m c7 b7 _ s hs7 hv7 HLM.out HF1.out (by simp only [maxLen]; omega) (by have := HFL.out; omega)).mono ?_)
            rintro e wc21 ⟨rfl, g20⟩
            replace hT := tab_keep hT g20
            replace hs3 := Sl.ext hs3 g20
            replace hs7 := Sl.ext hs7 g20
            replace hv7 := hv7.ext g20
            replace hb := hb.trans (g20.mono hb.size)
            clear g20
            go_wp2_with fail
            refine hKK.out _ _ ?_ (fun hHeld => ?_)
            · exact hT.1
            clear hKK KK
            try simp only [Act.put, List.setIfInBounds_toArray, List.set_cons_zero, List.set_cons_succ]
            refine wpAnyH_ready (rs := [5]) (by kernel_rfl) (by simp) ?_
            refine AllReadyH.cons (by simp only [List.getElem?_toArray, List.getElem?_cons_succ, List.getElem?_cons_zero]; rfl) (fun KK hKK => ?_) AllReadyH.nil
            rw [if_pos (by kernel_rfl)]
            go_simp
            obtain ⟨wa22, hwa22⟩ : ∃ wa22, wa22 = wc21.alloc (.cells #[.slice A2 p.length c2] 22) := ⟨_, rfl⟩
            have h9 : Below wc21.heap.size wc21 wa22 := by rw [hwa22]; exact below_alloc1 _ _
            have qy : Sl wa22 wc21.heap.size (some ⟨wc21.heap.size, 0, none⟩) [.slice A2 p.length c2] := by rw [hwa22]; exact Sl.cells_new _ _ _
            rw [← hwa22]
            clear hwa22
            replace hT := tab_keep hT h9
            replace hs3 := Sl.ext hs3 h9
            replace hs7 := Sl.ext hs7 h9
            replace hv7 := hv7.ext h9
            replace hb := hb.trans (h9.mono hb.size)
            clear h9
            refine hKK.out _ _ ?_ (fun hHeld => ?_)
            · exact hT.1
            clear hKK KK
            try simp only [Act.put, List.setIfInBounds_toArray, List.set_cons_zero, List.set_cons_succ]
            refine wpAnyH_ready (rs := [6]) (by kernel_rfl) (by simp) ?_
            refine AllReadyH.cons (by simp only [List.getElem?_toArray, List.getElem?_cons_succ, List.getElem?_cons_zero]; rfl) (fun KK hKK => ?_) AllReadyH.nil
            rw [if_pos (by kernel_rfl)]
            go_simp
            (with_reducible refine (TableSum_J (some ⟨wc21.heap.size, 0, none⟩) [.slice A2 p.length c2] [p] 1 1 wc21.heap.size _ s qy (Bss.cons hs3 rfl (Bss.nil_ _)) rfl HF2.out (by simp [maxLen]) (by simp; omega)).mono ?_)
            rintro e wc24 ⟨rfl, g23⟩
            replace hT := tab_keep hT g23
            replace hs3 := Sl.ext hs3 g23
            replace hs7 := Sl.ext hs7 g23
            replace hv7 := hv7.ext g23
            replace qy := Sl.ext qy g23
            replace hb := hb.trans (g23.mono hb.size)
            clear g23
            go_wp2_with fail
            refine hKK.out _ _ ?_ (fun hHeld => ?_)
            · exact hT.1
            clear hKK KK
            try simp only [Act.put, List.setIfInBounds_toArray, List.set_cons_zero, List.set_cons_succ]
            refine wpAnyH_take (i := 7) (v := ?vt1625) (by simp only [List.getElem?_toArray, List.getElem?_cons_succ, List.getElem?_cons_zero]; rfl) (by kernel_rfl) (by kernel_rfl) (by kernel_rfl) (by exact fun _ _ _ h => h) (Or.inl ⟨by kernel_rfl, ?yt1625⟩) hHeld ?_
            case yt1625 => (intro ww hSw; (try dsimp only at hSw); clear hSw; go_simp; try (with_reducible rfl))
            try simp only [Act.put, List.setIfInBounds_toArray, List.set_cons_zero, List.set_cons_succ]
            refine wpAnyH_take (i := 8) (v := ?vt1626) (by simp only [List.getElem?_toArray, List.getElem?_cons_succ, List.getElem?_cons_zero]; rfl) (by kernel_rfl) (by kernel_rfl) (by kernel_rfl) (by exact fun _ _ _ h => h) (Or.inl ⟨by kernel_rfl, ?yt1626⟩) hHeld ?_
            case yt1626 => (intro ww hSw; (try dsimp only at hSw); clear hSw; go_simp; try (with_reducible rfl))
            try simp only [Act.put, List.setIfInBounds_toArray, List.set_cons_zero, List.set_cons_succ]
            refine wpAnyH_done (by kernel_rfl) ?_ _
            go_wp2_with fail
            go_ret
            exact ⟨rfl, hb⟩
          · skip
            rw [if_pos (by kernel_rfl)]
            go_simp
            obtain ⟨wa27, hwa27⟩ : ∃ wa27, wa27 = wd17.alloc (.cells #[.slice A2 p.length c2] 22) := ⟨_, rfl⟩
            have h9 : Below wd17.heap.size wd17 wa27 := by rw [hwa27]; exact below_alloc1 _ _
            have qy : Sl wa27 wd17.heap.size (some ⟨wd17.heap.size, 0, none⟩) [.slice A2 p.length c2] := by rw [hwa27]; exact Sl.cells_new _ _ _
            rw [← hwa27]
            clear hwa27
            replace hT := tab_keep hT h9
            replace hs3 := Sl.ext hs3 h9
            replace hs7 := Sl.ext hs7 h9
            replace hv7 := hv7.ext h9
            replace hb := hb.trans (h9.mono hb.size)
            clear h9
            refine hKK.out _ _ ?_ (fun hHeld => ?_)
            · exact hT.1
            clear hKK KK
            try simp only [Act.put, List.setIfInBounds_toArray, List.set_cons_zero, List.set_cons_succ]
            refine wpAnyH_ready (rs := [2]) (by kernel_rfl) (by simp) ?_
            refine AllReadyH.cons (by simp only [List.getElem?_toArray, List.getElem?_cons_succ, List.getElem?_cons_zero]; rfl) (fun KK hKK => ?_) AllReadyH.nil
            rw [if_pos (by kernel_rfl)]
            go_simp
            (with_reducible refine (TableSum_J A7 us L m c7 b7 _ s hs7 hv7 HLM.out HF1.out (by simp only [maxLen]; omega) (by have := HFL.out; omega)).mono ?_)
            rintro e wc29 ⟨rfl, g28⟩
            replace hT := tab_keep hT g28
            replace hs3 := Sl.ext hs3 g28
            replace hs7 := Sl.ext hs7 g28
            replace hv7 := hv7.ext g28
            replace qy := Sl.ext qy g28
            replace hb := hb.trans (g28.mono hb.size)
            clear g28
            go_wp2_with fail
            refine hKK.out _ _ ?_ (fun hHeld => ?_)
            · exact hT.1
            clear hKK KK
            try simp only [Act.put, List.setIfInBounds_toArray, List.set_cons_zero, List.set_cons_succ]
            refine wpAnyH_ready (rs := [6]) (by kernel_rfl) (by simp) ?_
            refine AllReadyH.cons (by simp only [List.getElem?_toArray, List.getElem?_cons_succ, List.getElem?_cons_zero]; rfl) (fun KK hKK => ?_) AllReadyH.nil
            rw [if_pos (by kernel_rfl)]
            go_simp
            (with_reducible refine (TableSum_J (some ⟨wd17.heap.size, 0, none⟩) [.slice A2 p.length c2] [p] 1 1 wd17.heap.size _ s qy (Bss.cons hs3 rfl (Bss.nil_ _)) rfl HF2.out (by simp [maxLen]) (by simp; omega)).mono ?_)
            rintro e wc31 ⟨rfl, g30⟩
            replace hT := tab_keep hT g30
            replace hs3 := Sl.ext hs3 g30
            replace hs7 := Sl.ext hs7 g30
            replace hv7 := hv7.ext g30
            replace qy := Sl.ext qy g30
            replace hb := hb.trans (g30.mono hb.size)
            clear g30
            go_wp2_with fail
            refine hKK.out _ _ ?_ (fun hHeld => ?_)
            · exact hT.1
            clear hKK KK
            try simp only [Act.put, List.setIfInBounds_toArray, List.set_cons_zero, List.set_cons_succ]
            refine wpAnyH_take (i := 7) (v := ?vt1632) (by simp only [List.getElem?_toArray, List.getElem?_cons_succ, List.getElem?_cons_zero]; rfl) (by kernel_rfl) (by kernel_rfl) (by kernel_rfl) (by exact fun _ _ _ h => h) (Or.inl ⟨by kernel_rfl, ?yt1632⟩) hHeld ?_
            case yt1632 => (intro ww hSw; (try dsimp only at hSw); clear hSw; go_simp; try (with_reducible rfl))
            try simp only [Act.put, List.setIfInBounds_toArray, List.set_cons_zero, List.set_cons_succ]
            refine wpAnyH_take (i := 8) (v := ?vt1633) (by simp only [List.getElem?_toArray, List.getElem?_cons_succ, List.getElem?_cons_zero]; rfl) (by kernel_rfl) (by kernel_rfl) (by kernel_rfl) (by exact fun _ _ _ h => h) (Or.inl ⟨by kernel_rfl, ?yt1633⟩) hHeld ?_
            case yt1633 => (intro ww hSw; (try dsimp only at hSw); clear hSw; go_simp; try (with_reducible rfl))
            try simp only [Act.put, List.setIfInBounds_toArray, List.set_cons_zero, List.set_cons_succ]
            refine wpAnyH_done (by kernel_rfl) ?_ _
            go_wp2_with fail
            go_ret
            exact ⟨rfl, hb⟩
        | false =>
          go_wp2_with fail
          have hl0 : p.length ≠ 0 := by have := HZ.out; simpa using this
          have h9 := below_alloc1 wc9 (.cells #[.slice A2 p.length c2] 22)
          refine (Join_calls _ [.slice A2 p.length c2] [p] 1 1 wc9.heap.size _ (Sl.cells_new wc9 _ _) ((Bss.cons hs3 rfl (Bss.nil_ _)).ext h9) rfl (by simp [maxLen]) (by simp; omega)).mono ?_
          rintro e w8 ⟨v8, rfl, hrow8, h8⟩
          have h10 := h9.trans (h8.mono h9.size)
          have hwl : wc9.heap.size ≤ (wc9.alloc (.cells #[.slice A2 p.length c2] 22)).heap.size := by simp
          replace hrow8 := (hrow8.low hwl).cast (show [p].flatten = p by simp)
          have hlt3 : p ≠ [] → b2 < wc9.heap.size := Bs.lt hs3
          have hTl := hT.2
          have hbs9 := hb.size
          replace hT := tab_keep hT h10
          replace hs3 := Sl.ext hs3 h10
          replace hb := hb.trans (h10.mono hb.size)
          skip
          obtain ⟨I, hI⟩ : ∃ I, I = k % p.length := ⟨_, rfl⟩
          have hIl : I < p.length := by rw [hI]; exact Nat.mod_lt _ (by omega)
          have hIt : (k : Int).tmod (p.length : Int) = (I : Int) := by rw [hI, Int.tmod_eq_emod_of_nonneg (Int.natCast_nonneg _)]; simp
          have hIt2 : (k : Int) % (p.length : Int) = (I : Int) := by rw [hI]; simp
          obtain ⟨g, cap, hv, hBg, hgl, hc, hf, hset⟩ := Row.set_ hrow8 (k := I) hIl
          subst hv
          obtain ⟨x, hx⟩ : ∃ x, x = p[I] := ⟨_, rfl⟩
          rw [← hx] at hc
          have HX := Lib.hid hx
          have HSet := Lib.hid hset
          have x8 := x.toNat_lt
          have hxo : bits .xor .u8 (x.toNat : Int) (t : Int) = ((x.toNat ^^^ t : Nat) : Int) := u8_xor_nat x.toNat t (by omega) (by omega)
          have HI := Lib.hid hI
          clear hx hset hrow8 hI h8 h9 h10
          go_wp2_with fail
          obtain ⟨u, hu8⟩ : ∃ u : UInt8, u.toNat = t := ⟨UInt8.ofNat t, by simp; omega⟩
          obtain ⟨W, hW⟩ : ∃ W, W = w8.setCell ⟨g, I, none⟩ (.int .u8 ((x.toNat ^^^ t : Nat) : Int)) := ⟨_, rfl⟩
          have hrow9 : Row W wc9.heap.size (.slice (some ⟨g, 0, none⟩) p.length cap) (turnAt p I u) := by
            refine (HSet.out (x ^^^ u) (x.toNat ^^^ t) W (by rw [UInt8.toNat_xor, hu8]) (by rw [hW])).cast ?_
            unfold turnAt
            rw [HX.out, List.getD_eq_getElem?_getD, List.getElem?_eq_getElem hIl]
            rfl
          have hsm := Mod.setCell w8 ⟨g, I, none⟩ (.int .u8 ((x.toNat ^^^ t : Nat) : Int))
          rw [← hW] at hsm
          replace hT : W.rangeAt G 0 tabL ∧ G < W.heap.size := ⟨fun j v hv => (World.cell?_of_block (hsm.block G hT.2 (fun e => by have e : G = g := e; omega))).trans (hT.1 j v hv), Nat.lt_of_lt_of_le hT.2 hsm.size⟩
          replace hs3 : Bs W b2 A2 p := Bs.modne hs3 hsm (fun hne e => by have e : b2 = g := e; have := hlt3 hne; omega)
          replace hb : Below w.heap.size w W := by rw [hW]; exact hb.setCell (by show w.heap.size ≤ g; omega) _
          obtain ⟨hl9, hnc9, hs9⟩ := Row.bs_ hrow9
          have hoB := sum_turnAt (p := p) (i := I) (t := u) hIl
          have hu0 : (u = 0) ↔ t = 0 := by rw [← UInt8.toNat_inj, hu8]; simp
          obtain ⟨q, hq⟩ : ∃ q, q = turnAt p I u := ⟨_, rfl⟩
          rw [← hq] at hl9 hs9 hoB
          obtain ⟨s2, hs2⟩ : ∃ s2, s2 = sumN q := ⟨_, rfl⟩
          rw [← hs2, ← HSN.out] at hoB
          have HF3 : Hid (sumN [q].flatten = s2) := Lib.hid (by rw [hs2]; simp)
          have hfin : ((s : Int) == (s2 : Int)) = ((t : Int) == 0) := by
            rw [Bool.eq_iff_iff]
            simp only [beq_iff_eq]
            have h1 := hoB.trans hu0
            omega
          skip
          rw [← hW]
          skip
          clear HX HSet hW hc hf hxo hrow9 hq hs2 hsm hlt3 hoB hu0 hu8
          refine wp_region_held_drew (S := fun w' => w'.rangeAt G 0 tabL) (by kernel_rfl) ?_ (fun hHeld => ?_)
          · exact hT.1
          obtain ⟨wd35, hwd35⟩ : ∃ wd35, wd35 = World.drew W := ⟨_, rfl⟩
          have h9 : Below W.heap.size W wd35 := by rw [hwd35]; exact below_drew (Below.refl _ _)
          rw [← hwd35] at hHeld ⊢
          replace hT := tab_keep hT h9
          replace hs3 := Sl.ext hs3 h9
          replace hs9 := Sl.ext hs9 h9
          replace hb := hb.trans (h9.mono hb.size)
          clear h9
          clear hwd35
          refine wpAnyH_take (i := 0) (by simp only [List.getElem?_toArray, List.getElem?_cons_zero]; rfl) (by kernel_rfl) (by kernel_rfl) (by kernel_rfl) (by exact fun _ _ _ h => h) (by exact yieldsIf_load_mid (by kernel_rfl) _ _ rfl _ _ rfl tabL _ (fun w h => h) hu rfl hi) hHeld ?_
          try simp only [Act.put, List.setIfInBounds_toArray, List.set_cons_zero, List.set_cons_succ]
          refine wpAnyH_take (i := 1) (v := ?vt3436) (by simp only [List.getElem?_toArray, List.getElem?_cons_succ, List.getElem?_cons_zero]; rfl) (by kernel_rfl) (by kernel_rfl) (by kernel_rfl) (by exact fun _ _ _ h => h) (Or.inl ⟨by kernel_rfl, ?yt3436⟩) hHeld ?_
          case yt3436 => (intro ww hSw; (try dsimp only at hSw); clear hSw; go_simp; try (with_reducible rfl))
          try simp only [Act.put, List.setIfInBounds_toArray, List.set_cons_zero, List.set_cons_succ]
          refine wpAnyH_take (i := 4) (by simp only [List.getElem?_toArray, List.getElem?_cons_succ, List.getElem?_cons_zero]; rfl) (by kernel_rfl) (by kernel_rfl) (by kernel_rfl) (by exact fun _ _ _ h => h) (by exact yieldsIf_load_mid (by kernel_rfl) _ _ rfl _ _ rfl tabL _ (fun w h => h) hu rfl hi) hHeld ?_
          try simp only [Act.put, List.setIfInBounds_toArray, List.set_cons_zero, List.set_cons_succ]
          refine wpAnyH_take (i := 5) (v := ?vt3437) (by simp only [List.getElem?_toArray, List.getElem?_cons_succ, List.getElem?_cons_zero]; rfl) (by kernel_rfl) (by kernel_rfl) (by kernel_rfl) (by exact fun _ _ _ h => h) (Or.inl ⟨by kernel_rfl, ?yt3437⟩) hHeld ?_
          case yt3437 => (intro ww hSw; (try dsimp only at hSw); clear hSw; go_simp; try (with_reducible rfl))
          try simp only [Act.put, List.setIfInBounds_toArray, List.set_cons_zero, List.set_cons_succ]
          refine wpAnyH_take (i := 9) (v := ?vt3438) (by simp only [List.getElem?_toArray, List.getElem?_cons_succ, List.getElem?_cons_zero]; rfl) (by kernel_rfl) (by kernel_rfl) (by kernel_rfl) (by exact fun _ _ _ h => h) (Or.inl ⟨by kernel_rfl, ?yt3438⟩) hHeld ?_
          case yt3438 => (intro ww hSw; (try dsimp only at hSw); clear hSw; go_simp; try (with_reducible rfl))
          try simp only [Act.put, List.setIfInBounds_toArray, List.set_cons_zero, List.set_cons_succ]
          refine wpAnyH_take (i := 10) (v := ?vt3439) (by simp only [List.getElem?_toArray, List.getElem?_cons_succ, List.getElem?_cons_zero]; rfl) (by kernel_rfl) (by kernel_rfl) (by kernel_rfl) (by exact fun _ _ _ h => h) (Or.inl ⟨by kernel_rfl, ?yt3439⟩) hHeld ?_
          case yt3439 => (intro ww hSw; (try dsimp only at hSw); clear hSw; go_simp; try (with_reducible rfl))
          try simp only [Act.put, List.setIfInBounds_toArray, List.set_cons_zero, List.set_cons_succ]
          refine wpAnyH_ready (rs := [2, 6]) (by kernel_rfl) (by simp) ?_
          refine AllReadyH.cons (by simp only [List.getElem?_toArray, List.getElem?_cons_succ, List.getElem?_cons_zero]; rfl) (fun KK hKK => ?_) (AllReadyH.cons (by simp only [List.getElem?_toArray, List.getElem?_cons_succ, List.getElem?_cons_zero]; rfl) (fun KK hKK => ?_) AllReadyH.nil)
          · skip
            rw [if_pos (by kernel_rfl)]
            go_simp
            obtain ⟨wa40, hwa40⟩ : ∃ wa40, wa40 = wd35.alloc (.cells #[.slice A2 p.length c2] 22) := ⟨_, rfl⟩
            have h9 : Below wd35.heap.size wd35 wa40 := by rw [hwa40]; exact below_alloc1 _ _
            have qx1 : Sl wa40 wd35.heap.size (some ⟨wd35.heap.size, 0, none⟩) [.slice A2 p.length c2] := by rw [hwa40]; exact Sl.cells_new _ _ _
            rw [← hwa40]
            clear hwa40
            replace hT := tab_keep hT h9
            replace hs3 := Sl.ext hs3 h9
            replace hs9 := Sl.ext hs9 h9
            replace hb := hb.trans (h9.mono hb.size)
            clear h9
            refine hKK.out _ _ ?_ (fun hHeld => ?_)
            · exact hT.1
            clear hKK KK
            try simp only [Act.put, List.setIfInBounds_toArray, List.set_cons_zero, List.set_cons_succ]
            refine wpAnyH_ready (rs := [3, 6]) (by kernel_rfl) (by simp) ?_
            refine AllReadyH.cons (by simp only [List.getElem?_toArray, List.getElem?_cons_succ, List.getElem?_cons_zero]; rfl) (fun KK hKK => ?_) (AllReadyH.cons (by simp only [List.getElem?_toArray, List.getElem?_cons_succ, List.getElem?_cons_zero]; rfl) (fun KK hKK => ?_) AllReadyH.nil)
            · skip
              rw [if_pos (by kernel_rfl)]
              go_simp
              (with_reducible refine (TableSum_J (some ⟨wd35.heap.size, 0, none⟩) [.slice A2 p.length c2] [p] 1 1 wd35.heap.size _ s qx1 (Bss.cons hs3 rfl (Bss.nil_ _)) rfl HF2.out (by simp [maxLen]) (by simp; omega)).mono ?_)
              rintro e wc42 ⟨rfl, g41⟩
              replace hT := tab_keep hT g41
              replace hs3 := Sl.ext hs3 g41
              replace hs9 := Sl.ext hs9 g41
              replace qx1 := Sl.ext qx1 g41
              replace hb := hb.trans (g41.mono hb.size)
              clear g41
              go_wp2_with fail
              refine hKK.out _ _ ?_ (fun hHeld => ?_)
              · exact hT.1
              clear hKK KK
              try simp only [Act.put, List.setIfInBounds_toArray, List.set_cons_zero, List.set_cons_succ]
              refine wpAnyH_ready (rs := [6]) (by kernel_rfl) (by simp) ?_
              refine AllReadyH.cons (by simp only [List.getElem?_toArray, List.getElem?_cons_succ, List.getElem?_cons_zero]; rfl) (fun KK hKK => ?_) AllReadyH.nil
              rw [if_pos (by kernel_rfl)]
              go_simp
              obtain ⟨wa43, hwa43⟩ : ∃ wa43, wa43 = wc42.alloc (.cells #[.slice (some ⟨g, 0, none⟩) p.length cap] 22) := ⟨_, rfl⟩
              have h9 : Below wc42.heap.size wc42 wa43 := by rw [hwa43]; exact below_alloc1 _ _
              have qx2 : Sl wa43 wc42.heap.size (some ⟨wc42.heap.size, 0, none⟩) [.slice (some ⟨g, 0, none⟩) p.length cap] := by rw [hwa43]; exact Sl.cells_new _ _ _
              rw [← hwa43]
              clear hwa43
              replace hT := tab_keep hT h9
              replace hs3 := Sl.ext hs3 h9
              replace hs9 := Sl.ext hs9 h9
              replace qx1 := Sl.ext qx1 h9
              replace hb := hb.trans (h9.mono hb.size)
              clear h9
              refine hKK.out _ _ ?_ (fun hHeld => ?_)
              · exact hT.1
              clear hKK KK
              try simp only [Act.put, List.setIfInBounds_toArray, List.set_cons_zero, List.set_cons_succ]
              refine wpAnyH_ready (rs := [7]) (by kernel_rfl) (by simp) ?_
              refine AllReadyH.cons (by simp only [List.getElem?_toArray, List.getElem?_cons_succ, List.getElem?_cons_zero]; rfl) (fun KK hKK => ?_) AllReadyH.nil
              rw [if_pos (by kernel_rfl)]
              go_simp
              (with_reducible refine (TableSum_J (some ⟨wc42.heap.size, 0, none⟩) [.slice (some ⟨g, 0, none⟩) p.length cap] [q] 1 1 wc42.heap.size _ s2 qx2 (Bss.cons hs9 hl9 (Bss.nil_ _)) rfl HF3.out (by simp [maxLen]) (by simp; omega)).mono ?_)
              rintro e wc45 ⟨rfl, g44⟩
              replace hT := tab_keep hT g44
              replace hs3 := Sl.ext hs3 g44
              replace hs9 := Sl.ext hs9 g44
              replace qx1 := Sl.ext qx1 g44
              replace qx2 := Sl.ext qx2 g44
              replace hb := hb.trans (g44.mono hb.size)
              clear g44
              go_wp2_with fail
              refine hKK.out _ _ ?_ (fun hHeld => ?_)
              · exact hT.1
              clear hKK KK
              try simp only [Act.put, List.setIfInBounds_toArray, List.set_cons_zero, List.set_cons_succ]
              refine wpAnyH_take (i := 8) (v := ?vt3446) (by simp only [List.getElem?_toArray, List.getElem?_cons_succ, List.getElem?_cons_zero]; rfl) (by kernel_rfl) (by kernel_rfl) (by kernel_rfl) (by exact fun _ _ _ h => h) (Or.inl ⟨by kernel_rfl, ?yt3446⟩) hHeld ?_
              case yt3446 => (intro ww hSw; (try dsimp only at hSw); clear hSw; go_simp; try (with_reducible rfl))
              try simp only [Act.put, List.setIfInBounds_toArray, List.set_cons_zero, List.set_cons_succ]
              refine wpAnyH_take (i := 11) (v := ?vt3447) (by simp only [List.getElem?_toArray, List.getElem?_cons_succ, List.getElem?_cons_zero]; rfl) (by kernel_rfl) (by kernel_rfl) (by kernel_rfl) (by exact fun _ _ _ h => h) (Or.inl ⟨by kernel_rfl, ?yt3447⟩) hHeld ?_
              case yt3447 => (intro ww hSw; (try dsimp only at hSw); clear hSw; go_simp; try (with_reducible rfl))
              try simp only [Act.put, List.setIfInBounds_toArray, List.set_cons_zero, List.set_cons_succ]
              refine wpAnyH_take (i := 12) (v := ?vt3448) (by simp only [List.getElem?_toArray, List.getElem?_cons_succ, List.getElem?_cons_zero]; rfl) (by kernel_rfl) (by kernel_rfl) (by kernel_rfl) (by exact fun _ _ _ h => h) (Or.inl ⟨by kernel_rfl, ?yt3448⟩) hHeld ?_
              case yt3448 => (intro ww hSw; (try dsimp only at hSw); clear hSw; go_simp; try (with_reducible rfl))
              try simp only [Act.put, List.setIfInBounds_toArray, List.set_cons_zero, List.set_cons_succ]
              refine wpAnyH_done (by kernel_rfl) ?_ _
              go_wp2_with fail
              go_ret
              exact ⟨by simp, hb⟩
            · skip
              rw [if_pos (by kernel_rfl)]
              go_simp
              obtain ⟨wa49, hwa49⟩ : ∃ wa49, wa49 = wa40.alloc (.cells #[.slice (some ⟨g, 0, none⟩) p.length cap] 22) := ⟨_, rfl⟩
              have h9 : Below wa40.heap.size wa40 wa49 := by rw [hwa49]; exact below_alloc1 _ _
              have qx2 : Sl wa49 wa40.heap.size (some ⟨wa40.heap.size, 0, none⟩) [.slice (some ⟨g, 0, none⟩) p.length cap] := by rw [hwa49]; exact Sl.cells_new _ _ _
              rw [← hwa49]
              clear hwa49
              replace hT := tab_keep hT h9
              replace hs3 := Sl.ext hs3 h9
              replace hs9 := Sl.ext hs9 h9
              replace qx1 := Sl.ext qx1 h9
              replace hb := hb.trans (h9.mono hb.size)
              clear h9
              refine hKK.out _ _ ?_ (fun hHeld => ?_)
              · exact hT.1
              clear hKK KK
              try simp only [Act.put, List.setIfInBounds_toArray, List.set_cons_zero, List.set_cons_succ]
              refine wpAnyH_ready (rs := [3]) (by kernel_rfl) (by simp) ?_
              refine AllReadyH.cons (by simp only [List.getElem?_toArray, List.getElem?_cons_succ, List.getElem?_cons_zero]; rfl) (fun KK hKK => ?_) AllReadyH.nil
              rw [if_pos (by kernel_rfl)]
              go_simp
              (with_reducible refine (TableSum_J (some ⟨wd35.heap.size, 0, none⟩) [.slice A2 p.length c2] [p] 1 1 wd35.heap.size _ s qx1 (Bss.cons hs3 rfl (Bss.nil_ _)) rfl HF2.out (by simp [maxLen]) (by simp; omega)).mono ?_)
              rintro e wc51 ⟨rfl, g50⟩
              replace hT := tab_keep hT g50
              replace hs3 := Sl.ext hs3 g50
              replace hs9 := Sl.ext hs9 g50
              replace qx1 := Sl.ext qx1 g50
              replace qx2 := Sl.ext qx2 g50
              replace hb := hb.trans (g50.mono hb.size)
              clear g50
              go_wp2_with fail
              refine hKK.out _ _ ?_ (fun hHeld => ?_)
              · exact hT.1
              clear hKK KK
              try simp only [Act.put, List.setIfInBounds_toArray, List.set_cons_zero, List.set_cons_succ]
              refine wpAnyH_ready (rs := [7]) (by kernel_rfl) (by simp) ?_
              refine AllReadyH.cons (by simp only [List.getElem?_toArray, List.getElem?_cons_succ, List.getElem?_cons_zero]; rfl) (fun KK hKK => ?_) AllReadyH.nil
              rw [if_pos (by kernel_rfl)]
              go_simp
              (with_reducible refine (TableSum_J (some ⟨wa40.heap.size, 0, none⟩) [.slice (some ⟨g, 0, none⟩) p.length cap] [q] 1 1 wa40.heap.size _ s2 qx2 (Bss.cons hs9 hl9 (Bss.nil_ _)) rfl HF3.out (by simp [maxLen]) (by simp; omega)).mono ?_)
              rintro e wc53 ⟨rfl, g52⟩
              replace hT := tab_keep hT g52
              replace hs3 := Sl.ext hs3 g52
              replace hs9 := Sl.ext hs9 g52
              replace qx1 := Sl.ext qx1 g52
              replace qx2 := Sl.ext qx2 g52
              replace hb := hb.trans (g52.mono hb.size)
              clear g52
              go_wp2_with fail
              refine hKK.out _ _ ?_ (fun hHeld => ?_)
              · exact hT.1
              clear hKK KK
              try simp only [Act.put, List.setIfInBounds_toArray, List.set_cons_zero, List.set_cons_succ]
              refine wpAnyH_take (i := 8) (v := ?vt3454) (by simp only [List.getElem?_toArray, List.getElem?_cons_succ, List.getElem?_cons_zero]; rfl) (by kernel_rfl) (by kernel_rfl) (by kernel_rfl) (by exact fun _ _ _ h => h) (Or.inl ⟨by kernel_rfl, ?yt3454⟩) hHeld ?_
              case yt3454 => (intro ww hSw; (try dsimp only at hSw); clear hSw; go_simp; try (with_reducible rfl))
              try simp only [Act.put, List.setIfInBounds_toArray, List.set_cons_zero, List.set_cons_succ]
              refine wpAnyH_take (i := 11) (v := ?vt3455) (by simp only [List.getElem?_toArray, List.getElem?_cons_succ, List.getElem?_cons_zero]; rfl) (by kernel_rfl) (by kernel_rfl) (by kernel_rfl) (by exact fun _ _ _ h => h) (Or.inl ⟨by kernel_rfl, ?yt3455⟩) hHeld ?_
              case yt3455 => (intro ww hSw; (try dsimp only at hSw); clear hSw; go_simp; try (with_reducible rfl))
              try simp only [Act.put, List.setIfInBounds_toArray, List.set_cons_zero, List.set_cons_succ]
              refine wpAnyH_take (i := 12) (v := ?vt3456) (by simp only [List.getElem?_toArray, List.getElem?_cons_succ, List.getElem?_cons_zero]; rfl) (by kernel_rfl) (by kernel_rfl) (by kernel_rfl) (by exact fun _ _ _ h => h) (Or.inl ⟨by kernel_rfl, ?yt3456⟩) hHeld ?_
              case yt3456 => (intro ww hSw; (try dsimp only at hSw); clear hSw; go_simp; try (with_reducible rfl))
              try simp only [Act.put, List.setIfInBounds_toArray, List.set_cons_zero, List.set_cons_succ]
              refine wpAnyH_done (by kernel_rfl) ?_ _
              go_wp2_with fail
              go_ret
              exact ⟨by simp, hb⟩
          · skip
            rw [if_pos (by kernel_rfl)]
            go_simp
            obtain ⟨wa57, hwa57⟩ : ∃ wa57, wa57 = wd35.alloc (.cells #[.slice (some ⟨g, 0, none⟩) p.length cap] 22) := ⟨_, rfl⟩
            have h9 : Below wd35.heap.size wd35 wa57 := by rw [hwa57]; exact below_alloc1 _ _
            have qx2 : Sl wa57 wd35.heap.size (some ⟨wd35.heap.size, 0, none⟩) [.slice (some ⟨g, 0, none⟩) p.length cap] := by rw [hwa57]; exact Sl.cells_new _ _ _
            rw [← hwa57]
            clear hwa57
            replace hT := tab_keep hT h9
            replace hs3 := Sl.ext hs3 h9
            replace hs9 := Sl.ext hs9 h9
            replace hb := hb.trans (h9.mono hb.size)
            clear h9
            refine hKK.out _ _ ?_ (fun hHeld => ?_)
            · exact hT.1
            clear hKK KK
            try simp only [Act.put, List.setIfInBounds_toArray, List.set_cons_zero, List.set_cons_succ]
            refine wpAnyH_ready (rs := [2]) (by kernel_rfl) (by simp) ?_
            refine AllReadyH.cons (by simp only [List.getElem?_toArray, List.getElem?_cons_succ, List.getElem?_cons_zero]; rfl) (fun KK hKK => ?_) AllReadyH.nil
            rw [if_pos (by kernel_rfl)]
            go_simp
            obtain ⟨wa58, hwa58⟩ : ∃ wa58, wa58 = wa57.alloc (.cells #[.slice A2 p.length c2] 22) := ⟨_, rfl⟩
            have h9 : Below wa57.heap.size wa57 wa58 := by rw [hwa58]; exact below_alloc1 _ _
            have qx1 : Sl wa58 wa57.heap.size (some ⟨wa57.heap.size, 0, none⟩) [.slice A2 p.length c2] := by rw [hwa58]; exact Sl.cells_new _ _ _
            rw [← hwa58]
            clear hwa58
            replace hT := tab_keep hT h9
            replace hs3 := Sl.ext hs3 h9
            replace hs9 := Sl.ext hs9 h9
            replace qx2 := Sl.ext qx2 h9
            replace hb := hb.trans (h9.mono hb.size)
            clear h9
            refine hKK.out _ _ ?_ (fun hHeld => ?_)
            · exact hT.1
            clear hKK KK
            try simp only [Act.put, List.setIfInBounds_toArray, List.set_cons_zero, List.set_cons_succ]
            refine wpAnyH_ready (rs := [3]) (by kernel_rfl) (by simp) ?_
            refine AllReadyH.cons (by simp only [List.getElem?_toArray, List.getElem?_cons_succ, List.getElem?_cons_zero]; rfl) (fun KK hKK => ?_) AllReadyH.nil
            rw [if_pos (by kernel_rfl)]
            go_simp
            (with_reducible refine (TableSum_J (some ⟨wa57.heap.size, 0, none⟩) [.slice A2 p.length c2] [p] 1 1 wa57.heap.size _ s qx1 (Bss.cons hs3 rfl (Bss.nil_ _)) rfl HF2.out (by simp [maxLen]) (by simp; omega)).mono ?_)
            rintro e wc60 ⟨rfl, g59⟩
            replace hT := tab_keep hT g59
            replace hs3 := Sl.ext hs3 g59
            replace hs9 := Sl.ext hs9 g59
            replace qx2 := Sl.ext qx2 g59
            replace qx1 := Sl.ext qx1 g59
            replace hb := hb.trans (g59.mono hb.size)
            clear g59
            go_wp2_with fail
            refine hKK.out _ _ ?_ (fun hHeld => ?_)
            · exact hT.1
            clear hKK KK
            try simp only [Act.put, List.setIfInBounds_toArray, List.set_cons_zero, List.set_cons_succ]
            refine wpAnyH_ready (rs := [7]) (by kernel_rfl) (by simp) ?_
            refine AllReadyH.cons (by simp only [List.getElem?_toArray, List.getElem?_cons_succ, List.getElem?_cons_zero]; rfl) (fun KK hKK => ?_) AllReadyH.nil
            rw [if_pos (by kernel_rfl)]
            go_simp
            (with_reducible refine (TableSum_J (some ⟨wd35.heap.size, 0, none⟩) [.slice (some ⟨g, 0, none⟩) p.length cap] [q] 1 1 wd35.heap.size _ s2 qx2 (Bss.cons hs9 hl9 (Bss.nil_ _)) rfl HF3.out (by simp [maxLen]) (by simp; omega)).mono ?_)
            rintro e wc62 ⟨rfl, g61⟩
            replace hT := tab_keep hT g61
            replace hs3 := Sl.ext hs3 g61
            replace hs9 := Sl.ext hs9 g61
            replace qx2 := Sl.ext qx2 g61
            replace qx1 := Sl.ext qx1 g61
            replace hb := hb.trans (g61.mono hb.size)
            clear g61
            go_wp2_with fail
            refine hKK.out _ _ ?_ (fun hHeld => ?_)
            · exact hT.1
            clear hKK KK
            try simp only [Act.put, List.setIfInBounds_toArray, List.set_cons_zero, List.set_cons_succ]
            refine wpAnyH_take (i := 8) (v := ?vt3463) (by simp only [List.getElem?_toArray, List.getElem?_cons_succ, List.getElem?_cons_zero]; rfl) (by kernel_rfl) (by kernel_rfl) (by kernel_rfl) (by exact fun _ _ _ h => h) (Or.inl ⟨by kernel_rfl, ?yt3463⟩) hHeld ?_
            case yt3463 => (intro ww hSw; (try dsimp only at hSw); clear hSw; go_simp; try (with_reducible rfl))
            try simp only [Act.put, List.setIfInBounds_toArray, List.set_cons_zero, List.set_cons_succ]
            refine wpAnyH_take (i := 11) (v := ?vt3464) (by simp only [List.getElem?_toArray, List.getElem?_cons_succ, List.getElem?_cons_zero]; rfl) (by kernel_rfl) (by kernel_rfl) (by kernel_rfl) (by exact fun _ _ _ h => h) (Or.inl ⟨by kernel_rfl, ?yt3464⟩) hHeld ?_
            case yt3464 => (intro ww hSw; (try dsimp only at hSw); clear hSw; go_simp; try (with_reducible rfl))
            try simp only [Act.put, List.setIfInBounds_toArray, List.set_cons_zero, List.set_cons_succ]
            refine wpAnyH_take (i := 12) (v := ?vt3465) (by simp only [List.getElem?_toArray, List.getElem?_cons_succ, List.getElem?_cons_zero]; rfl) (by kernel_rfl) (by kernel_rfl) (by kernel_rfl) (by exact fun _ _ _ h => h) (Or.inl ⟨by kernel_rfl, ?yt3465⟩) hHeld ?_
            case yt3465 => (intro ww hSw; (try dsimp only at hSw); clear hSw; go_simp; try (with_reducible rfl))
            try simp only [Act.put, List.setIfInBounds_toArray, List.set_cons_zero, List.set_cons_succ]
            refine wpAnyH_done (by kernel_rfl) ?_ _
            go_wp2_with fail
            go_ret
            exact ⟨by simp, hb⟩
      · skip
        rw [if_pos (by kernel_rfl)]
        go_simp
        obtain ⟨wa66, hwa66⟩ : ∃ wa66, wa66 = wd2.alloc (.cells #[.slice A2 p.length c2] 22) := ⟨_, rfl⟩
        have h9 : Below wd2.heap.size wd2 wa66 := by rw [hwa66]; exact below_alloc1 _ _
        have qx : Sl wa66 wd2.heap.size (some ⟨wd2.heap.size, 0, none⟩) [.slice A2 p.length c2] := by rw [hwa66]; exact Sl.cells_new _ _ _
        rw [← hwa66]
        clear hwa66
        replace hT := tab_keep hT h9
        replace hs3 := Sl.ext hs3 h9
        replace hs7 := Sl.ext hs7 h9
        replace hv7 := hv7.ext h9
        replace hb := hb.trans (h9.mono hb.size)
        clear h9
        refine hKK.out _ _ ?_ (fun hHeld => ?_)
        · exact hT.1
        clear hKK KK
        try simp only [Act.put, List.setIfInBounds_toArray, List.set_cons_zero, List.set_cons_succ]
        refine wpAnyH_ready (rs := [2]) (by kernel_rfl) (by simp) ?_
        refine AllReadyH.cons (by simp only [List.getElem?_toArray, List.getElem?_cons_succ, List.getElem?_cons_zero]; rfl) (fun KK hKK => ?_) AllReadyH.nil
        rw [if_pos (by kernel_rfl)]
        go_simp
        (with_reducible refine (TableSum_J A7 us L m c7 b7 _ s hs7 hv7 HLM.out HF1.out (by simp only [maxLen]; omega) (by have := HFL.out; omega)).mono ?_)
        rintro e wc68 ⟨rfl, g67⟩
        replace hT := tab_keep hT g67
        replace hs3 := Sl.ext hs3 g67
        replace hs7 := Sl.ext hs7 g67
        replace hv7 := hv7.ext g67
        replace qx := Sl.ext qx g67
        replace hb := hb.trans (g67.mono hb.size)
        clear g67
        go_wp2_with fail
        refine hKK.out _ _ ?_ (fun hHeld => ?_)
        · exact hT.1
        clear hKK KK
        try simp only [Act.put, List.setIfInBounds_toArray, List.set_cons_zero, List.set_cons_succ]
        refine wpAnyH_ready (rs := [6]) (by kernel_rfl) (by simp) ?_
        refine AllReadyH.cons (by simp only [List.getElem?_toArray, List.getElem?_cons_succ, List.getElem?_cons_zero]; rfl) (fun KK hKK => ?_) AllReadyH.nil
        rw [if_pos (by kernel_rfl)]
        go_simp
        (with_reducible refine (TableSum_J (some ⟨wd2.heap.size, 0, none⟩) [.slice A2 p.length c2] [p] 1 1 wd2.heap.size _ s qx (Bss.cons hs3 rfl (Bss.nil_ _)) rfl HF2.out (by simp [maxLen]) (by simp; omega)).mono ?_)
        rintro e wc70 ⟨rfl, g69⟩
        replace hT := tab_keep hT g69
        replace hs3 := Sl.ext hs3 g69
        replace hs7 := Sl.ext hs7 g69
        replace hv7 := hv7.ext g69
        replace qx := Sl.ext qx g69
        replace hb := hb.trans (g69.mono hb.size)
        clear g69
        go_wp2_with fail
        refine hKK.out _ _ ?_ (fun hHeld => ?_)
        · exact hT.1
        clear hKK KK
        try simp only [Act.put, List.setIfInBounds_toArray, List.set_cons_zero, List.set_cons_succ]
        refine wpAnyH_take (i := 7) (v := ?vt171) (by simp only [List.getElem?_toArray, List.getElem?_cons_succ, List.getElem?_cons_zero]; rfl) (by kernel_rfl) (by kernel_rfl) (by kernel_rfl) (by exact fun _ _ _ h => h) (Or.inl ⟨by kernel_rfl, ?yt171⟩) hHeld ?_
        case yt171 => (intro ww hSw; (try dsimp only at hSw); clear hSw; go_simp; try (with_reducible rfl))
        try simp only [Act.put, List.setIfInBounds_toArray, List.set_cons_zero, List.set_cons_succ]
        refine wpAnyH_take (i := 8) (v := ?vt172) (by simp only [List.getElem?_toArray, List.getElem?_cons_succ, List.getElem?_cons_zero]; rfl) (by kernel_rfl) (by kernel_rfl) (by kernel_rfl) (by exact fun _ _ _ h => h) (Or.inl ⟨by kernel_rfl, ?yt172⟩) hHeld ?_
        case yt172 => (intro ww hSw; (try dsimp only at hSw); clear hSw; go_simp; try (with_reducible rfl))
        try simp only [Act.put, List.setIfInBounds_toArray, List.set_cons_zero, List.set_cons_succ]
        refine wpAnyH_take (i := 9) (v := ?vt173) (by simp only [List.getElem?_toArray, List.getElem?_cons_succ, List.getElem?_cons_zero]; rfl) (by kernel_rfl) (by kernel_rfl) (by kernel_rfl) (by exact fun _ _ _ h => h) (Or.inl ⟨by kernel_rfl, ?yt173⟩) hHeld ?_
        case yt173 => (intro ww hSw; (try dsimp only at hSw); clear hSw; go_simp; try (with_reducible rfl))
        try simp only [Act.put, List.setIfInBounds_toArray, List.set_cons_zero, List.set_cons_succ]
        refine wpAnyH_take (i := 10) (v := ?vt174) (by simp only [List.getElem?_toArray, List.getElem?_cons_succ, List.getElem?_cons_zero]; rfl) (by kernel_rfl) (by kernel_rfl) (by kernel_rfl) (by exact fun _ _ _ h => h) (Or.inl ⟨by kernel_rfl, ?yt174⟩) hHeld ?_
        case yt174 => (intro ww hSw; (try dsimp only at hSw); clear hSw; go_simp; try (with_reducible rfl))
        try simp only [Act.put, List.setIfInBounds_toArray, List.set_cons_zero, List.set_cons_succ]
        refine wpAnyH_take (i := 11) (v := ?vt175) (by simp only [List.getElem?_toArray, List.getElem?_cons_succ, List.getElem?_cons_zero]; rfl) (by kernel_rfl) (by kernel_rfl) (by kernel_rfl) (by exact fun _ _ _ h => h) (Or.inl ⟨by kernel_rfl, ?yt175⟩) hHeld ?_
        case yt175 => (intro ww hSw; (try dsimp only at hSw); clear hSw; go_simp; try (with_reducible rfl))
        try simp only [Act.put, List.setIfInBounds_toArray, List.set_cons_zero, List.set_cons_succ]
        refine wpAnyH_take (i := 12) (v := ?vt176) (by simp only [List.getElem?_toArray, List.getElem?_cons_succ, List.getElem?_cons_zero]; rfl) (by kernel_rfl) (by kernel_rfl) (by kernel_rfl) (by exact fun _ _ _ h => h) (Or.inl ⟨by kernel_rfl, ?yt176⟩) hHeld ?_
        case yt176 => (intro ww hSw; (try dsimp only at hSw); clear hSw; go_simp; try (with_reducible rfl))
        try simp only [Act.put, List.setIfInBounds_toArray, List.set_cons_zero, List.set_cons_succ]
        refine wpAnyH_done (by kernel_rfl) ?_ _
        cases z with
        | true =>
          go_wp2_with fail
          refine wp_region_held_drew (S := fun w' => w'.rangeAt G 0 tabL) (by kernel_rfl) ?_ (fun hHeld => ?_)
          · exact hT.1
          obtain ⟨wd78, hwd78⟩ : ∃ wd78, wd78 = World.drew wc70 := ⟨_, rfl⟩
          have h9 : Below wc70.heap.size wc70 wd78 := by rw [hwd78]; exact below_drew (Below.refl _ _)
          rw [← hwd78] at hHeld ⊢
          replace hT := tab_keep hT h9
          replace hs3 := Sl.ext hs3 h9
          replace hs7 := Sl.ext hs7 h9
          replace hv7 := hv7.ext h9
          replace hb := hb.trans (h9.mono hb.size)
          clear h9
          clear hwd78
          refine wpAnyH_take (i := 0) (by simp only [List.getElem?_toArray, List.getElem?_cons_zero]; rfl) (by kernel_rfl) (by kernel_rfl) (by kernel_rfl) (by exact fun _ _ _ h => h) (by exact yieldsIf_load_mid (by kernel_rfl) _ _ rfl _ _ rfl tabL _ (fun w h => h) hu rfl hi) hHeld ?_
          try simp only [Act.put, List.setIfInBounds_toArray, List.set_cons_zero, List.set_cons_succ]
          refine wpAnyH_take (i := 1) (v := ?vt7779) (by simp only [List.getElem?_toArray, List.getElem?_cons_succ, List.getElem?_cons_zero]; rfl) (by kernel_rfl) (by kernel_rfl) (by kernel_rfl) (by exact fun _ _ _ h => h) (Or.inl ⟨by kernel_rfl, ?yt7779⟩) hHeld ?_
          case yt7779 => (intro ww hSw; (try dsimp only at hSw); clear hSw; go_simp; try (with_reducible rfl))
          try simp only [Act.put, List.setIfInBounds_toArray, List.set_cons_zero, List.set_cons_succ]
          refine wpAnyH_take (i := 3) (by simp only [List.getElem?_toArray, List.getElem?_cons_succ, List.getElem?_cons_zero]; rfl) (by kernel_rfl) (by kernel_rfl) (by kernel_rfl) (by exact fun _ _ _ h => h) (by exact yieldsIf_load_mid (by kernel_rfl) _ _ rfl _ _ rfl tabL _ (fun w h => h) hu rfl hi) hHeld ?_
          try simp only [Act.put, List.setIfInBounds_toArray, List.set_cons_zero, List.set_cons_succ]
          refine wpAnyH_take (i := 4) (v := ?vt7780) (by simp only [List.getElem?_toArray, List.getElem?_cons_succ, List.getElem?_cons_zero]; rfl) (by kernel_rfl) (by kernel_rfl) (by kernel_rfl) (by exact fun _ _ _ h => h) (Or.inl ⟨by kernel_rfl, ?yt7780⟩) hHeld ?_
          case yt7780 => (intro ww hSw; (try dsimp only at hSw); clear hSw; go_simp; try (with_reducible rfl))
          try simp only [Act.put, List.setIfInBounds_toArray, List.set_cons_zero, List.set_cons_succ]
          refine wpAnyH_ready (rs := [2, 5]) (by kernel_rfl) (by simp) ?_
          refine AllReadyH.cons (by simp only [List.getElem?_toArray, List.getElem?_cons_succ, List.getElem?_cons_zero]; rfl) (fun KK hKK => ?_) (AllReadyH.cons (by simp only [List.getElem?_toArray, List.getElem?_cons_succ, List.getElem?_cons_zero]; rfl) (fun KK hKK => ?_) AllReadyH.nil)
          · skip
            rw [if_pos (by kernel_rfl)]
            go_simp
            (with_reducible refine (TableSum_J A7 us L m c7 b7 _ s hs7 hv7 HLM.out HF1.out (by simp only [maxLen]; omega) (by have := HFL.out; omega)).mono ?_)
            rintro e wc82 ⟨rfl, g81⟩
            replace hT := tab_keep hT g81
            replace hs3 := Sl.ext hs3 g81
            replace hs7 := Sl.ext hs7 g81
            replace hv7 := hv7.ext g81
            replace hb := hb.trans (g81.mono hb.size)
            clear g81
            go_wp2_with fail
            refine hKK.out _ _ ?_ (fun hHeld => ?_)
            · exact hT.1
            clear hKK KK
            try simp only [Act.put, List.setIfInBounds_toArray, List.set_cons_zero, List.set_cons_succ]
            refine wpAnyH_ready (rs := [5]) (by kernel_rfl) (by simp) ?_
            refine AllReadyH.cons (by simp only [List.getElem?_toArray, List.getElem?_cons_succ, List.getElem?_cons_zero]; rfl) (fun KK hKK => ?_) AllReadyH.nil
            rw [if_pos (by kernel_rfl)]
            go_simp
            obtain ⟨wa83, hwa83⟩ : ∃ wa83, wa83 = wc82.alloc (.cells #[.slice A2 p.length c2] 22) := ⟨_, rfl⟩
            have h9 : Below wc82.heap.size wc82 wa83 := by rw [hwa83]; exact below_alloc1 _ _
            have qy : Sl wa83 wc82.heap.size (some ⟨wc82.heap.size, 0, none⟩) [.slice A2 p.length c2] := by rw [hwa83]; exact Sl.cells_new _ _ _
            rw [← hwa83]
            clear hwa83
            replace hT := tab_keep hT h9
            replace hs3 := Sl.ext hs3 h9
            replace hs7 := Sl.ext hs7 h9
            replace hv7 := hv7.ext h9
            replace hb := hb.trans (h9.mono hb.size)
            clear h9
            refine hKK.out _ _ ?_ (fun hHeld => ?_)
            · exact hT.1
            clear hKK KK
            try simp only [Act.put, List.setIfInBounds_toArray, List.set_cons_zero, List.set_cons_succ]
            refine wpAnyH_ready (rs := [6]) (by kernel_rfl) (by simp) ?_
            refine AllReadyH.cons (by simp only [List.getElem?_toArray, List.getElem?_cons_succ, List.getElem?_cons_zero]; rfl) (fun KK hKK => ?_) AllReadyH.nil
            rw [if_pos (by kernel_rfl)]
            go_simp
            (with_reducible refine (TableSum_J (some ⟨wc82.heap.size, 0, none⟩) [.slice A2 p.length c2] [p] 1 1 wc82.heap.size _ s qy (Bss.cons hs3 rfl (Bss.nil_ _)) rfl HF2.out (by simp [maxLen]) (by simp; omega)).mono ?_)
            rintro e wc85 ⟨rfl, g84⟩
            replace hT := tab_keep hT g84
            replace hs3 := Sl.ext hs3 g84
            replace hs7 := Sl.ext hs7 g84
            replace hv7 := hv7.ext g84
            replace qy := Sl.ext qy g84
            replace hb := hb.trans (g84.mono hb.size)
            clear g84
            go_wp2_with fail
            refine hKK.out _ _ ?_ (fun hHeld => ?_)
            · exact hT.1
            clear hKK KK
            try simp only [Act.put, List.setIfInBounds_toArray, List.set_cons_zero, List.set_cons_succ]
            refine wpAnyH_take (i := 7) (v := ?vt7786) (by simp only [List.getElem?_toArray, List.getElem?_cons_succ, List.getElem?_cons_zero]; rfl) (by kernel_rfl) (by kernel_rfl) (by kernel_rfl) (by exact fun _ _ _ h => h) (Or.inl ⟨by kernel_rfl, ?yt7786⟩) hHeld ?_
            case yt7786 => (intro ww hSw; (try dsimp only at hSw); clear hSw; go_simp; try (with_reducible rfl))
            try simp only [Act.put, List.setIfInBounds_toArray, List.set_cons_zero, List.set_cons_succ]
            refine wpAnyH_take (i := 8) (v := ?vt7787) (by simp only [List.getElem?_toArray, List.getElem?_cons_succ, List.getElem?_cons_zero]; rfl) (by kernel_rfl) (by kernel_rfl) (by kernel_rfl) (by exact fun _ _ _ h => h) (Or.inl ⟨by kernel_rfl, ?yt7787⟩) hHeld ?_
            case yt7787 => (intro ww hSw; (try dsimp only at hSw); clear hSw; go_simp; try (with_reducible rfl))
            try simp only [Act.put, List.setIfInBounds_toArray, List.set_cons_zero, List.set_cons_succ]
            refine wpAnyH_done (by kernel_rfl) ?_ _
            go_wp2_with fail
            go_ret
            exact ⟨rfl, hb⟩
          · skip
            rw [if_pos (by kernel_rfl)]
            go_simp
            obtain ⟨wa88, hwa88⟩ : ∃ wa88, wa88 = wd78.alloc (.cells #[.slice A2 p.length c2] 22) := ⟨_, rfl⟩
            have h9 : Below wd78.heap.size wd78 wa88 := by rw [hwa88]; exact below_alloc1 _ _
            have qy : Sl wa88 wd78.heap.size (some ⟨wd78.heap.size, 0, none⟩) [.slice A2 p.length c2] := by rw [hwa88]; exact Sl.cells_new _ _ _
            rw [← hwa88]
            clear hwa88
            replace hT := tab_keep hT h9
            replace hs3 := Sl.ext hs3 h9
            replace hs7 := Sl.ext hs7 h9
            replace hv7 := hv7.ext h9
            replace hb := hb.trans (h9.mono hb.size)
            clear h9
            refine hKK.out _ _ ?_ (fun hHeld => ?_)
            · exact hT.1
            clear hKK KK
            try simp only [Act.put, List.setIfInBounds_toArray, List.set_cons_zero, List.set_cons_succ]
            refine wpAnyH_ready (rs := [2]) (by kernel_rfl) (by simp) ?_
            refine AllReadyH.cons (by simp only [List.getElem?_toArray, List.getElem?_cons_succ, List.getElem?_cons_zero]; rfl) (fun KK hKK => ?_) AllReadyH.nil
            rw [if_pos (by kernel_rfl)]
            go_simp
            (with_reducible refine (TableSum_J A7 us L m c7 b7 _ s hs7 hv7 HLM.out HF1.out (by simp only [maxLen]; omega) (by have := HFL.out; omega)).mono ?_)
            rintro e wc90 ⟨rfl, g89⟩
            replace hT := tab_keep hT g89
            replace hs3 := Sl.ext hs3 g89
            replace hs7 := Sl.ext hs7 g89
            replace hv7 := hv7.ext g89
            replace qy := Sl.ext qy g89
            replace hb := hb.trans (g89.mono hb.size)
            clear g89
            go_wp2_with fail
            refine hKK.out _ _ ?_ (fun hHeld => ?_)
            · exact hT.1
            clear hKK KK
            try simp only [Act.put, List.setIfInBounds_toArray, List.set_cons_zero, List.set_cons_succ]
            refine wpAnyH_ready (rs := [6]) (by kernel_rfl) (by simp) ?_
            refine AllReadyH.cons (by simp only [List.getElem?_toArray, List.getElem?_cons_succ, List.getElem?_cons_zero]; rfl) (fun KK hKK => ?_) AllReadyH.nil
            rw [if_pos (by kernel_rfl)]
            go_simp
            (with_reducible refine (TableSum_J (some ⟨wd78.heap.size, 0, none⟩) [.slice A2 p.length c2] [p] 1 1 wd78.heap.size _ s qy (Bss.cons hs3 rfl (Bss.nil_ _)) rfl HF2.out (by simp [maxLen]) (by simp; omega)).mono ?_)
            rintro e wc92 ⟨rfl, g91⟩
            replace hT := tab_keep hT g91
            replace hs3 := Sl.ext hs3 g91
            replace hs7 := Sl.ext hs7 g91
            replace hv7 := hv7.ext g91
            replace qy := Sl.ext qy g91
            replace hb := hb.trans (g91.mono hb.size)
            clear g91
            go_wp2_with fail
            refine hKK.out _ _ ?_ (fun hHeld => ?_)
            · exact hT.1
            clear hKK KK
            try simp only [Act.put, List.setIfInBounds_toArray, List.set_cons_zero, List.set_cons_succ]
            refine wpAnyH_take (i := 7) (v := ?vt7793) (by simp only [List.getElem?_toArray, List.getElem?_cons_succ, List.getElem?_cons_zero]; rfl) (by kernel_rfl) (by kernel_rfl) (by kernel_rfl) (by exact fun _ _ _ h => h) (Or.inl ⟨by kernel_rfl, ?yt7793⟩) hHeld ?_
            case yt7793 => (intro ww hSw; (try dsimp only at hSw); clear hSw; go_simp; try (with_reducible rfl))
            try simp only [Act.put, List.setIfInBounds_toArray, List.set_cons_zero, List.set_cons_succ]
            refine wpAnyH_take (i := 8) (v := ?vt7794) (by simp only [List.getElem?_toArray, List.getElem?_cons_succ, List.getElem?_cons_zero]; rfl) (by kernel_rfl) (by kernel_rfl) (by kernel_rfl) (by exact fun _ _ _ h => h) (Or.inl ⟨by kernel_rfl, ?yt7794⟩) hHeld ?_
            case yt7794 => (intro ww hSw; (try dsimp only at hSw); clear hSw; go_simp; try (with_reducible rfl))
            try simp only [Act.put, List.setIfInBounds_toArray, List.set_cons_zero, List.set_cons_succ]
            refine wpAnyH_done (by kernel_rfl) ?_ _
            go_wp2_with fail
            go_ret
            exact ⟨rfl, hb⟩
        | false =>
          go_wp2_with fail
          have hl0 : p.length ≠ 0 := by have := HZ.out; simpa using this
          have h9 := below_alloc1 wc70 (.cells #[.slice A2 p.length c2] 22)
          refine (Join_calls _ [.slice A2 p.length c2] [p] 1 1 wc70.heap.size _ (Sl.cells_new wc70 _ _) ((Bss.cons hs3 rfl (Bss.nil_ _)).ext h9) rfl (by simp [maxLen]) (by simp; omega)).mono ?_
          rintro e w8 ⟨v8, rfl, hrow8, h8⟩
          have h10 := h9.trans (h8.mono h9.size)
          have hwl : wc70.heap.size ≤ (wc70.alloc (.cells #[.slice A2 p.length c2] 22)).heap.size := by simp
          replace hrow8 := (hrow8.low hwl).cast (show [p].flatten = p by simp)
          have hlt3 : p ≠ [] → b2 < wc70.heap.size := Bs.lt hs3
          have hTl := hT.2
          have hbs9 := hb.size
          replace hT := tab_keep hT h10
          replace hs3 := Sl.ext hs3 h10
          replace hb := hb.trans (h10.mono hb.size)
          skip
          obtain ⟨I, hI⟩ : ∃ I, I = k % p.length := ⟨_, rfl⟩
          have hIl : I < p.length := by rw [hI]; exact Nat.mod_lt _ (by omega)
          have hIt : (k : Int).tmod (p.length : Int) = (I : Int) := by rw [hI, Int.tmod_eq_emod_of_nonneg (Int.natCast_nonneg _)]; simp
          have hIt2 : (k : Int) % (p.length : Int) = (I : Int) := by rw [hI]; simp
          obtain ⟨g, cap, hv, hBg, hgl, hc, hf, hset⟩ := Row.set_ hrow8 (k := I) hIl
          subst hv
          obtain ⟨x, hx⟩ : ∃ x, x = p[I] := ⟨_, rfl⟩
          rw [← hx] at hc
          have HX := Lib.hid hx
          have HSet := Lib.hid hset
          have x8 := x.toNat_lt
          have hxo : bits .xor .u8 (x.toNat : Int) (t : Int) = ((x.toNat ^^^ t : Nat) : Int) := u8_xor_nat x.toNat t (by omega) (by omega)
          have HI := Lib.hid hI
          clear hx hset hrow8 hI h8 h9 h10
          go_wp2_with fail
          obtain ⟨u, hu8⟩ : ∃ u : UInt8, u.toNat = t := ⟨UInt8.ofNat t, by simp; omega⟩
          obtain ⟨W, hW⟩ : ∃ W, W = w8.setCell ⟨g, I, none⟩ (.int .u8 ((x.toNat ^^^ t : Nat) : Int)) := ⟨_, rfl⟩
          have hrow9 : Row W wc70.heap.size (.slice (some ⟨g, 0, none⟩) p.length cap) (turnAt p I u) := by
            refine (HSet.out (x ^^^ u) (x.toNat ^^^ t) W (by rw [UInt8.toNat_xor, hu8]) (by rw [hW])).cast ?_
            unfold turnAt
            rw [HX.out, List.getD_eq_getElem?_getD, List.getElem?_eq_getElem hIl]
            rfl
          have hsm := Mod.setCell w8 ⟨g, I, none⟩ (.int .u8 ((x.toNat ^^^ t : Nat) : Int))
          rw [← hW] at hsm
          replace hT : W.rangeAt G 0 tabL ∧ G < W.heap.size := ⟨fun j v hv => (World.cell?_of_block (hsm.block G hT.2 (fun e => by have e : G = g := e; omega))).trans (hT.1 j v hv), Nat.lt_of_lt_of_le hT.2 hsm.size⟩
          replace hs3 : Bs W b2 A2 p := Bs.modne hs3 hsm (fun hne e => by have e : b2 = g := e; have := hlt3 hne; omega)
          replace hb : Below w.heap.size w W := by rw [hW]; exact hb.setCell (by show w.heap.size ≤ g; omega) _
          obtain ⟨hl9, hnc9, hs9⟩ := Row.bs_ hrow9
          have hoB := sum_turnAt (p := p) (i := I) (t := u) hIl
          have hu0 : (u = 0) ↔ t = 0 := by rw [← UInt8.toNat_inj, hu8]; simp
          obtain ⟨q, hq⟩ : ∃ q, q = turnAt p I u := ⟨_, rfl⟩
          rw [← hq] at hl9 hs9 hoB
          obtain ⟨s2, hs2⟩ : ∃ s2, s2 = sumN q := ⟨_, rfl⟩
          rw [← hs2, ← HSN.out] at hoB
          have HF3 : Hid (sumN [q].flatten = s2) := Lib.hid (by rw [hs2]; simp)
          have hfin : ((s : Int) == (s2 : Int)) = ((t : Int) == 0) := by
            rw [Bool.eq_iff_iff]
            simp only [beq_iff_eq]
            have h1 := hoB.trans hu0
            omega
          skip
          rw [← hW]
          skip
          clear HX HSet hW hc hf hxo hrow9 hq hs2 hsm hlt3 hoB hu0 hu8
          refine wp_region_held_drew (S := fun w' => w'.rangeAt G 0 tabL) (by kernel_rfl) ?_ (fun hHeld => ?_)
          · exact hT.1
          obtain ⟨wd96, hwd96⟩ : ∃ wd96, wd96 = World.drew W := ⟨_, rfl⟩
          have h9 : Below W.heap.size W wd96 := by rw [hwd96]; exact below_drew (Below.refl _ _)
          rw [← hwd96] at hHeld ⊢
          replace hT := tab_keep hT h9
          replace hs3 := Sl.ext hs3 h9
          replace hs9 := Sl.ext hs9 h9
          replace hb := hb.trans (h9.mono hb.size)
          clear h9
          clear hwd96
          refine wpAnyH_take (i := 0) (by simp only [List.getElem?_toArray, List.getElem?_cons_zero]; rfl) (by kernel_rfl) (by kernel_rfl) (by kernel_rfl) (by exact fun _ _ _ h => h) (by exact yieldsIf_load_mid (by kernel_rfl) _ _ rfl _ _ rfl tabL _ (fun w h => h) hu rfl hi) hHeld ?_
          try simp only [Act.put, List.setIfInBounds_toArray, List.set_cons_zero, List.set_cons_succ]
          refine wpAnyH_take (i := 1) (v := ?vt9597) (by simp only [List.getElem?_toArray, List.getElem?_cons_succ, List.getElem?_cons_zero]; rfl) (by kernel_rfl) (by kernel_rfl) (by kernel_rfl) (by exact fun _ _ _ h => h) (Or.inl ⟨by kernel_rfl, ?yt9597⟩) hHeld ?_
          case yt9597 => (intro ww hSw; (try dsimp only at hSw); clear hSw; go_simp; try (with_reducible rfl))
          try simp only [Act.put, List.setIfInBounds_toArray, List.set_cons_zero, List.set_cons_succ]
          refine wpAnyH_take (i := 4) (by simp only [List.getElem?_toArray, List.getElem?_cons_succ, List.getElem?_cons_zero]; rfl) (by kernel_rfl) (by kernel_rfl) (by kernel_rfl) (by exact fun _ _ _ h => h) (by exact yieldsIf_load_mid (by kernel_rfl) _ _ rfl _ _ rfl tabL _ (fun w h => h) hu rfl hi) hHeld ?_
          try simp only [Act.put, List.setIfInBounds_toArray, List.set_cons_zero, List.set_cons_succ]
          refine wpAnyH_take (i := 5) (v := ?vt9598) (by simp only [List.getElem?_toArray, List.getElem?_cons_succ, List.getElem?_cons_zero]; rfl) (by kernel_rfl) (by kernel_rfl) (by kernel_rfl) (by exact fun _ _ _ h => h) (Or.inl ⟨by kernel_rfl, ?yt9598⟩) hHeld ?_
          case yt9598 => (intro ww hSw; (try dsimp only at hSw); clear hSw; go_simp; try (with_reducible rfl))
          try simp only [Act.put, List.setIfInBounds_toArray, List.set_cons_zero, List.set_cons_succ]
          refine wpAnyH_take (i := 9) (v := ?vt9599) (by simp only [List.getElem?_toArray, List.getElem?_cons_succ, List.getElem?_cons_zero]; rfl) (by kernel_rfl) (by kernel_rfl) (by kernel_rfl) (by exact fun _ _ _ h => h) (Or.inl ⟨by kernel_rfl, ?yt9599⟩) hHeld ?_
          case yt9599 => (intro ww hSw; (try dsimp only at hSw); clear hSw; go_simp; try (with_reducible rfl))
          try simp only [Act.put, List.setIfInBounds_toArray, List.set_cons_zero, List.set_cons_succ]
          refine wpAnyH_take (i := 10) (v := ?vt95100) (by simp only [List.getElem?_toArray, List.getElem?_cons_succ, List.getElem?_cons_zero]; rfl) (by kernel_rfl) (by kernel_rfl) (by kernel_rfl) (by exact fun _ _ _ h => h) (Or.inl ⟨by kernel_rfl, ?yt95100⟩) hHeld ?_
          case yt95100 => (intro ww hSw; (try dsimp only at hSw); clear hSw; go_simp; try (with_reducible rfl))
          try simp only [Act.put, List.setIfInBounds_toArray, List.set_cons_zero, List.set_cons_succ]
          refine wpAnyH_ready (rs := [2, 6]) (by kernel_rfl) (by simp) ?_
          refine AllReadyH.cons (by simp only [List.getElem?_toArray, List.getElem?_cons_succ, List.getElem?_cons_zero]; rfl) (fun KK hKK => ?_) (AllReadyH.cons (by simp only [List.getElem?_toArray, List.getElem?_cons_succ, List.getElem?_cons_zero]; rfl) (fun KK hKK => ?_) AllReadyH.nil)
          · skip
            rw [if_pos (by kernel_rfl)]
            go_simp
            obtain ⟨wa101, hwa101⟩ : ∃ wa101, wa101 = wd96.alloc (.cells #[.slice A2 p.length c2] 22) := ⟨_, rfl⟩
            have h9 : Below wd96.heap.size wd96 wa101 := by rw [hwa101]; exact below_alloc1 _ _
            have qx1 : Sl wa101 wd96.heap.size (some ⟨wd96.heap.size, 0, none⟩) [.slice A2 p.length c2] := by rw [hwa101]; exact Sl.cells_new _ _ _
            rw [← hwa101]
            clear hwa101
            replace hT := tab_keep hT h9
            replace hs3 := Sl.ext hs3 h9
            replace hs9 := Sl.ext hs9 h9
            replace hb := hb.trans (h9.mono hb.size)
            clear h9
            refine hKK.out _ _ ?_ (fun hHeld => ?_)
            · exact hT.1
            clear hKK KK
            try simp only [Act.put, List.setIfInBounds_toArray, List.set_cons_zero, List.set_cons_succ]
            refine wpAnyH_ready (rs := [3, 6]) (by kernel_rfl) (by simp) ?_
            refine AllReadyH.cons (by simp only [List.getElem?_toArray, List.getElem?_cons_succ, List.getElem?_cons_zero]; rfl) (fun KK hKK => ?_) (AllReadyH.cons (by simp only [List.getElem?_toArray, List.getElem?_cons_succ, List.getElem?_cons_zero]; rfl) (fun KK hKK => ?_) AllReadyH.nil)
            · skip
              rw [if_pos (by kernel_rfl)]
              go_simp
              (with_reducible refine (TableSum_J (some ⟨wd96.heap.size, 0, none⟩) [.slice A2 p.length c2] [p] 1 1 wd96.heap.size _ s qx1 (Bss.cons hs3 rfl (Bss.nil_ _)) rfl HF2.out (by simp [maxLen]) (by simp; omega)).mono ?_)
              rintro e wc103 ⟨rfl, g102⟩
              replace hT := tab_keep hT g102
              replace hs3 := Sl.ext hs3 g102
              replace hs9 := Sl.ext hs9 g102
              replace qx1 := Sl.ext qx1 g102
              replace hb := hb.trans (g102.mono hb.size)
              clear g102
              go_wp2_with fail
              refine hKK.out _ _ ?_ (fun hHeld => ?_)
              · exact hT.1
              clear hKK KK
              try simp only [Act.put, List.setIfInBounds_toArray, List.set_cons_zero, List.set_cons_succ]
              refine wpAnyH_ready (rs := [6]) (by kernel_rfl) (by simp) ?_
              refine AllReadyH.cons (by simp only [List.getElem?_toArray, List.getElem?_cons_succ, List.getElem?_cons_zero]; rfl) (fun KK hKK => ?_) AllReadyH.nil
              rw [if_pos (by kernel_rfl)]
              go_simp
              obtain ⟨wa104, hwa104⟩ : ∃ wa104, wa104 = wc103.alloc (.cells #[.slice (some ⟨g, 0, none⟩) p.length cap] 22) := ⟨_, rfl⟩
              have h9 : Below wc103.heap.size wc103 wa104 := by rw [hwa104]; exact below_alloc1 _ _
              have qx2 : Sl wa104 wc103.heap.size (some ⟨wc103.heap.size, 0, none⟩) [.slice (some ⟨g, 0, none⟩) p.length cap] := by rw [hwa104]; exact Sl.cells_new _ _ _
              rw [← hwa104]
              clear hwa104
              replace hT := tab_keep hT h9
              replace hs3 := Sl.ext hs3 h9
              replace hs9 := Sl.ext hs9 h9
              replace qx1 := Sl.ext qx1 h9
              replace hb := hb.trans (h9.mono hb.size)
              clear h9
              refine hKK.out _ _ ?_ (fun hHeld => ?_)
              · exact hT.1
              clear hKK KK
              try simp only [Act.put, List.setIfInBounds_toArray, List.set_cons_zero, List.set_cons_succ]
              refine wpAnyH_ready (rs := [7]) (by kernel_rfl) (by simp) ?_
              refine AllReadyH.cons (by simp only [List.getElem?_toArray, List.getElem?_cons_succ, List.getElem?_cons_zero]; rfl) (fun KK hKK => ?_) AllReadyH.nil
              rw [if_pos (by kernel_rfl)]
              go_simp
              (with_reducible refine (TableSum_J (some ⟨wc103.heap.size, 0, none⟩) [.slice (some ⟨g, 0, none⟩) p.length cap] [q] 1 1 wc103.heap.size _ s2 qx2 (Bss.cons hs9 hl9 (Bss.nil_ _)) rfl HF3.out (by simp [maxLen]) (by simp; omega)).mono ?_)
              rintro e wc106 ⟨rfl, g105⟩
              replace hT := tab_keep hT g105
              replace hs3 := Sl.ext hs3 g105
              replace hs9 := Sl.ext hs9 g105
              replace qx1 := Sl.ext qx1 g105
              replace qx2 := Sl.ext qx2 g105
              replace hb := hb.trans (g105.mono hb.size)
              clear g105
              go_wp2_with fail
              refine hKK.out _ _ ?_ (fun hHeld => ?_)
              · exact hT.1
              clear hKK KK
              try simp only [Act.put, List.setIfInBounds_toArray, List.set_cons_zero, List.set_cons_succ]
              refine wpAnyH_take (i := 8) (v := ?vt95107) (by simp only [List.getElem?_toArray, List.getElem?_cons_succ, List.getElem?_cons_zero]; rfl) (by kernel_rfl) (by kernel_rfl) (by kernel_rfl) (by exact fun _ _ _ h => h) (Or.inl ⟨by kernel_rfl, ?yt95107⟩) hHeld ?_
              case yt95107 => (intro ww hSw; (try dsimp only at hSw); clear hSw; go_simp; try (with_reducible rfl))
              try simp only [Act.put, List.setIfInBounds_toArray, List.set_cons_zero, List.set_cons_succ]
              refine wpAnyH_take (i := 11) (v := ?vt95108) (by simp only [List.getElem?_toArray, List.getElem?_cons_succ, List.getElem?_cons_zero]; rfl) (by kernel_rfl) (by kernel_rfl) (by kernel_rfl) (by exact fun _ _ _ h => h) (Or.inl ⟨by kernel_rfl, ?yt95108⟩) hHeld ?_
              case yt95108 => (intro ww hSw; (try dsimp only at hSw); clear hSw; go_simp; try (with_reducible rfl))
              try simp only [Act.put, List.setIfInBounds_toArray, List.set_cons_zero, List.set_cons_succ]
              refine wpAnyH_take (i := 12) (v := ?vt95109) (by simp only [List.getElem?_toArray, List.getElem?_cons_succ, List.getElem?_cons_zero]; rfl) (by kernel_rfl) (by kernel_rfl) (by kernel_rfl) (by exact fun _ _ _ h => h) (Or.inl ⟨by kernel_rfl, ?yt95109⟩) hHeld ?_
              case yt95109 => (intro ww hSw; (try dsimp only at hSw); clear hSw; go_simp; try (with_reducible rfl))
              try simp only [Act.put, List.setIfInBounds_toArray, List.set_cons_zero, List.set_cons_succ]
              refine wpAnyH_done (by kernel_rfl) ?_ _
              go_wp2_with fail
              go_ret
              exact ⟨by simp, hb⟩
            · skip
              rw [if_pos (by kernel_rfl)]
              go_simp
              obtain ⟨wa110, hwa110⟩ : ∃ wa110, wa110 = wa101.alloc (.cells #[.slice (some ⟨g, 0, none⟩) p.length cap] 22) := ⟨_, rfl⟩
              have h9 : Below wa101.heap.size wa101 wa110 := by rw [hwa110]; exact below_alloc1 _ _
              have qx2 : Sl wa110 wa101.heap.size (some ⟨wa101.heap.size, 0, none⟩) [.slice (some ⟨g, 0, none⟩) p.length cap] := by rw [hwa110]; exact Sl.cells_new _ _ _
              rw [← hwa110]
              clear hwa110
              replace hT := tab_keep hT h9
              replace hs3 := Sl.ext hs3 h9
              replace hs9 := Sl.ext hs9 h9
              replace qx1 := Sl.ext qx1 h9
              replace hb := hb.trans (h9.mono hb.size)
              clear h9
              refine hKK.out _ _ ?_ (fun hHeld => ?_)
              · exact hT.1
              clear hKK KK
              try simp only [Act.put, List.setIfInBounds_toArray, List.set_cons_zero, List.set_cons_succ]
              refine wpAnyH_ready (rs := [3]) (by kernel_rfl) (by simp) ?_
              refine AllReadyH.cons (by simp only [List.getElem?_toArray, List.getElem?_cons_succ, List.getElem?_cons_zero]; rfl) (fun KK hKK => ?_) AllReadyH.nil
              rw [if_pos (by kernel_rfl)]
              go_simp
              (with_reducible refine (TableSum_J (some ⟨wd96.heap.size, 0, none⟩) [.slice A2 p.length c2] [p] 1 1 wd96.heap.size _ s qx1 (Bss.cons hs3 rfl (Bss.nil_ _)) rfl HF2.out (by simp [maxLen]) (by simp; omega)).mono ?_)
              rintro e wc112 ⟨rfl, g111⟩
              replace hT := tab_keep hT g111
              replace hs3 := Sl.ext hs3 g111
              replace hs9 := Sl.ext hs9 g111
              replace qx1 := Sl.ext qx1 g111
              replace qx2 := Sl.ext qx2 g111
              replace hb := hb.trans (g111.mono hb.size)
              clear g111
              go_wp2_with fail
              refine hKK.out _ _ ?_ (fun hHeld => ?_)
              · exact hT.1
              clear hKK KK
              try simp only [Act.put, List.setIfInBounds_toArray, List.set_cons_zero, List.set_cons_succ]
              refine wpAnyH_ready (rs := [7]) (by kernel_rfl) (by simp) ?_
              refine AllReadyH.cons (by simp only [List.getElem?_toArray, List.getElem?_cons_succ, List.getElem?_cons_zero]; rfl) (fun KK hKK => ?_) AllReadyH.nil
              rw [if_pos (by kernel_rfl)]
              go_simp
              (with_reducible refine (TableSum_J (some ⟨wa101.heap.size, 0, none⟩) [.slice (some ⟨g, 0, none⟩) p.length cap] [q] 1 1 wa101.heap.size _ s2 qx2 (Bss.cons hs9 hl9 (Bss.nil_ _)) rfl HF3.out (by simp [maxLen]) (by simp; omega)).mono ?_)
              rintro e wc114 ⟨rfl, g113⟩
              replace hT := tab_keep hT g113
              replace hs3 := Sl.ext hs3 g113
              replace hs9 := Sl.ext hs9 g113
              replace qx1 := Sl.ext qx1 g113
              replace qx2 := Sl.ext qx2 g113
              replace hb := hb.trans (g113.mono hb.size)
              clear g113
              go_wp2_with fail
              refine hKK.out _ _ ?_ (fun hHeld => ?_)
              · exact hT.1
              clear hKK KK
              try simp only [Act.put, List.setIfInBounds_toArray, List.set_cons_zero, List.set_cons_succ]
              refine wpAnyH_take (i := 8) (v := ?vt95115) (by simp only [List.getElem?_toArray, List.getElem?_cons_succ, List.getElem?_cons_zero]; rfl) (by kernel_rfl) (by kernel_rfl) (by kernel_rfl) (by exact fun _ _ _ h => h) (Or.inl ⟨by kernel_rfl, ?yt95115⟩) hHeld ?_
              case yt95115 => (intro ww hSw; (try dsimp only at hSw); clear hSw; go_simp; try (with_reducible rfl))
              try simp only [Act.put, List.setIfInBounds_toArray, List.set_cons_zero, List.set_cons_succ]
              refine wpAnyH_take (i := 11) (v := ?vt95116) (by simp only [List.getElem?_toArray, List.getElem?_cons_succ, List.getElem?_cons_zero]; rfl) (by kernel_rfl) (by kernel_rfl) (by kernel_rfl) (by exact fun _ _ _ h => h) (Or.inl ⟨by kernel_rfl, ?yt95116⟩) hHeld ?_
              case yt95116 => (intro ww hSw; (try dsimp only at hSw); clear hSw; go_simp; try (with_reducible rfl))
              try simp only [Act.put, List.setIfInBounds_toArray, List.set_cons_zero, List.set_cons_succ]
              refine wpAnyH_take (i := 12) (v := ?vt95117) (by simp only [List.getElem?_toArray, List.getElem?_cons_succ, List.getElem?_cons_zero]; rfl) (by kernel_rfl) (by kernel_rfl) (by kernel_rfl) (by exact fun _ _ _ h => h) (Or.inl ⟨by kernel_rfl, ?yt95117⟩) hHeld ?_
              case yt95117 => (intro ww hSw; (try dsimp only at hSw); clear hSw; go_simp; try (with_reducible rfl))
              try simp only [Act.put, List.setIfInBounds_toArray, List.set_cons_zero, List.set_cons_succ]
              refine wpAnyH_done (by kernel_rfl) ?_ _
              go_wp2_with fail
              go_ret
              exact ⟨by simp, hb⟩
          · skip
            rw [if_pos (by kernel_rfl)]
            go_simp
            obtain ⟨wa118, hwa118⟩ : ∃ wa118, wa118 = wd96.alloc (.cells #[.slice (some ⟨g, 0, none⟩) p.length cap] 22) := ⟨_, rfl⟩
            have h9 : Below wd96.heap.size wd96 wa118 := by rw [hwa118]; exact below_alloc1 _ _
            have qx2 : Sl wa118 wd96.heap.size (some ⟨wd96.heap.size, 0, none⟩) [.slice (some ⟨g, 0, none⟩) p.length cap] := by rw [hwa118]; exact Sl.cells_new _ _ _
            rw [← hwa118]
            clear hwa118
            replace hT := tab_keep hT h9
            replace hs3 := Sl.ext hs3 h9
            replace hs9 := Sl.ext hs9 h9
            replace hb := hb.trans (h9.mono hb.size)
            clear h9
            refine hKK.out _ _ ?_ (fun hHeld => ?_)
            · exact hT.1
            clear hKK KK
            try simp only [Act.put, List.setIfInBounds_toArray, List.set_cons_zero, List.set_cons_succ]
            refine wpAnyH_ready (rs := [2]) (by kernel_rfl) (by simp) ?_
            refine AllReadyH.cons (by simp only [List.getElem?_toArray, List.getElem?_cons_succ, List.getElem?_cons_zero]; rfl) (fun KK hKK => ?_) AllReadyH.nil
            rw [if_pos (by kernel_rfl)]
            go_simp
            obtain ⟨wa119, hwa119⟩ : ∃ wa119, wa119 = wa118.alloc (.cells #[.slice A2 p.length c2] 22) := ⟨_, rfl⟩
            have h9 : Below wa118.heap.size wa118 wa119 := by rw [hwa119]; exact below_alloc1 _ _
            have qx1 : Sl wa119 wa118.heap.size (some ⟨wa118.heap.size, 0, none⟩) [.slice A2 p.length c2] := by rw [hwa119]; exact Sl.cells_new _ _ _
            rw [← hwa119]
            clear hwa119
            replace hT := tab_keep hT h9
            replace hs3 := Sl.ext hs3 h9
            replace hs9 := Sl.ext hs9 h9
            replace qx2 := Sl.ext qx2 h9
            replace hb := hb.trans (h9.mono hb.size)
            clear h9
            refine hKK.out _ _ ?_ (fun hHeld => ?_)
            · exact hT.1
            clear hKK KK
            try simp only [Act.put, List.setIfInBounds_toArray, List.set_cons_zero, List.set_cons_succ]
            refine wpAnyH_ready (rs := [3]) (by kernel_rfl) (by simp) ?_
            refine AllReadyH.cons (by simp only [List.getElem?_toArray, List.getElem?_cons_succ, List.getElem?_cons_zero]; rfl) (fun KK hKK => ?_) AllReadyH.nil
            rw [if_pos (by kernel_rfl)]
            go_simp
            (with_reducible refine (TableSum_J (some ⟨wa118.heap.size, 0, none⟩) [.slice A2 p.length c2] [p] 1 1 wa118.heap.size _ s qx1 (Bss.cons hs3 rfl (Bss.nil_ _)) rfl HF2.out (by simp [maxLen]) (by simp; omega)).mono ?_)
            rintro e wc121 ⟨rfl, g120⟩
            replace hT := tab_keep hT g120
            replace hs3 := Sl.ext hs3 g120
            replace hs9 := Sl.ext hs9 g120
            replace qx2 := Sl.ext qx2 g120
            replace qx1 := Sl.ext qx1 g120
            replace hb := hb.trans (g120.mono hb.size)
            clear g120
            go_wp2_with fail
            refine hKK.out _ _ ?_ (fun hHeld => ?_)
            · exact hT.1
            clear hKK KK
            try simp only [Act.put, List.setIfInBounds_toArray, List.set_cons_zero, List.set_cons_succ]
            refine wpAnyH_ready (rs := [7]) (by kernel_rfl) (by simp) ?_
            refine AllReadyH.cons (by simp only [List.getElem?_toArray, List.getElem?_cons_succ, List.getElem?_cons_zero]; rfl) (fun KK hKK => ?_) AllReadyH.nil
            rw [if_pos (by kernel_rfl)]
            go_simp
            (with_reducible refine (TableSum_J (some ⟨wd96.heap.size, 0, none⟩) [.slice (some ⟨g, 0, none⟩) p.length cap] [q] 1 1 wd96.heap.size _ s2 qx2 (Bss.cons hs9 hl9 (Bss.nil_ _)) rfl HF3.out (by simp [maxLen]) (by simp; omega)).mono ?_)
            rintro e wc123 ⟨rfl, g122⟩
            replace hT := tab_keep hT g122
            replace hs3 := Sl.ext hs3 g122
            replace hs9 := Sl.ext hs9 g122
            replace qx2 := Sl.ext qx2 g122
            replace qx1 := Sl.ext qx1 g122
            replace hb := hb.trans (g122.mono hb.size)
            clear g122
            go_wp2_with fail
            refine hKK.out _ _ ?_ (fun hHeld => ?_)
            · exact hT.1
            clear hKK KK
            try simp only [Act.put, List.setIfInBounds_toArray, List.set_cons_zero, List.set_cons_succ]
            refine wpAnyH_take (i := 8) (v := ?vt95124) (by simp only [List.getElem?_toArray, List.getElem?_cons_succ, List.getElem?_cons_zero]; rfl) (by kernel_rfl) (by kernel_rfl) (by kernel_rfl) (by exact fun _ _ _ h => h) (Or.inl ⟨by kernel_rfl, ?yt95124⟩) hHeld ?_
            case yt95124 => (intro ww hSw; (try dsimp only at hSw); clear hSw; go_simp; try (with_reducible rfl))
            try simp only [Act.put, List.setIfInBounds_toArray, List.set_cons_zero, List.set_cons_succ]
            refine wpAnyH_take (i := 11) (v := ?vt95125) (by simp only [List.getElem?_toArray, List.getElem?_cons_succ, List.getElem?_cons_zero]; rfl) (by kernel_rfl) (by kernel_rfl) (by kernel_rfl) (by exact fun _ _ _ h => h) (Or.inl ⟨by kernel_rfl, ?yt95125⟩) hHeld ?_
            case yt95125 => (intro ww hSw; (try dsimp only at hSw); clear hSw; go_simp; try (with_reducible rfl))
            try simp only [Act.put, List.setIfInBounds_toArray, List.set_cons_zero, List.set_cons_succ]
            refine wpAnyH_take (i := 12) (v := ?vt95126) (by simp only [List.getElem?_toArray, List.getElem?_cons_succ, List.getElem?_cons_zero]; rfl) (by kernel_rfl) (by kernel_rfl) (by kernel_rfl) (by exact fun _ _ _ h => h) (Or.inl ⟨by kernel_rfl, ?yt95126⟩) hHeld ?_
            case yt95126 => (intro ww hSw; (try dsimp only at hSw); clear hSw; go_simp; try (with_reducible rfl))
            try simp only [Act.put, List.setIfInBounds_toArray, List.set_cons_zero, List.set_cons_succ]
            refine wpAnyH_done (by kernel_rfl) ?_ _
            go_wp2_with fail
            go_ret
            exact ⟨by simp, hb⟩
end Go.Proofs.Ytjamkjkjnkiniaa
