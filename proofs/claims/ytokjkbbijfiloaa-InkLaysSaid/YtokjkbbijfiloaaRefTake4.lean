/- The reference's Take at a blob: what it tells; nothing that was there turns. Condition: the bytes are few. -/
import Derived.Test.YtokjkbbijfiloaaRefTake3
namespace Go.Proofs.Ytokjkbbijfiloaa
open Go.RowKit

set_option maxHeartbeats 2000000 in
theorem Take4_calls (A0 : Option Addr) (l : List UInt8) (n0 c0 b : Nat) (f : Fld) (A : Option Addr) (c : Nat) (w : World) (hs : Bs w b A0 l) (hl : l.length = n0) (hn0 : n0 ≤ c0) (hc0 : c0 ≤ maxLen) (hf : f.Ok) (h : f.kind % 5 = 4) (h47 : n0 ≤ 1000000) :
    Calls Try.prog 18 #[.slice A0 n0 c0, .agg (Fld.cells f A c).toArray] w (TookR b l f w) := by
  obtain ⟨k, n, bl, most⟩ := f
  obtain ⟨hk, hn, hmo⟩ := hf
  simp only [Fld.cells] at *
  unfold maxLen at hc0
  have hq : (k : Int) % 5 = 4 := by omega
  have HL := Lib.hid hl
  have H := Lib.hid h
  have H0 := Lib.hid (show ¬ k % 5 = 0 by omega)
  have H1 := Lib.hid (show ¬ k % 5 = 1 by omega)
  have H2 := Lib.hid (show ¬ k % 5 = 2 by omega)
  have H3 := Lib.hid (show ¬ k % 5 = 3 by omega)
  clear h hl
  go_enter Try.func18, Try.ntmps18
  go_wp2_with fail
  obtain ⟨W, hW, hF, hZ, hO, hsz, hbe⟩ := take_boxes k n most A bl.length c w
  rw [← hW]
  obtain ⟨z0, z1, z2, z3, zf0, zf1, zf2, zf3⟩ := box_all hZ
  obtain ⟨o0, o1, o2, o3, of0, of1, of2, of3⟩ := box_all hO
  obtain ⟨x0, x1, x2, x3, _, _, _, _⟩ := box_all hF
  have HZ := Lib.hid hZ
  have HO := Lib.hid hO
  have HSZ := Lib.hid hsz
  have hsW := Sl.ext hs hbe
  clear hF hZ hO hsz hW
  have hbl : l ≠ [] → b < w.heap.size := Bs.lt hs
  refine (number_ref A0 l n0 c0 b _ hsW HL.out (by unfold maxLen; omega)).mono ?_
  rintro e w5 ⟨rfl, rfl⟩
  rcases hr : rd 0 l with _ | ⟨v, kk⟩
  · rw [numberF_none hr]
    have HR := Lib.hid (show rdBlob l most = none by unfold rdBlob; rw [hr])
    clear hr
    go_wp2_with fail
    have HE := set4 (a' := .int .u8 (k : Int)) (b' := .int .u64 0) (c' := .slice none 0 0) (d' := .int .u64 (most : Int)) HZ.out
    have e1 : takeF l ⟨k, n, bl, most⟩ = none := take4_none H0.out H1.out H2.out H3.out HR.out
    refine bodyPost_ret (results_c2 (P := Try.prog) rfl _ _ (w.heap.size + 1) _ _ (0, 0) _ rfl (show _ = _ from HE) Try.underlying30 rfl (by kernel_rfl)) rfl ?_
    unfold TookR toldF leftF
    rw [e1]
    exact ⟨none, 0, none, 0, 0, rfl, Sl.nil_ _ _ _, Sl.nil_ _ _ _, Nat.le_refl _, by simp [maxLen], by first | exact below4 hbe (by omega) | (refine below4 hbe ?_; omega), fun h => absurd rfl h⟩
  · rw [numberF_some hr]
    have hkp := rd_pos hr
    obtain ⟨_, _, hkl⟩ := rd_inv 9 0 l v kk rfl hr
    rw [HL.out] at hkl
    have hk0 : ((kk : Int) == 0) = false := by simp; omega
    by_cases hvm : most < v
    · have HR := Lib.hid (show rdBlob l most = none by unfold rdBlob; rw [hr]; simp only; rw [if_neg (by omega)])
      clear hr
      simp only
      go_wp2_with fail
      have HE := set4 (a' := .int .u8 (k : Int)) (b' := .int .u64 0) (c' := .slice none 0 0) (d' := .int .u64 (most : Int)) HZ.out
      have e1 : takeF l ⟨k, n, bl, most⟩ = none := take4_none H0.out H1.out H2.out H3.out HR.out
      refine bodyPost_ret (results_c2 (P := Try.prog) rfl _ _ (w.heap.size + 1) _ _ (0, 0) _ rfl (show _ = _ from HE) Try.underlying30 rfl (by kernel_rfl)) rfl ?_
      unfold TookR toldF leftF
      rw [e1]
      exact ⟨none, 0, none, 0, 0, rfl, Sl.nil_ _ _ _, Sl.nil_ _ _ _, Nat.le_refl _, by simp [maxLen], by first | exact below4 hbe (by omega) | (refine below4 hbe ?_; omega), fun h => absurd rfl h⟩
    · by_cases hfit0 : v ≤ n0 - kk
      · have hfit : v ≤ (l.drop kk).length := by rw [List.length_drop, HL.out]; exact hfit0
        have HR := Lib.hid (show rdBlob l most = some ((l.drop kk).take v, (l.drop kk).drop v) by unfold rdBlob; rw [hr]; simp only; rw [if_pos ⟨by omega, hfit⟩])
        clear hr
        simp only
        obtain ⟨AK, hAK, hsK⟩ : ∃ AK, AK = (if c0 = kk then A0 else A0.map (·.add kk)) ∧ Bs W b AK (l.drop kk) := ⟨_, rfl, by have := hsW.drop (k := kk) (cap := c0) (by rw [bv_length, HL.out]; exact hn0); rwa [bv_drop] at this⟩
        have HAK := Lib.hid hAK
        clear hAK
        by_cases hcap : c0 = kk
        · have HAK2 := Lib.hid (show AK = A0 by rw [HAK.out, if_pos hcap])
          obtain rfl : v = 0 := by omega
          subst hcap
          obtain rfl : n0 = c0 := by omega
          go_wp2_with fail
          refine (Cut_calls A0 (l.drop n0) 0 0 b 0 _ (by have h := hsK; rw [HAK2.out] at h; exact h) (by rw [List.length_drop, HL.out]; omega) (by unfold maxLen; omega) (by simp)).mono ?_
          rintro e w6 ⟨v6, rfl, r6, hb6⟩
          obtain ⟨l2, hl2⟩ : ∃ l2, l2 = (l.drop n0).take 0 := ⟨_, rfl⟩
          rw [show ((0 : Int).toNat) = 0 by rfl, ← hl2] at r6
          have HL2 := Lib.hid hl2
          obtain ⟨A2, c2, b2, rfl, _, _, _, hb2, s2, _⟩ := r6.sl
          have HZ6 := Lib.hid ((hb6.block _ (by rw [HSZ.out]; omega)).trans HZ.out)
          obtain ⟨z0', z1', z2', z3', zf0', zf1', zf2', zf3'⟩ := box_all HZ6.out
          obtain ⟨o0', o1', o2', o3', of0', of1', of2', of3'⟩ := box_all ((hb6.block _ (by rw [HSZ.out]; omega)).trans HO.out)
          have hb7 := hbe.trans (hb6.mono hbe.size)
          have hs6 := Sl.ext hsW hb6
          have hb2' : w.heap.size + 4 ≤ b2 := by rw [← HSZ.out]; exact hb2
          clear hl2 r6 z0 z1 z2 z3 zf0 zf1 zf2 zf3 o0 o1 o2 o3 of0 of1 of2 of3 x0 x1 x2 x3 hsW hsK hb6 hfit hb2
          · go_wp2_with fail
            go_region
            go_wp2_with fail
            have HE := take_end (w1 := w6) (G2 := w.heap.size + 1) (G3 := w.heap.size + 1 + 1) (j := 2) (u := .slice A2 l2.length c2) (a := .int .u8 (k : Int)) (b := .int .u64 0) (c := .slice A2 l2.length c2) (d := .int .u64 (most : Int)) (t := 30) HZ6.out (by omega)
            have hmE := HE.2
            have e1 : takeF l ⟨k, n, bl, most⟩ = some (⟨k, 0, l2, most⟩, l.drop (n0 + 0)) := by
              have h := take4_some (n := n) (bl := bl) H0.out H1.out H2.out H3.out HR.out
              rwa [← HL2.out, List.drop_drop] at h
            refine bodyPost_ret (results_c2 (P := Try.prog) rfl _ _ (w.heap.size + 1) _ _ (0, 0) _ rfl (show _ = _ from HE.1) Try.underlying30 rfl (by kernel_rfl)) rfl ?_
            unfold TookR toldF leftF
            rw [e1]
            have hmD := hmE.trans (Mod.drew (fun _ => False) _) (S := fun i => i = w.heap.size + 1 ∨ i = w.heap.size + 1 + 1) (fun _ _ h => h) (fun _ _ h => h.elim)
            refine ⟨A2, c2, _, _, b2, by simp only [List.length_drop, HL.out, Nat.add_zero, Nat.sub_self]; rfl, Bs.modne s2 hmD (fun _ h => by omega), ?_, by simp only [List.length_drop, HL.out]; omega, by simp only [maxLen]; omega, below_drew (hb7.trans (hmE.below hb7.size (fun i hi h => by omega))), fun _ => by omega⟩
            refine Bs.modne (S := fun i => i = w.heap.size + 1 ∨ i = w.heap.size + 1 + 1) (w := w6) ?_ hmD (fun h => by have := hbl (by rintro rfl; simp at h); omega)
            exact Bs.all _ (by have := HL.out; omega)
        · have HAK2 := Lib.hid (show AK = A0.map (·.add kk) by rw [HAK.out, if_neg hcap])
          go_wp2_with fail
          rw [← HAK2.out]
          refine (Cut_calls AK (l.drop kk) (n0 - kk) (c0 - kk) b v _ hsK (by rw [List.length_drop, HL.out]) (by unfold maxLen; omega) (by rw [List.length_take, List.length_drop, HL.out]; omega)).mono ?_
          rintro e w6 ⟨v6, rfl, r6, hb6⟩
          obtain ⟨l2, hl2⟩ : ∃ l2, l2 = (l.drop kk).take v := ⟨_, rfl⟩
          rw [show ((v : Int).toNat) = v by simp, ← hl2] at r6
          have HL2 := Lib.hid hl2
          obtain ⟨A2, c2, b2, rfl, _, _, _, hb2, s2, _⟩ := r6.sl
          have HZ6 := Lib.hid ((hb6.block _ (by rw [HSZ.out]; omega)).trans HZ.out)
          obtain ⟨z0', z1', z2', z3', zf0', zf1', zf2', zf3'⟩ := box_all HZ6.out
          obtain ⟨o0', o1', o2', o3', of0', of1', of2', of3'⟩ := box_all ((hb6.block _ (by rw [HSZ.out]; omega)).trans HO.out)
          have hb7 := hbe.trans (hb6.mono hbe.size)
          have hs6 := Sl.ext hsW hb6
          have hb2' : w.heap.size + 4 ≤ b2 := by rw [← HSZ.out]; exact hb2
          clear hl2 r6 z0 z1 z2 z3 zf0 zf1 zf2 zf3 o0 o1 o2 o3 of0 of1 of2 of3 x0 x1 x2 x3 hsW hsK hb6 hfit hb2
          by_cases hcap2 : c0 = kk + v
          · subst hcap2
            obtain rfl : n0 = kk + v := by omega
            go_wp2_with fail
            go_region
            go_wp2_with fail
            have HE := take_end (w1 := w6) (G2 := w.heap.size + 1) (G3 := w.heap.size + 1 + 1) (j := 2) (u := .slice A2 l2.length c2) (a := .int .u8 (k : Int)) (b := .int .u64 0) (c := .slice A2 l2.length c2) (d := .int .u64 (most : Int)) (t := 30) HZ6.out (by omega)
            have hmE := HE.2
            have e1 : takeF l ⟨k, n, bl, most⟩ = some (⟨k, 0, l2, most⟩, l.drop (kk + v)) := by
              have h := take4_some (n := n) (bl := bl) H0.out H1.out H2.out H3.out HR.out
              rwa [← HL2.out, List.drop_drop] at h
            refine bodyPost_ret (results_c2 (P := Try.prog) rfl _ _ (w.heap.size + 1) _ _ (0, 0) _ rfl (show _ = _ from HE.1) Try.underlying30 rfl (by kernel_rfl)) rfl ?_
            unfold TookR toldF leftF
            rw [e1]
            have hmD := hmE.trans (Mod.drew (fun _ => False) _) (S := fun i => i = w.heap.size + 1 ∨ i = w.heap.size + 1 + 1) (fun _ _ h => h) (fun _ _ h => h.elim)
            refine ⟨A2, c2, _, _, b2, by simp only [List.length_drop, HL.out]; rfl, Bs.modne s2 hmD (fun _ h => by omega), ?_, by simp only [List.length_drop, HL.out]; omega, by simp only [maxLen]; omega, below_drew (hb7.trans (hmE.below hb7.size (fun i hi h => by omega))), fun _ => by omega⟩
            refine Bs.modne (S := fun i => i = w.heap.size + 1 ∨ i = w.heap.size + 1 + 1) (w := w6) ?_ hmD (fun h => by have := hbl (by rintro rfl; simp at h); omega)
            exact Bs.all _ (by have := HL.out; omega)
          · go_wp2_with fail
            go_region
            go_wp2_with fail
            have HE := take_end (w1 := w6) (G2 := w.heap.size + 1) (G3 := w.heap.size + 1 + 1) (j := 2) (u := .slice A2 l2.length c2) (a := .int .u8 (k : Int)) (b := .int .u64 0) (c := .slice A2 l2.length c2) (d := .int .u64 (most : Int)) (t := 30) HZ6.out (by omega)
            have hmE := HE.2
            have e1 : takeF l ⟨k, n, bl, most⟩ = some (⟨k, 0, l2, most⟩, l.drop (kk + v)) := by
              have h := take4_some (n := n) (bl := bl) H0.out H1.out H2.out H3.out HR.out
              rwa [← HL2.out, List.drop_drop] at h
            refine bodyPost_ret (results_c2 (P := Try.prog) rfl _ _ (w.heap.size + 1) _ _ (0, 0) _ rfl (show _ = _ from HE.1) Try.underlying30 rfl (by kernel_rfl)) rfl ?_
            unfold TookR toldF leftF
            rw [e1]
            have hmD := hmE.trans (Mod.drew (fun _ => False) _) (S := fun i => i = w.heap.size + 1 ∨ i = w.heap.size + 1 + 1) (fun _ _ h => h) (fun _ _ h => h.elim)
            refine ⟨A2, c2, _, _, b2, by simp only [List.length_drop, HL.out]; rfl, Bs.modne s2 hmD (fun _ h => by omega), ?_, by simp only [List.length_drop, HL.out]; omega, by simp only [maxLen]; omega, below_drew (hb7.trans (hmE.below hb7.size (fun i hi h => by omega))), fun _ => by omega⟩
            refine Bs.modne (S := fun i => i = w.heap.size + 1 ∨ i = w.heap.size + 1 + 1) (w := w6) ?_ hmD (fun h => by have := hbl (by rintro rfl; simp at h); omega)
            exact Bs.drop' hs6 (fun off => by rw [Addr.add_lit])
      · have HR := Lib.hid (show rdBlob l most = none by unfold rdBlob; rw [hr]; simp only; rw [if_neg (by rw [List.length_drop, HL.out]; omega)])
        clear hr
        simp only
        have hfit1 : ((n0 : Int) - (kk : Int)) < (v : Int) := by omega
        go_wp2_with fail
        have HE := set4 (a' := .int .u8 (k : Int)) (b' := .int .u64 0) (c' := .slice none 0 0) (d' := .int .u64 (most : Int)) HZ.out
        have e1 : takeF l ⟨k, n, bl, most⟩ = none := take4_none H0.out H1.out H2.out H3.out HR.out
        refine bodyPost_ret (results_c2 (P := Try.prog) rfl _ _ (w.heap.size + 1) _ _ (0, 0) _ rfl (show _ = _ from HE) Try.underlying30 rfl (by kernel_rfl)) rfl ?_
        unfold TookR toldF leftF
        rw [e1]
        exact ⟨none, 0, none, 0, 0, rfl, Sl.nil_ _ _ _, Sl.nil_ _ _ _, Nat.le_refl _, by simp [maxLen], by first | exact below4 hbe (by omega) | (refine below4 hbe ?_; omega), fun h => absurd rfl h⟩

theorem Take_calls (A0 : Option Addr) (l : List UInt8) (n0 c0 b : Nat) (f : Fld) (A : Option Addr) (c : Nat) (w : World) (hs : Bs w b A0 l) (hl : l.length = n0) (hn0 : n0 ≤ c0) (hc0 : c0 ≤ maxLen) (hf : f.Ok) (h47 : n0 ≤ 1000000) :
    Calls Try.prog 18 #[.slice A0 n0 c0, .agg (Fld.cells f A c).toArray] w (TookR b l f w) := by
  have hk5 : f.kind % 5 = 0 ∨ f.kind % 5 = 1 ∨ f.kind % 5 = 2 ∨ f.kind % 5 = 3 ∨ f.kind % 5 = 4 := by omega
  rcases hk5 with h | h | h | h | h
  · exact Take0_calls A0 l n0 c0 b f A c w hs hl hn0 hc0 hf h
  · exact Take1_calls A0 l n0 c0 b f A c w hs hl hn0 hc0 hf h
  · exact Take2_calls A0 l n0 c0 b f A c w hs hl hn0 hc0 hf h
  · exact Take3_calls A0 l n0 c0 b f A c w hs hl hn0 hc0 hf h
  · exact Take4_calls A0 l n0 c0 b f A c w hs hl hn0 hc0 hf h h47
end Go.Proofs.Ytokjkbbijfiloaa
