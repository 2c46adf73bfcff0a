/- The reference's Take at a number: what it tells; nothing that was there turns. -/
import Derived.Test.YtokjkbbijfiloaaRefTake
namespace Go.Proofs.Ytokjkbbijfiloaa
open Go.RowKit

theorem rd_pos {i : Nat} {l : List UInt8} {v k : Nat} (h : rd i l = some (v, k)) : 0 < k := by
  cases l with
  | nil => cases h
  | cons x t =>
    rw [rd] at h
    split at h
    · split at h
      · cases h
      · injection h with h; injection h with _ h; omega
    · split at h
      · cases h
      · obtain ⟨y, _, he⟩ := Option.map_eq_some_iff.1 h
        injection he with _ he
        omega
theorem below4 {w W : World} {g B : Nat} {a b c d : Value} (h : Below B w W) (hg : B ≤ g) : Below B w ((((W.setCell ⟨g, 0, none⟩ a).setCell ⟨g, 1, none⟩ b).setCell ⟨g, 2, none⟩ c).setCell ⟨g, 3, none⟩ d) :=
  (((h.setCell hg _).setCell hg _).setCell hg _).setCell hg _

set_option maxHeartbeats 2000000 in
theorem Take3_calls (A0 : Option Addr) (l : List UInt8) (n0 c0 b : Nat) (f : Fld) (A : Option Addr) (c : Nat) (w : World) (hs : Bs w b A0 l) (hl : l.length = n0) (hn0 : n0 ≤ c0) (hc0 : c0 ≤ maxLen) (hf : f.Ok) (h : f.kind % 5 = 3) :
    Calls Try.prog 18 #[.slice A0 n0 c0, .agg (Fld.cells f A c).toArray] w (TookR b l f w) := by
  obtain ⟨k, n, bl, most⟩ := f
  obtain ⟨hk, hn, hmo⟩ := hf
  simp only [Fld.cells] at *
  unfold maxLen at hc0
  have hq : (k : Int) % 5 = 3 := by omega
  have HL := Lib.hid hl
  have H := Lib.hid h
  have H0 := Lib.hid (show ¬ k % 5 = 0 by omega)
  have H1 := Lib.hid (show ¬ k % 5 = 1 by omega)
  have H2 := Lib.hid (show ¬ k % 5 = 2 by omega)
  clear h hl
  go_enter Try.func18, Try.ntmps18
  go_wp2_with fail
  obtain ⟨W, hW, hF, hZ, hO, hsz, hbe⟩ := take_boxes k n most A bl.length c w
  rw [← hW]
  obtain ⟨z0, z1, z2, z3, zf0, zf1, zf2, zf3⟩ := box_all hZ
  obtain ⟨o0, o1, o2, o3, of0, of1, of2, of3⟩ := box_all hO
  obtain ⟨x0, x1, x2, x3, _, _, _, _⟩ := box_all hF
  have HZ := Lib.hid hZ
  have HO := Lib.hid hO
  have HSZ := Lib.hid hsz
  have hsW := Sl.ext hs hbe
  clear hF hZ hO hsz hW
  have hbl : l ≠ [] → b < w.heap.size := Bs.lt hs
  refine (number_ref A0 l n0 c0 b _ hsW HL.out (by unfold maxLen; omega)).mono ?_
  rintro e w5 ⟨rfl, rfl⟩
  rcases hr : rd 0 l with _ | ⟨v, kk⟩
  · rw [numberF_none hr]
    have HR := Lib.hid hr
    clear hr
    go_wp2_with fail
    have HE := set4 (a' := .int .u8 (k : Int)) (b' := .int .u64 0) (c' := .slice none 0 0) (d' := .int .u64 (most : Int)) HZ.out
    have e1 : takeF l ⟨k, n, bl, most⟩ = none := take3_none H0.out H1.out H2.out H.out (fun ⟨v, kk, h, _⟩ => by rw [HR.out] at h; cases h)
    refine bodyPost_ret (results_c2 (P := Try.prog) rfl _ _ (w.heap.size + 1) _ _ (0, 0) _ rfl (show _ = _ from HE) Try.underlying30 rfl (by kernel_rfl)) rfl ?_
    unfold TookR toldF leftF
    rw [e1]
    exact ⟨none, 0, none, 0, 0, rfl, Sl.nil_ _ _ _, Sl.nil_ _ _ _, Nat.le_refl _, by simp [maxLen], by first | exact below4 hbe (by omega) | (refine below4 hbe ?_; omega), fun h => absurd rfl h⟩
  · rw [numberF_some hr]
    have hkp := rd_pos hr
    obtain ⟨_, _, hkl⟩ := rd_inv 9 0 l v kk rfl hr
    rw [HL.out] at hkl
    have hk0 : ((kk : Int) == 0) = false := by simp; omega
    have HR := Lib.hid hr
    clear hr
    by_cases hvm : most < v
    · simp only
      go_wp2_with fail
      have HE := set4 (a' := .int .u8 (k : Int)) (b' := .int .u64 0) (c' := .slice none 0 0) (d' := .int .u64 (most : Int)) HZ.out
      have e1 : takeF l ⟨k, n, bl, most⟩ = none := take3_none H0.out H1.out H2.out H.out (fun ⟨v', kk', h, hle⟩ => by rw [HR.out] at h; injection h with h; injection h with h1 h2; omega)
      refine bodyPost_ret (results_c2 (P := Try.prog) rfl _ _ (w.heap.size + 1) _ _ (0, 0) _ rfl (show _ = _ from HE) Try.underlying30 rfl (by kernel_rfl)) rfl ?_
      unfold TookR toldF leftF
      rw [e1]
      exact ⟨none, 0, none, 0, 0, rfl, Sl.nil_ _ _ _, Sl.nil_ _ _ _, Nat.le_refl _, by simp [maxLen], by first | exact below4 hbe (by omega) | (refine below4 hbe ?_; omega), fun h => absurd rfl h⟩
    · simp only
      by_cases hcap : c0 = kk
      · subst hcap
        obtain rfl : n0 = c0 := by omega
        go_wp2_with fail
        go_region
        go_wp2_with fail
        have HE := take_end (w1 := W) (G2 := w.heap.size + 1) (G3 := w.heap.size + 1 + 1) (j := 1) (u := .int .u64 (v : Int)) (a := .int .u8 (k : Int)) (b := .int .u64 (v : Int)) (c := .slice none 0 0) (d := .int .u64 (most : Int)) (t := 30) HZ.out (by omega)
        have hmE := HE.2
        have e1 : takeF l ⟨k, n, bl, most⟩ = some (⟨k, v, [], most⟩, l.drop n0) := take3_some H0.out H1.out H2.out H.out HR.out (by omega)
        refine bodyPost_ret (results_c2 (P := Try.prog) rfl _ _ (w.heap.size + 1) _ _ (0, 0) _ rfl (show _ = _ from HE.1) Try.underlying30 rfl (by kernel_rfl)) rfl ?_
        unfold TookR toldF leftF
        rw [e1]
        refine ⟨none, 0, _, _, 0, by simp only [List.length_drop, HL.out, Nat.sub_self]; rfl, Sl.nil_ _ _ _, ?_, by simp only [List.length_drop, HL.out]; omega, by simp only [maxLen]; omega, below_drew (hbe.trans (hmE.below hbe.size (fun i hi h => by omega))), fun h => absurd rfl h⟩
        refine Bs.modne (S := fun i => i = w.heap.size + 1 ∨ i = w.heap.size + 1 + 1) (w := W) ?_ (hmE.trans (Mod.drew (fun _ => False) _) (fun _ _ h => h) (fun _ _ h => h.elim)) (fun h => by have := hbl (by rintro rfl; simp at h); omega)
        exact Bs.all _ (by have := HL.out; omega)
      · go_wp2_with fail
        go_region
        go_wp2_with fail
        have HE := take_end (w1 := W) (G2 := w.heap.size + 1) (G3 := w.heap.size + 1 + 1) (j := 1) (u := .int .u64 (v : Int)) (a := .int .u8 (k : Int)) (b := .int .u64 (v : Int)) (c := .slice none 0 0) (d := .int .u64 (most : Int)) (t := 30) HZ.out (by omega)
        have hmE := HE.2
        have e1 : takeF l ⟨k, n, bl, most⟩ = some (⟨k, v, [], most⟩, l.drop kk) := take3_some H0.out H1.out H2.out H.out HR.out (by omega)
        refine bodyPost_ret (results_c2 (P := Try.prog) rfl _ _ (w.heap.size + 1) _ _ (0, 0) _ rfl (show _ = _ from HE.1) Try.underlying30 rfl (by kernel_rfl)) rfl ?_
        unfold TookR toldF leftF
        rw [e1]
        refine ⟨none, 0, _, _, 0, by simp only [List.length_drop, HL.out]; rfl, Sl.nil_ _ _ _, ?_, by simp only [List.length_drop, HL.out]; omega, by simp only [maxLen]; omega, below_drew (hbe.trans (hmE.below hbe.size (fun i hi h => by omega))), fun h => absurd rfl h⟩
        refine Bs.modne (S := fun i => i = w.heap.size + 1 ∨ i = w.heap.size + 1 + 1) (w := W) ?_ (hmE.trans (Mod.drew (fun _ => False) _) (fun _ _ h => h) (fun _ _ h => h.elim)) (fun h => by have := hbl (by rintro rfl; simp at h); omega)
        exact Bs.drop' hsW (fun off => by rw [Addr.add_lit])
end Go.Proofs.Ytokjkbbijfiloaa
