/- The reference's Take: a field off the front, as it was asked, and what is left; nothing that was there turns. Conditions: the numbers fit. -/
import Derived.Test.YtokjkbbijfiloaaOneLaw
import Derived.Test.YtokjkbbijfiloaaRefNumber
import Derived.Test.YtokjkbbijfiloaaRefCut
namespace Go.Proofs.Ytokjkbbijfiloaa
open Go.RowKit

/-- What it says. -/
def TookR (b : Nat) (l : List UInt8) (f : Fld) (w : World) (e : Ending) (w' : World) : Prop :=
  ∃ A c A' c' bt, e = .returned (.tuple #[.agg (Fld.cells (toldF l f) A c).toArray, .slice A' (leftF l f).length c', .bool (takeF l f).isSome]) ∧ Bs w' bt A (toldF l f).b ∧ Bs w' b A' (leftF l f) ∧ (leftF l f).length ≤ c' ∧ c' ≤ maxLen ∧ Below w.heap.size w w' ∧ ((toldF l f).b ≠ [] → w.heap.size ≤ bt)

theorem results_c2 {P : Program} {fn : Func} {p t u : Tmp} {ty : TypeId} (h : fn.results = #[.cell p ty, .tmp t, .tmp u]) (tmps : Array Value) (w : World) (g : Nat) (tt : TypeId) (cs : Array Value) (fr : Nat × Nat) (d : TypeDesc)
    (hp : tmps.getD p undef = .pointer (some ⟨g, 0, none⟩)) (hg : w.heap[g]? = some (.cells cs tt fr))
    (hu : P.underlying ty = some d) (hd : (match d with | .struct _ | .array _ _ => true | _ => false) = true) (hi : (P.info? ty).map (·.size) = some cs.size) :
    (results fn tmps).run P w = .ok (.tuple #[.agg cs, tmps.getD t undef, tmps.getD u undef]) w := by
  have hp' : tmps[p]?.getD undef = .pointer (some ⟨g, 0, none⟩) := by simpa using hp
  simp [results, h, hp', asAddr, run_loadVar_row w g tt ty cs fr d hg hu hd hi]
theorem Sl.drop' {w : World} {b k : Nat} {A : Option Addr} {xs : List Value} {g : Addr → Addr} (h : Sl w b A xs) (hg : ∀ off, g ⟨b, off, none⟩ = ⟨b, off + k, none⟩) : Sl w b (A.map g) (xs.drop k) := fun hx => by
  have hk : k < xs.length := by
    rcases Nat.lt_or_ge k xs.length with h1 | h1
    · exact h1
    · exact absurd (List.drop_eq_nil_of_le h1) hx
  obtain ⟨off, rfl, hcell⟩ := h (by rintro rfl; simp at hk)
  refine ⟨off + k, by simp [hg], fun j u hu => ?_⟩
  rw [Nat.add_assoc]
  exact hcell (k + j) u (by rw [← hu, List.getElem?_drop])
theorem Bs.drop' {w : World} {b k : Nat} {A : Option Addr} {l : List UInt8} {g : Addr → Addr} (h : Bs w b A l) (hg : ∀ off, g ⟨b, off, none⟩ = ⟨b, off + k, none⟩) : Bs w b (A.map g) (l.drop k) := by
  have := Sl.drop' h hg
  rwa [bv_drop] at this
theorem Bs.all {w : World} {b : Nat} {A' : Option Addr} {l : List UInt8} (k : Nat) (h : l.length ≤ k) : Bs w b A' (l.drop k) := by
  rw [List.drop_eq_nil_of_le h]; exact Sl.nil_ _ _ _

theorem take_boxes (k n most : Nat) (A : Option Addr) (m c : Nat) (w : World) :
    ∃ W, W = ((((w.alloc (.cells #[.int .u8 (k : Int), .int .u64 (n : Int), .slice A m c, .int .u64 (most : Int)] 30)).alloc (.cells #[.int .u8 0, .int .u64 0, .slice none 0 0, .int .u64 0] 30)).alloc (.cells #[.int .u8 (k : Int), .int .u64 0, .slice none 0 0, .int .u64 (most : Int)] 30)).alloc (.cells #[.int .i64 1, .int .i64 2, .int .i64 4, .int .i64 0, .int .i64 0] 3)) ∧
      W.heap[w.heap.size]? = some (.cells #[.int .u8 (k : Int), .int .u64 (n : Int), .slice A m c, .int .u64 (most : Int)] 30 (0, 0)) ∧
      W.heap[w.heap.size + 1]? = some (.cells #[.int .u8 0, .int .u64 0, .slice none 0 0, .int .u64 0] 30 (0, 0)) ∧
      W.heap[w.heap.size + 1 + 1]? = some (.cells #[.int .u8 (k : Int), .int .u64 0, .slice none 0 0, .int .u64 (most : Int)] 30 (0, 0)) ∧ W.heap.size = w.heap.size + 4 ∧ Below w.heap.size w W := by
  refine ⟨_, rfl, ?_, ?_, ?_, by simp, by go_grown⟩
  · rw [Below.heap_alloc _ _ _ (by first | (simp; done) | (simp; omega)), Below.heap_alloc _ _ _ (by first | (simp; done) | (simp; omega)), Below.heap_alloc _ _ _ (by first | (simp; done) | (simp; omega))]
    exact heap_alloc_new w _
  · rw [Below.heap_alloc _ _ _ (by first | (simp; done) | (simp; omega)), Below.heap_alloc _ _ _ (by first | (simp; done) | (simp; omega))]
    simpa using heap_alloc_new (w.alloc (.cells #[.int .u8 (k : Int), .int .u64 (n : Int), .slice A m c, .int .u64 (most : Int)] 30)) (.cells #[.int .u8 0, .int .u64 0, .slice none 0 0, .int .u64 0] 30)
  · rw [Below.heap_alloc _ _ _ (by first | (simp; done) | (simp; omega))]
    simpa using heap_alloc_new ((w.alloc (.cells #[.int .u8 (k : Int), .int .u64 (n : Int), .slice A m c, .int .u64 (most : Int)] 30)).alloc (.cells #[.int .u8 0, .int .u64 0, .slice none 0 0, .int .u64 0] 30)) (.cells #[.int .u8 (k : Int), .int .u64 0, .slice none 0 0, .int .u64 (most : Int)] 30)

theorem take_failed (k n most : Nat) (A : Option Addr) (m c : Nat) (w : World) :
    ((((w.alloc (.cells #[.int .u8 (k : Int), .int .u64 (n : Int), .slice A m c, .int .u64 (most : Int)] 30)).alloc (.cells #[.int .u8 (k : Int), .int .u64 0, .slice none 0 0, .int .u64 (most : Int)] 30)).alloc (.cells #[.int .u8 (k : Int), .int .u64 0, .slice none 0 0, .int .u64 (most : Int)] 30)).alloc (.cells #[.int .i64 1, .int .i64 2, .int .i64 4, .int .i64 0, .int .i64 0] 3)).heap[w.heap.size + 1]? = some (.cells #[.int .u8 (k : Int), .int .u64 0, .slice none 0 0, .int .u64 (most : Int)] 30 (0, 0)) := by
  rw [Below.heap_alloc _ _ _ (by first | (simp; done) | (simp; omega)), Below.heap_alloc _ _ _ (by first | (simp; done) | (simp; omega))]
  simpa using heap_alloc_new (w.alloc (.cells #[.int .u8 (k : Int), .int .u64 (n : Int), .slice A m c, .int .u64 (most : Int)] 30)) (.cells #[.int .u8 (k : Int), .int .u64 0, .slice none 0 0, .int .u64 (most : Int)] 30)

theorem below_drew {B : Nat} {a w : World} (h : Below B a w) : Below B a w.drew := ⟨h.os, h.tape, h.output, h.size, h.block⟩

set_option maxHeartbeats 2000000 in
theorem Take0_calls (A0 : Option Addr) (l : List UInt8) (n0 c0 b : Nat) (f : Fld) (A : Option Addr) (c : Nat) (w : World) (hs : Bs w b A0 l) (hl : l.length = n0) (hn0 : n0 ≤ c0) (hc0 : c0 ≤ maxLen) (hf : f.Ok) (h : f.kind % 5 = 0) :
    Calls Try.prog 18 #[.slice A0 n0 c0, .agg (Fld.cells f A c).toArray] w (TookR b l f w) := by
  obtain ⟨k, n, bl, most⟩ := f
  obtain ⟨hk, hn, hmo⟩ := hf
  simp only [Fld.cells] at *
  unfold maxLen at hc0
  have hq : (k : Int) % 5 = 0 := by omega
  have HL := Lib.hid hl
  have H := Lib.hid h
  clear h hl
  by_cases hlt : n0 < 1
  · go_enter Try.func18, Try.ntmps18
    go_wp2_with fail
    refine bodyPost_ret (results_c2 (P := Try.prog) rfl _ _ (w.heap.size + 1) _ _ (0, 0) _ rfl (take_failed k n most A bl.length c w) Try.underlying30 rfl (by kernel_rfl)) rfl ?_
    have e1 : takeF l ⟨k, n, bl, most⟩ = none := by rw [takeF]; simp only; rw [if_pos H.out, if_pos (by have := HL.out; omega)]
    unfold TookR toldF leftF
    rw [e1]
    exact ⟨none, 0, none, 0, 0, rfl, Sl.nil_ _ _ _, Sl.nil_ _ _ _, Nat.le_refl _, by simp [maxLen], by go_grown, fun h => absurd rfl h⟩
  · go_enter Try.func18, Try.ntmps18
    go_wp2_with fail
    obtain ⟨W, hW, hF, hZ, hO, hsz, hbe⟩ := take_boxes k n most A bl.length c w
    rw [← hW]
    obtain ⟨z0, z1, z2, z3, zf0, zf1, zf2, zf3⟩ := box_all hZ
    obtain ⟨o0, o1, o2, o3, of0, of1, of2, of3⟩ := box_all hO
    have HZ := Lib.hid hZ
    have hsW := Sl.ext hs hbe
    clear hF hZ hO hsz hW
    have hst := Sl.take hsW 1
    rw [bv_take] at hst
    refine (Value_calls A0 (l.take 1) 1 c0 b _ hst (by rw [List.length_take]; have := HL.out; omega) (by omega)).mono ?_
    rintro e w5 ⟨rfl, rfl⟩
    clear hst
    by_cases hcap : c0 = 1
    · subst hcap
      obtain rfl : n0 = 1 := by omega
      go_wp2_with fail
      go_region
      go_wp2_with fail
      have HE := take_end (w1 := W) (G2 := w.heap.size + 1) (G3 := w.heap.size + 1 + 1) (j := 1) (u := .int .u64 (valN (l.take 1) : Nat)) (a := .int .u8 (k : Int)) (b := .int .u64 (valN (l.take 1) : Nat)) (c := .slice none 0 0) (d := .int .u64 (most : Int)) (t := 30) HZ.out (by omega)
      have hmE := HE.2
      have hbl : l ≠ [] → b < w.heap.size := Bs.lt hs
      have e1 : takeF l ⟨k, n, bl, most⟩ = some (⟨k, valN (l.take 1), [], most⟩, l.drop 1) := by rw [takeF]; simp only; rw [if_pos H.out, if_neg (by have := HL.out; omega)]
      refine bodyPost_ret (results_c2 (P := Try.prog) rfl _ _ (w.heap.size + 1) _ _ (0, 0) _ rfl (show _ = _ from HE.1) Try.underlying30 rfl (by kernel_rfl)) rfl ?_
      unfold TookR toldF leftF
      rw [e1]
      refine ⟨none, 0, _, _, 0, by simp only [List.length_drop, HL.out]; rfl, Sl.nil_ _ _ _, ?_, by simp only [List.length_drop, HL.out]; omega, by simp only [maxLen]; omega, below_drew (hbe.trans (hmE.below hbe.size (fun i hi h => by omega))), fun h => absurd rfl h⟩
      refine Bs.modne (S := fun i => i = w.heap.size + 1 ∨ i = w.heap.size + 1 + 1) (w := W) ?_ (hmE.trans (Mod.drew (fun _ => False) _) (fun _ _ h => h) (fun _ _ h => h.elim)) (fun h => by have := hbl (by rintro rfl; simp at h); omega)
      exact Bs.all _ (by have := HL.out; omega)
    · go_wp2_with fail
      go_region
      go_wp2_with fail
      have HE := take_end (w1 := W) (G2 := w.heap.size + 1) (G3 := w.heap.size + 1 + 1) (j := 1) (u := .int .u64 (valN (l.take 1) : Nat)) (a := .int .u8 (k : Int)) (b := .int .u64 (valN (l.take 1) : Nat)) (c := .slice none 0 0) (d := .int .u64 (most : Int)) (t := 30) HZ.out (by omega)
      have hmE := HE.2
      have hbl : l ≠ [] → b < w.heap.size := Bs.lt hs
      have e1 : takeF l ⟨k, n, bl, most⟩ = some (⟨k, valN (l.take 1), [], most⟩, l.drop 1) := by rw [takeF]; simp only; rw [if_pos H.out, if_neg (by have := HL.out; omega)]
      refine bodyPost_ret (results_c2 (P := Try.prog) rfl _ _ (w.heap.size + 1) _ _ (0, 0) _ rfl (show _ = _ from HE.1) Try.underlying30 rfl (by kernel_rfl)) rfl ?_
      unfold TookR toldF leftF
      rw [e1]
      refine ⟨none, 0, _, _, 0, by simp only [List.length_drop, HL.out]; rfl, Sl.nil_ _ _ _, ?_, by simp only [List.length_drop, HL.out]; omega, by simp only [maxLen]; omega, below_drew (hbe.trans (hmE.below hbe.size (fun i hi h => by omega))), fun h => absurd rfl h⟩
      refine Bs.modne (S := fun i => i = w.heap.size + 1 ∨ i = w.heap.size + 1 + 1) (w := W) ?_ (hmE.trans (Mod.drew (fun _ => False) _) (fun _ _ h => h) (fun _ _ h => h.elim)) (fun h => by have := hbl (by rintro rfl; simp at h); omega)
      exact Bs.drop' hsW (fun off => rfl)

set_option maxHeartbeats 2000000 in
theorem Take1_calls (A0 : Option Addr) (l : List UInt8) (n0 c0 b : Nat) (f : Fld) (A : Option Addr) (c : Nat) (w : World) (hs : Bs w b A0 l) (hl : l.length = n0) (hn0 : n0 ≤ c0) (hc0 : c0 ≤ maxLen) (hf : f.Ok) (h : f.kind % 5 = 1) :
    Calls Try.prog 18 #[.slice A0 n0 c0, .agg (Fld.cells f A c).toArray] w (TookR b l f w) := by
  obtain ⟨k, n, bl, most⟩ := f
  obtain ⟨hk, hn, hmo⟩ := hf
  simp only [Fld.cells] at *
  unfold maxLen at hc0
  have hq : (k : Int) % 5 = 1 := by omega
  have HL := Lib.hid hl
  have H := Lib.hid h
  have H0 := Lib.hid (show ¬ k % 5 = 0 by omega)
  clear h hl
  by_cases hlt : n0 < 2
  · go_enter Try.func18, Try.ntmps18
    go_wp2_with fail
    refine bodyPost_ret (results_c2 (P := Try.prog) rfl _ _ (w.heap.size + 1) _ _ (0, 0) _ rfl (take_failed k n most A bl.length c w) Try.underlying30 rfl (by kernel_rfl)) rfl ?_
    have e1 : takeF l ⟨k, n, bl, most⟩ = none := by rw [takeF]; simp only; rw [if_neg H0.out, if_pos H.out, if_pos (by have := HL.out; omega)]
    unfold TookR toldF leftF
    rw [e1]
    exact ⟨none, 0, none, 0, 0, rfl, Sl.nil_ _ _ _, Sl.nil_ _ _ _, Nat.le_refl _, by simp [maxLen], by go_grown, fun h => absurd rfl h⟩
  · go_enter Try.func18, Try.ntmps18
    go_wp2_with fail
    obtain ⟨W, hW, hF, hZ, hO, hsz, hbe⟩ := take_boxes k n most A bl.length c w
    rw [← hW]
    obtain ⟨z0, z1, z2, z3, zf0, zf1, zf2, zf3⟩ := box_all hZ
    obtain ⟨o0, o1, o2, o3, of0, of1, of2, of3⟩ := box_all hO
    have HZ := Lib.hid hZ
    have hsW := Sl.ext hs hbe
    clear hF hZ hO hsz hW
    have hst := Sl.take hsW 2
    rw [bv_take] at hst
    refine (Value_calls A0 (l.take 2) 2 c0 b _ hst (by rw [List.length_take]; have := HL.out; omega) (by omega)).mono ?_
    rintro e w5 ⟨rfl, rfl⟩
    clear hst
    by_cases hcap : c0 = 2
    · subst hcap
      obtain rfl : n0 = 2 := by omega
      go_wp2_with fail
      go_region
      go_wp2_with fail
      have HE := take_end (w1 := W) (G2 := w.heap.size + 1) (G3 := w.heap.size + 1 + 1) (j := 1) (u := .int .u64 (valN (l.take 2) : Nat)) (a := .int .u8 (k : Int)) (b := .int .u64 (valN (l.take 2) : Nat)) (c := .slice none 0 0) (d := .int .u64 (most : Int)) (t := 30) HZ.out (by omega)
      have hmE := HE.2
      have hbl : l ≠ [] → b < w.heap.size := Bs.lt hs
      have e1 : takeF l ⟨k, n, bl, most⟩ = some (⟨k, valN (l.take 2), [], most⟩, l.drop 2) := by rw [takeF]; simp only; rw [if_neg H0.out, if_pos H.out, if_neg (by have := HL.out; omega)]
      refine bodyPost_ret (results_c2 (P := Try.prog) rfl _ _ (w.heap.size + 1) _ _ (0, 0) _ rfl (show _ = _ from HE.1) Try.underlying30 rfl (by kernel_rfl)) rfl ?_
      unfold TookR toldF leftF
      rw [e1]
      refine ⟨none, 0, _, _, 0, by simp only [List.length_drop, HL.out]; rfl, Sl.nil_ _ _ _, ?_, by simp only [List.length_drop, HL.out]; omega, by simp only [maxLen]; omega, below_drew (hbe.trans (hmE.below hbe.size (fun i hi h => by omega))), fun h => absurd rfl h⟩
      refine Bs.modne (S := fun i => i = w.heap.size + 1 ∨ i = w.heap.size + 1 + 1) (w := W) ?_ (hmE.trans (Mod.drew (fun _ => False) _) (fun _ _ h => h) (fun _ _ h => h.elim)) (fun h => by have := hbl (by rintro rfl; simp at h); omega)
      exact Bs.all _ (by have := HL.out; omega)
    · go_wp2_with fail
      go_region
      go_wp2_with fail
      have HE := take_end (w1 := W) (G2 := w.heap.size + 1) (G3 := w.heap.size + 1 + 1) (j := 1) (u := .int .u64 (valN (l.take 2) : Nat)) (a := .int .u8 (k : Int)) (b := .int .u64 (valN (l.take 2) : Nat)) (c := .slice none 0 0) (d := .int .u64 (most : Int)) (t := 30) HZ.out (by omega)
      have hmE := HE.2
      have hbl : l ≠ [] → b < w.heap.size := Bs.lt hs
      have e1 : takeF l ⟨k, n, bl, most⟩ = some (⟨k, valN (l.take 2), [], most⟩, l.drop 2) := by rw [takeF]; simp only; rw [if_neg H0.out, if_pos H.out, if_neg (by have := HL.out; omega)]
      refine bodyPost_ret (results_c2 (P := Try.prog) rfl _ _ (w.heap.size + 1) _ _ (0, 0) _ rfl (show _ = _ from HE.1) Try.underlying30 rfl (by kernel_rfl)) rfl ?_
      unfold TookR toldF leftF
      rw [e1]
      refine ⟨none, 0, _, _, 0, by simp only [List.length_drop, HL.out]; rfl, Sl.nil_ _ _ _, ?_, by simp only [List.length_drop, HL.out]; omega, by simp only [maxLen]; omega, below_drew (hbe.trans (hmE.below hbe.size (fun i hi h => by omega))), fun h => absurd rfl h⟩
      refine Bs.modne (S := fun i => i = w.heap.size + 1 ∨ i = w.heap.size + 1 + 1) (w := W) ?_ (hmE.trans (Mod.drew (fun _ => False) _) (fun _ _ h => h) (fun _ _ h => h.elim)) (fun h => by have := hbl (by rintro rfl; simp at h); omega)
      exact Bs.drop' hsW (fun off => rfl)

set_option maxHeartbeats 2000000 in
theorem Take2_calls (A0 : Option Addr) (l : List UInt8) (n0 c0 b : Nat) (f : Fld) (A : Option Addr) (c : Nat) (w : World) (hs : Bs w b A0 l) (hl : l.length = n0) (hn0 : n0 ≤ c0) (hc0 : c0 ≤ maxLen) (hf : f.Ok) (h : f.kind % 5 = 2) :
    Calls Try.prog 18 #[.slice A0 n0 c0, .agg (Fld.cells f A c).toArray] w (TookR b l f w) := by
  obtain ⟨k, n, bl, most⟩ := f
  obtain ⟨hk, hn, hmo⟩ := hf
  simp only [Fld.cells] at *
  unfold maxLen at hc0
  have hq : (k : Int) % 5 = 2 := by omega
  have HL := Lib.hid hl
  have H := Lib.hid h
  have H0 := Lib.hid (show ¬ k % 5 = 0 by omega)
  have H1 := Lib.hid (show ¬ k % 5 = 1 by omega)
  clear h hl
  by_cases hlt : n0 < 4
  · go_enter Try.func18, Try.ntmps18
    go_wp2_with fail
    refine bodyPost_ret (results_c2 (P := Try.prog) rfl _ _ (w.heap.size + 1) _ _ (0, 0) _ rfl (take_failed k n most A bl.length c w) Try.underlying30 rfl (by kernel_rfl)) rfl ?_
    have e1 : takeF l ⟨k, n, bl, most⟩ = none := by rw [takeF]; simp only; rw [if_neg H0.out, if_neg H1.out, if_pos H.out, if_pos (by have := HL.out; omega)]
    unfold TookR toldF leftF
    rw [e1]
    exact ⟨none, 0, none, 0, 0, rfl, Sl.nil_ _ _ _, Sl.nil_ _ _ _, Nat.le_refl _, by simp [maxLen], by go_grown, fun h => absurd rfl h⟩
  · go_enter Try.func18, Try.ntmps18
    go_wp2_with fail
    obtain ⟨W, hW, hF, hZ, hO, hsz, hbe⟩ := take_boxes k n most A bl.length c w
    rw [← hW]
    obtain ⟨z0, z1, z2, z3, zf0, zf1, zf2, zf3⟩ := box_all hZ
    obtain ⟨o0, o1, o2, o3, of0, of1, of2, of3⟩ := box_all hO
    have HZ := Lib.hid hZ
    have hsW := Sl.ext hs hbe
    clear hF hZ hO hsz hW
    have hst := Sl.take hsW 4
    rw [bv_take] at hst
    refine (Value_calls A0 (l.take 4) 4 c0 b _ hst (by rw [List.length_take]; have := HL.out; omega) (by omega)).mono ?_
    rintro e w5 ⟨rfl, rfl⟩
    clear hst
    by_cases hcap : c0 = 4
    · subst hcap
      obtain rfl : n0 = 4 := by omega
      go_wp2_with fail
      go_region
      go_wp2_with fail
      have HE := take_end (w1 := W) (G2 := w.heap.size + 1) (G3 := w.heap.size + 1 + 1) (j := 1) (u := .int .u64 (valN (l.take 4) : Nat)) (a := .int .u8 (k : Int)) (b := .int .u64 (valN (l.take 4) : Nat)) (c := .slice none 0 0) (d := .int .u64 (most : Int)) (t := 30) HZ.out (by omega)
      have hmE := HE.2
      have hbl : l ≠ [] → b < w.heap.size := Bs.lt hs
      have e1 : takeF l ⟨k, n, bl, most⟩ = some (⟨k, valN (l.take 4), [], most⟩, l.drop 4) := by rw [takeF]; simp only; rw [if_neg H0.out, if_neg H1.out, if_pos H.out, if_neg (by have := HL.out; omega)]
      refine bodyPost_ret (results_c2 (P := Try.prog) rfl _ _ (w.heap.size + 1) _ _ (0, 0) _ rfl (show _ = _ from HE.1) Try.underlying30 rfl (by kernel_rfl)) rfl ?_
      unfold TookR toldF leftF
      rw [e1]
      refine ⟨none, 0, _, _, 0, by simp only [List.length_drop, HL.out]; rfl, Sl.nil_ _ _ _, ?_, by simp only [List.length_drop, HL.out]; omega, by simp only [maxLen]; omega, below_drew (hbe.trans (hmE.below hbe.size (fun i hi h => by omega))), fun h => absurd rfl h⟩
      refine Bs.modne (S := fun i => i = w.heap.size + 1 ∨ i = w.heap.size + 1 + 1) (w := W) ?_ (hmE.trans (Mod.drew (fun _ => False) _) (fun _ _ h => h) (fun _ _ h => h.elim)) (fun h => by have := hbl (by rintro rfl; simp at h); omega)
      exact Bs.all _ (by have := HL.out; omega)
    · go_wp2_with fail
      go_region
      go_wp2_with fail
      have HE := take_end (w1 := W) (G2 := w.heap.size + 1) (G3 := w.heap.size + 1 + 1) (j := 1) (u := .int .u64 (valN (l.take 4) : Nat)) (a := .int .u8 (k : Int)) (b := .int .u64 (valN (l.take 4) : Nat)) (c := .slice none 0 0) (d := .int .u64 (most : Int)) (t := 30) HZ.out (by omega)
      have hmE := HE.2
      have hbl : l ≠ [] → b < w.heap.size := Bs.lt hs
      have e1 : takeF l ⟨k, n, bl, most⟩ = some (⟨k, valN (l.take 4), [], most⟩, l.drop 4) := by rw [takeF]; simp only; rw [if_neg H0.out, if_neg H1.out, if_pos H.out, if_neg (by have := HL.out; omega)]
      refine bodyPost_ret (results_c2 (P := Try.prog) rfl _ _ (w.heap.size + 1) _ _ (0, 0) _ rfl (show _ = _ from HE.1) Try.underlying30 rfl (by kernel_rfl)) rfl ?_
      unfold TookR toldF leftF
      rw [e1]
      refine ⟨none, 0, _, _, 0, by simp only [List.length_drop, HL.out]; rfl, Sl.nil_ _ _ _, ?_, by simp only [List.length_drop, HL.out]; omega, by simp only [maxLen]; omega, below_drew (hbe.trans (hmE.below hbe.size (fun i hi h => by omega))), fun h => absurd rfl h⟩
      refine Bs.modne (S := fun i => i = w.heap.size + 1 ∨ i = w.heap.size + 1 + 1) (w := W) ?_ (hmE.trans (Mod.drew (fun _ => False) _) (fun _ _ h => h) (fun _ _ h => h.elim)) (fun h => by have := hbl (by rintro rfl; simp at h); omega)
      exact Bs.drop' hsW (fun off => rfl)

end Go.Proofs.Ytokjkbbijfiloaa
