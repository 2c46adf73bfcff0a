/- A game that isn't too great, apart. Conditions: the numbers fit. -/
import Derived.Test.YtglmciklegifaaaDoorOpenG
import Derived.Test.YtglmciklegifaaaDoorGate
import Derived.Test.YtglmciklegifaaaDoorAppend
import Derived.Deep.DeepCutAuto
namespace Go.Proofs.YtglmciklegifaaaDoor
open Go.RowKit
set_option linter.unusedVariables false

/-- What few makes of it. -/
def fewG (g : Gm) : Gm := { g with L := g.L.take 55, K := g.K.take 100 }
structure StopG (p : Prop) : Prop where
  out : p
theorem stop_atG {p : Prop} (h : StopG p) : p := h.out
theorem own_slG {w : World} {B n sz : Nat} {e : TypeId} {v : Value} {xs : List Value} (h : w.ownsRow B e sz v n xs) : ∃ A c b, v = .slice A n c ∧ n ≤ c ∧ B ≤ b ∧ Sl w b A xs ∧ (∀ k, v.ownBlock = some k → k = b) := by
  rcases h.2 with ⟨rfl, rfl⟩ | ⟨g, cap, cur, rfl, hb, _, hnc, hcm, _⟩
  · have hx : xs = [] := List.eq_nil_of_length_eq_zero (by simpa using h.1)
    subst hx
    exact ⟨none, 0, B, rfl, Nat.le_refl _, Nat.le_refl _, Sl.nil_ _ _ _, by simp [Value.ownBlock]⟩
  · refine ⟨_, cap, g, rfl, hnc, hb, fun _ => ⟨0, rfl, fun j u hu => ?_⟩, by simp [Value.ownBlock]⟩
    have := h.cells (g := g) rfl j u hu
    simpa [Addr.add_lit] using this
theorem cellG_info : (Tryd.prog.info? 67).map (fun i => (i.zero, i.size, i.bytes)) = some (some (.agg #[.int .i32 0, .int .u32 0]), 2, 8) := by kernel_rfl
theorem codeG_info : (Tryd.prog.info? 71).map (fun i => (i.zero, i.size, i.bytes)) = some (some (.agg #[.int .u8 0, .int .u8 0, .int .u8 0, .int .u8 0, .int .i32 0, .int .u32 0]), 6, 12) := by kernel_rfl
theorem kvG_one (l : List Cd) : ∀ u ∈ kv l, u.oneCell' = true := by
  intro u hu
  obtain ⟨c, _, hu⟩ := List.mem_flatMap.1 hu
  simp only [cdA, List.mem_cons, List.not_mem_nil, or_false] at hu
  rcases hu with rfl | rfl | rfl | rfl | rfl | rfl <;> rfl
theorem kvG_take : ∀ (l : List Cd) (k : Nat), (kv l).take (k * 6) = kv (l.take k) := by
  intro l
  induction l with
  | nil => intro k; simp
  | cons c l ih =>
    intro k
    cases k with
    | zero => simp
    | succ k =>
      rw [kv_cons, show (k + 1) * 6 = (cdA c).toList.length + k * 6 by rw [cdA_len]; omega, List.take_length_add_append, ih, List.take_succ_cons, kv_cons]
theorem GBox.modG {w w' : World} {k : Nat} {g : Gm} {s : Gs} {S : Nat → Prop} (h : GBox w k g s) (hm : Mod S w w') (hs : ¬ S k) : GBox w' k g s := (hm.block k h.lt hs).trans h
theorem GBox.s4 {w : World} {k : Nat} {g : Gm} {s : Gs} (h : GBox w k g s) (L : List (Int × Nat)) (n : Nat) (hn : L.length = n) (A : Option Addr) (c b : Nat) : GBox (w.setCell ⟨k, 4, none⟩ (.slice A n c)) k { g with L := L } { s with A := A, c := c, b := b } := by
  unfold GBox
  rw [heap_setCell_same w k 4 _ _ _ h]
  subst hn
  rfl
theorem GBox.s5 {w : World} {k : Nat} {g : Gm} {s : Gs} (h : GBox w k g s) (K : List Cd) (n : Nat) (hn : K.length = n) (A : Option Addr) (c b : Nat) : GBox (w.setCell ⟨k, 5, none⟩ (.slice A n c)) k { g with K := K } { s with A' := A, c' := c, b' := b } := by
  unfold GBox
  rw [heap_setCell_same w k 5 _ _ _ h]
  subst hn
  rfl
theorem six_set6 {w : World} {b : Nat} {t : TypeId} {c0 c1 c2 c3 c4 c5 : Value} (v0 v1 v2 v3 v4 v5 : Value) (h : w.heap[b]? = some (.cells #[c0, c1, c2, c3, c4, c5] t (0, 0))) :
    ((((((w.setCell ⟨b, 0, none⟩ v0).setCell ⟨b, 1, none⟩ v1).setCell ⟨b, 2, none⟩ v2).setCell ⟨b, 3, none⟩ v3).setCell ⟨b, 4, none⟩ v4).setCell ⟨b, 5, none⟩ v5).heap[b]? = some (.cells #[v0, v1, v2, v3, v4, v5] t (0, 0)) ∧
    Mod (fun i => i = b) w ((((((w.setCell ⟨b, 0, none⟩ v0).setCell ⟨b, 1, none⟩ v1).setCell ⟨b, 2, none⟩ v2).setCell ⟨b, 3, none⟩ v3).setCell ⟨b, 4, none⟩ v4).setCell ⟨b, 5, none⟩ v5) := by
  have h0 := heap_setCell_same w b 0 _ _ v0 h
  have h1 := heap_setCell_same _ b 1 _ _ v1 h0
  have h2 := heap_setCell_same _ b 2 _ _ v2 h1
  have h3 := heap_setCell_same _ b 3 _ _ v3 h2
  have h4 := heap_setCell_same _ b 4 _ _ v4 h3
  have h5 := heap_setCell_same _ b 5 _ _ v5 h4
  refine ⟨h5, ?_⟩
  have id : ∀ (x : World) (i : Nat), i < x.heap.size → i = b → i = b := fun _ _ _ h => h
  exact ((((((Mod.setCell w ⟨b, 0, none⟩ v0).trans (Mod.setCell _ ⟨b, 1, none⟩ v1) (id _) (id _)).trans (Mod.setCell _ ⟨b, 2, none⟩ v2) (id _) (id _)).trans (Mod.setCell _ ⟨b, 3, none⟩ v3) (id _) (id _)).trans (Mod.setCell _ ⟨b, 4, none⟩ v4) (id _) (id _)).trans (Mod.setCell _ ⟨b, 5, none⟩ v5) (id _) (id _))
theorem fewG_raw {g : Gm} {s : Gs} (h : GRaw g s) (s' : Gs) (h1 : (fewG g).L.length ≤ s'.c) (h2 : (fewG g).K.length ≤ s'.c') : GOk (fewG g) s' :=
  ⟨h.o0, h.o1, h.p0, h.p1, h.m1, h.d1, by show (g.L.take 55).length ≤ 55; rw [List.length_take]; omega, by show (g.K.take 100).length ≤ 100; rw [List.length_take]; omega, h1, h2, okC_take h.oL 55, fun c hc => h.oK c (List.mem_of_mem_take hc)⟩
set_option maxHeartbeats 8000000 in
set_option maxRecDepth 20000 in
theorem FewG_calls (g : Gm) (s : Gs) (w : World) (hin : GIn w g s) (hraw : GRaw g s) :
    Calls Tryd.prog 10 #[.agg (gmA g s)] w fun e w' => ∃ s', e = .returned (.agg (gmA (fewG g) s')) ∧ GIn w' (fewG g) s' ∧ GOk (fewG g) s' ∧ (w.heap.size ≤ s'.b ∧ w.heap.size ≤ s'.b') ∧ Below w.heap.size w w' := by
  have hb := below_alloc2 w (.cells (gmA g s) 26) (.cells #[.int .i64 0, .int .i64 0, .int .u32 0, .int .u32 0, .slice none 0 0, .slice none 0 0] 26)
  have hin1 := hin.ext hb
  have hcL := hraw.hL
  have hcK := hraw.hK
  have hmL := hraw.lL
  have hmK := hraw.lK
  obtain ⟨K1, hK1⟩ : ∃ K, K = min g.L.length 55 := ⟨_, rfl⟩
  have m1 : (if (55 : Int) < (g.L.length : Int) then (55 : Int) else (g.L.length : Int)) = (K1 : Int) := by split <;> omega
  have m2 : min (g.L.length : Int) 55 = (K1 : Int) := by omega
  have m5 : (if (g.L.length : Int) ≤ 55 then (g.L.length : Int) else (55 : Int)) = (K1 : Int) := by split <;> omega
  obtain ⟨K2, hK2⟩ : ∃ K, K = min g.K.length 100 := ⟨_, rfl⟩
  have m3 : (if (100 : Int) < (g.K.length : Int) then (100 : Int) else (g.K.length : Int)) = (K2 : Int) := by split <;> omega
  have m4 : min (g.K.length : Int) 100 = (K2 : Int) := by omega
  have m6 : (if (g.K.length : Int) ≤ 100 then (g.K.length : Int) else (100 : Int)) = (K2 : Int) := by split <;> omega
  have hc1 : (K1 : Int) ≤ (s.c : Int) := by omega
  have hc2 : (K2 : Int) ≤ (s.c' : Int) := by omega
  have l1 : (g.L.take K1).length = K1 := by rw [List.length_take]; omega
  have l2 : (g.K.take K2).length = K2 := by rw [List.length_take]; omega
  have t1 : g.L.take 55 = g.L.take K1 := by
    rw [hK1]
    rcases Nat.le_total g.L.length 55 with h | h
    · rw [Nat.min_eq_left h, List.take_of_length_le h, List.take_length]
    · rw [Nat.min_eq_right h]
  have t2 : g.K.take 100 = g.K.take K2 := by
    rw [hK2]
    rcases Nat.le_total g.K.length 100 with h | h
    · rw [Nat.min_eq_left h, List.take_of_length_le h, List.take_length]
    · rw [Nat.min_eq_right h]
  have hf : fewG g = { g with L := g.L.take K1, K := g.K.take K2 } := by unfold fewG; rw [t1, t2]
  have hK155 : K1 ≤ 55 := by omega
  have hK2100 : K2 ≤ 100 := by omega
  have HOKK := Lib.hid (fun s' => fewG_raw hraw s')
  rw [hf] at HOKK ⊢
  simp only [maxLen] at hmL hmK
  have ha3 := below_alloc1 ((w.alloc (.cells (gmA g s) 26)).alloc (.cells #[.int .i64 0, .int .i64 0, .int .u32 0, .int .u32 0, .slice none 0 0, .slice none 0 0] 26)) (.cells #[] 67)
  have hs1 : Sl (((w.alloc (.cells (gmA g s) 26)).alloc (.cells #[.int .i64 0, .int .i64 0, .int .u32 0, .int .u32 0, .slice none 0 0, .slice none 0 0] 26)).alloc (.cells #[] 67)) s.b s.A (cv (g.L.take K1)) := by
    have h1 := Sl.take (Sl.ext hin1.sc ha3) (K1 * 2)
    rwa [cv_take] at h1
  have ho1 : World.ownsRow (((w.alloc (.cells (gmA g s) 26)).alloc (.cells #[.int .i64 0, .int .i64 0, .int .u32 0, .int .u32 0, .slice none 0 0, .slice none 0 0] 26)).alloc (.cells #[] 67)) (w.heap.size + 1 + 1) 67 2 (.slice (some ⟨w.heap.size + 1 + 1, 0, none⟩) 0 0) 0 [] := by
    have h := World.ownsRow_made ((w.alloc (.cells (gmA g s) 26)).alloc (.cells #[.int .i64 0, .int .i64 0, .int .u32 0, .int .u32 0, .slice none 0 0, .slice none 0 0] 26)) (e := 67) (size := 2) #[] 0 (Nat.le_refl _) (by simp [maxLen]) rfl
    rw [World.size_alloc, World.size_alloc] at h
    exact h
  have q1 : GBox (((w.alloc (.cells (gmA g s) 26)).alloc (.cells #[.int .i64 0, .int .i64 0, .int .u32 0, .int .u32 0, .slice none 0 0, .slice none 0 0] 26)).alloc (.cells #[] 67)) w.heap.size g s := ((GBox.new_ w g s).ext (below_alloc1 _ _)).ext ha3
  have q2 : GBox (((w.alloc (.cells (gmA g s) 26)).alloc (.cells #[.int .i64 0, .int .i64 0, .int .u32 0, .int .u32 0, .slice none 0 0, .slice none 0 0] 26)).alloc (.cells #[] 67)) (w.heap.size + 1) ⟨0, 0, 0, 0, [], []⟩ ⟨none, 0, 0, none, 0, 0⟩ := by
    have h := GBox.new_ (w.alloc (.cells (gmA g s) 26)) ⟨0, 0, 0, 0, [], []⟩ ⟨none, 0, 0, none, 0, 0⟩
    rw [World.size_alloc] at h
    exact h.ext ha3
  have hbb := hb.trans (ha3.mono hb.size)
  have hin3 := hin1.ext ha3
  obtain ⟨i0, hi0, hz0, hz1, hz2⟩ := info_parts cellG_info
  obtain ⟨j0, hj0, hy0, hy1, hy2⟩ := info_parts codeG_info
  have HI := Lib.hid (And.intro hi0 (And.intro hz0 (And.intro hz1 hz2)))
  have HJ := Lib.hid (And.intro hj0 (And.intro hy0 (And.intro hy1 hy2)))
  clear hK1 hK2 t1 t2 hin1 hb ha3 hf hcL hcK hi0 hz0 hz1 hz2 hj0 hy0 hy1 hy2 hraw
  have k4 := q1.c4
  go_enter Tryd.func10, Tryd.ntmps10
  go_wp2_with ((with_reducible refine at_ca 11 _ ?_); refine stop_atG ?_)
  refine ⟨?_⟩
  refine wpList_append_sl (P := Tryd.prog) _ rfl (.tmp 3) (.tmp 10) 23 rfl (w.heap.size + 1 + 1) 67 i0 _ 2 8 Tryd.underlying23 HI.out.1 HI.out.2.1 HI.out.2.2.1 HI.out.2.2.2 rfl (by omega) (.slice (some ⟨w.heap.size + 1 + 1, 0, none⟩) 0 0) 0 [] rfl ho1 s.b s.A K1 s.c (cv (g.L.take K1)) rfl hs1 (by simp [l1]) (fun hA => by have := Sl.none_len hs1 rfl hA; simp [l1] at this; omega) (cv_one _) (by simp only [maxLen]; omega) (by omega) (by simp) ?_
  intro v2 w2 hrow2 hgr2 hloc2
  rw [List.nil_append, Nat.zero_add] at hrow2
  have hm2 := Mod.of_grown hgr2
  have hsz2 := hgr2.size
  simp only [World.size_alloc] at hsz2
  have hob : ∀ i, (Value.slice (some ⟨w.heap.size + 1 + 1, 0, none⟩) 0 0).ownBlock = some i → i = w.heap.size + 1 + 1 := fun i h => by simpa [Value.ownBlock] using h.symm
  replace q1 := q1.modG hm2 (fun e => by have := hob _ e; omega)
  replace q2 := q2.modG hm2 (fun e => by have := hob _ e; omega)
  have hb2 : Below w.heap.size w w2 := hbb.trans (hm2.below hbb.size (fun i hi e => by have := hob _ e; omega))
  replace hin3 : Sl w2 s.b' s.A' (kv g.K) := Sl.ext hin.sk hb2
  obtain ⟨A5, c5, b5, rfl, hc5, hB5, hs5, hk5⟩ := own_slG hrow2
  have f4 := q1.free 4
  have k4' := q1.c4
  have hs5' : cv (g.L.take K1) = cv (g.L.take K1) := rfl
  clear hs1 ho1 hm2 hgr2 hloc2 hbb k4 HI hs5'
  go_upto_region 2 with fail
  have q3 := q1.s4 (g.L.take K1) K1 l1 A5 c5 b5
  have hsm := Mod.setCell w2 ⟨w.heap.size, 4, none⟩ (.slice A5 K1 c5)
  obtain ⟨w3, hw3⟩ : ∃ w3, w3 = w2.setCell ⟨w.heap.size, 4, none⟩ (.slice A5 K1 c5) := ⟨_, rfl⟩
  have hz3 : w3.heap.size = w2.heap.size := by rw [hw3]; simp [World.setCell]
  rw [← hw3] at q3 hsm ⊢
  replace q2 := q2.modG hsm (by show ¬ w.heap.size + 1 = w.heap.size; omega)
  replace hs5 : Sl w3 b5 A5 (cv (g.L.take K1)) := hs5.mod hsm (by show ¬ b5 = w.heap.size; omega)
  replace hb2 : Below w.heap.size w w3 := hb2.trans (hsm.below (by omega) (fun i hi e => by have e : i = w.heap.size := e; omega))
  replace hin3 : Sl w3 s.b' s.A' (kv g.K) := Sl.ext hin.sk hb2
  clear hw3 q1 f4 k4' hsm hrow2
  have ha3 := below_alloc1 w3 (.cells #[] 71)
  have hs1 : Sl (w3.alloc (.cells #[] 71)) s.b' s.A' (kv (g.K.take K2)) := by
    have h1 := Sl.take (Sl.ext hin3 ha3) (K2 * 6)
    rwa [kvG_take] at h1
  have ho1 : World.ownsRow (w3.alloc (.cells #[] 71)) w3.heap.size 71 6 (.slice (some ⟨w3.heap.size, 0, none⟩) 0 0) 0 [] :=
    World.ownsRow_made w3 (e := 71) (size := 6) #[] 0 (Nat.le_refl _) (by simp [maxLen]) rfl
  replace q3 := q3.ext ha3
  replace q2 := q2.ext ha3
  have HZ := Lib.hid hz3
  have hbz : w.heap.size ≤ w3.heap.size := hb2.size
  replace hb2 := hb2.trans (ha3.mono hbz)
  clear hin3 hz3
  have k5 := q3.c5
  simp only at k5
  go_wp2_with ((with_reducible refine at_ca 21 _ ?_); refine stop_atG ?_)
  refine ⟨?_⟩
  refine wpList_append_sl (P := Tryd.prog) _ rfl (.tmp 13) (.tmp 20) 24 rfl w3.heap.size 71 j0 _ 6 12 Tryd.underlying24 HJ.out.1 HJ.out.2.1 HJ.out.2.2.1 HJ.out.2.2.2 rfl (by omega) (.slice (some ⟨w3.heap.size, 0, none⟩) 0 0) 0 [] rfl ho1 s.b' s.A' K2 s.c' (kv (g.K.take K2)) rfl hs1 (by simp [l2]) (fun hA => by have := Sl.none_len hs1 rfl hA; simp [l2] at this; omega) (kvG_one _) (by simp only [maxLen]; omega) (by omega) (by simp) ?_
  intro v4 w4 hrow4 hgr4 hloc4
  rw [List.nil_append, Nat.zero_add] at hrow4
  have hm4 := Mod.of_grown hgr4
  have hsz4 := hgr4.size
  simp only [World.size_alloc] at hsz4
  have hob4 : ∀ i, (Value.slice (some ⟨w3.heap.size, 0, none⟩) 0 0).ownBlock = some i → i = w3.heap.size := fun i h => by simpa [Value.ownBlock] using h.symm
  have hq3 := q3.lt
  have hq2 := q2.lt
  have hz9 := HZ.out
  replace q3 := q3.modG hm4 (fun e => by have := hob4 _ e; omega)
  replace q2 := q2.modG hm4 (fun e => by have := hob4 _ e; omega)
  have hb34 : Below w3.heap.size w3 w4 := ha3.trans (hm4.below (by simp) (fun i hi e => by have := hob4 _ e; omega))
  replace hs5 : Sl w4 b5 A5 (cv (g.L.take K1)) := Sl.ext hs5 hb34
  have hb4 : Below w.heap.size w w4 := hb2.trans (hm4.below hb2.size (fun i hi e => by have := hob4 _ e; omega))
  obtain ⟨A6, c6, b6, rfl, hc6, hB6, hs6, hk6⟩ := own_slG hrow4
  have hb6 : w.heap.size + 2 < b6 := by have := HZ.out; omega
  have f5 := q3.free 5
  have k5' := q3.c5
  simp only at k5'
  clear hs1 ho1 hm4 hgr4 hloc4 hb2 k5 HJ hq3 hq2 hz9 hb34 ha3
  go_upto_region 3 with fail
  have q5 := q3.s5 (g.K.take K2) K2 l2 A6 c6 b6
  have hsm := Mod.setCell w4 ⟨w.heap.size, 5, none⟩ (.slice A6 K2 c6)
  obtain ⟨w5, hw5⟩ : ∃ w5, w5 = w4.setCell ⟨w.heap.size, 5, none⟩ (.slice A6 K2 c6) := ⟨_, rfl⟩
  rw [← hw5] at q5 hsm ⊢
  replace q2 := q2.modG hsm (by show ¬ w.heap.size + 1 = w.heap.size; omega)
  replace hs5 : Sl w5 b5 A5 (cv (g.L.take K1)) := hs5.mod hsm (by show ¬ b5 = w.heap.size; omega)
  replace hs6 : Sl w5 b6 A6 (kv (g.K.take K2)) := hs6.mod hsm (by show ¬ b6 = w.heap.size; omega)
  replace hb4 : Below w.heap.size w w5 := hb4.trans (hsm.below hb4.size (fun i hi e => by have e : i = w.heap.size := e; omega))
  clear hw5 q3 f5 k5' hsm hrow4
  have z0 := q5.c0
  have z1 := q5.c1
  have z2 := q5.c2
  have z3 := q5.c3
  have z4 := q5.c4
  have z5 := q5.c5
  have y0 := q2.c0
  have y1 := q2.c1
  have y2 := q2.c2
  have y3 := q2.c3
  have y4 := q2.c4
  have y5 := q2.c5
  have hfz := q2.free
  simp only [l1, l2] at z0 z1 z2 z3 z4 z5
  simp only at y0 y1 y2 y3 y4 y5
  go_wp2_with fail
  obtain ⟨h9, m9⟩ := six_set6 (.int .i64 g.ob) (.int .i64 g.pl) (.int .u32 (g.mv : Int)) (.int .u32 (g.df : Int)) (.slice A5 K1 c5) (.slice A6 K2 c6) q2
  refine bodyPost_ret (results_cell_row (P := Tryd.prog) rfl _ _ (w.heap.size + 1) _ _ (0, 0) _ rfl h9 Tryd.underlying26 rfl (by kernel_rfl)) rfl ?_
  have hb9 := hb4.trans (m9.below hb4.size (fun i hi e => by have e : i = w.heap.size + 1 := e; omega))
  refine ⟨⟨A5, c5, b5, A6, c6, b6⟩, ?_, ⟨?_, ?_⟩, ?_, ⟨by show w.heap.size ≤ b5; omega, by show w.heap.size ≤ b6; omega⟩, hb9⟩
  · simp only [gmA, l1, l2]
  · exact hs5.mod m9 (by show ¬ b5 = w.heap.size + 1; omega)
  · exact hs6.mod m9 (by show ¬ b6 = w.heap.size + 1; omega)
  · exact HOKK.out ⟨A5, c5, b5, A6, c6, b6⟩ (by show (g.L.take K1).length ≤ c5; rw [l1]; exact hc5) (by show (g.K.take K2).length ≤ c6; rw [l2]; exact hc6)
end Go.Proofs.YtglmciklegifaaaDoor
