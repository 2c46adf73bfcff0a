/- Parts of one proof, in their order. -/
import Derived.Test.YtnbbglhpjpebhaaDoorZTrBase04
import Derived.Deep.QuietTactic
/- follow: moves; what is shown. Conditions: the instruction may be; the numbers fit. -/
namespace Go.Proofs.YtnbbglhpjpebhaaDoor
open Go.RowKit

theorem of_one (o : Int) : withN 0 [o] = aloneN o := by simp [withN]
theorem ix_new1 (w : World) (x : Int) (t : TypeId) : Sl (w.alloc (.cells #[.int .i64 x] t)) w.heap.size (some ⟨w.heap.size, 0, none⟩) (iz [x]) := Sl.cells_new w _ t
theorem BoxK.al {w : World} {g : Nat} {c : Cd} (h : BoxK w g c) (o : Obj) : BoxK (w.alloc o) g c := h.ext (below_alloc1 _ _)

set_option maxHeartbeats 4000000 in
set_option maxRecDepth 20000 in
theorem follow_move (b : Nat) (r : Option Nat) (B N : Nat) (X : MX) (s : VS) (a bb cc : Nat) (k : Nat) (m : Nat) (w : World) (h : MAt w b r B X s) (_hv : VOk X s N) (ha : a < 8) (A : Option Addr) (ps : List Int) (nn cap bm : Nat) (hmv : X.mv = .slice A nn cap) (hs : Is w bm A ps) (hps : ps.length = nn) (hk : k < nn) (hnn : nn ≤ 100) (hbm : bm ≠ b) :
    Calls Tryd.prog 58 #[.pointer (some ⟨b, 0, none⟩), .agg (cdA ⟨21, a, bb, cc, (k : Int), m⟩)] w fun e w' => e = .returned (.tuple #[]) ∧ ∃ r', MAt w' b r' B X (s.setR a (ps.getD k 0, aloneN k)) ∧ MS b r r' w w' := by
  obtain ⟨v, hvv⟩ : ∃ v, ps[k]? = some v := ⟨_, List.getElem?_eq_getElem (by omega)⟩
  have hgd : ps.getD k 0 = v := by simp [List.getD, hvv]
  rw [hgd]
  obtain ⟨off, rfl, hcs⟩ := hs (by intro h0; have := congrArg List.length h0; simp at this; rw [this] at hvv; simp at hvv)
  have hck := hcs k (.int .i32 v) (by simp [iv, hvv])
  have hblt := World.block_lt_of_cell? w _ hck
  have hO := fun W A2 bb2 hs2 => Of_calls A2 [(k : Int)] 1 1 bb2 W hs2 rfl (by omega)
  rw [of_one] at hO
  have hml := aloneN_lt (k : Int)
  obtain ⟨mm, hmm⟩ : ∃ mm, mm = aloneN (k : Int) := ⟨_, rfl⟩
  rw [← hmm] at hO hml ⊢
  clear hgd hvv hs hcs hps hmm
  have hckz : (w.alloc (.cells (cdA ⟨21, a, bb, cc, (k : Int), m⟩) 80)).cell? ⟨bm, off + k, none⟩ = some (.int .i32 v) := (Below.cell (below_alloc1 w _) hblt).trans hck
  have h0 := h
  obtain ⟨sh, q0, hS0, hr, hrb⟩ := h0
  have hR8 := q0.2
  have hlt := q0.lt
  have hb0 := below_alloc1 w (.cells (cdA ⟨21, a, bb, cc, (k : Int), m⟩) 80)
  have q1 := q0.alloc (.cells (cdA ⟨21, a, bb, cc, (k : Int), m⟩) 80)
  have k1 : BoxK (w.alloc (.cells (cdA ⟨21, a, bb, cc, (k : Int), m⟩) 80)) w.heap.size ⟨21, a, bb, cc, (k : Int), m⟩ := heap_alloc_new w _
  have hm1 := MM.ofB (b := b) hb0
  have h1 := h.ext hb0
  have kz0 := k1.c0
  have kz1 := k1.c1
  have kz2 := k1.c2
  have kz3 := k1.c3
  have kz4 := k1.c4
  have kz5 := k1.c5
  have ei : (a : Int) < 8 := by omega
  obtain ⟨wz, hwz⟩ : ∃ wz, wz = w.alloc (.cells (cdA ⟨21, a, bb, cc, (k : Int), m⟩) 80) := ⟨_, rfl⟩
  clear h
  go_enter Tryd.func58, Tryd.ntmps58
  go_wp2_with fail
  rw [← hwz] at hckz hb0 q1 k1 hm1 h1 kz0 kz1 kz2 kz3 kz4 kz5 ⊢
  clear hwz
  have e1 : IntKind.i64.wrap (k : Int) = (k : Int) := IntWalk.i64_in _ (by omega)
  have c5 := q1.cM
  rw [hmv] at c5
  have e3 : (k : Int) < (nn : Int) := by omega
  go_region
  have n0 := q1.cRv ha
  have n1 := q1.cRl ha
  clear hck
  go_wp2_with fail
  refine wp_region_held_drew (S := fun w' => BoxK w' w.heap.size ⟨21, a, bb, cc, (k : Int), m⟩ ∧ w'.cell? ⟨b, 121, none⟩ = some (.slice (some ⟨bm, off, none⟩) nn cap) ∧ w'.cell? ⟨bm, off + k, none⟩ = some (.int .i32 v)) (by kernel_rfl) ?_ (fun hHeld => ?_)
  · exact ⟨k1, c5, hckz⟩
  refine wpAnyH_take (i := 0) (v := ?zv0) (by simp only [List.getElem?_toArray, List.getElem?_cons_zero]; rfl) (by kernel_rfl) (by kernel_rfl) (by kernel_rfl) (by exact fun _ _ _ h => h) (Or.inl ⟨by rfl, ?zy0⟩) hHeld ?_
  case zy0 => (intro w hSw; (try dsimp only at hSw); have hy0 := hSw.1.c4; have hy1 := hSw.2.1; have hy2 := hSw.2.2; (try dsimp only at hy0); clear hSw; go_simp; try (with_reducible rfl))
  try simp only [Act.put, List.setIfInBounds_toArray, List.set_cons_zero, List.set_cons_succ]
  refine wpAnyH_take (i := 1) (v := ?zv1) (by simp only [List.getElem?_toArray, List.getElem?_cons_succ, List.getElem?_cons_zero]; rfl) (by kernel_rfl) (by kernel_rfl) (by kernel_rfl) (by exact fun _ _ _ h => h) (Or.inl ⟨by rfl, ?zy1⟩) hHeld ?_
  case zy1 => (intro w hSw; (try dsimp only at hSw); have hy0 := hSw.1.c4; have hy1 := hSw.2.1; have hy2 := hSw.2.2; (try dsimp only at hy0); clear hSw; go_simp; try (with_reducible rfl))
  try simp only [Act.put, List.setIfInBounds_toArray, List.set_cons_zero, List.set_cons_succ]
  refine wpAnyH_take (i := 2) (v := ?zv2) (by simp only [List.getElem?_toArray, List.getElem?_cons_succ, List.getElem?_cons_zero]; rfl) (by kernel_rfl) (by kernel_rfl) (by kernel_rfl) (by exact fun _ _ _ h => h) (Or.inl ⟨by rfl, ?zy2⟩) hHeld ?_
  case zy2 => (intro w hSw; (try dsimp only at hSw); have hy0 := hSw.1.c4; have hy1 := hSw.2.1; have hy2 := hSw.2.2; (try dsimp only at hy0); clear hSw; go_simp; try (with_reducible rfl))
  try simp only [Act.put, List.setIfInBounds_toArray, List.set_cons_zero, List.set_cons_succ]
  refine wpAnyH_take (i := 3) (v := ?zv3) (by simp only [List.getElem?_toArray, List.getElem?_cons_succ, List.getElem?_cons_zero]; rfl) (by kernel_rfl) (by kernel_rfl) (by kernel_rfl) (by exact fun _ _ _ h => h) (Or.inl ⟨by rfl, ?zy3⟩) hHeld ?_
  case zy3 => (intro w hSw; (try dsimp only at hSw); have hy0 := hSw.1.c4; have hy1 := hSw.2.1; have hy2 := hSw.2.2; (try dsimp only at hy0); clear hSw; go_simp; try (with_reducible rfl))
  try simp only [Act.put, List.setIfInBounds_toArray, List.set_cons_zero, List.set_cons_succ]
  refine wpAnyH_take (i := 4) (v := ?zv4) (by simp only [List.getElem?_toArray, List.getElem?_cons_succ, List.getElem?_cons_zero]; rfl) (by kernel_rfl) (by kernel_rfl) (by kernel_rfl) (by exact fun _ _ _ h => h) (Or.inl ⟨by rfl, ?zy4⟩) hHeld ?_
  case zy4 => (intro w hSw; (try dsimp only at hSw); have hy0 := hSw.1.c4; have hy1 := hSw.2.1; have hy2 := hSw.2.2; (try dsimp only at hy0); clear hSw; go_simp; try (with_reducible rfl))
  try simp only [Act.put, List.setIfInBounds_toArray, List.set_cons_zero, List.set_cons_succ]
  refine wpAnyH_take (i := 5) (v := ?zv5) (by simp only [List.getElem?_toArray, List.getElem?_cons_succ, List.getElem?_cons_zero]; rfl) (by kernel_rfl) (by kernel_rfl) (by kernel_rfl) (by exact fun _ _ _ h => h) (Or.inl ⟨by rfl, ?zy5⟩) hHeld ?_
  case zy5 => (intro w hSw; (try dsimp only at hSw); have hy0 := hSw.1.c4; have hy1 := hSw.2.1; have hy2 := hSw.2.2; (try dsimp only at hy0); clear hSw; go_simp; try (with_reducible rfl))
  try simp only [Act.put, List.setIfInBounds_toArray, List.set_cons_zero, List.set_cons_succ]
  refine wpAnyH_take (i := 6) (v := ?zv6) (by simp only [List.getElem?_toArray, List.getElem?_cons_succ, List.getElem?_cons_zero]; rfl) (by kernel_rfl) (by kernel_rfl) (by kernel_rfl) (by exact fun _ _ _ h => h) (Or.inl ⟨by rfl, ?zy6⟩) hHeld ?_
  case zy6 => (intro w hSw; (try dsimp only at hSw); have hy0 := hSw.1.c4; have hy1 := hSw.2.1; have hy2 := hSw.2.2; (try dsimp only at hy0); clear hSw; go_simp; try (with_reducible rfl))
  try simp only [Act.put, List.setIfInBounds_toArray, List.set_cons_zero, List.set_cons_succ]
  refine wpAnyH_take (i := 7) (v := ?zv7) (by simp only [List.getElem?_toArray, List.getElem?_cons_succ, List.getElem?_cons_zero]; rfl) (by kernel_rfl) (by kernel_rfl) (by kernel_rfl) (by exact fun _ _ _ h => h) (Or.inl ⟨by rfl, ?zy7⟩) hHeld ?_
  case zy7 => (intro w hSw; (try dsimp only at hSw); have hy0 := hSw.1.c4; have hy1 := hSw.2.1; have hy2 := hSw.2.2; (try dsimp only at hy0); clear hSw; go_simp; try (with_reducible rfl))
  try simp only [Act.put, List.setIfInBounds_toArray, List.set_cons_zero, List.set_cons_succ]
  refine wpAnyH_take (i := 8) (v := ?zv8) (by simp only [List.getElem?_toArray, List.getElem?_cons_succ, List.getElem?_cons_zero]; rfl) (by kernel_rfl) (by kernel_rfl) (by kernel_rfl) (by exact fun _ _ _ h => h) (Or.inl ⟨by rfl, ?zy8⟩) hHeld ?_
  case zy8 => (intro w hSw; (try dsimp only at hSw); have hy0 := hSw.1.c4; have hy1 := hSw.2.1; have hy2 := hSw.2.2; (try dsimp only at hy0); clear hSw; go_simp; try (with_reducible rfl))
  try simp only [Act.put, List.setIfInBounds_toArray, List.set_cons_zero, List.set_cons_succ]
  refine wpAnyH_take (i := 9) (v := ?zv9) (by simp only [List.getElem?_toArray, List.getElem?_cons_succ, List.getElem?_cons_zero]; rfl) (by kernel_rfl) (by kernel_rfl) (by kernel_rfl) (by exact fun _ _ _ h => h) (Or.inl ⟨by rfl, ?zy9⟩) hHeld ?_
  case zy9 => (intro w hSw; (try dsimp only at hSw); have hy0 := hSw.1.c4; have hy1 := hSw.2.1; have hy2 := hSw.2.2; (try dsimp only at hy0); clear hSw; go_simp; try (with_reducible rfl))
  try simp only [Act.put, List.setIfInBounds_toArray, List.set_cons_zero, List.set_cons_succ]
  refine wpAnyH_take (i := 10) (v := ?zv10) (by simp only [List.getElem?_toArray, List.getElem?_cons_succ, List.getElem?_cons_zero]; rfl) (by kernel_rfl) (by kernel_rfl) (by kernel_rfl) (by exact fun _ _ _ h => h) (Or.inl ⟨by rfl, ?zy10⟩) hHeld ?_
  case zy10 => (intro w hSw; (try dsimp only at hSw); have hy0 := hSw.1.c4; have hy1 := hSw.2.1; have hy2 := hSw.2.2; (try dsimp only at hy0); clear hSw; go_simp; try (with_reducible rfl))
  try simp only [Act.put, List.setIfInBounds_toArray, List.set_cons_zero, List.set_cons_succ]
  refine wpAnyH_take (i := 11) (v := ?zv11) (by simp only [List.getElem?_toArray, List.getElem?_cons_succ, List.getElem?_cons_zero]; rfl) (by kernel_rfl) (by kernel_rfl) (by kernel_rfl) (by exact fun _ _ _ h => h) (Or.inl ⟨by rfl, ?zy11⟩) hHeld ?_
  case zy11 => (intro w hSw; (try dsimp only at hSw); have hy0 := hSw.1.c4; have hy1 := hSw.2.1; have hy2 := hSw.2.2; (try dsimp only at hy0); clear hSw; go_simp; try (with_reducible rfl))
  try simp only [Act.put, List.setIfInBounds_toArray, List.set_cons_zero, List.set_cons_succ]
  refine wpAnyH_ready (rs := [12]) (by kernel_rfl) (by simp) ?_
  refine AllReadyH.cons (by simp only [List.getElem?_toArray, List.getElem?_cons_succ, List.getElem?_cons_zero]; rfl) (fun KK hKK => ?_) AllReadyH.nil
  go_simp
  have q2 := q1.alloc (.cells #[.int .i64 (k : Int)] 3)
  have k2 := k1.al (.cells #[.int .i64 (k : Int)] 3)
  have hm2 := MM.al hm1 (.cells #[.int .i64 (k : Int)] 3)
  have hs2 := ix_new1 wz (k : Int) 3
  have c6 := q2.cM
  rw [hmv] at c6
  have hck2 : (wz.alloc (.cells #[.int .i64 (k : Int)] 3)).cell? ⟨bm, off + k, none⟩ = some (.int .i32 v) := (Below.cell (below_alloc1 wz _) (World.block_lt_of_cell? wz _ hckz)).trans hckz
  have c0 := q2.cRv ha
  have c1 := q2.cRl ha
  have f0 := q2.free (105 + a * 2)
  have f1 := q2.free (105 + a * 2 + 1)
  refine hKK.out _ _ ?_ (fun hHeld => ?_)
  · exact ⟨k2, c6, hck2⟩
  clear hKK KK
  try simp only [Act.put, List.setIfInBounds_toArray, List.set_cons_zero, List.set_cons_succ]
  refine wpAnyH_ready (rs := [13]) (by kernel_rfl) (by simp) ?_
  refine AllReadyH.cons (by simp only [List.getElem?_toArray, List.getElem?_cons_succ, List.getElem?_cons_zero]; rfl) (fun KK hKK => ?_) AllReadyH.nil
  go_simp
  refine (hO _ _ _ (Sl.drew (Sl.drew hs2))).mono ?_
  rintro e w6 ⟨rfl, rfl⟩
  go_wp2_with fail
  refine hKK.out _ _ ?_ (fun hHeld => ?_)
  · exact ⟨k2, c6, hck2⟩
  clear hKK KK
  try simp only [Act.put, List.setIfInBounds_toArray, List.set_cons_zero, List.set_cons_succ]
  refine wpAnyH_take (i := 14) (v := ?zv14) (by simp only [List.getElem?_toArray, List.getElem?_cons_succ, List.getElem?_cons_zero]; rfl) (by kernel_rfl) (by kernel_rfl) (by kernel_rfl) (by exact fun _ _ _ h => h) (Or.inl ⟨by rfl, ?zy14⟩) hHeld ?_
  case zy14 => (intro w hSw; (try dsimp only at hSw); have hy0 := hSw.1.c4; have hy1 := hSw.2.1; have hy2 := hSw.2.2; (try dsimp only at hy0); clear hSw; go_simp; try (with_reducible rfl))
  try simp only [Act.put, List.setIfInBounds_toArray, List.set_cons_zero, List.set_cons_succ]
  refine wpAnyH_take (i := 15) (v := ?zv15) (by simp only [List.getElem?_toArray, List.getElem?_cons_succ, List.getElem?_cons_zero]; rfl) (by kernel_rfl) (by kernel_rfl) (by kernel_rfl) (by exact fun _ _ _ h => h) (Or.inl ⟨by rfl, ?zy15⟩) hHeld ?_
  case zy15 => (intro w hSw; (try dsimp only at hSw); have hy0 := hSw.1.c4; have hy1 := hSw.2.1; have hy2 := hSw.2.2; (try dsimp only at hy0); clear hSw; go_simp; try (with_reducible rfl))
  try simp only [Act.put, List.setIfInBounds_toArray, List.set_cons_zero, List.set_cons_succ]
  refine wpAnyH_ready (rs := [16]) (by kernel_rfl) (by simp) ?_
  refine AllReadyH.cons (by simp only [List.getElem?_toArray, List.getElem?_cons_succ, List.getElem?_cons_zero]; rfl) (fun KK hKK => ?_) AllReadyH.nil
  go_simp
  have q4 := q2.sR ha (v, mm)
  have hm4 := (hm2.cell (105 + a * 2) (.int .i32 v)).cell (105 + a * 2 + 1) (.int .u32 (mm : Int))
  have k4 : BoxK (((wz.alloc (.cells #[.int .i64 (k : Int)] 3)).setCell ⟨b, 105 + a * 2, none⟩ (.int .i32 v)).setCell ⟨b, 105 + a * 2 + 1, none⟩ (.int .u32 (mm : Int))) w.heap.size ⟨21, a, bb, cc, (k : Int), m⟩ := k2.mod (((MM.refl_ b _).cell (105 + a * 2) (.int .i32 v)).cell (105 + a * 2 + 1) (.int .u32 (mm : Int))) (by omega)
  have c7 := q4.cM
  rw [hmv] at c7
  have hck4 : (((wz.alloc (.cells #[.int .i64 (k : Int)] 3)).setCell ⟨b, 105 + a * 2, none⟩ (.int .i32 v)).setCell ⟨b, 105 + a * 2 + 1, none⟩ (.int .u32 (mm : Int))).cell? ⟨bm, off + k, none⟩ = some (.int .i32 v) := (World.cell?_of_block ((((MM.refl_ b (wz.alloc (.cells #[.int .i64 (k : Int)] 3))).cell (105 + a * 2) (.int .i32 v)).cell (105 + a * 2 + 1) (.int .u32 (mm : Int))).block bm (World.block_lt_of_cell? _ _ hck2) hbm)).trans hck2
  refine hKK.out _ _ ?_ (fun hHeld => ?_)
  · exact ⟨k4, c7, hck4⟩
  clear hKK KK
  try simp only [Act.put, List.setIfInBounds_toArray, List.set_cons_zero, List.set_cons_succ]
  refine wpAnyH_done (by kernel_rfl) ?_ _
  go_wp2_with fail
  go_end0
  exact ⟨rfl, r, MAt.back hS0 hr hrb q4 hm4.dr.dr rfl, hm4.dr.dr.ms r⟩
set_option maxHeartbeats 4000000 in
set_option maxRecDepth 20000 in
theorem follow_reveal (b : Nat) (r : Option Nat) (B N : Nat) (X : MX) (s : VS) (a bb cc : Nat) (n : Int) (m : Nat) (w : World) (h : MAt w b r B X s) (hv : VOk X s N) (ha : a < 8) (hb8 : bb < 8) (hn0 : -2147483648 ≤ n) (hn1 : n ≤ 2147483647) (hm : m ≤ 4294967295) (hB : B ≤ w.heap.size) (hp : (s.place X.al ⟨22, a, bb, cc, n, m⟩).1 = 0) :
    Calls Tryd.prog 58 #[.pointer (some ⟨b, 0, none⟩), .agg (cdA ⟨22, a, bb, cc, n, m⟩)] w fun e w' => e = .returned (.tuple #[]) ∧ ∃ r', MAt w' b r' B X (s.reveal (s.place X.al ⟨22, a, bb, cc, n, m⟩).2 (m &&& X.al)) ∧ MS b r r' w w' := by
  have hpl := place_lt hp
  have hP0 := fun W h => place_calls b r B X s ⟨22, a, bb, cc, n, m⟩ W h hv.okR hv.al (by rw [hv.L]; exact hv.N48) hb8 hn0 hn1
  rw [hp] at hP0
  obtain ⟨PI, hPI⟩ : ∃ PI, PI = (s.place X.al ⟨22, a, bb, cc, n, m⟩).2 := ⟨_, rfl⟩
  rw [← hPI] at hpl hP0 ⊢
  have hP : ∀ W, MAt W b r B X s → Calls Tryd.prog 67 #[.pointer (some ⟨b, 0, none⟩), .agg #[.int .u8 22, .int .u8 (a : Int), .int .u8 (bb : Int), .int .u8 (cc : Int), .int .i32 n, .int .u32 (m : Int)]] W fun e w' => e = .returned (.tuple #[.int .i64 (PI : Int), .bool true]) ∧ MAt w' b r B X s ∧ MM b W w' := fun W h => hP0 W h
  have hMt := fun W A2 bb2 hs2 => MMeet_calls m A2 [X.al] 1 1 bb2 W (by omega) (by intro q hq; simp at hq; rw [hq]; exact hv.al) hs2 rfl (by omega)
  rw [meet_one] at hMt
  have hmk : m &&& X.al < 4294967296 := Nat.lt_of_le_of_lt Nat.and_le_left (by omega)
  obtain ⟨mk, hmk2⟩ : ∃ mk, mk = m &&& X.al := ⟨_, rfl⟩
  rw [← hmk2] at hMt hmk ⊢
  have hRv := fun W h hB => reveal_calls b r B X s PI mk W h (by rw [hv.L]; exact hv.N48) hv.okL hpl hmk hv.t hv.sh hB
  have hRl := h.rlt
  clear hP0 hPI hmk2
  have h0 := h
  obtain ⟨sh, q0, hS0, hr, hrb⟩ := h0
  have hR8 := q0.2
  have hlt := q0.lt
  have hb0 := below_alloc1 w (.cells (cdA ⟨22, a, bb, cc, n, m⟩) 80)
  have q1 := q0.alloc (.cells (cdA ⟨22, a, bb, cc, n, m⟩) 80)
  have k1 : BoxK (w.alloc (.cells (cdA ⟨22, a, bb, cc, n, m⟩) 80)) w.heap.size ⟨22, a, bb, cc, n, m⟩ := heap_alloc_new w _
  have hm1 := MM.ofB (b := b) hb0
  have h1 := h.ext hb0
  have kz0 := k1.c0
  have kz1 := k1.c1
  have kz2 := k1.c2
  have kz3 := k1.c3
  have kz4 := k1.c4
  have kz5 := k1.c5
  have ei : (a : Int) < 8 := by omega
  obtain ⟨wz, hwz⟩ : ∃ wz, wz = w.alloc (.cells (cdA ⟨22, a, bb, cc, n, m⟩) 80) := ⟨_, rfl⟩
  clear h
  go_enter Tryd.func58, Tryd.ntmps58
  go_wp2_with fail
  rw [← hwz] at hb0 q1 k1 hm1 h1 kz0 kz1 kz2 kz3 kz4 kz5 ⊢
  clear hwz
  go_region
  go_wp2_with fail
  refine (hP _ h1.drew).mono ?_
  rintro e w3 ⟨rfl, h3, h4⟩
  have k3 := k1.drew.mod h4 (by omega)
  have hm3 := hm1.dr.then_ h4
  obtain ⟨sh3, q3, _⟩ := h3.hB
  have a3 := q3.cA
  have hB3 := Nat.le_trans hB hm3.size
  clear hP k1 hm1 h1 h4 q1 kz0 kz1 kz2 kz3 kz4 kz5 q3
  go_wp2_with fail
  refine wp_region_held_drew (S := fun w' => BoxK w' w.heap.size ⟨22, a, bb, cc, n, m⟩ ∧ w'.cell? ⟨b, 123, none⟩ = some (.int .u32 (X.al : Int))) (by kernel_rfl) ?_ (fun hHeld => ?_)
  · exact ⟨k3, a3⟩
  refine wpAnyH_take (i := 0) (v := ?zv0) (by simp only [List.getElem?_toArray, List.getElem?_cons_zero]; rfl) (by kernel_rfl) (by kernel_rfl) (by kernel_rfl) (by exact fun _ _ _ h => h) (Or.inl ⟨by rfl, ?zy0⟩) hHeld ?_
  case zy0 => (intro w hSw; (try dsimp only at hSw); have hy0 := hSw.1.c5; have hy1 := hSw.2; (try dsimp only at hy0); clear hSw; go_simp; try (with_reducible rfl))
  try simp only [Act.put, List.setIfInBounds_toArray, List.set_cons_zero, List.set_cons_succ]
  refine wpAnyH_take (i := 1) (v := ?zv1) (by simp only [List.getElem?_toArray, List.getElem?_cons_succ, List.getElem?_cons_zero]; rfl) (by kernel_rfl) (by kernel_rfl) (by kernel_rfl) (by exact fun _ _ _ h => h) (Or.inl ⟨by rfl, ?zy1⟩) hHeld ?_
  case zy1 => (intro w hSw; (try dsimp only at hSw); have hy0 := hSw.1.c5; have hy1 := hSw.2; (try dsimp only at hy0); clear hSw; go_simp; try (with_reducible rfl))
  try simp only [Act.put, List.setIfInBounds_toArray, List.set_cons_zero, List.set_cons_succ]
  refine wpAnyH_take (i := 2) (v := ?zv2) (by simp only [List.getElem?_toArray, List.getElem?_cons_succ, List.getElem?_cons_zero]; rfl) (by kernel_rfl) (by kernel_rfl) (by kernel_rfl) (by exact fun _ _ _ h => h) (Or.inl ⟨by rfl, ?zy2⟩) hHeld ?_
  case zy2 => (intro w hSw; (try dsimp only at hSw); have hy0 := hSw.1.c5; have hy1 := hSw.2; (try dsimp only at hy0); clear hSw; go_simp; try (with_reducible rfl))
  try simp only [Act.put, List.setIfInBounds_toArray, List.set_cons_zero, List.set_cons_succ]
  refine wpAnyH_take (i := 3) (v := ?zv3) (by simp only [List.getElem?_toArray, List.getElem?_cons_succ, List.getElem?_cons_zero]; rfl) (by kernel_rfl) (by kernel_rfl) (by kernel_rfl) (by exact fun _ _ _ h => h) (Or.inl ⟨by rfl, ?zy3⟩) hHeld ?_
  case zy3 => (intro w hSw; (try dsimp only at hSw); have hy0 := hSw.1.c5; have hy1 := hSw.2; (try dsimp only at hy0); clear hSw; go_simp; try (with_reducible rfl))
  try simp only [Act.put, List.setIfInBounds_toArray, List.set_cons_zero, List.set_cons_succ]
  refine wpAnyH_take (i := 4) (v := ?zv4) (by simp only [List.getElem?_toArray, List.getElem?_cons_succ, List.getElem?_cons_zero]; rfl) (by kernel_rfl) (by kernel_rfl) (by kernel_rfl) (by exact fun _ _ _ h => h) (Or.inl ⟨by rfl, ?zy4⟩) hHeld ?_
  case zy4 => (intro w hSw; (try dsimp only at hSw); have hy0 := hSw.1.c5; have hy1 := hSw.2; (try dsimp only at hy0); clear hSw; go_simp; try (with_reducible rfl))
  try simp only [Act.put, List.setIfInBounds_toArray, List.set_cons_zero, List.set_cons_succ]
  refine wpAnyH_take (i := 5) (v := ?zv5) (by simp only [List.getElem?_toArray, List.getElem?_cons_succ, List.getElem?_cons_zero]; rfl) (by kernel_rfl) (by kernel_rfl) (by kernel_rfl) (by exact fun _ _ _ h => h) (Or.inl ⟨by rfl, ?zy5⟩) hHeld ?_
  case zy5 => (intro w hSw; (try dsimp only at hSw); have hy0 := hSw.1.c5; have hy1 := hSw.2; (try dsimp only at hy0); clear hSw; go_simp; try (with_reducible rfl))
  try simp only [Act.put, List.setIfInBounds_toArray, List.set_cons_zero, List.set_cons_succ]
  refine wpAnyH_take (i := 6) (v := ?zv6) (by simp only [List.getElem?_toArray, List.getElem?_cons_succ, List.getElem?_cons_zero]; rfl) (by kernel_rfl) (by kernel_rfl) (by kernel_rfl) (by exact fun _ _ _ h => h) (Or.inl ⟨by rfl, ?zy6⟩) hHeld ?_
  case zy6 => (intro w hSw; (try dsimp only at hSw); have hy0 := hSw.1.c5; have hy1 := hSw.2; (try dsimp only at hy0); clear hSw; go_simp; try (with_reducible rfl))
  try simp only [Act.put, List.setIfInBounds_toArray, List.set_cons_zero, List.set_cons_succ]
  refine wpAnyH_take (i := 7) (v := ?zv7) (by simp only [List.getElem?_toArray, List.getElem?_cons_succ, List.getElem?_cons_zero]; rfl) (by kernel_rfl) (by kernel_rfl) (by kernel_rfl) (by exact fun _ _ _ h => h) (Or.inl ⟨by rfl, ?zy7⟩) hHeld ?_
  case zy7 => (intro w hSw; (try dsimp only at hSw); have hy0 := hSw.1.c5; have hy1 := hSw.2; (try dsimp only at hy0); clear hSw; go_simp; try (with_reducible rfl))
  try simp only [Act.put, List.setIfInBounds_toArray, List.set_cons_zero, List.set_cons_succ]
  refine wpAnyH_ready (rs := [8]) (by kernel_rfl) (by simp) ?_
  refine AllReadyH.cons (by simp only [List.getElem?_toArray, List.getElem?_cons_succ, List.getElem?_cons_zero]; rfl) (fun KK hKK => ?_) AllReadyH.nil
  go_simp
  have h5 := h3.ext (below_alloc1 w3 (.cells #[.int .u32 (X.al : Int)] 31))
  have k5 := k3.al (.cells #[.int .u32 (X.al : Int)] 31)
  have hm5 := MM.al hm3 (.cells #[.int .u32 (X.al : Int)] 31)
  have hs2 := ms_new1 w3 X.al 31
  have a5 : (w3.alloc (.cells #[.int .u32 (X.al : Int)] 31)).cell? ⟨b, 123, none⟩ = some (.int .u32 (X.al : Int)) := by obtain ⟨_, q, _⟩ := h5; exact q.cA
  refine hKK.out _ _ ?_ (fun hHeld => ?_)
  · exact ⟨k5, a5⟩
  clear hKK KK
  try simp only [Act.put, List.setIfInBounds_toArray, List.set_cons_zero, List.set_cons_succ]
  refine wpAnyH_ready (rs := [9]) (by kernel_rfl) (by simp) ?_
  refine AllReadyH.cons (by simp only [List.getElem?_toArray, List.getElem?_cons_succ, List.getElem?_cons_zero]; rfl) (fun KK hKK => ?_) AllReadyH.nil
  go_simp
  refine (hMt _ _ _ (Sl.drew hs2)).mono ?_
  rintro e w6 ⟨rfl, rfl⟩
  go_wp2_with fail
  refine hKK.out _ _ ?_ (fun hHeld => ?_)
  · exact ⟨k5, a5⟩
  clear hKK KK
  try simp only [Act.put, List.setIfInBounds_toArray, List.set_cons_zero, List.set_cons_succ]
  refine wpAnyH_ready (rs := [10]) (by kernel_rfl) (by simp) ?_
  refine AllReadyH.cons (by simp only [List.getElem?_toArray, List.getElem?_cons_succ, List.getElem?_cons_zero]; rfl) (fun KK hKK => ?_) AllReadyH.nil
  go_simp
  refine (hRv _ h5.drew (Nat.le_trans hB hm5.size)).mono ?_
  rintro e w7 ⟨rfl, r', h7, h8⟩
  have a7 : w7.cell? ⟨b, 123, none⟩ = some (.int .u32 (X.al : Int)) := by obtain ⟨_, q, _⟩ := h7; exact q.cA
  have k7 : BoxK w7 w.heap.size ⟨22, a, bb, cc, n, m⟩ := k5.drew.mod h8.2 (fun h => by rcases h with h | h; omega; have := (hRl _ h).2; omega)
  have hm7 := (hm5.dr.ms r).then_ h8
  go_wp2_with fail
  refine hKK.out _ _ ?_ (fun hHeld => ?_)
  · exact ⟨k7, a7⟩
  clear hKK KK
  try simp only [Act.put, List.setIfInBounds_toArray, List.set_cons_zero, List.set_cons_succ]
  refine wpAnyH_done (by kernel_rfl) ?_ _
  go_wp2_with fail
  go_end0
  exact ⟨rfl, r', h7, hm7⟩
end Go.Proofs.YtnbbglhpjpebhaaDoor
/- follow: what becomes of two registers, of three. Conditions: the instruction may be; the numbers fit. -/
namespace Go.Proofs.YtnbbglhpjpebhaaDoor
open Go.RowKit

set_option maxHeartbeats 4000000 in
set_option maxRecDepth 20000 in
theorem follow_select (b : Nat) (r : Option Nat) (B N : Nat) (X : MX) (s : VS) (a bb cc : Nat) (n : Int) (m : Nat) (w : World) (h : MAt w b r B X s) (hv : VOk X s N) (ha : a < 8) (hb8 : bb < 8) (hc8 : cc < 8) :
    Calls Tryd.prog 58 #[.pointer (some ⟨b, 0, none⟩), .agg (cdA ⟨18, a, bb, cc, n, m⟩)] w fun e w' => e = .returned (.tuple #[]) ∧ ∃ r', MAt w' b r' B X (s.setR a ((if (s.rg a).1 ≠ 0 then (s.rg bb).1 else (s.rg cc).1), (s.rg a).2 &&& (s.rg bb).2 &&& (s.rg cc).2)) ∧ MS b r r' w w' := by
  have hR8' : s.R.length = 8 := by obtain ⟨_, q, _⟩ := h; exact q.2
  have fa := (rg_fit hv.okR hR8' ha).2
  have fb := (rg_fit hv.okR hR8' hb8).2
  have fc := (rg_fit hv.okR hR8' hc8).2
  obtain ⟨x, hx⟩ : ∃ x, x = (s.rg a).1 := ⟨_, rfl⟩
  obtain ⟨la, hla⟩ : ∃ la, la = (s.rg a).2 := ⟨_, rfl⟩
  obtain ⟨y, hy⟩ : ∃ y, y = (s.rg bb).1 := ⟨_, rfl⟩
  obtain ⟨lb, hlb⟩ : ∃ lb, lb = (s.rg bb).2 := ⟨_, rfl⟩
  obtain ⟨z, hz⟩ : ∃ z, z = (s.rg cc).1 := ⟨_, rfl⟩
  obtain ⟨lc, hlc⟩ : ∃ lc, lc = (s.rg cc).2 := ⟨_, rfl⟩
  rw [← hx, ← hy, ← hz, ← hla, ← hlb, ← hlc]
  rw [← hla] at fa
  rw [← hlb] at fb
  rw [← hlc] at fc
  have hCh := fun W => choose_calls x y z la lb lc W fa fb fc
  obtain ⟨v, hvv⟩ : ∃ v, v = (if x ≠ 0 then y else z) := ⟨_, rfl⟩
  obtain ⟨k, hkk⟩ : ∃ k, k = la &&& lb &&& lc := ⟨_, rfl⟩
  rw [← hvv, ← hkk] at hCh ⊢
  clear hvv hkk fa fb fc hR8'
  have h0 := h
  obtain ⟨sh, q0, hS0, hr, hrb⟩ := h0
  have hR8 := q0.2
  have hlt := q0.lt
  have hb0 := below_alloc1 w (.cells (cdA ⟨18, a, bb, cc, n, m⟩) 80)
  have q1 := q0.alloc (.cells (cdA ⟨18, a, bb, cc, n, m⟩) 80)
  have k1 : BoxK (w.alloc (.cells (cdA ⟨18, a, bb, cc, n, m⟩) 80)) w.heap.size ⟨18, a, bb, cc, n, m⟩ := heap_alloc_new w _
  have hm1 := MM.ofB (b := b) hb0
  have h1 := h.ext hb0
  have kz0 := k1.c0
  have kz1 := k1.c1
  have kz2 := k1.c2
  have kz3 := k1.c3
  have kz4 := k1.c4
  have kz5 := k1.c5
  have ei : (a : Int) < 8 := by omega
  obtain ⟨wz, hwz⟩ : ∃ wz, wz = w.alloc (.cells (cdA ⟨18, a, bb, cc, n, m⟩) 80) := ⟨_, rfl⟩
  clear h
  go_enter Tryd.func58, Tryd.ntmps58
  go_wp2_with fail
  rw [← hwz] at hb0 q1 k1 hm1 h1 kz0 kz1 kz2 kz3 kz4 kz5 ⊢
  clear hwz
  have eb : (bb : Int) < 8 := by omega
  have ec : (cc : Int) < 8 := by omega
  have dx := q1.cRv ha
  have dla := q1.cRl ha
  rw [← hx] at dx
  rw [← hla] at dla
  have dy := q1.cRv hb8
  have dlb := q1.cRl hb8
  rw [← hy] at dy
  rw [← hlb] at dlb
  have dz := q1.cRv hc8
  have dlc := q1.cRl hc8
  rw [← hz] at dz
  rw [← hlc] at dlc
  clear hx hy hz hla hlb hlc
  go_region
  go_wp2_with fail
  refine wp_region_held_drew (S := fun w' => BoxK w' w.heap.size ⟨18, a, bb, cc, n, m⟩) (by kernel_rfl) ?_ (fun hHeld => ?_)
  · exact k1
  refine wpAnyH_take (i := 0) (v := ?zv0) (by simp only [List.getElem?_toArray, List.getElem?_cons_zero]; rfl) (by kernel_rfl) (by kernel_rfl) (by kernel_rfl) (by exact fun _ _ _ h => h) (Or.inl ⟨by rfl, ?zy0⟩) hHeld ?_
  case zy0 => (intro w hSw; (try dsimp only at hSw); have hy2 := hSw.c2; have hy3 := hSw.c3; (try dsimp only at hy2 hy3); clear hSw; go_simp; try (with_reducible rfl))
  try simp only [Act.put, List.setIfInBounds_toArray, List.set_cons_zero, List.set_cons_succ]
  refine wpAnyH_take (i := 1) (v := ?zv1) (by simp only [List.getElem?_toArray, List.getElem?_cons_succ, List.getElem?_cons_zero]; rfl) (by kernel_rfl) (by kernel_rfl) (by kernel_rfl) (by exact fun _ _ _ h => h) (Or.inl ⟨by rfl, ?zy1⟩) hHeld ?_
  case zy1 => (intro w hSw; (try dsimp only at hSw); have hy2 := hSw.c2; have hy3 := hSw.c3; (try dsimp only at hy2 hy3); clear hSw; go_simp; try (with_reducible rfl))
  try simp only [Act.put, List.setIfInBounds_toArray, List.set_cons_zero, List.set_cons_succ]
  refine wpAnyH_take (i := 2) (v := ?zv2) (by simp only [List.getElem?_toArray, List.getElem?_cons_succ, List.getElem?_cons_zero]; rfl) (by kernel_rfl) (by kernel_rfl) (by kernel_rfl) (by exact fun _ _ _ h => h) (Or.inl ⟨by rfl, ?zy2⟩) hHeld ?_
  case zy2 => (intro w hSw; (try dsimp only at hSw); have hy2 := hSw.c2; have hy3 := hSw.c3; (try dsimp only at hy2 hy3); clear hSw; go_simp; try (with_reducible rfl))
  try simp only [Act.put, List.setIfInBounds_toArray, List.set_cons_zero, List.set_cons_succ]
  refine wpAnyH_take (i := 4) (v := ?zv4) (by simp only [List.getElem?_toArray, List.getElem?_cons_succ, List.getElem?_cons_zero]; rfl) (by kernel_rfl) (by kernel_rfl) (by kernel_rfl) (by exact fun _ _ _ h => h) (Or.inl ⟨by rfl, ?zy4⟩) hHeld ?_
  case zy4 => (intro w hSw; (try dsimp only at hSw); have hy2 := hSw.c2; have hy3 := hSw.c3; (try dsimp only at hy2 hy3); clear hSw; go_simp; try (with_reducible rfl))
  try simp only [Act.put, List.setIfInBounds_toArray, List.set_cons_zero, List.set_cons_succ]
  refine wpAnyH_take (i := 5) (v := ?zv5) (by simp only [List.getElem?_toArray, List.getElem?_cons_succ, List.getElem?_cons_zero]; rfl) (by kernel_rfl) (by kernel_rfl) (by kernel_rfl) (by exact fun _ _ _ h => h) (Or.inl ⟨by rfl, ?zy5⟩) hHeld ?_
  case zy5 => (intro w hSw; (try dsimp only at hSw); have hy2 := hSw.c2; have hy3 := hSw.c3; (try dsimp only at hy2 hy3); clear hSw; go_simp; try (with_reducible rfl))
  try simp only [Act.put, List.setIfInBounds_toArray, List.set_cons_zero, List.set_cons_succ]
  refine wpAnyH_take (i := 6) (v := ?zv6) (by simp only [List.getElem?_toArray, List.getElem?_cons_succ, List.getElem?_cons_zero]; rfl) (by kernel_rfl) (by kernel_rfl) (by kernel_rfl) (by exact fun _ _ _ h => h) (Or.inl ⟨by rfl, ?zy6⟩) hHeld ?_
  case zy6 => (intro w hSw; (try dsimp only at hSw); have hy2 := hSw.c2; have hy3 := hSw.c3; (try dsimp only at hy2 hy3); clear hSw; go_simp; try (with_reducible rfl))
  try simp only [Act.put, List.setIfInBounds_toArray, List.set_cons_zero, List.set_cons_succ]
  refine wpAnyH_take (i := 7) (v := ?zv7) (by simp only [List.getElem?_toArray, List.getElem?_cons_succ, List.getElem?_cons_zero]; rfl) (by kernel_rfl) (by kernel_rfl) (by kernel_rfl) (by exact fun _ _ _ h => h) (Or.inl ⟨by rfl, ?zy7⟩) hHeld ?_
  case zy7 => (intro w hSw; (try dsimp only at hSw); have hy2 := hSw.c2; have hy3 := hSw.c3; (try dsimp only at hy2 hy3); clear hSw; go_simp; try (with_reducible rfl))
  try simp only [Act.put, List.setIfInBounds_toArray, List.set_cons_zero, List.set_cons_succ]
  refine wpAnyH_take (i := 8) (v := ?zv8) (by simp only [List.getElem?_toArray, List.getElem?_cons_succ, List.getElem?_cons_zero]; rfl) (by kernel_rfl) (by kernel_rfl) (by kernel_rfl) (by exact fun _ _ _ h => h) (Or.inl ⟨by rfl, ?zy8⟩) hHeld ?_
  case zy8 => (intro w hSw; (try dsimp only at hSw); have hy2 := hSw.c2; have hy3 := hSw.c3; (try dsimp only at hy2 hy3); clear hSw; go_simp; try (with_reducible rfl))
  try simp only [Act.put, List.setIfInBounds_toArray, List.set_cons_zero, List.set_cons_succ]
  refine wpAnyH_take (i := 9) (v := ?zv9) (by simp only [List.getElem?_toArray, List.getElem?_cons_succ, List.getElem?_cons_zero]; rfl) (by kernel_rfl) (by kernel_rfl) (by kernel_rfl) (by exact fun _ _ _ h => h) (Or.inl ⟨by rfl, ?zy9⟩) hHeld ?_
  case zy9 => (intro w hSw; (try dsimp only at hSw); have hy2 := hSw.c2; have hy3 := hSw.c3; (try dsimp only at hy2 hy3); clear hSw; go_simp; try (with_reducible rfl))
  try simp only [Act.put, List.setIfInBounds_toArray, List.set_cons_zero, List.set_cons_succ]
  refine wpAnyH_take (i := 11) (v := ?zv11) (by simp only [List.getElem?_toArray, List.getElem?_cons_succ, List.getElem?_cons_zero]; rfl) (by kernel_rfl) (by kernel_rfl) (by kernel_rfl) (by exact fun _ _ _ h => h) (Or.inl ⟨by rfl, ?zy11⟩) hHeld ?_
  case zy11 => (intro w hSw; (try dsimp only at hSw); have hy2 := hSw.c2; have hy3 := hSw.c3; (try dsimp only at hy2 hy3); clear hSw; go_simp; try (with_reducible rfl))
  try simp only [Act.put, List.setIfInBounds_toArray, List.set_cons_zero, List.set_cons_succ]
  refine wpAnyH_take (i := 12) (v := ?zv12) (by simp only [List.getElem?_toArray, List.getElem?_cons_succ, List.getElem?_cons_zero]; rfl) (by kernel_rfl) (by kernel_rfl) (by kernel_rfl) (by exact fun _ _ _ h => h) (Or.inl ⟨by rfl, ?zy12⟩) hHeld ?_
  case zy12 => (intro w hSw; (try dsimp only at hSw); have hy2 := hSw.c2; have hy3 := hSw.c3; (try dsimp only at hy2 hy3); clear hSw; go_simp; try (with_reducible rfl))
  try simp only [Act.put, List.setIfInBounds_toArray, List.set_cons_zero, List.set_cons_succ]
  refine wpAnyH_take (i := 13) (v := ?zv13) (by simp only [List.getElem?_toArray, List.getElem?_cons_succ, List.getElem?_cons_zero]; rfl) (by kernel_rfl) (by kernel_rfl) (by kernel_rfl) (by exact fun _ _ _ h => h) (Or.inl ⟨by rfl, ?zy13⟩) hHeld ?_
  case zy13 => (intro w hSw; (try dsimp only at hSw); have hy2 := hSw.c2; have hy3 := hSw.c3; (try dsimp only at hy2 hy3); clear hSw; go_simp; try (with_reducible rfl))
  try simp only [Act.put, List.setIfInBounds_toArray, List.set_cons_zero, List.set_cons_succ]
  refine wpAnyH_take (i := 14) (v := ?zv14) (by simp only [List.getElem?_toArray, List.getElem?_cons_succ, List.getElem?_cons_zero]; rfl) (by kernel_rfl) (by kernel_rfl) (by kernel_rfl) (by exact fun _ _ _ h => h) (Or.inl ⟨by rfl, ?zy14⟩) hHeld ?_
  case zy14 => (intro w hSw; (try dsimp only at hSw); have hy2 := hSw.c2; have hy3 := hSw.c3; (try dsimp only at hy2 hy3); clear hSw; go_simp; try (with_reducible rfl))
  try simp only [Act.put, List.setIfInBounds_toArray, List.set_cons_zero, List.set_cons_succ]
  refine wpAnyH_take (i := 15) (v := ?zv15) (by simp only [List.getElem?_toArray, List.getElem?_cons_succ, List.getElem?_cons_zero]; rfl) (by kernel_rfl) (by kernel_rfl) (by kernel_rfl) (by exact fun _ _ _ h => h) (Or.inl ⟨by rfl, ?zy15⟩) hHeld ?_
  case zy15 => (intro w hSw; (try dsimp only at hSw); have hy2 := hSw.c2; have hy3 := hSw.c3; (try dsimp only at hy2 hy3); clear hSw; go_simp; try (with_reducible rfl))
  try simp only [Act.put, List.setIfInBounds_toArray, List.set_cons_zero, List.set_cons_succ]
  refine wpAnyH_take (i := 16) (v := ?zv16) (by simp only [List.getElem?_toArray, List.getElem?_cons_succ, List.getElem?_cons_zero]; rfl) (by kernel_rfl) (by kernel_rfl) (by kernel_rfl) (by exact fun _ _ _ h => h) (Or.inl ⟨by rfl, ?zy16⟩) hHeld ?_
  case zy16 => (intro w hSw; (try dsimp only at hSw); have hy2 := hSw.c2; have hy3 := hSw.c3; (try dsimp only at hy2 hy3); clear hSw; go_simp; try (with_reducible rfl))
  try simp only [Act.put, List.setIfInBounds_toArray, List.set_cons_zero, List.set_cons_succ]
  refine wpAnyH_ready (rs := [3, 10, 17]) (by kernel_rfl) (by simp) ?_
  refine AllReadyH.cons (by simp only [List.getElem?_toArray, List.getElem?_cons_succ, List.getElem?_cons_zero]; rfl) (fun KK hKK => ?_) (AllReadyH.cons (by simp only [List.getElem?_toArray, List.getElem?_cons_succ, List.getElem?_cons_zero]; rfl) (fun KK hKK => ?_) (AllReadyH.cons (by simp only [List.getElem?_toArray, List.getElem?_cons_succ, List.getElem?_cons_zero]; rfl) (fun KK hKK => ?_) AllReadyH.nil))
  · go_simp
    refine hKK.out _ _ ?_ (fun hHeld => ?_)
    · exact k1
    clear hKK KK
    try simp only [Act.put, List.setIfInBounds_toArray, List.set_cons_zero, List.set_cons_succ]
    refine wpAnyH_ready (rs := [10, 17]) (by kernel_rfl) (by simp) ?_
    refine AllReadyH.cons (by simp only [List.getElem?_toArray, List.getElem?_cons_succ, List.getElem?_cons_zero]; rfl) (fun KK hKK => ?_) (AllReadyH.cons (by simp only [List.getElem?_toArray, List.getElem?_cons_succ, List.getElem?_cons_zero]; rfl) (fun KK hKK => ?_) AllReadyH.nil)
    · go_simp
      refine hKK.out _ _ ?_ (fun hHeld => ?_)
      · exact k1
      clear hKK KK
      try simp only [Act.put, List.setIfInBounds_toArray, List.set_cons_zero, List.set_cons_succ]
      refine wpAnyH_ready (rs := [17]) (by kernel_rfl) (by simp) ?_
      refine AllReadyH.cons (by simp only [List.getElem?_toArray, List.getElem?_cons_succ, List.getElem?_cons_zero]; rfl) (fun KK hKK => ?_) AllReadyH.nil
      go_simp
      refine hKK.out _ _ ?_ (fun hHeld => ?_)
      · exact k1
      clear hKK KK
      try simp only [Act.put, List.setIfInBounds_toArray, List.set_cons_zero, List.set_cons_succ]
      refine wpAnyH_ready (rs := [18]) (by kernel_rfl) (by simp) ?_
      refine AllReadyH.cons (by simp only [List.getElem?_toArray, List.getElem?_cons_succ, List.getElem?_cons_zero]; rfl) (fun KK hKK => ?_) AllReadyH.nil
      go_simp
      refine (hCh _).mono ?_
      rintro e w6 ⟨rfl, h9⟩
      have h9 : Below wz.heap.size wz w6 := below_undrew2 (below_undrew2 h9)
      have q6 := q1.ext h9
      have k6 := k1.ext h9
      have hm6 := hm1.ext h9
      have c0 := q6.cRv ha
      have c1 := q6.cRl ha
      have f0 := q6.free (105 + a * 2)
      have f1 := q6.free (105 + a * 2 + 1)
      clear h9
      go_wp2_with fail
      refine hKK.out _ _ ?_ (fun hHeld => ?_)
      · exact k6
      clear hKK KK
      try simp only [Act.put, List.setIfInBounds_toArray, List.set_cons_zero, List.set_cons_succ]
      refine wpAnyH_take (i := 19) (v := ?taaqlv19) (by simp only [List.getElem?_toArray, List.getElem?_cons_succ, List.getElem?_cons_zero]; rfl) (by kernel_rfl) (by kernel_rfl) (by kernel_rfl) (by exact fun _ _ _ h => h) (Or.inl ⟨by rfl, ?taaqly19⟩) hHeld ?_
      case taaqly19 => (intro w hSw; (try dsimp only at hSw); have hy2 := hSw.c2; have hy3 := hSw.c3; (try dsimp only at hy2 hy3); clear hSw; go_simp; try (with_reducible rfl))
      try simp only [Act.put, List.setIfInBounds_toArray, List.set_cons_zero, List.set_cons_succ]
      refine wpAnyH_ready (rs := [20]) (by kernel_rfl) (by simp) ?_
      refine AllReadyH.cons (by simp only [List.getElem?_toArray, List.getElem?_cons_succ, List.getElem?_cons_zero]; rfl) (fun KK hKK => ?_) AllReadyH.nil
      go_simp
      have q7 := q6.sR ha (v, k)
      have hm7 := (hm6.cell (105 + a * 2) (.int .i32 v)).cell (105 + a * 2 + 1) (.int .u32 (k : Int))
      have k7 : BoxK ((w6.setCell ⟨b, 105 + a * 2, none⟩ (.int .i32 v)).setCell ⟨b, 105 + a * 2 + 1, none⟩ (.int .u32 (k : Int))) w.heap.size ⟨18, a, bb, cc, n, m⟩ := k6.mod (((MM.refl_ b w6).cell (105 + a * 2) (.int .i32 v)).cell (105 + a * 2 + 1) (.int .u32 (k : Int))) (by omega)
      refine hKK.out _ _ ?_ (fun hHeld => ?_)
      · exact k7
      clear hKK KK
      try simp only [Act.put, List.setIfInBounds_toArray, List.set_cons_zero, List.set_cons_succ]
      refine wpAnyH_done (by kernel_rfl) ?_ _
      go_wp2_with fail
      go_end0
      exact ⟨rfl, r, MAt.back hS0 hr hrb q7 hm7 rfl, hm7.ms r⟩
    · go_simp
      refine hKK.out _ _ ?_ (fun hHeld => ?_)
      · exact k1
      clear hKK KK
      try simp only [Act.put, List.setIfInBounds_toArray, List.set_cons_zero, List.set_cons_succ]
      refine wpAnyH_ready (rs := [10]) (by kernel_rfl) (by simp) ?_
      refine AllReadyH.cons (by simp only [List.getElem?_toArray, List.getElem?_cons_succ, List.getElem?_cons_zero]; rfl) (fun KK hKK => ?_) AllReadyH.nil
      go_simp
      refine hKK.out _ _ ?_ (fun hHeld => ?_)
      · exact k1
      clear hKK KK
      try simp only [Act.put, List.setIfInBounds_toArray, List.set_cons_zero, List.set_cons_succ]
      refine wpAnyH_ready (rs := [18]) (by kernel_rfl) (by simp) ?_
      refine AllReadyH.cons (by simp only [List.getElem?_toArray, List.getElem?_cons_succ, List.getElem?_cons_zero]; rfl) (fun KK hKK => ?_) AllReadyH.nil
      go_simp
      refine (hCh _).mono ?_
      rintro e w6 ⟨rfl, h9⟩
      have h9 : Below wz.heap.size wz w6 := below_undrew2 (below_undrew2 h9)
      have q6 := q1.ext h9
      have k6 := k1.ext h9
      have hm6 := hm1.ext h9
      have c0 := q6.cRv ha
      have c1 := q6.cRl ha
      have f0 := q6.free (105 + a * 2)
      have f1 := q6.free (105 + a * 2 + 1)
      clear h9
      go_wp2_with fail
      refine hKK.out _ _ ?_ (fun hHeld => ?_)
      · exact k6
      clear hKK KK
      try simp only [Act.put, List.setIfInBounds_toArray, List.set_cons_zero, List.set_cons_succ]
      refine wpAnyH_take (i := 19) (v := ?tabqlv19) (by simp only [List.getElem?_toArray, List.getElem?_cons_succ, List.getElem?_cons_zero]; rfl) (by kernel_rfl) (by kernel_rfl) (by kernel_rfl) (by exact fun _ _ _ h => h) (Or.inl ⟨by rfl, ?tabqly19⟩) hHeld ?_
      case tabqly19 => (intro w hSw; (try dsimp only at hSw); have hy2 := hSw.c2; have hy3 := hSw.c3; (try dsimp only at hy2 hy3); clear hSw; go_simp; try (with_reducible rfl))
      try simp only [Act.put, List.setIfInBounds_toArray, List.set_cons_zero, List.set_cons_succ]
      refine wpAnyH_ready (rs := [20]) (by kernel_rfl) (by simp) ?_
      refine AllReadyH.cons (by simp only [List.getElem?_toArray, List.getElem?_cons_succ, List.getElem?_cons_zero]; rfl) (fun KK hKK => ?_) AllReadyH.nil
      go_simp
      have q7 := q6.sR ha (v, k)
      have hm7 := (hm6.cell (105 + a * 2) (.int .i32 v)).cell (105 + a * 2 + 1) (.int .u32 (k : Int))
      have k7 : BoxK ((w6.setCell ⟨b, 105 + a * 2, none⟩ (.int .i32 v)).setCell ⟨b, 105 + a * 2 + 1, none⟩ (.int .u32 (k : Int))) w.heap.size ⟨18, a, bb, cc, n, m⟩ := k6.mod (((MM.refl_ b w6).cell (105 + a * 2) (.int .i32 v)).cell (105 + a * 2 + 1) (.int .u32 (k : Int))) (by omega)
      refine hKK.out _ _ ?_ (fun hHeld => ?_)
      · exact k7
      clear hKK KK
      try simp only [Act.put, List.setIfInBounds_toArray, List.set_cons_zero, List.set_cons_succ]
      refine wpAnyH_done (by kernel_rfl) ?_ _
      go_wp2_with fail
      go_end0
      exact ⟨rfl, r, MAt.back hS0 hr hrb q7 hm7 rfl, hm7.ms r⟩
  · go_simp
    refine hKK.out _ _ ?_ (fun hHeld => ?_)
    · exact k1
    clear hKK KK
    try simp only [Act.put, List.setIfInBounds_toArray, List.set_cons_zero, List.set_cons_succ]
    refine wpAnyH_ready (rs := [3, 17]) (by kernel_rfl) (by simp) ?_
    refine AllReadyH.cons (by simp only [List.getElem?_toArray, List.getElem?_cons_succ, List.getElem?_cons_zero]; rfl) (fun KK hKK => ?_) (AllReadyH.cons (by simp only [List.getElem?_toArray, List.getElem?_cons_succ, List.getElem?_cons_zero]; rfl) (fun KK hKK => ?_) AllReadyH.nil)
    · go_simp
      refine hKK.out _ _ ?_ (fun hHeld => ?_)
      · exact k1
      clear hKK KK
      try simp only [Act.put, List.setIfInBounds_toArray, List.set_cons_zero, List.set_cons_succ]
      refine wpAnyH_ready (rs := [17]) (by kernel_rfl) (by simp) ?_
      refine AllReadyH.cons (by simp only [List.getElem?_toArray, List.getElem?_cons_succ, List.getElem?_cons_zero]; rfl) (fun KK hKK => ?_) AllReadyH.nil
      go_simp
      refine hKK.out _ _ ?_ (fun hHeld => ?_)
      · exact k1
      clear hKK KK
      try simp only [Act.put, List.setIfInBounds_toArray, List.set_cons_zero, List.set_cons_succ]
      refine wpAnyH_ready (rs := [18]) (by kernel_rfl) (by simp) ?_
      refine AllReadyH.cons (by simp only [List.getElem?_toArray, List.getElem?_cons_succ, List.getElem?_cons_zero]; rfl) (fun KK hKK => ?_) AllReadyH.nil
      go_simp
      refine (hCh _).mono ?_
      rintro e w6 ⟨rfl, h9⟩
      have h9 : Below wz.heap.size wz w6 := below_undrew2 (below_undrew2 h9)
      have q6 := q1.ext h9
      have k6 := k1.ext h9
      have hm6 := hm1.ext h9
      have c0 := q6.cRv ha
      have c1 := q6.cRl ha
      have f0 := q6.free (105 + a * 2)
      have f1 := q6.free (105 + a * 2 + 1)
      clear h9
      go_wp2_with fail
      refine hKK.out _ _ ?_ (fun hHeld => ?_)
      · exact k6
      clear hKK KK
      try simp only [Act.put, List.setIfInBounds_toArray, List.set_cons_zero, List.set_cons_succ]
      refine wpAnyH_take (i := 19) (v := ?tbaqlv19) (by simp only [List.getElem?_toArray, List.getElem?_cons_succ, List.getElem?_cons_zero]; rfl) (by kernel_rfl) (by kernel_rfl) (by kernel_rfl) (by exact fun _ _ _ h => h) (Or.inl ⟨by rfl, ?tbaqly19⟩) hHeld ?_
      case tbaqly19 => (intro w hSw; (try dsimp only at hSw); have hy2 := hSw.c2; have hy3 := hSw.c3; (try dsimp only at hy2 hy3); clear hSw; go_simp; try (with_reducible rfl))
      try simp only [Act.put, List.setIfInBounds_toArray, List.set_cons_zero, List.set_cons_succ]
      refine wpAnyH_ready (rs := [20]) (by kernel_rfl) (by simp) ?_
      refine AllReadyH.cons (by simp only [List.getElem?_toArray, List.getElem?_cons_succ, List.getElem?_cons_zero]; rfl) (fun KK hKK => ?_) AllReadyH.nil
      go_simp
      have q7 := q6.sR ha (v, k)
      have hm7 := (hm6.cell (105 + a * 2) (.int .i32 v)).cell (105 + a * 2 + 1) (.int .u32 (k : Int))
      have k7 : BoxK ((w6.setCell ⟨b, 105 + a * 2, none⟩ (.int .i32 v)).setCell ⟨b, 105 + a * 2 + 1, none⟩ (.int .u32 (k : Int))) w.heap.size ⟨18, a, bb, cc, n, m⟩ := k6.mod (((MM.refl_ b w6).cell (105 + a * 2) (.int .i32 v)).cell (105 + a * 2 + 1) (.int .u32 (k : Int))) (by omega)
      refine hKK.out _ _ ?_ (fun hHeld => ?_)
      · exact k7
      clear hKK KK
      try simp only [Act.put, List.setIfInBounds_toArray, List.set_cons_zero, List.set_cons_succ]
      refine wpAnyH_done (by kernel_rfl) ?_ _
      go_wp2_with fail
      go_end0
      exact ⟨rfl, r, MAt.back hS0 hr hrb q7 hm7 rfl, hm7.ms r⟩
    · go_simp
      refine hKK.out _ _ ?_ (fun hHeld => ?_)
      · exact k1
      clear hKK KK
      try simp only [Act.put, List.setIfInBounds_toArray, List.set_cons_zero, List.set_cons_succ]
      refine wpAnyH_ready (rs := [3]) (by kernel_rfl) (by simp) ?_
      refine AllReadyH.cons (by simp only [List.getElem?_toArray, List.getElem?_cons_succ, List.getElem?_cons_zero]; rfl) (fun KK hKK => ?_) AllReadyH.nil
      go_simp
      refine hKK.out _ _ ?_ (fun hHeld => ?_)
      · exact k1
      clear hKK KK
      try simp only [Act.put, List.setIfInBounds_toArray, List.set_cons_zero, List.set_cons_succ]
      refine wpAnyH_ready (rs := [18]) (by kernel_rfl) (by simp) ?_
      refine AllReadyH.cons (by simp only [List.getElem?_toArray, List.getElem?_cons_succ, List.getElem?_cons_zero]; rfl) (fun KK hKK => ?_) AllReadyH.nil
      go_simp
      refine (hCh _).mono ?_
      rintro e w6 ⟨rfl, h9⟩
      have h9 : Below wz.heap.size wz w6 := below_undrew2 (below_undrew2 h9)
      have q6 := q1.ext h9
      have k6 := k1.ext h9
      have hm6 := hm1.ext h9
      have c0 := q6.cRv ha
      have c1 := q6.cRl ha
      have f0 := q6.free (105 + a * 2)
      have f1 := q6.free (105 + a * 2 + 1)
      clear h9
      go_wp2_with fail
      refine hKK.out _ _ ?_ (fun hHeld => ?_)
      · exact k6
      clear hKK KK
      try simp only [Act.put, List.setIfInBounds_toArray, List.set_cons_zero, List.set_cons_succ]
      refine wpAnyH_take (i := 19) (v := ?tbbqlv19) (by simp only [List.getElem?_toArray, List.getElem?_cons_succ, List.getElem?_cons_zero]; rfl) (by kernel_rfl) (by kernel_rfl) (by kernel_rfl) (by exact fun _ _ _ h => h) (Or.inl ⟨by rfl, ?tbbqly19⟩) hHeld ?_
      case tbbqly19 => (intro w hSw; (try dsimp only at hSw); have hy2 := hSw.c2; have hy3 := hSw.c3; (try dsimp only at hy2 hy3); clear hSw; go_simp; try (with_reducible rfl))
      try simp only [Act.put, List.setIfInBounds_toArray, List.set_cons_zero, List.set_cons_succ]
      refine wpAnyH_ready (rs := [20]) (by kernel_rfl) (by simp) ?_
      refine AllReadyH.cons (by simp only [List.getElem?_toArray, List.getElem?_cons_succ, List.getElem?_cons_zero]; rfl) (fun KK hKK => ?_) AllReadyH.nil
      go_simp
      have q7 := q6.sR ha (v, k)
      have hm7 := (hm6.cell (105 + a * 2) (.int .i32 v)).cell (105 + a * 2 + 1) (.int .u32 (k : Int))
      have k7 : BoxK ((w6.setCell ⟨b, 105 + a * 2, none⟩ (.int .i32 v)).setCell ⟨b, 105 + a * 2 + 1, none⟩ (.int .u32 (k : Int))) w.heap.size ⟨18, a, bb, cc, n, m⟩ := k6.mod (((MM.refl_ b w6).cell (105 + a * 2) (.int .i32 v)).cell (105 + a * 2 + 1) (.int .u32 (k : Int))) (by omega)
      refine hKK.out _ _ ?_ (fun hHeld => ?_)
      · exact k7
      clear hKK KK
      try simp only [Act.put, List.setIfInBounds_toArray, List.set_cons_zero, List.set_cons_succ]
      refine wpAnyH_done (by kernel_rfl) ?_ _
      go_wp2_with fail
      go_end0
      exact ⟨rfl, r, MAt.back hS0 hr hrb q7 hm7 rfl, hm7.ms r⟩
  · go_simp
    refine hKK.out _ _ ?_ (fun hHeld => ?_)
    · exact k1
    clear hKK KK
    try simp only [Act.put, List.setIfInBounds_toArray, List.set_cons_zero, List.set_cons_succ]
    refine wpAnyH_ready (rs := [3, 10]) (by kernel_rfl) (by simp) ?_
    refine AllReadyH.cons (by simp only [List.getElem?_toArray, List.getElem?_cons_succ, List.getElem?_cons_zero]; rfl) (fun KK hKK => ?_) (AllReadyH.cons (by simp only [List.getElem?_toArray, List.getElem?_cons_succ, List.getElem?_cons_zero]; rfl) (fun KK hKK => ?_) AllReadyH.nil)
    · go_simp
      refine hKK.out _ _ ?_ (fun hHeld => ?_)
      · exact k1
      clear hKK KK
      try simp only [Act.put, List.setIfInBounds_toArray, List.set_cons_zero, List.set_cons_succ]
      refine wpAnyH_ready (rs := [10]) (by kernel_rfl) (by simp) ?_
      refine AllReadyH.cons (by simp only [List.getElem?_toArray, List.getElem?_cons_succ, List.getElem?_cons_zero]; rfl) (fun KK hKK => ?_) AllReadyH.nil
      go_simp
      refine hKK.out _ _ ?_ (fun hHeld => ?_)
      · exact k1
      clear hKK KK
      try simp only [Act.put, List.setIfInBounds_toArray, List.set_cons_zero, List.set_cons_succ]
      refine wpAnyH_ready (rs := [18]) (by kernel_rfl) (by simp) ?_
      refine AllReadyH.cons (by simp only [List.getElem?_toArray, List.getElem?_cons_succ, List.getElem?_cons_zero]; rfl) (fun KK hKK => ?_) AllReadyH.nil
      go_simp
      refine (hCh _).mono ?_
      rintro e w6 ⟨rfl, h9⟩
      have h9 : Below wz.heap.size wz w6 := below_undrew2 (below_undrew2 h9)
      have q6 := q1.ext h9
      have k6 := k1.ext h9
      have hm6 := hm1.ext h9
      have c0 := q6.cRv ha
      have c1 := q6.cRl ha
      have f0 := q6.free (105 + a * 2)
      have f1 := q6.free (105 + a * 2 + 1)
      clear h9
      go_wp2_with fail
      refine hKK.out _ _ ?_ (fun hHeld => ?_)
      · exact k6
      clear hKK KK
      try simp only [Act.put, List.setIfInBounds_toArray, List.set_cons_zero, List.set_cons_succ]
      refine wpAnyH_take (i := 19) (v := ?tcaqlv19) (by simp only [List.getElem?_toArray, List.getElem?_cons_succ, List.getElem?_cons_zero]; rfl) (by kernel_rfl) (by kernel_rfl) (by kernel_rfl) (by exact fun _ _ _ h => h) (Or.inl ⟨by rfl, ?tcaqly19⟩) hHeld ?_
      case tcaqly19 => (intro w hSw; (try dsimp only at hSw); have hy2 := hSw.c2; have hy3 := hSw.c3; (try dsimp only at hy2 hy3); clear hSw; go_simp; try (with_reducible rfl))
      try simp only [Act.put, List.setIfInBounds_toArray, List.set_cons_zero, List.set_cons_succ]
      refine wpAnyH_ready (rs := [20]) (by kernel_rfl) (by simp) ?_
      refine AllReadyH.cons (by simp only [List.getElem?_toArray, List.getElem?_cons_succ, List.getElem?_cons_zero]; rfl) (fun KK hKK => ?_) AllReadyH.nil
      go_simp
      have q7 := q6.sR ha (v, k)
      have hm7 := (hm6.cell (105 + a * 2) (.int .i32 v)).cell (105 + a * 2 + 1) (.int .u32 (k : Int))
      have k7 : BoxK ((w6.setCell ⟨b, 105 + a * 2, none⟩ (.int .i32 v)).setCell ⟨b, 105 + a * 2 + 1, none⟩ (.int .u32 (k : Int))) w.heap.size ⟨18, a, bb, cc, n, m⟩ := k6.mod (((MM.refl_ b w6).cell (105 + a * 2) (.int .i32 v)).cell (105 + a * 2 + 1) (.int .u32 (k : Int))) (by omega)
      refine hKK.out _ _ ?_ (fun hHeld => ?_)
      · exact k7
      clear hKK KK
      try simp only [Act.put, List.setIfInBounds_toArray, List.set_cons_zero, List.set_cons_succ]
      refine wpAnyH_done (by kernel_rfl) ?_ _
      go_wp2_with fail
      go_end0
      exact ⟨rfl, r, MAt.back hS0 hr hrb q7 hm7 rfl, hm7.ms r⟩
    · go_simp
      refine hKK.out _ _ ?_ (fun hHeld => ?_)
      · exact k1
      clear hKK KK
      try simp only [Act.put, List.setIfInBounds_toArray, List.set_cons_zero, List.set_cons_succ]
      refine wpAnyH_ready (rs := [3]) (by kernel_rfl) (by simp) ?_
      refine AllReadyH.cons (by simp only [List.getElem?_toArray, List.getElem?_cons_succ, List.getElem?_cons_zero]; rfl) (fun KK hKK => ?_) AllReadyH.nil
      go_simp
      refine hKK.out _ _ ?_ (fun hHeld => ?_)
      · exact k1
      clear hKK KK
      try simp only [Act.put, List.setIfInBounds_toArray, List.set_cons_zero, List.set_cons_succ]
      refine wpAnyH_ready (rs := [18]) (by kernel_rfl) (by simp) ?_
      refine AllReadyH.cons (by simp only [List.getElem?_toArray, List.getElem?_cons_succ, List.getElem?_cons_zero]; rfl) (fun KK hKK => ?_) AllReadyH.nil
      go_simp
      refine (hCh _).mono ?_
      rintro e w6 ⟨rfl, h9⟩
      have h9 : Below wz.heap.size wz w6 := below_undrew2 (below_undrew2 h9)
      have q6 := q1.ext h9
      have k6 := k1.ext h9
      have hm6 := hm1.ext h9
      have c0 := q6.cRv ha
      have c1 := q6.cRl ha
      have f0 := q6.free (105 + a * 2)
      have f1 := q6.free (105 + a * 2 + 1)
      clear h9
      go_wp2_with fail
      refine hKK.out _ _ ?_ (fun hHeld => ?_)
      · exact k6
      clear hKK KK
      try simp only [Act.put, List.setIfInBounds_toArray, List.set_cons_zero, List.set_cons_succ]
      refine wpAnyH_take (i := 19) (v := ?tcbqlv19) (by simp only [List.getElem?_toArray, List.getElem?_cons_succ, List.getElem?_cons_zero]; rfl) (by kernel_rfl) (by kernel_rfl) (by kernel_rfl) (by exact fun _ _ _ h => h) (Or.inl ⟨by rfl, ?tcbqly19⟩) hHeld ?_
      case tcbqly19 => (intro w hSw; (try dsimp only at hSw); have hy2 := hSw.c2; have hy3 := hSw.c3; (try dsimp only at hy2 hy3); clear hSw; go_simp; try (with_reducible rfl))
      try simp only [Act.put, List.setIfInBounds_toArray, List.set_cons_zero, List.set_cons_succ]
      refine wpAnyH_ready (rs := [20]) (by kernel_rfl) (by simp) ?_
      refine AllReadyH.cons (by simp only [List.getElem?_toArray, List.getElem?_cons_succ, List.getElem?_cons_zero]; rfl) (fun KK hKK => ?_) AllReadyH.nil
      go_simp
      have q7 := q6.sR ha (v, k)
      have hm7 := (hm6.cell (105 + a * 2) (.int .i32 v)).cell (105 + a * 2 + 1) (.int .u32 (k : Int))
      have k7 : BoxK ((w6.setCell ⟨b, 105 + a * 2, none⟩ (.int .i32 v)).setCell ⟨b, 105 + a * 2 + 1, none⟩ (.int .u32 (k : Int))) w.heap.size ⟨18, a, bb, cc, n, m⟩ := k6.mod (((MM.refl_ b w6).cell (105 + a * 2) (.int .i32 v)).cell (105 + a * 2 + 1) (.int .u32 (k : Int))) (by omega)
      refine hKK.out _ _ ?_ (fun hHeld => ?_)
      · exact k7
      clear hKK KK
      try simp only [Act.put, List.setIfInBounds_toArray, List.set_cons_zero, List.set_cons_succ]
      refine wpAnyH_done (by kernel_rfl) ?_ _
      go_wp2_with fail
      go_end0
      exact ⟨rfl, r, MAt.back hS0 hr hrb q7 hm7 rfl, hm7.ms r⟩
set_option maxHeartbeats 4000000 in
set_option maxRecDepth 20000 in
theorem follow_comb (b : Nat) (r : Option Nat) (B N : Nat) (X : MX) (s : VS) (a bb cc : Nat) (n : Int) (m : Nat) (w : World) (h : MAt w b r B X s) (hv : VOk X s N) (ha : a < 8) (comp : Nat → Int → Int → Int) (hcomp : Comp comp) (op : Nat) (h6 : 6 ≤ op) (h17 : op ≤ 17) (hX : X.cmp = .func (.func 47) #[] #[]) (hb8 : bb < 8) (hc8 : cc < 8) :
    Calls Tryd.prog 58 #[.pointer (some ⟨b, 0, none⟩), .agg (cdA ⟨op, a, bb, cc, n, m⟩)] w fun e w' => e = .returned (.tuple #[]) ∧ ∃ r', MAt w' b r' B X (s.setR a (comp op (s.rg bb).1 (s.rg cc).1, (s.rg bb).2 &&& (s.rg cc).2)) ∧ MS b r r' w w' := by
  have hR8' : s.R.length = 8 := by obtain ⟨_, q, _⟩ := h; exact q.2
  have fb := rg_fit hv.okR hR8' hb8
  have fc := rg_fit hv.okR hR8' hc8
  obtain ⟨y, hy⟩ : ∃ y, y = (s.rg bb).1 := ⟨_, rfl⟩
  obtain ⟨lb, hlb⟩ : ∃ lb, lb = (s.rg bb).2 := ⟨_, rfl⟩
  obtain ⟨z, hz⟩ : ∃ z, z = (s.rg cc).1 := ⟨_, rfl⟩
  obtain ⟨lc, hlc⟩ : ∃ lc, lc = (s.rg cc).2 := ⟨_, rfl⟩
  rw [← hy, ← hz, ← hlb, ← hlc]
  rw [← hy, ← hlb] at fb
  rw [← hz, ← hlc] at fc
  have hCh := fun W h => combine_calls comp hcomp b r B X s op y z lb lc W h hX (by omega) fb.1.1 fb.1.2 fc.1.1 fc.1.2 fb.2 fc.2
  obtain ⟨v, hvv⟩ : ∃ v, v = comp op y z := ⟨_, rfl⟩
  obtain ⟨k, hkk⟩ : ∃ k, k = lb &&& lc := ⟨_, rfl⟩
  rw [← hvv, ← hkk] at hCh ⊢
  clear hvv hkk fb fc hR8'
  have o0 : ((op : Int) == 0) = false := by rw [beq_eq_false_iff_ne]; omega
  have o1 : ((op : Int) == 1) = false := by rw [beq_eq_false_iff_ne]; omega
  have o25 : ((op : Int) == 25) = false := by rw [beq_eq_false_iff_ne]; omega
  have o2 : ((op : Int) == 2) = false := by rw [beq_eq_false_iff_ne]; omega
  have o3 : ((op : Int) == 3) = false := by rw [beq_eq_false_iff_ne]; omega
  have o4 : ((op : Int) == 4) = false := by rw [beq_eq_false_iff_ne]; omega
  have o5 : ((op : Int) == 5) = false := by rw [beq_eq_false_iff_ne]; omega
  have o18 : ((op : Int) == 18) = false := by rw [beq_eq_false_iff_ne]; omega
  have o19 : ((op : Int) == 19) = false := by rw [beq_eq_false_iff_ne]; omega
  have o20 : ((op : Int) == 20) = false := by rw [beq_eq_false_iff_ne]; omega
  have o21 : ((op : Int) == 21) = false := by rw [beq_eq_false_iff_ne]; omega
  have o22 : ((op : Int) == 22) = false := by rw [beq_eq_false_iff_ne]; omega
  have o23 : ((op : Int) == 23) = false := by rw [beq_eq_false_iff_ne]; omega
  have o24 : ((op : Int) == 24) = false := by rw [beq_eq_false_iff_ne]; omega
  have h0 := h
  obtain ⟨sh, q0, hS0, hr, hrb⟩ := h0
  have hR8 := q0.2
  have hlt := q0.lt
  have hb0 := below_alloc1 w (.cells (cdA ⟨op, a, bb, cc, n, m⟩) 80)
  have q1 := q0.alloc (.cells (cdA ⟨op, a, bb, cc, n, m⟩) 80)
  have k1 : BoxK (w.alloc (.cells (cdA ⟨op, a, bb, cc, n, m⟩) 80)) w.heap.size ⟨op, a, bb, cc, n, m⟩ := heap_alloc_new w _
  have hm1 := MM.ofB (b := b) hb0
  have h1 := h.ext hb0
  have kz0 := k1.c0
  have kz1 := k1.c1
  have kz2 := k1.c2
  have kz3 := k1.c3
  have kz4 := k1.c4
  have kz5 := k1.c5
  have ei : (a : Int) < 8 := by omega
  obtain ⟨wz, hwz⟩ : ∃ wz, wz = w.alloc (.cells (cdA ⟨op, a, bb, cc, n, m⟩) 80) := ⟨_, rfl⟩
  clear h
  go_enter Tryd.func58, Tryd.ntmps58
  go_wp2_with fail
  rw [← hwz] at hb0 q1 k1 hm1 h1 kz0 kz1 kz2 kz3 kz4 kz5 ⊢
  clear hwz
  have eb : (bb : Int) < 8 := by omega
  have ec : (cc : Int) < 8 := by omega
  have dy := q1.cRv hb8
  have dlb := q1.cRl hb8
  rw [← hy] at dy
  rw [← hlb] at dlb
  have dz := q1.cRv hc8
  have dlc := q1.cRl hc8
  rw [← hz] at dz
  rw [← hlc] at dlc
  clear hy hz hlb hlc
  go_region
  go_wp2_with fail
  refine wp_region_held_drew (S := fun w' => BoxK w' w.heap.size ⟨op, a, bb, cc, n, m⟩) (by kernel_rfl) ?_ (fun hHeld => ?_)
  · exact k1
  refine wpAnyH_take (i := 0) (v := ?zv0) (by simp only [List.getElem?_toArray, List.getElem?_cons_zero]; rfl) (by kernel_rfl) (by kernel_rfl) (by kernel_rfl) (by exact fun _ _ _ h => h) (Or.inl ⟨by rfl, ?zy0⟩) hHeld ?_
  case zy0 => (intro w hSw; (try dsimp only at hSw); have hy0 := hSw.c0; have hy2 := hSw.c2; have hy3 := hSw.c3; (try dsimp only at hy0 hy2 hy3); clear hSw; go_simp; try (with_reducible rfl))
  try simp only [Act.put, List.setIfInBounds_toArray, List.set_cons_zero, List.set_cons_succ]
  refine wpAnyH_take (i := 1) (v := ?zv1) (by simp only [List.getElem?_toArray, List.getElem?_cons_succ, List.getElem?_cons_zero]; rfl) (by kernel_rfl) (by kernel_rfl) (by kernel_rfl) (by exact fun _ _ _ h => h) (Or.inl ⟨by rfl, ?zy1⟩) hHeld ?_
  case zy1 => (intro w hSw; (try dsimp only at hSw); have hy0 := hSw.c0; have hy2 := hSw.c2; have hy3 := hSw.c3; (try dsimp only at hy0 hy2 hy3); clear hSw; go_simp; try (with_reducible rfl))
  try simp only [Act.put, List.setIfInBounds_toArray, List.set_cons_zero, List.set_cons_succ]
  refine wpAnyH_take (i := 2) (v := ?zv2) (by simp only [List.getElem?_toArray, List.getElem?_cons_succ, List.getElem?_cons_zero]; rfl) (by kernel_rfl) (by kernel_rfl) (by kernel_rfl) (by exact fun _ _ _ h => h) (Or.inl ⟨by rfl, ?zy2⟩) hHeld ?_
  case zy2 => (intro w hSw; (try dsimp only at hSw); have hy0 := hSw.c0; have hy2 := hSw.c2; have hy3 := hSw.c3; (try dsimp only at hy0 hy2 hy3); clear hSw; go_simp; try (with_reducible rfl))
  try simp only [Act.put, List.setIfInBounds_toArray, List.set_cons_zero, List.set_cons_succ]
  refine wpAnyH_take (i := 3) (v := ?zv3) (by simp only [List.getElem?_toArray, List.getElem?_cons_succ, List.getElem?_cons_zero]; rfl) (by kernel_rfl) (by kernel_rfl) (by kernel_rfl) (by exact fun _ _ _ h => h) (Or.inl ⟨by rfl, ?zy3⟩) hHeld ?_
  case zy3 => (intro w hSw; (try dsimp only at hSw); have hy0 := hSw.c0; have hy2 := hSw.c2; have hy3 := hSw.c3; (try dsimp only at hy0 hy2 hy3); clear hSw; go_simp; try (with_reducible rfl))
  try simp only [Act.put, List.setIfInBounds_toArray, List.set_cons_zero, List.set_cons_succ]
  refine wpAnyH_take (i := 4) (v := ?zv4) (by simp only [List.getElem?_toArray, List.getElem?_cons_succ, List.getElem?_cons_zero]; rfl) (by kernel_rfl) (by kernel_rfl) (by kernel_rfl) (by exact fun _ _ _ h => h) (Or.inl ⟨by rfl, ?zy4⟩) hHeld ?_
  case zy4 => (intro w hSw; (try dsimp only at hSw); have hy0 := hSw.c0; have hy2 := hSw.c2; have hy3 := hSw.c3; (try dsimp only at hy0 hy2 hy3); clear hSw; go_simp; try (with_reducible rfl))
  try simp only [Act.put, List.setIfInBounds_toArray, List.set_cons_zero, List.set_cons_succ]
  refine wpAnyH_take (i := 5) (v := ?zv5) (by simp only [List.getElem?_toArray, List.getElem?_cons_succ, List.getElem?_cons_zero]; rfl) (by kernel_rfl) (by kernel_rfl) (by kernel_rfl) (by exact fun _ _ _ h => h) (Or.inl ⟨by rfl, ?zy5⟩) hHeld ?_
  case zy5 => (intro w hSw; (try dsimp only at hSw); have hy0 := hSw.c0; have hy2 := hSw.c2; have hy3 := hSw.c3; (try dsimp only at hy0 hy2 hy3); clear hSw; go_simp; try (with_reducible rfl))
  try simp only [Act.put, List.setIfInBounds_toArray, List.set_cons_zero, List.set_cons_succ]
  refine wpAnyH_take (i := 6) (v := ?zv6) (by simp only [List.getElem?_toArray, List.getElem?_cons_succ, List.getElem?_cons_zero]; rfl) (by kernel_rfl) (by kernel_rfl) (by kernel_rfl) (by exact fun _ _ _ h => h) (Or.inl ⟨by rfl, ?zy6⟩) hHeld ?_
  case zy6 => (intro w hSw; (try dsimp only at hSw); have hy0 := hSw.c0; have hy2 := hSw.c2; have hy3 := hSw.c3; (try dsimp only at hy0 hy2 hy3); clear hSw; go_simp; try (with_reducible rfl))
  try simp only [Act.put, List.setIfInBounds_toArray, List.set_cons_zero, List.set_cons_succ]
  refine wpAnyH_take (i := 7) (v := ?zv7) (by simp only [List.getElem?_toArray, List.getElem?_cons_succ, List.getElem?_cons_zero]; rfl) (by kernel_rfl) (by kernel_rfl) (by kernel_rfl) (by exact fun _ _ _ h => h) (Or.inl ⟨by rfl, ?zy7⟩) hHeld ?_
  case zy7 => (intro w hSw; (try dsimp only at hSw); have hy0 := hSw.c0; have hy2 := hSw.c2; have hy3 := hSw.c3; (try dsimp only at hy0 hy2 hy3); clear hSw; go_simp; try (with_reducible rfl))
  try simp only [Act.put, List.setIfInBounds_toArray, List.set_cons_zero, List.set_cons_succ]
  refine wpAnyH_take (i := 8) (v := ?zv8) (by simp only [List.getElem?_toArray, List.getElem?_cons_succ, List.getElem?_cons_zero]; rfl) (by kernel_rfl) (by kernel_rfl) (by kernel_rfl) (by exact fun _ _ _ h => h) (Or.inl ⟨by rfl, ?zy8⟩) hHeld ?_
  case zy8 => (intro w hSw; (try dsimp only at hSw); have hy0 := hSw.c0; have hy2 := hSw.c2; have hy3 := hSw.c3; (try dsimp only at hy0 hy2 hy3); clear hSw; go_simp; try (with_reducible rfl))
  try simp only [Act.put, List.setIfInBounds_toArray, List.set_cons_zero, List.set_cons_succ]
  refine wpAnyH_take (i := 9) (v := ?zv9) (by simp only [List.getElem?_toArray, List.getElem?_cons_succ, List.getElem?_cons_zero]; rfl) (by kernel_rfl) (by kernel_rfl) (by kernel_rfl) (by exact fun _ _ _ h => h) (Or.inl ⟨by rfl, ?zy9⟩) hHeld ?_
  case zy9 => (intro w hSw; (try dsimp only at hSw); have hy0 := hSw.c0; have hy2 := hSw.c2; have hy3 := hSw.c3; (try dsimp only at hy0 hy2 hy3); clear hSw; go_simp; try (with_reducible rfl))
  try simp only [Act.put, List.setIfInBounds_toArray, List.set_cons_zero, List.set_cons_succ]
  refine wpAnyH_take (i := 11) (v := ?zv11) (by simp only [List.getElem?_toArray, List.getElem?_cons_succ, List.getElem?_cons_zero]; rfl) (by kernel_rfl) (by kernel_rfl) (by kernel_rfl) (by exact fun _ _ _ h => h) (Or.inl ⟨by rfl, ?zy11⟩) hHeld ?_
  case zy11 => (intro w hSw; (try dsimp only at hSw); have hy0 := hSw.c0; have hy2 := hSw.c2; have hy3 := hSw.c3; (try dsimp only at hy0 hy2 hy3); clear hSw; go_simp; try (with_reducible rfl))
  try simp only [Act.put, List.setIfInBounds_toArray, List.set_cons_zero, List.set_cons_succ]
  refine wpAnyH_take (i := 12) (v := ?zv12) (by simp only [List.getElem?_toArray, List.getElem?_cons_succ, List.getElem?_cons_zero]; rfl) (by kernel_rfl) (by kernel_rfl) (by kernel_rfl) (by exact fun _ _ _ h => h) (Or.inl ⟨by rfl, ?zy12⟩) hHeld ?_
  case zy12 => (intro w hSw; (try dsimp only at hSw); have hy0 := hSw.c0; have hy2 := hSw.c2; have hy3 := hSw.c3; (try dsimp only at hy0 hy2 hy3); clear hSw; go_simp; try (with_reducible rfl))
  try simp only [Act.put, List.setIfInBounds_toArray, List.set_cons_zero, List.set_cons_succ]
  refine wpAnyH_take (i := 13) (v := ?zv13) (by simp only [List.getElem?_toArray, List.getElem?_cons_succ, List.getElem?_cons_zero]; rfl) (by kernel_rfl) (by kernel_rfl) (by kernel_rfl) (by exact fun _ _ _ h => h) (Or.inl ⟨by rfl, ?zy13⟩) hHeld ?_
  case zy13 => (intro w hSw; (try dsimp only at hSw); have hy0 := hSw.c0; have hy2 := hSw.c2; have hy3 := hSw.c3; (try dsimp only at hy0 hy2 hy3); clear hSw; go_simp; try (with_reducible rfl))
  try simp only [Act.put, List.setIfInBounds_toArray, List.set_cons_zero, List.set_cons_succ]
  refine wpAnyH_take (i := 14) (v := ?zv14) (by simp only [List.getElem?_toArray, List.getElem?_cons_succ, List.getElem?_cons_zero]; rfl) (by kernel_rfl) (by kernel_rfl) (by kernel_rfl) (by exact fun _ _ _ h => h) (Or.inl ⟨by rfl, ?zy14⟩) hHeld ?_
  case zy14 => (intro w hSw; (try dsimp only at hSw); have hy0 := hSw.c0; have hy2 := hSw.c2; have hy3 := hSw.c3; (try dsimp only at hy0 hy2 hy3); clear hSw; go_simp; try (with_reducible rfl))
  try simp only [Act.put, List.setIfInBounds_toArray, List.set_cons_zero, List.set_cons_succ]
  refine wpAnyH_take (i := 15) (v := ?zv15) (by simp only [List.getElem?_toArray, List.getElem?_cons_succ, List.getElem?_cons_zero]; rfl) (by kernel_rfl) (by kernel_rfl) (by kernel_rfl) (by exact fun _ _ _ h => h) (Or.inl ⟨by rfl, ?zy15⟩) hHeld ?_
  case zy15 => (intro w hSw; (try dsimp only at hSw); have hy0 := hSw.c0; have hy2 := hSw.c2; have hy3 := hSw.c3; (try dsimp only at hy0 hy2 hy3); clear hSw; go_simp; try (with_reducible rfl))
  try simp only [Act.put, List.setIfInBounds_toArray, List.set_cons_zero, List.set_cons_succ]
  refine wpAnyH_take (i := 16) (v := ?zv16) (by simp only [List.getElem?_toArray, List.getElem?_cons_succ, List.getElem?_cons_zero]; rfl) (by kernel_rfl) (by kernel_rfl) (by kernel_rfl) (by exact fun _ _ _ h => h) (Or.inl ⟨by rfl, ?zy16⟩) hHeld ?_
  case zy16 => (intro w hSw; (try dsimp only at hSw); have hy0 := hSw.c0; have hy2 := hSw.c2; have hy3 := hSw.c3; (try dsimp only at hy0 hy2 hy3); clear hSw; go_simp; try (with_reducible rfl))
  try simp only [Act.put, List.setIfInBounds_toArray, List.set_cons_zero, List.set_cons_succ]
  refine wpAnyH_ready (rs := [10, 17]) (by kernel_rfl) (by simp) ?_
  refine AllReadyH.cons (by simp only [List.getElem?_toArray, List.getElem?_cons_succ, List.getElem?_cons_zero]; rfl) (fun KK hKK => ?_) (AllReadyH.cons (by simp only [List.getElem?_toArray, List.getElem?_cons_succ, List.getElem?_cons_zero]; rfl) (fun KK hKK => ?_) AllReadyH.nil)
  · go_simp
    refine hKK.out _ _ ?_ (fun hHeld => ?_)
    · exact k1
    clear hKK KK
    try simp only [Act.put, List.setIfInBounds_toArray, List.set_cons_zero, List.set_cons_succ]
    refine wpAnyH_ready (rs := [17]) (by kernel_rfl) (by simp) ?_
    refine AllReadyH.cons (by simp only [List.getElem?_toArray, List.getElem?_cons_succ, List.getElem?_cons_zero]; rfl) (fun KK hKK => ?_) AllReadyH.nil
    go_simp
    refine hKK.out _ _ ?_ (fun hHeld => ?_)
    · exact k1
    clear hKK KK
    try simp only [Act.put, List.setIfInBounds_toArray, List.set_cons_zero, List.set_cons_succ]
    refine wpAnyH_ready (rs := [18]) (by kernel_rfl) (by simp) ?_
    refine AllReadyH.cons (by simp only [List.getElem?_toArray, List.getElem?_cons_succ, List.getElem?_cons_zero]; rfl) (fun KK hKK => ?_) AllReadyH.nil
    go_simp
    refine (hCh _ h1.drew.drew).mono ?_
    rintro e w6 ⟨rfl, h9⟩
    have h9 : Below wz.heap.size wz w6 := below_undrew2 (below_undrew2 h9)
    have q6 := q1.ext h9
    have k6 := k1.ext h9
    have hm6 := hm1.ext h9
    have c0 := q6.cRv ha
    have c1 := q6.cRl ha
    have f0 := q6.free (105 + a * 2)
    have f1 := q6.free (105 + a * 2 + 1)
    clear h9
    go_wp2_with fail
    refine hKK.out _ _ ?_ (fun hHeld => ?_)
    · exact k6
    clear hKK KK
    try simp only [Act.put, List.setIfInBounds_toArray, List.set_cons_zero, List.set_cons_succ]
    refine wpAnyH_take (i := 19) (v := ?taqlv19) (by simp only [List.getElem?_toArray, List.getElem?_cons_succ, List.getElem?_cons_zero]; rfl) (by kernel_rfl) (by kernel_rfl) (by kernel_rfl) (by exact fun _ _ _ h => h) (Or.inl ⟨by rfl, ?taqly19⟩) hHeld ?_
    case taqly19 => (intro w hSw; (try dsimp only at hSw); have hy0 := hSw.c0; have hy2 := hSw.c2; have hy3 := hSw.c3; (try dsimp only at hy0 hy2 hy3); clear hSw; go_simp; try (with_reducible rfl))
    try simp only [Act.put, List.setIfInBounds_toArray, List.set_cons_zero, List.set_cons_succ]
    refine wpAnyH_ready (rs := [20]) (by kernel_rfl) (by simp) ?_
    refine AllReadyH.cons (by simp only [List.getElem?_toArray, List.getElem?_cons_succ, List.getElem?_cons_zero]; rfl) (fun KK hKK => ?_) AllReadyH.nil
    go_simp
    have q7 := q6.sR ha (v, k)
    have hm7 := (hm6.cell (105 + a * 2) (.int .i32 v)).cell (105 + a * 2 + 1) (.int .u32 (k : Int))
    have k7 : BoxK ((w6.setCell ⟨b, 105 + a * 2, none⟩ (.int .i32 v)).setCell ⟨b, 105 + a * 2 + 1, none⟩ (.int .u32 (k : Int))) w.heap.size ⟨op, a, bb, cc, n, m⟩ := k6.mod (((MM.refl_ b w6).cell (105 + a * 2) (.int .i32 v)).cell (105 + a * 2 + 1) (.int .u32 (k : Int))) (by omega)
    refine hKK.out _ _ ?_ (fun hHeld => ?_)
    · exact k7
    clear hKK KK
    try simp only [Act.put, List.setIfInBounds_toArray, List.set_cons_zero, List.set_cons_succ]
    refine wpAnyH_done (by kernel_rfl) ?_ _
    go_wp2_with fail
    go_end0
    exact ⟨rfl, r, MAt.back hS0 hr hrb q7 hm7 rfl, hm7.ms r⟩
  · go_simp
    refine hKK.out _ _ ?_ (fun hHeld => ?_)
    · exact k1
    clear hKK KK
    try simp only [Act.put, List.setIfInBounds_toArray, List.set_cons_zero, List.set_cons_succ]
    refine wpAnyH_ready (rs := [10]) (by kernel_rfl) (by simp) ?_
    refine AllReadyH.cons (by simp only [List.getElem?_toArray, List.getElem?_cons_succ, List.getElem?_cons_zero]; rfl) (fun KK hKK => ?_) AllReadyH.nil
    go_simp
    refine hKK.out _ _ ?_ (fun hHeld => ?_)
    · exact k1
    clear hKK KK
    try simp only [Act.put, List.setIfInBounds_toArray, List.set_cons_zero, List.set_cons_succ]
    refine wpAnyH_ready (rs := [18]) (by kernel_rfl) (by simp) ?_
    refine AllReadyH.cons (by simp only [List.getElem?_toArray, List.getElem?_cons_succ, List.getElem?_cons_zero]; rfl) (fun KK hKK => ?_) AllReadyH.nil
    go_simp
    refine (hCh _ h1.drew.drew).mono ?_
    rintro e w6 ⟨rfl, h9⟩
    have h9 : Below wz.heap.size wz w6 := below_undrew2 (below_undrew2 h9)
    have q6 := q1.ext h9
    have k6 := k1.ext h9
    have hm6 := hm1.ext h9
    have c0 := q6.cRv ha
    have c1 := q6.cRl ha
    have f0 := q6.free (105 + a * 2)
    have f1 := q6.free (105 + a * 2 + 1)
    clear h9
    go_wp2_with fail
    refine hKK.out _ _ ?_ (fun hHeld => ?_)
    · exact k6
    clear hKK KK
    try simp only [Act.put, List.setIfInBounds_toArray, List.set_cons_zero, List.set_cons_succ]
    refine wpAnyH_take (i := 19) (v := ?tbqlv19) (by simp only [List.getElem?_toArray, List.getElem?_cons_succ, List.getElem?_cons_zero]; rfl) (by kernel_rfl) (by kernel_rfl) (by kernel_rfl) (by exact fun _ _ _ h => h) (Or.inl ⟨by rfl, ?tbqly19⟩) hHeld ?_
    case tbqly19 => (intro w hSw; (try dsimp only at hSw); have hy0 := hSw.c0; have hy2 := hSw.c2; have hy3 := hSw.c3; (try dsimp only at hy0 hy2 hy3); clear hSw; go_simp; try (with_reducible rfl))
    try simp only [Act.put, List.setIfInBounds_toArray, List.set_cons_zero, List.set_cons_succ]
    refine wpAnyH_ready (rs := [20]) (by kernel_rfl) (by simp) ?_
    refine AllReadyH.cons (by simp only [List.getElem?_toArray, List.getElem?_cons_succ, List.getElem?_cons_zero]; rfl) (fun KK hKK => ?_) AllReadyH.nil
    go_simp
    have q7 := q6.sR ha (v, k)
    have hm7 := (hm6.cell (105 + a * 2) (.int .i32 v)).cell (105 + a * 2 + 1) (.int .u32 (k : Int))
    have k7 : BoxK ((w6.setCell ⟨b, 105 + a * 2, none⟩ (.int .i32 v)).setCell ⟨b, 105 + a * 2 + 1, none⟩ (.int .u32 (k : Int))) w.heap.size ⟨op, a, bb, cc, n, m⟩ := k6.mod (((MM.refl_ b w6).cell (105 + a * 2) (.int .i32 v)).cell (105 + a * 2 + 1) (.int .u32 (k : Int))) (by omega)
    refine hKK.out _ _ ?_ (fun hHeld => ?_)
    · exact k7
    clear hKK KK
    try simp only [Act.put, List.setIfInBounds_toArray, List.set_cons_zero, List.set_cons_succ]
    refine wpAnyH_done (by kernel_rfl) ?_ _
    go_wp2_with fail
    go_end0
    exact ⟨rfl, r, MAt.back hS0 hr hrb q7 hm7 rfl, hm7.ms r⟩
end Go.Proofs.YtnbbglhpjpebhaaDoor
/- follow, whatever the instruction is that may be. Conditions: the instruction may be; the numbers fit. -/
namespace Go.Proofs.YtnbbglhpjpebhaaDoor
open Go.RowKit

theorem regB_lt {b : Nat} {u : Bool} (h : regB b u = true) : b < 8 := by
  unfold regB at h
  rw [Bool.or_eq_true, Bool.and_eq_true, beq_iff_eq, decide_eq_true_eq] at h
  omega
theorem fits_parts {c : Cd} {cells places players : Int} (h : fitsB c cells places players = true) : c.op < 26 ∧ c.a < 8 ∧ c.b < 8 ∧ holdsB cells places players (numAt c.op) c.n = true ∧ (if uB c.op 3 = true then rowB c.c cells c.n else regB c.c (uB c.op 2)) = true := by
  unfold fitsB at h
  rw [Bool.and_eq_true, Bool.and_eq_true, Bool.and_eq_true, Bool.and_eq_true, Bool.and_eq_true, decide_eq_true_eq] at h
  exact ⟨h.1, regB_lt h.2.1, regB_lt h.2.2.1, h.2.2.2.1, h.2.2.2.2.1⟩
theorem holds2 {c p q : Int} {n : Int} (h : holdsB c p q 2 n = true) : 1 ≤ n := by simpa [holdsB] using h
theorem holds3 {c p q : Int} {n : Int} (h : holdsB c p q 3 n = true) : 0 ≤ n ∧ n < c := by simpa [holdsB, belowB] using h
theorem holds4 {c p q : Int} {n : Int} (h : holdsB c p q 4 n = true) : 0 ≤ n ∧ n < p := by simpa [holdsB, belowB] using h
theorem holds5 {c p q : Int} {n : Int} (h : holdsB c p q 5 n = true) : 0 ≤ n ∧ n < q := by simpa [holdsB, belowB] using h
theorem row_parts {c : Nat} {cells n : Int} (h : rowB c cells n = true) : 1 ≤ c ∧ c ≤ 48 ∧ (c : Int) ≤ cells - n := by
  unfold rowB at h
  rw [Bool.and_eq_true, Bool.and_eq_true, decide_eq_true_eq, decide_eq_true_eq, decide_eq_true_eq] at h
  exact h
theorem uB3_mid : ∀ op, op < 19 → uB op 3 = false := by decide
/-- What it goes by lies, and is what P says. -/
structure XOk (X : MX) (P : VP) (w : World) (B : Nat) : Prop where
  cmp : X.cmp = .func (.func 47) #[] #[]
  cd : ∃ A cap bc, X.cd = .slice A P.code.length cap ∧ Sl w bc A (kv P.code) ∧ bc < B
  mv : ∃ A cap bm, X.mv = .slice A P.mv.length cap ∧ Is w bm A P.mv ∧ bm < B
  tk : X.tk = P.tk
  al : X.al = P.al
  len : P.code.length ≤ 96
  mvs : P.mv.length ≤ 100
theorem XOk.below {X : MX} {P : VP} {w w' : World} {B : Nat} (h : XOk X P w B) (hb : Below B w w') : XOk X P w' B := by
  obtain ⟨A, cap, bc, h1, h2, h3⟩ := h.cd
  obtain ⟨A2, cap2, bm, k1, k2, k3⟩ := h.mv
  exact ⟨h.cmp, ⟨A, cap, bc, h1, h2.below hb h3, h3⟩, ⟨A2, cap2, bm, k1, k2.below hb k3, k3⟩, h.tk, h.al, h.len, h.mvs⟩
set_option maxHeartbeats 2000000 in
theorem follow_calls (comp : Nat → Int → Int → Int) (hcomp : Comp comp) (P : VP) (b : Nat) (r : Option Nat) (B N : Nat) (X : MX) (s : VS) (c : Cd) (w : World) (h : MAt w b r B X s) (hv : VOk X s N) (hX : XOk X P w B) (hB : B ≤ b) (hc : c.Ok)
    (hf : fitsB c N ((P.code.length : Int) + 1) P.mv.length = true) :
    Calls Tryd.prog 58 #[.pointer (some ⟨b, 0, none⟩), .agg (cdA c)] w fun e w' => e = .returned (.tuple #[]) ∧ ∃ r', MAt w' b r' B X (followV comp P s c) ∧ MS b r r' w w' := by
  obtain ⟨hop, ha, hb8, hn, hcc⟩ := fits_parts hf
  obtain ⟨A, cap, bc, hcd, hsl, hbc⟩ := hX.cd
  obtain ⟨Am, capm, bm, hmv, hsm, hbm⟩ := hX.mv
  have hlen := hX.len
  have hN := hv.N48
  have hBw : B ≤ w.heap.size := Nat.le_of_lt (Nat.lt_of_le_of_lt hB h.lt)
  clear hf
  obtain ⟨o1, o2, o3, o4, n0, n1, o7⟩ := hc
  obtain ⟨op, a, bb, cc, n, m⟩ := c
  obtain ⟨code, mv, tk, al⟩ := P
  simp only at hop ha hb8 hn hcc o1 o2 o3 o4 n0 n1 o7 hcd hsl hmv hsm hlen
  obtain rfl : X.tk = tk := hX.tk
  obtain rfl : X.al = al := hX.al
  have hcase : op = 0 ∨ op = 1 ∨ op = 2 ∨ op = 3 ∨ op = 4 ∨ op = 5 ∨ (6 ≤ op ∧ op ≤ 17) ∨ op = 18 ∨ op = 19 ∨ op = 20 ∨ op = 21 ∨ op = 22 ∨ op = 23 ∨ op = 24 ∨ op = 25 := by omega
  rcases hcase with rfl | rfl | rfl | rfl | rfl | rfl | ⟨h6, h17⟩ | rfl | rfl | rfl | rfl | rfl | rfl | rfl | rfl
  · exact follow_stop b r B N X s a bb cc n m w h hv ha A code.length cap hcd
  · exact follow_set b r B N X s a bb cc n m w h hv ha
  · obtain ⟨h1, h2⟩ := holds3 hn
    obtain ⟨k, rfl⟩ : ∃ k : Nat, n = (k : Int) := ⟨n.toNat, by omega⟩
    exact follow_load b r B N X s a bb cc k m w h hv ha (by omega)
  · obtain ⟨h1, h2⟩ := holds3 hn
    obtain ⟨k, rfl⟩ : ∃ k : Nat, n = (k : Int) := ⟨n.toNat, by omega⟩
    exact follow_store b r B N X s a bb cc k m w h hv ha (by omega)
  · by_cases hp : (s.place X.al ⟨4, a, bb, cc, n, m⟩).1 = 0
    · have e : followV comp ⟨code, mv, X.tk, X.al⟩ s ⟨4, a, bb, cc, n, m⟩ = s.setR a (s.cl (s.place X.al ⟨4, a, bb, cc, n, m⟩).2) := if_pos hp
      rw [e]
      exact follow_loadat b r B N X s a bb cc n m w h hv ha hb8 n0 n1 hp
    · have e : followV comp ⟨code, mv, X.tk, X.al⟩ s ⟨4, a, bb, cc, n, m⟩ = s.fail (s.place X.al ⟨4, a, bb, cc, n, m⟩).1 := if_neg hp
      rw [e]
      exact follow_loadat_no b r B N X s a bb cc n m w h hv ha hb8 n0 n1 hp
  · by_cases hp : (s.place X.al ⟨5, a, bb, cc, n, m⟩).1 = 0
    · have e : followV comp ⟨code, mv, X.tk, X.al⟩ s ⟨5, a, bb, cc, n, m⟩ = s.put (s.place X.al ⟨5, a, bb, cc, n, m⟩).2 (s.rg a) := if_pos hp
      rw [e]
      exact follow_storeat b r B N X s a bb cc n m w h hv ha hb8 n0 n1 hp
    · have e : followV comp ⟨code, mv, X.tk, X.al⟩ s ⟨5, a, bb, cc, n, m⟩ = s.fail (s.place X.al ⟨5, a, bb, cc, n, m⟩).1 := if_neg hp
      rw [e]
      exact follow_storeat_no b r B N X s a bb cc n m w h hv ha hb8 n0 n1 hp
  · rw [if_neg (by rw [uB3_mid op (by omega)]; decide)] at hcc
    have e : followV comp ⟨code, mv, X.tk, X.al⟩ s ⟨op, a, bb, cc, n, m⟩ = s.setR a (comp op (s.rg bb).1 (s.rg cc).1, (s.rg bb).2 &&& (s.rg cc).2) := by
      unfold followV
      rw [if_neg (show ¬ op = 0 by omega), if_neg (show ¬ op = 1 by omega), if_neg (show ¬ op = 25 by omega), if_neg (show ¬ op = 2 by omega), if_neg (show ¬ op = 3 by omega), if_neg (show ¬ op = 4 by omega), if_neg (show ¬ op = 5 by omega), if_neg (show ¬ op = 18 by omega), if_neg (show ¬ op = 19 by omega), if_neg (show ¬ op = 20 by omega), if_neg (show ¬ op = 21 by omega), if_neg (show ¬ op = 22 by omega), if_neg (show ¬ op = 23 by omega), if_neg (show ¬ op = 24 by omega)]
    rw [e]
    exact follow_comb b r B N X s a bb cc n m w h hv ha comp hcomp op h6 h17 hX.cmp hb8 (regB_lt hcc)
  · rw [if_neg (by decide)] at hcc
    exact follow_select b r B N X s a bb cc n m w h hv ha hb8 (regB_lt hcc)
  · obtain ⟨h1, h2⟩ := holds4 hn
    obtain ⟨k, rfl⟩ : ∃ k : Nat, n = (k : Int) := ⟨n.toNat, by omega⟩
    by_cases hq : VS.clr X.al (s.rg a) = true
    · by_cases hz : (s.rg a).1 = 0
      · have e : followV comp ⟨code, mv, X.tk, X.al⟩ s ⟨19, a, bb, cc, k, m⟩ = s.goes k := (if_pos hq).trans (if_pos hz)
        rw [e]
        exact follow_branch b r B N X s a bb cc k m w h hv ha (by omega) hq hz
      · have e : followV comp ⟨code, mv, X.tk, X.al⟩ s ⟨19, a, bb, cc, k, m⟩ = s := (if_pos hq).trans (if_neg hz)
        rw [e]
        exact follow_branch_no b r B N X s a bb cc k m w h hv ha (by omega) hq hz
    · have e : followV comp ⟨code, mv, X.tk, X.al⟩ s ⟨19, a, bb, cc, k, m⟩ = s.fail 8 := if_neg hq
      rw [e]
      exact follow_branch_bad b r B N X s a bb cc k m w h hv ha (by omega) (by simpa using hq)
  · obtain ⟨h1, h2⟩ := holds4 hn
    obtain ⟨k, rfl⟩ : ∃ k : Nat, n = (k : Int) := ⟨n.toNat, by omega⟩
    exact follow_jump b r B N X s a bb cc k m w h hv ha (by omega)
  · obtain ⟨h1, h2⟩ := holds5 hn
    obtain ⟨k, rfl⟩ : ∃ k : Nat, n = (k : Int) := ⟨n.toNat, by omega⟩
    exact follow_move b r B N X s a bb cc k m w h hv ha Am mv mv.length capm bm hmv hsm rfl (by omega) hX.mvs (by omega)
  · by_cases hp : (s.place X.al ⟨22, a, bb, cc, n, m⟩).1 = 0
    · have e : followV comp ⟨code, mv, X.tk, X.al⟩ s ⟨22, a, bb, cc, n, m⟩ = s.reveal (s.place X.al ⟨22, a, bb, cc, n, m⟩).2 (m &&& X.al) := if_pos hp
      rw [e]
      exact follow_reveal b r B N X s a bb cc n m w h hv ha hb8 n0 n1 o7 hBw hp
    · have e : followV comp ⟨code, mv, X.tk, X.al⟩ s ⟨22, a, bb, cc, n, m⟩ = s.fail (s.place X.al ⟨22, a, bb, cc, n, m⟩).1 := if_neg hp
      rw [e]
      exact follow_reveal_no b r B N X s a bb cc n m w h hv ha hb8 n0 n1 hp
  · have h1 := holds2 hn
    obtain ⟨k, rfl⟩ : ∃ k : Nat, n = (k : Int) := ⟨n.toNat, by omega⟩
    exact follow_roll b r B N X s a bb cc k m w h hv ha (by omega) (by omega)
  · obtain ⟨h1, h2⟩ := holds3 hn
    obtain ⟨k, rfl⟩ : ∃ k : Nat, n = (k : Int) := ⟨n.toNat, by omega⟩
    rw [if_pos (by decide)] at hcc
    obtain ⟨r1, r2, r3⟩ := row_parts hcc
    exact follow_shuffle b r B N X s a bb cc k m w h hv ha r2 (by omega)
  · exact follow_clock b r B N X s a bb cc n m w h hv ha
end Go.Proofs.YtnbbglhpjpebhaaDoor
/- What stays right, instruction by instruction. Conditions: the instructions may be; the numbers fit. -/
namespace Go.Proofs.YtnbbglhpjpebhaaDoor
open Go.RowKit

def CompFit (comp : Nat → Int → Int → Int) : Prop := ∀ op x y, -2147483648 ≤ x → x ≤ 2147483647 → -2147483648 ≤ comp op x y ∧ comp op x y ≤ 2147483647
abbrev fitR (r : Int × Nat) : Prop := (-2147483648 ≤ r.1 ∧ r.1 ≤ 2147483647) ∧ r.2 < 4294967296
theorem getD_fit {L : List (Int × Nat)} (h : okC L) (i : Nat) : fitR (L.getD i (0, 0)) := by
  by_cases hi : i < L.length
  · rw [show L.getD i (0, 0) = L[i] by simp [List.getD, hi]]; exact okC_get h hi
  · rw [show L.getD i (0, 0) = (0, 0) by simp [List.getD, hi]]; exact ⟨⟨by decide, by decide⟩, by decide⟩
/-- The lists of a machine are right. -/
structure LOk (s : VS) (N : Nat) : Prop where
  L : s.L.length = N
  R : s.R.length = 8
  okL : okC s.L
  okR : okC s.R
  t : s.t < 2 ^ N
namespace LOk
variable {s : VS} {N : Nat}
theorem setR (h : LOk s N) (i : Nat) {r : Int × Nat} (hr : fitR r) : LOk (s.setR i r) N := { h with R := by simp [VS.setR, h.R], okR := okC_set h.okR i hr }
theorem put (h : LOk s N) {i : Nat} (hi : i < N) {r : Int × Nat} (hr : fitR r) : LOk (s.put i r) N :=
  { h with L := by simp [VS.put, h.L], okL := okC_set h.okL i hr, t := Nat.or_lt_two_pow h.t (Nat.pow_lt_pow_right (by omega) hi) }
theorem goes (h : LOk s N) (n : Nat) : LOk (s.goes n) N := { h with }
theorem fail (h : LOk s N) (e : Nat) : LOk (s.fail e) N := { h with }
theorem dice (h : LOk s N) (d : Nat) : LOk { s with d := d } N := { h with }
theorem puts : ∀ {l : List Int} {s : VS} {i : Nat}, LOk s N → i + l.length ≤ N → (∀ x ∈ l, -2147483648 ≤ x ∧ x ≤ 2147483647) → LOk (s.puts i l) N
  | [], _, _, h, _, _ => h
  | x :: l, s, i, h, hi, hx => by
    simp only [List.length_cons] at hi
    exact puts (s := s.put i (x, 0)) (i := i + 1) (h.put (by omega) (r := (x, 0)) ⟨hx x (by simp), by show 0 < 4294967296; omega⟩) (by omega) (fun y hy => hx y (by simp [hy]))
end LOk
theorem or_lt32 {a b : Nat} (ha : a < 4294967296) (hb : b < 4294967296) : a ||| b < 4294967296 := Nat.or_lt_two_pow (n := 32) ha hb
theorem and_lt32 {a : Nat} (b : Nat) (ha : a < 4294967296) : a &&& b < 4294967296 := Nat.lt_of_le_of_lt Nat.and_le_left ha
section
variable (comp : Nat → Int → Int → Int) (P : VP)
structure POk (N : Nat) : Prop where
  comp : CompFit comp
  al : P.al < 4294967296
  mv : ∀ x ∈ P.mv, -2147483648 ≤ x ∧ x ≤ 2147483647
  len : P.code.length ≤ 96
  code : ∀ c ∈ P.code, c.Ok ∧ fitsB c N ((P.code.length : Int) + 1) P.mv.length = true
theorem place_lt' {s : VS} {N : Nat} (h : LOk s N) {c : Cd} {al : Nat} (hp : (s.place al c).1 = 0) : (s.place al c).2 < N := by rw [← h.L]; exact place_lt hp
theorem follow_ok {N : Nat} (hP : POk comp P N) {s : VS} (h : LOk s N) {c : Cd} (hc : c.Ok) (hf : fitsB c N ((P.code.length : Int) + 1) P.mv.length = true) : LOk (followV comp P s c) N := by
  obtain ⟨hop, ha, hb8, hn, hcc⟩ := fits_parts hf
  have hrg := fun i => getD_fit h.okR i
  have hcl := fun i => getD_fit h.okL i
  refine follow_elim comp P (C := fun z => LOk z N) s c (fun _ => h.goes _) (fun _ => h.setR _ ⟨⟨hc.n0, hc.n1⟩, hP.al⟩) (fun _ => h.setR _ ⟨w32_fits _, hP.al⟩) (fun _ => h.setR _ (hcl _)) (fun e => ?_) (fun _ _ => h.setR _ (hcl _)) (fun _ hp => h.put (place_lt' h hp) (hrg _)) (fun _ _ => h.fail _) (fun _ => ?_) (fun _ _ _ => h.goes _) (fun _ _ _ => h) (fun _ _ => h.fail _) (fun _ => h.goes _) (fun _ => ?_) (fun _ hp => ?_) (fun e => ?_) (fun e => ?_) (fun _ => ?_)
  · rw [e] at hn
    obtain ⟨h1, h2⟩ := holds3 hn
    exact h.put (by omega) (hrg _)
  · refine h.setR _ ⟨?_, and_lt32 _ (and_lt32 _ (hrg _).2)⟩
    show -2147483648 ≤ (if (s.rg c.a).1 ≠ 0 then (s.rg c.b).1 else (s.rg c.c).1) ∧ _
    by_cases hz : (s.rg c.a).1 ≠ 0
    · rw [if_pos hz]; exact (hrg c.b).1
    · rw [if_neg hz]; exact (hrg c.c).1
  · refine h.setR _ ⟨?_, aloneN_lt _⟩
    show -2147483648 ≤ P.mv.getD c.n.toNat 0 ∧ _
    by_cases hk : c.n.toNat < P.mv.length
    · rw [show P.mv.getD c.n.toNat 0 = P.mv[c.n.toNat] by simp [List.getD, hk]]; exact hP.mv _ (List.getElem_mem hk)
    · rw [show P.mv.getD c.n.toNat 0 = 0 by simp [List.getD, hk]]; exact ⟨by omega, by show (0 : Int) ≤ 2147483647; omega⟩
  · have h2 := h.put (place_lt' h hp) (r := ((s.cl (s.place P.al c).2).1, (s.cl (s.place P.al c).2).2 ||| (c.m &&& P.al))) ⟨(hcl _).1, or_lt32 (hcl _).2 (and_lt32 _ (by have := hc.hm; omega))⟩
    exact { h2 with }
  · exact (h.setR c.a (r := (w32 (belowN s.d c.n.toNat), 0)) ⟨w32_fits _, by show 0 < 4294967296; omega⟩).dice _
  · rw [e] at hn hcc
    obtain ⟨h1, h2⟩ := holds3 hn
    rw [if_pos (by decide)] at hcc
    obtain ⟨r1, r2, r3⟩ := row_parts hcc
    unfold shufV
    refine (h.dice _).puts ?_ ?_
    · rw [shufN_length]
      simp only [List.length_map, List.length_take, List.length_drop, h.L]
      omega
    · intro x hx
      have h4 := (shufN_perm _ _ _).mem_iff.1 hx
      obtain ⟨y, hy, rfl⟩ := List.mem_map.1 h4
      exact (h.okL y (List.mem_of_mem_drop (List.mem_of_mem_take hy))).1
  · exact h.setR _ ⟨hP.comp _ _ _ (hrg c.b).1.1 (hrg c.b).1.2, and_lt32 _ (hrg _).2⟩
theorem puts_u (l : List Int) : ∀ (s : VS) (i : Nat), (s.puts i l).u = s.u ∧ (s.puts i l).nx = s.nx ∧ (s.puts i l).e = s.e := by
  induction l with
  | nil => intro s i; exact ⟨rfl, rfl, rfl⟩
  | cons x l ih => intro s i; rw [VS.puts]; exact ih _ _
theorem follow_u (s : VS) (c : Cd) : (followV comp P s c).u = s.u := by
  refine follow_elim comp P (C := fun z => z.u = s.u) s c (fun _ => rfl) (fun _ => rfl) (fun _ => rfl) (fun _ => rfl) (fun _ => rfl) (fun _ _ => rfl) (fun _ _ => rfl) (fun _ _ => rfl) (fun _ => rfl) (fun _ _ _ => rfl) (fun _ _ _ => rfl) (fun _ _ => rfl) (fun _ => rfl) (fun _ => rfl) (fun _ _ => rfl) (fun _ => rfl) (fun _ => (puts_u _ _ _).1) (fun _ => rfl)
theorem follow_shl (s : VS) (c : Cd) : (followV comp P s c).sh.length ≤ s.sh.length + 1 := by
  have h0 : ∀ z : VS, z.sh = s.sh → z.sh.length ≤ s.sh.length + 1 := fun z h => by rw [h]; omega
  refine follow_elim comp P (C := fun z => z.sh.length ≤ s.sh.length + 1) s c (fun _ => h0 _ rfl) (fun _ => h0 _ rfl) (fun _ => h0 _ rfl) (fun _ => h0 _ rfl) (fun _ => h0 _ rfl) (fun _ _ => h0 _ rfl) (fun _ _ => h0 _ rfl) (fun _ _ => h0 _ rfl) (fun _ => h0 _ rfl) (fun _ _ _ => h0 _ rfl) (fun _ _ _ => h0 _ rfl) (fun _ _ => h0 _ rfl) (fun _ => h0 _ rfl) (fun _ => h0 _ rfl) (fun _ _ => ?_) (fun _ => h0 _ rfl) (fun _ => h0 _ (by unfold shufV; rw [puts_sh])) (fun _ => h0 _ rfl)
  unfold VS.reveal
  simp only
  by_cases hl : lessN (c.m &&& P.al) (s.cl (s.place P.al c).2).2 = 0
  · rw [if_pos hl]; exact Nat.le_succ _
  · rw [if_neg hl]; simp
theorem follow_nx {N : Nat} (hP : POk comp P N) (s : VS) {c : Cd} (hf : fitsB c N ((P.code.length : Int) + 1) P.mv.length = true) (hx : s.nx ≤ 96) : (followV comp P s c).nx ≤ 96 := by
  obtain ⟨_, _, _, hn, _⟩ := fits_parts hf
  have hl := hP.len
  refine follow_elim comp P (C := fun z => z.nx ≤ 96) s c (fun _ => hl) (fun _ => hx) (fun _ => hx) (fun _ => hx) (fun _ => hx) (fun _ _ => hx) (fun _ _ => hx) (fun _ _ => hx) (fun _ => hx) (fun e _ _ => ?_) (fun _ _ _ => hx) (fun _ _ => hx) (fun e => ?_) (fun _ => hx) (fun _ _ => hx) (fun _ => hx) (fun _ => by unfold shufV; rw [(puts_u _ _ _).2.1]; exact hx) (fun _ => hx)
  · rw [e] at hn
    obtain ⟨h1, h2⟩ := holds4 hn
    show c.n.toNat ≤ 96
    omega
  · rw [e] at hn
    obtain ⟨h1, h2⟩ := holds4 hn
    show c.n.toNat ≤ 96
    omega
theorem codeAt_in {i : Nat} (hi : i < P.code.length) : codeAt P i = P.code[i] := by simp [codeAt, List.getD, hi]
/-- What holds at each turn. -/
structure TOk (s : VS) (N : Nat) : Prop where
  l : LOk s N
  u : s.u ≤ 400
  sh : s.sh.length ≤ s.u
  nx : s.nx ≤ 96
theorem step_ok {N : Nat} (hP : POk comp P N) {s : VS} (h : TOk s N) (hi : s.nx < P.code.length) (hu : s.u < 400) : TOk (stepV comp P s) N := by
  have hc := hP.code P.code[s.nx] (List.getElem_mem hi)
  have hl := hP.len
  unfold stepV
  rw [codeAt_in P hi]
  have h1 : LOk { s with nx := s.nx + 1, u := s.u + 1 } N := { h.l with }
  exact ⟨follow_ok comp P hP h1 hc.1 hc.2, by rw [follow_u]; show s.u + 1 ≤ 400; omega, by rw [follow_u]; have := follow_shl comp P { s with nx := s.nx + 1, u := s.u + 1 } P.code[s.nx]; have h2 := h.sh; simp only at this ⊢; omega, follow_nx comp P hP _ hc.2 (show s.nx + 1 ≤ 96 by omega)⟩
theorem runV_on {s : VS} (hi : s.nx < P.code.length) (he : s.e = 0) (hu : s.u < 400) : runV comp P (402 - s.u) s = runV comp P (402 - (stepV comp P s).u) (stepV comp P s) := by
  have h1 : (stepV comp P s).u = s.u + 1 := by unfold stepV; rw [follow_u]
  rw [h1, show 402 - s.u = (402 - (s.u + 1)) + 1 by omega, runV, if_pos ⟨hi, he⟩, if_neg (by omega)]
theorem runV_fuel {s : VS} (hi : s.nx < P.code.length) (he : s.e = 0) (hu : s.u = 400) : runV comp P (402 - s.u) s = s.fail 9 := by
  rw [hu, runV, if_pos ⟨hi, he⟩, if_pos hu]
theorem runV_end {s : VS} (hu : s.u ≤ 400) (h : ¬ (s.nx < P.code.length ∧ s.e = 0)) : runV comp P (402 - s.u) s = s := by
  rw [show 402 - s.u = (401 - s.u) + 1 by omega, runV, if_neg h]
end
end Go.Proofs.YtnbbglhpjpebhaaDoor
/- run: instruction by instruction, to the end, or till there is no fuel. Conditions: the instructions may be; the numbers fit. -/
namespace Go.Proofs.YtnbbglhpjpebhaaDoor
open Go.RowKit

def resL (sh : Value) (s : VS) : List Value := (bdL s.L).toList ++ [.int .u64 (s.d : Int), .int .u64 (s.t : Int), sh, .int .i64 (s.u : Int), .int .i64 (s.e : Int)]
/-- What came of it, as a value. -/
def resA (sh : Value) (s : VS) : Array Value := (resL sh s).toArray
theorem resL_len (sh : Value) (s : VS) : (resL sh s).length = 102 := by simp [resL, bdL_size]
theorem resA_at (sh : Value) (s : VS) {k : Nat} {v : Value} (h : ([.int .u64 (s.d : Int), .int .u64 (s.t : Int), sh, .int .i64 (s.u : Int), .int .i64 (s.e : Int)] : List Value)[k]? = some v) : (resA sh s)[97 + k]? = some v := by
  unfold resA resL
  rw [List.getElem?_toArray, List.getElem?_append_right (by rw [bdL_list]; omega), bdL_list, show 97 + k - 97 = k by omega]
  exact h
theorem MB.rangeR {w : World} {b : Nat} {X : MX} {sh : Value} {s : VS} (h : MB w b X sh s) : w.rangeAt b 0 (resL sh s) := fun j v hv => by
  rw [Nat.zero_add]
  refine h.at_ ?_
  have e : mRow X sh s = resL sh s ++ ([X.cmp, X.cd, .int .i64 (s.nx : Int)] ++ (cv s.R ++ mEnd X)) := by simp [mRow, resL, mMid]
  rw [e, List.getElem?_append_left (List.getElem?_eq_some_iff.1 hv).1]
  exact hv
theorem res_size (sh : Value) (s : VS) : (Tryd.prog.info? 87).map (·.size) = some (resL sh s).length := by rw [resL_len]; kernel_rfl
section
variable {ops : Array Oper} {rest : List Oper} {o : Oper} {a : Act} {w : World} {Q : Exit → Act → World → Prop} {X : MX} {sh : Value} {s : VS}
theorem wpList_ldR (hgd : o.guard = none) (x : Operand) (ho : o.op = .load 87 x) (b : Nat) (hx : a.eval x = .pointer (some ⟨b, 0, none⟩)) (h : MB w b X sh s)
    (k : wpList Tryd.prog ops Q rest (a.put o.dst (.agg (resA sh s))) w) : wpList Tryd.prog ops Q (o :: rest) a w :=
  wpList_load_mid hgd _ x ho b 0 hx _ _ h.rangeR Tryd.underlying87 rfl (res_size _ _) k
end
set_option maxRecDepth 20000 in
theorem Fuel_calls (sh : Value) (s : VS) (w : World) (hu : s.u ≤ 400) : Calls Tryd.prog 57 #[.agg (resA sh s)] w fun e w' => e = .returned (.int .i64 (400 - (s.u : Int))) ∧ Below w.heap.size w w' := by
  have hb := below_alloc1 w (.cells (resA sh s) 87)
  have hc := (cell_of_row _ w.heap.size 100 _ _ _ (heap_alloc_new w (.cells (resA sh s) 87))).trans (resA_at sh s (k := 3) rfl)
  have hw : IntKind.i64.wrap (400 - (s.u : Int)) = 400 - (s.u : Int) := IntWalk.i64_in _ (by omega)
  obtain ⟨R, hR⟩ : ∃ R, R = resA sh s := ⟨_, rfl⟩
  rw [← hR] at hb hc ⊢
  clear hR
  go_enter Tryd.func57, Tryd.ntmps57
  go_wp2_with fail
  go_ret
  exact ⟨rfl, hb⟩
theorem MS.below {b : Nat} {r r' : Option Nat} {w w' : World} {B : Nat} (h : MS b r r' w w') (hB : B ≤ b) (hr : ∀ k, r = some k → B ≤ k) (hw : B ≤ w.heap.size) : Below B w w' :=
  h.2.below hw fun i hi h => by
    rcases h with h | h
    · omega
    · have := hr i h; omega
theorem XOk.codeSl {X : MX} {P : VP} {w : World} {B : Nat} (h : XOk X P w B) : ∃ A cap bc, X.cd = .slice A P.code.length cap ∧ Sl w bc A (kv P.code) ∧ bc < B := h.cd
set_option maxHeartbeats 8000000 in
set_option maxRecDepth 20000 in
theorem run_calls (comp : Nat → Int → Int → Int) (hcomp : Comp comp) (P : VP) (b : Nat) (r : Option Nat) (B N : Nat) (X : MX) (s : VS) (w : World) (h : MAt w b r B X s) (hN : N ≤ 48) (hP : POk comp P N) (ht : TOk s N) (hX : XOk X P w B) (hB : B ≤ b) :
    Calls Tryd.prog 49 #[.pointer (some ⟨b, 0, none⟩)] w fun e w' => e = .returned (.tuple #[]) ∧ ∃ r', MAt w' b r' B X (runV comp P (402 - s.u) s) ∧ Below B w w' := by
  obtain ⟨F, hF⟩ : ∃ F, F = runV comp P (402 - s.u) s := ⟨_, rfl⟩
  rw [← hF]
  have hBw : B ≤ w.heap.size := Nat.le_of_lt (Nat.lt_of_le_of_lt hB h.lt)
  have HP := Lib.hid hP
  clear hP
  go_enter Tryd.func49, Tryd.ntmps49
  go_wp2_with fail
  go_loopw [2] (fun _ wr => ∃ (r : Option Nat) (s : VS), MAt wr b r B X s ∧ Hid (TOk s N ∧ runV comp P (402 - s.u) s = F) ∧ XOk X P wr B ∧ Below B w wr) (fun _ wr => 401 - (intOf ((wr.cell? ⟨b, 100, none⟩).getD undef)).toNat)
  case atStart => exact ⟨r, s, h, Lib.hid ⟨ht, hF.symm⟩, hX, Below.refl _ _⟩
  case round =>
    clear h ht hX hF
    obtain ⟨r, s, hA, hT, hX, hb⟩ := hrel
    obtain ⟨sh, q, hS, hr, hrb⟩ := hA.hB
    obtain ⟨A, cap, bc, hcd, hsl, hbc⟩ := hX.codeSl
    have c3 := q.cCd
    rw [hcd] at c3
    have c4 := q.cN
    have HCU := Lib.hid q.cU
    have c1 := q.cE
    have hlt := q.lt
    obtain ⟨len, hlen⟩ : ∃ len, len = P.code.length := ⟨_, rfl⟩
    rw [← hlen] at c3
    have hl96 : len ≤ 96 := by rw [hlen]; exact HP.out.len
    have HL := Lib.hid hlen
    clear hlen
    have hu := hT.out.1.u
    have hnx := hT.out.1.nx
    by_cases hi : s.nx < len
    · have ei : (s.nx : Int) < (len : Int) := by omega
      have ej : decide (s.nx < len) = true := by simp; omega
      by_cases he : s.e = 0
      · have HE := Lib.hid he
        rw [he] at c1

        go_wp2_with fail
        go_quiet (fail)
        have q1 : MB (wr.drewN nq) b X sh s := q
        have hA1 : MAt (wr.drewN nq) b r B X s := hA
        have hX1 : XOk X P (wr.drewN nq) B := hX.below (below_drewN (Below.refl _ _) _)
        have hb1 := below_drewN hb nq
        obtain ⟨wy, hwy⟩ : ∃ wy, wy = wr.drewN nq := ⟨_, rfl⟩
        rw [← hwy] at q1 hA1 hX1 hb1 ⊢
        have hS1 : RowS wy B sh s.sh := by rw [hwy]; exact hS
        clear q hA hX hb hS hwy c1 c3 c4 hsl
        have hFu := Fuel_calls sh s wy hu
        go_wp2_with ((with_reducible refine at_ld 87 23 ?_); refine wpList_ldR rfl (.tmp 23) rfl b rfl q1 ?_)
        refine hFu.mono ?_
        rintro e w2 ⟨rfl, h2⟩
        have q2 := q1.ext h2
        have hA2 := hA1.ext h2
        have hb2 := hb1.trans (h2.mono (Nat.le_trans hBw hb1.size))
        have hX2 := hX1.below (h2.mono (by have := hb1.size; omega))
        have hS2 := RowS.mod hS1 (MM.ofB (b := b) h2) (fun k hk h => hrb (hr.symm.trans (hk.trans (congrArg some h))))
        clear q1 hA1 hb1 hX1 hFu hS1
        by_cases h400 : s.u = 400
        · have eu : ((400 : Int) - (s.u : Int) == 0) = true := by rw [beq_iff_eq]; omega
          have c5 := q2.cE
          have f5 := q2.free 101
          go_wp2_with fail
          have hend := hT.out.2
          rw [runV_fuel comp P (by rw [← HL.out]; exact hi) HE.out h400] at hend
          subst hend
          have hm := (MM.refl_ b w2).cell 101 (.int .i64 9)
          exact bodyPost_ret (results_none rfl _ _ _) rfl ⟨rfl, r, MAt.back hS2 hr hrb (q2.sE 9) hm rfl, hb2.setCell (by dsimp only; omega) _⟩
        · have eu : ((400 : Int) - (s.u : Int) == 0) = false := by rw [beq_eq_false_iff_ne]; omega
          obtain ⟨A, cap, bc, hcd, hsl, hbc⟩ := hX2.codeSl
          have hik : s.nx < P.code.length := by rw [← HL.out]; exact hi
          obtain ⟨off, rfl, j0, j1, j2, j3, j4, j5⟩ := sl_code hsl hik
          have hck0 := HP.out.code P.code[s.nx] (List.getElem_mem hik)
          have hce := codeAt_in P hik
          have HI := Lib.hid hik
          obtain ⟨c, hc⟩ : ∃ c, c = codeAt P s.nx := ⟨_, rfl⟩
          have hca := Lib.hid hc.symm
          have k0 : w2.cell? ⟨bc, off + s.nx * 6, none⟩ = some (.int .u8 (c.op : Int)) := by rw [hc, hce]; exact j0
          have k1 : w2.cell? ⟨bc, off + s.nx * 6 + 1, none⟩ = some (.int .u8 (c.a : Int)) := by rw [hc, hce]; exact j1
          have k2 : w2.cell? ⟨bc, off + s.nx * 6 + 2, none⟩ = some (.int .u8 (c.b : Int)) := by rw [hc, hce]; exact j2
          have k3 : w2.cell? ⟨bc, off + s.nx * 6 + 3, none⟩ = some (.int .u8 (c.c : Int)) := by rw [hc, hce]; exact j3
          have k4 : w2.cell? ⟨bc, off + s.nx * 6 + 4, none⟩ = some (.int .i32 c.n) := by rw [hc, hce]; exact j4
          have k5 : w2.cell? ⟨bc, off + s.nx * 6 + 5, none⟩ = some (.int .u32 (c.m : Int)) := by rw [hc, hce]; exact j5
          have hck : c.Ok ∧ fitsB c N ((P.code.length : Int) + 1) P.mv.length = true := by rw [hc, hce]; exact hck0
          have hcd2 := hcd
          rw [← HL.out] at hcd2
          have c3 := q2.cCd
          rw [hcd2] at c3
          have c4 := q2.cN
          have hst := step_ok comp P HP.out hT.out.1 hik (by omega)
          have hon := runV_on comp P hik HE.out (by omega : s.u < 400)
          have hstep : stepV comp P s = followV comp P { s with nx := s.nx + 1, u := s.u + 1 } c := by unfold stepV; rw [hca.out]
          rw [hstep] at hst hon
          have HST := Lib.hid hst
          have HON := Lib.hid (hon.symm.trans hT.out.2)
          have hul : (followV comp P { s with nx := s.nx + 1, u := s.u + 1 } c).u = s.u + 1 := follow_u comp P _ c
          have HUL := Lib.hid hul
          obtain ⟨op, a, bb, cc, n, m⟩ := c
          dsimp only at k0 k1 k2 k3 k4 k5
          have hl2 := q2.lt
          have hlc : bc < w2.heap.size := by omega
          clear j0 j1 j2 j3 j4 j5 hck0 hc hce hsl hcd hcd2 hst hon hstep hik hul
          go_wp2_with fail
          have q3 : MB (w2.alloc (.cells #[.int .u8 (op : Int), .int .u8 (a : Int), .int .u8 (bb : Int), .int .u8 (cc : Int), .int .i32 n, .int .u32 (m : Int)] 80)).drew b X sh s := q2.alloc (.cells #[.int .u8 (op : Int), .int .u8 (a : Int), .int .u8 (bb : Int), .int .u8 (cc : Int), .int .i32 n, .int .u32 (m : Int)] 80)
          have g3 : BoxK (w2.alloc (.cells #[.int .u8 (op : Int), .int .u8 (a : Int), .int .u8 (bb : Int), .int .u8 (cc : Int), .int .i32 n, .int .u32 (m : Int)] 80)).drew w2.heap.size ⟨op, a, bb, cc, n, m⟩ := heap_alloc_new w2 _
          have hB2 : B ≤ w2.heap.size := Nat.le_trans hBw hb2.size
          have hb3 : Below B w (w2.alloc (.cells #[.int .u8 (op : Int), .int .u8 (a : Int), .int .u8 (bb : Int), .int .u8 (cc : Int), .int .i32 n, .int .u32 (m : Int)] 80)).drew := below_drew (hb2.alloc hB2 (.cells #[.int .u8 (op : Int), .int .u8 (a : Int), .int .u8 (bb : Int), .int .u8 (cc : Int), .int .i32 n, .int .u32 (m : Int)] 80))
          have hX3 : XOk X P (w2.alloc (.cells #[.int .u8 (op : Int), .int .u8 (a : Int), .int .u8 (bb : Int), .int .u8 (cc : Int), .int .i32 n, .int .u32 (m : Int)] 80)).drew B := hX2.below (below_drew ((Below.refl B w2).alloc hB2 (.cells #[.int .u8 (op : Int), .int .u8 (a : Int), .int .u8 (bb : Int), .int .u8 (cc : Int), .int .i32 n, .int .u32 (m : Int)] 80)))
          have hS3 : RowS (w2.alloc (.cells #[.int .u8 (op : Int), .int .u8 (a : Int), .int .u8 (bb : Int), .int .u8 (cc : Int), .int .i32 n, .int .u32 (m : Int)] 80)).drew B sh s.sh := RowS.mod hS2 (MM.dr (MM.al (MM.refl_ b w2) (.cells #[.int .u8 (op : Int), .int .u8 (a : Int), .int .u8 (bb : Int), .int .u8 (cc : Int), .int .i32 n, .int .u32 (m : Int)] 80))) (fun k hk h => hrb (hr.symm.trans (hk.trans (congrArg some h))))
          go_region
          obtain ⟨wz, hwz⟩ : ∃ wz, wz = (w2.alloc (.cells #[.int .u8 (op : Int), .int .u8 (a : Int), .int .u8 (bb : Int), .int .u8 (cc : Int), .int .i32 n, .int .u32 (m : Int)] 80)).drew := ⟨_, rfl⟩
          obtain ⟨G, hG⟩ : ∃ G, G = w2.heap.size := ⟨_, rfl⟩
          rw [← hwz] at q3 g3 hb3 hX3 hS3 ⊢
          rw [← hG] at g3 ⊢
          have hGb : b ≠ G := by omega
          clear hwz hG q2 hA2 hb2 hX2 hS2 hl2 hlc k0 k1 k2 k3 k4 k5 c3 c4
          have c4 := q3.cN
          have f4 := q3.free 104
          have w4 : IntKind.i64.wrap ((s.nx : Int) + 1) = (s.nx : Int) + 1 := IntWalk.i64_in _ (by omega)
          have w5 : IntKind.i64.wrap ((s.u : Int) + 1) = (s.u : Int) + 1 := IntWalk.i64_in _ (by omega)
          have q4 : MB (wz.setCell ⟨b, 104, none⟩ (.int .i64 ((s.nx : Int) + 1))) b X sh { s with nx := s.nx + 1 } := q3.sN (s.nx + 1)
          have c5 : (wz.setCell ⟨b, 104, none⟩ (.int .i64 ((s.nx : Int) + 1))).cell? ⟨b, 100, none⟩ = some (.int .i64 (s.u : Int)) := q4.cU
          have f5 := q4.free 100
          have q5 : MB ((wz.setCell ⟨b, 104, none⟩ (.int .i64 ((s.nx : Int) + 1))).setCell ⟨b, 100, none⟩ (.int .i64 ((s.u : Int) + 1))) b X sh { s with nx := s.nx + 1, u := s.u + 1 } := q4.sU (s.u + 1)
          have hm5 := ((MM.refl_ b wz).cell 104 (.int .i64 ((s.nx : Int) + 1))).cell 100 (.int .i64 ((s.u : Int) + 1))
          have g5 := g3.mod hm5 (fun h => hGb h.symm)
          have hA5 : MAt ((wz.setCell ⟨b, 104, none⟩ (.int .i64 ((s.nx : Int) + 1))).setCell ⟨b, 100, none⟩ (.int .i64 ((s.u : Int) + 1))) b r B X { s with nx := s.nx + 1, u := s.u + 1 } := MAt.back hS3 hr hrb q5 hm5 rfl
          have hb5 := (hb3.setCell (p := ⟨b, 104, none⟩) (by dsimp only; omega) (.int .i64 ((s.nx : Int) + 1))).setCell (p := ⟨b, 100, none⟩) (by dsimp only; omega) (.int .i64 ((s.u : Int) + 1))
          have hX5 := hX3.below (((Below.refl B wz).setCell (p := ⟨b, 104, none⟩) (by dsimp only; omega) (.int .i64 ((s.nx : Int) + 1))).setCell (p := ⟨b, 100, none⟩) (by dsimp only; omega) (.int .i64 ((s.u : Int) + 1)))
          have i0 := g5.c0
          have i1 := g5.c1
          have i2 := g5.c2
          have i3 := g5.c3
          have i4 := g5.c4
          have i5 := g5.c5
          have hv : VOk X { s with nx := s.nx + 1, u := s.u + 1 } N := ⟨hT.out.1.l.L, hN, hT.out.1.l.okL, hT.out.1.l.okR, Nat.lt_of_lt_of_le hT.out.1.l.t (Nat.pow_le_pow_right (by omega) (show N ≤ 64 by omega)), by have h6 := hT.out.1.sh; show s.sh.length ≤ 100000; omega, by rw [hX5.al]; exact HP.out.al⟩
          have hFl := follow_calls comp hcomp P b r B N X { s with nx := s.nx + 1, u := s.u + 1 } ⟨op, a, bb, cc, n, m⟩ _ hA5 hv hX5 hB hck.1 hck.2
          clear q3 g3 hX3 hS3 hb3 q4 q5 g5 hm5 hv hck
          go_wp2_with fail
          refine hFl.mono ?_
          rintro e w7 ⟨rfl, r', h7, h8⟩
          have hb6 := MS.below h8 hB (fun k hk => (hA5.rlt k hk).1) (Nat.le_trans hBw hb5.size)
          have hb7 := hb5.trans hb6
          have hX7 := hX5.below hb6
          clear hFl i0 i1 i2 i3 i4 i5 c4 f4 c5 f5 hX5 hb5 hb6
          go_wp2_with fail
          have cu7 : w7.cell? ⟨b, 100, none⟩ = some (.int .i64 ((followV comp P { s with nx := s.nx + 1, u := s.u + 1 } ⟨op, a, bb, cc, n, m⟩).u : Int)) := by obtain ⟨_, q, _⟩ := h7; exact q.cU
          rw [HUL.out] at cu7
          go_roundw
          case rel => exact ⟨r', _, h7, Lib.hid ⟨HST.out, HON.out⟩, hX7, hb7⟩
          case measure =>
            rw [cu7, HCU.out]
            simp only [Option.getD_some, intOf]
            omega
      · have ee : ((s.e : Int) == 0) = false := by rw [beq_eq_false_iff_ne]; omega
        go_wp2_with fail
        go_quiet (fail)
        go_wp2_with fail
        go_end0
        have hend := hT.out.2
        rw [runV_end comp P hu (by intro h; exact he h.2)] at hend
        subst hend
        exact ⟨rfl, r, hA, below_drewN hb _⟩
    · have ei : decide ((s.nx : Int) < (len : Int)) = false := by simp; omega
      have ej : decide (s.nx < len) = false := by simp; omega
      go_wp2_with fail
      go_quiet (fail)
      go_wp2_with fail
      go_end0
      have hend := hT.out.2
      rw [runV_end comp P hu (by intro h; rw [← HL.out] at h; exact hi h.1)] at hend
      subst hend
      exact ⟨rfl, r, hA, below_drewN hb _⟩
end Go.Proofs.YtnbbglhpjpebhaaDoor
