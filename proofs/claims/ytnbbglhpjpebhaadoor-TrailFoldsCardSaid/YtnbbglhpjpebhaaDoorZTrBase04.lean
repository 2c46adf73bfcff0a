/- Parts of one proof, in their order. -/
import Derived.Test.YtnbbglhpjpebhaaDoorZTrBase03
import Derived.Laws.BitsAllLaws
import Derived.OpenShut
/- What is rolled; what is shown. Conditions: the numbers fit. -/
namespace Go.Proofs.YtnbbglhpjpebhaaDoor
open Go.RowKit

theorem boxg_zero (w : World) : BoxG (w.alloc (.cells #[.int .i32 0, .int .u32 0] 103)) w.heap.size 0 0 := heap_alloc_new w _
theorem MM.new {b : Nat} {w w' : World} (h : MM b w w') {p : Addr} (hk : w.heap.size ≤ p.block) (v : Value) : MM b w (w'.setCell p v) :=
  h.trans (Mod.setCell w' p v) (fun _ _ h => h) (fun i hi h => by omega)
set_option maxHeartbeats 4000000 in
set_option maxRecDepth 20000 in
theorem roll_calls (b : Nat) (r : Option Nat) (B : Nat) (X : MX) (s : VS) (n : Int) (w : World) (h : MAt w b r B X s) (hn0 : 1 ≤ n) (hn1 : n ≤ 2147483647) :
    Calls Tryd.prog 73 #[.pointer (some ⟨b, 0, none⟩), .int .i32 n] w fun e w' => e = .returned (.agg #[.int .i32 (w32 ((belowN s.d n.toNat : Nat) : Int)), .int .u32 0]) ∧ MAt w' b r B X { s with d := goN s.d } ∧ MM b w w' := by
  obtain ⟨k, rfl⟩ : ∃ k : Nat, n = (k : Int) := ⟨n.toNat, by omega⟩
  have hlt := belowN_lt (s := s.d) (n := k) (by omega)
  have hQ := fun W => Below_calls s.d k W (by omega)
  rw [show ((k : Int)).toNat = k by omega, w32_in (by omega) (by omega)]
  have hb0 := below_alloc1 w (.cells #[.int .i32 0, .int .u32 0] 103)
  have g1 := boxg_zero w
  obtain ⟨sh, q0, hS0, hr, hrb⟩ := h
  have hbl := q0.lt
  have q := q0.alloc (.cells #[.int .i32 0, .int .u32 0] 103)
  obtain ⟨x, hx⟩ : ∃ x, x = belowN s.d k := ⟨_, rfl⟩
  obtain ⟨g, hg⟩ : ∃ g, g = goN s.d := ⟨_, rfl⟩
  rw [← hx, ← hg] at hQ
  rw [← hx] at hlt ⊢
  rw [← hg]
  have hw1 : IntKind.u32.wrap (k : Int) = (k : Int) := IntWalk.u32_in _ (by omega)
  have hw2 : IntKind.i32.wrap (x : Int) = (x : Int) := IntWalk.i32_in _ (by omega)
  have cD := q.cD
  obtain ⟨dd, hdd⟩ : ∃ dd, dd = s.d := ⟨_, rfl⟩
  have hm := MM.ofB (b := b) hb0
  rw [← hdd] at cD hQ
  clear hx hg hdd q0
  go_enter Tryd.func73, Tryd.ntmps73
  go_wp2_with fail
  obtain ⟨wz, hwz⟩ : ∃ wz, wz = w.alloc (.cells #[.int .i32 0, .int .u32 0] 103) := ⟨_, rfl⟩
  rw [← hwz] at hb0 g1 q cD hm ⊢
  clear hwz
  refine (hQ _).mono ?_
  rintro e w3 ⟨rfl, h3⟩
  have g3 := g1.ext h3
  have q3 := q.ext h3
  have hm3 := hm.ext h3
  have f3 := q3.free 97
  have c3 := q3.cD
  have e0 := g3.c0
  have e1 := g3.c1
  have e2 := g3.f0
  have e3 := g3.f1
  have hl3 := q3.lt
  clear hQ q g1 hm cD
  go_wp2_with fail
  have g4 := (g3.other (p := ⟨b, 97, none⟩) (by dsimp only; omega) (.int .u64 (g : Int))).put x 0
  have q4 := ((q3.sD g).other (p := ⟨w.heap.size, 0, none⟩) (by dsimp only; omega) (.int .i32 x)).other (p := ⟨w.heap.size, 1, none⟩) (by dsimp only; omega) (.int .u32 0)
  have hm4 := ((hm3.cell 97 (.int .u64 (g : Int))).new (p := ⟨w.heap.size, 0, none⟩) (Nat.le_refl _) (.int .i32 x)).new (p := ⟨w.heap.size, 1, none⟩) (Nat.le_refl _) (.int .u32 0)
  refine bodyPost_ret (BoxG.result (g := w.heap.size) (x := x) (y := 0) ?_ rfl _ rfl) rfl ⟨rfl, MAt.back hS0 hr hrb q4 hm4 rfl, hm4⟩
  exact g4

theorem show_info : (Tryd.prog.info? 56).map (fun i => (i.zero, i.size, i.bytes)) = some (some (.agg #[.int .i64 0, .int .u32 0, .int .i32 0]), 3, 16) := by kernel_rfl
/-- append of a show. -/
theorem wp_appS {o : Oper} {a : Act} {w : World} {K : Act → World → Prop} {Q : Exit → Act → World → Prop} (s x : Operand)
    (ho : o.op = .call { callee := .builtin .append, args := #[s, x], argTypes := #[50, 50] })
    (B : Nat) (v : Value) (L : List (Nat × Nat × Int)) (hs : a.eval s = v) (hown : RowS w B v L)
    (b : Nat) (A : Option Addr) (c : Nat) (y : Nat × Nat × Int) (hx : a.eval x = .slice A 1 c) (hr : Sl w b A (sv [y]))
    (hlen : L.length + 1 ≤ 1000000) (hbase : B ≤ w.heap.size)
    (h : ∀ v' w', RowS w' B v' (L ++ [y]) → Mod (fun i => v.ownBlock = some i) w w' → (v'.ownBlock = v.ownBlock ∨ v'.ownBlock = some w.heap.size) → K (a.put o.dst v') w') : o.wp Tryd.prog a w K Q := by
  obtain ⟨i0, hi0, hz0, hz1, hz2⟩ := info_parts show_info
  refine wp_append_sl (P := Tryd.prog) w s x _ ho B 56 i0 _ 3 16 Tryd.underlying50 hi0 hz0 hz1 hz2 rfl (by omega) v L.length (sv L) hs hown b A 1 c (sv [y]) hx hr (by simp) (fun hA => by have := Sl.none_len hr rfl hA; simp at this) (sv_one _)
    (by simp only [maxLen]; omega) (by omega) hbase ?_
  intro v' w' h1 h2 h3
  exact h v' w' (by unfold RowS; rw [List.length_append, sv_append]; exact h1) (Mod.of_grown h2) h3
/-- What a show may turn: the machine, its row; and where its row lies then. -/
def MS (b : Nat) (r r' : Option Nat) (w w' : World) : Prop := (r' = r ∨ ∃ k, r' = some k ∧ w.heap.size ≤ k) ∧ Mod (fun k => k = b ∨ r = some k) w w'
theorem MM.ms {b : Nat} {w w' : World} (h : MM b w w') (r : Option Nat) : MS b r r w w' := ⟨.inl rfl, h.mono fun _ _ h => .inl h⟩
theorem MS.then_ {b : Nat} {r r1 r2 : Option Nat} {w w1 w2 : World} (h : MS b r r1 w w1) (k : MS b r1 r2 w1 w2) : MS b r r2 w w2 := by
  obtain ⟨h1, hm⟩ := h
  obtain ⟨k1, km⟩ := k
  refine ⟨?_, hm.trans km (fun i _ h => h) (fun i hi h => ?_)⟩
  · rcases k1 with rfl | ⟨q, rfl, hq⟩
    · exact h1
    · exact .inr ⟨q, rfl, Nat.le_trans hm.size hq⟩
  · rcases h with h | h
    · exact .inl h
    · rcases h1 with rfl | ⟨q, rfl, hq⟩
      · exact .inr h
      · injection h with h
        omega
set_option maxHeartbeats 8000000 in
set_option maxRecDepth 20000 in
theorem reveal_calls (b : Nat) (r : Option Nat) (B : Nat) (X : MX) (s : VS) (i m : Nat) (w : World) (h : MAt w b r B X s) (hL : s.L.length ≤ 48) (hok : okC s.L) (hi : i < s.L.length) (hm : m < 4294967296) (ht : s.t < 18446744073709551616) (hsh : s.sh.length ≤ 100000) (hB : B ≤ w.heap.size) :
    Calls Tryd.prog 71 #[.pointer (some ⟨b, 0, none⟩), .int .i64 i, .int .u32 m] w fun e w' => e = .returned (.tuple #[]) ∧ ∃ r', MAt w' b r' B X (s.reveal i m) ∧ MS b r r' w w' := by
  obtain ⟨sh, q0, hS0, hr, hrb⟩ := h
  have hlt := q0.lt
  have hfit := okC_get hok hi
  have hA := fun W => At_in s.L i W hL hi
  have hSh := fun W => Show_in s.L i m W hL hok hi hm
  obtain ⟨x, hx⟩ : ∃ x, x = s.L[i].1 := ⟨_, rfl⟩
  obtain ⟨y, hy⟩ : ∃ y, y = s.L[i].2 := ⟨_, rfl⟩
  have hcl : s.cl i = (x, y) := by rw [cl_eq hi, hx, hy]
  rw [← hx, ← hy] at hA hSh hfit
  have hLs := fun W => MLess_calls m y W hm hfit.2
  obtain ⟨M, hM⟩ : ∃ M, M = s.L.set i (x, y ||| m) := ⟨_, rfl⟩
  rw [← hM] at hSh
  obtain ⟨f, hf⟩ : ∃ f, f = lessN m y := ⟨_, rfl⟩
  rw [← hf] at hSh hLs
  have hT := fun W r' l (hW : MAt W b r' B X { s with L := M, sh := l }) => touch_calls b r' B X { s with L := M, sh := l } i W hW (by omega) ht
  obtain ⟨s1, hs1⟩ : ∃ s1, s1 = s.reveal i m := ⟨_, rfl⟩
  have hs2 : s1 = { s with L := M, t := s.t ||| 2 ^ i, sh := if f = 0 then s.sh else s.sh ++ [(i, f, x)] } := by
    rw [hs1]
    unfold VS.reveal VS.put
    rw [hcl, hM, hf]
  rw [← hs1]
  have HS1 := Lib.hid hs2
  have hfl : f < 4294967296 := by rw [hf]; exact lessN_lt _ hm
  clear hx hy hcl hs1 hs2 hM hf hok hfit
  go_enter Tryd.func71, Tryd.ntmps71
  go_wp2_with ((with_reducible refine at_ld 36 15 ?_); refine wpList_ldM rfl (.tmp 15) rfl b rfl q0 ?_)
  refine (hA _).mono ?_
  rintro e w1 ⟨rfl, h1⟩
  have q1 := (q0.ext h1).alloc (.cells #[.int .i32 x, .int .u32 (y : Int)] 33)
  have g1 : BoxC (w1.alloc (.cells #[.int .i32 x, .int .u32 (y : Int)] 33)) w1.heap.size x y := heap_alloc_new w1 _
  have hm1 := MM.al (MM.ofB (b := b) h1) (.cells #[.int .i32 x, .int .u32 (y : Int)] 33)
  obtain ⟨G, hG⟩ : ∃ G, G = w1.heap.size := ⟨_, rfl⟩
  have hGl : b < G ∧ w.heap.size ≤ G := by rw [hG]; exact ⟨by have := (q0.ext h1).lt; omega, h1.size⟩
  clear hA
  go_wp2_with ((with_reducible refine at_ld 36 25 ?_); refine wpList_ldM rfl (.tmp 25) rfl b rfl q1 ?_)
  rw [← hG] at g1 ⊢
  obtain ⟨wz, hwz⟩ : ∃ wz, wz = w1.alloc (.cells #[.int .i32 x, .int .u32 (y : Int)] 33) := ⟨_, rfl⟩
  rw [← hwz] at q1 g1 hm1 ⊢
  clear hwz hG h1
  refine (hSh _).mono ?_
  rintro e w2 ⟨rfl, h2⟩
  have q2 := (q1.ext h2).alloc (.cells (bdL M) 36)
  have g2 : BoxC (w2.alloc (.cells (bdL M) 36)) G x y := BoxC.ext (BoxC.ext g1 h2) (below_alloc1 _ _)
  have l2 := BoxL.new_ w2 M
  have hm2 := (hm1.ext h2).al (.cells (bdL M) 36)
  have hGz : G < w2.heap.size := by have := g1.lt; have := h2.size; omega
  obtain ⟨N, hN⟩ : ∃ N, N = w2.heap.size := ⟨_, rfl⟩
  have HN := Lib.hid hN
  rw [← hN] at l2 hGz
  have hz2 : (w2.alloc (.cells (bdL M) 36)).heap.size = N + 1 := by rw [hN]; simp
  clear hSh q1 g1 hm1 h2 hN
  by_cases hf0 : f = 0
  · obtain rfl : s1 = { s with L := M, t := s.t ||| 2 ^ i } := by rw [HS1.out, if_pos hf0]
    subst hf0
    go_wp2_with (first | ((with_reducible refine at_al 36 8 ?_); refine wpList_al rfl rfl (some 8) rfl N HN.out.symm ?_) | ((with_reducible refine at_st 36 8 30 ?_); refine wpList_put rfl (.tmp 8) (.tmp 30) rfl HN.out.symm M rfl rfl ?_) | ((with_reducible refine at_ld 36 8 ?_); refine wpList_ld rfl (.tmp 8) rfl N rfl M l2 ?_) | ((with_reducible refine at_st 36 57 54 ?_); refine wpList_stM rfl (.tmp 57) (.tmp 54) rfl b M rfl rfl q2 ?_))
    have q3 := q2.sL M
    have hm3 := hm2.long (bdL M).toList
    refine (hT _ r s.sh (MAt.back hS0 hr hrb q3 hm3 rfl)).mono ?_
    rintro e w4 ⟨rfl, h4, h5⟩
    go_wp2_with fail
    go_end0
    exact ⟨rfl, r, h4, (hm3.then_ h5).ms r⟩
  · obtain rfl : s1 = { s with L := M, t := s.t ||| 2 ^ i, sh := s.sh ++ [(i, f, x)] } := by rw [HS1.out, if_neg hf0]
    have hf1 : (!decide (f = 0)) = true := by simp [hf0]
    rw [hf1]
    go_wp2_with (first | ((with_reducible refine at_al 36 8 ?_); refine wpList_al rfl rfl (some 8) rfl N HN.out.symm ?_) | ((with_reducible refine at_st 36 8 30 ?_); refine wpList_put rfl (.tmp 8) (.tmp 30) rfl HN.out.symm M rfl rfl ?_))
    obtain ⟨wz, hwz⟩ : ∃ wz, wz = w2.alloc (.cells (bdL M) 36) := ⟨_, rfl⟩
    rw [← hwz] at q2 g2 l2 hm2 hz2 ⊢
    clear hwz HN
    have g2 : BoxC wz G x y := g2
    have l2 : BoxL wz N M := l2
    have cS := q2.cS
    have hm2' := hm2.ms r
    clear hf1 hf0 HS1 hz2
    refine wp_region_held_drew (S := fun w' => BoxC w' G x y) (by kernel_rfl) ?_ (fun hHeld => ?_)
    · exact g2
    refine wpAnyH_take (i := 0) (v := ?zv0) (by simp only [List.getElem?_toArray, List.getElem?_cons_zero]; rfl) (by kernel_rfl) (by kernel_rfl) (by kernel_rfl) (by exact fun _ _ _ h => h) (Or.inl ⟨by rfl, ?zy0⟩) hHeld ?_
    case zy0 => (intro w hSw; (try dsimp only at hSw); have hy0 := hSw.c0; have hy1 := hSw.c1; clear hSw; go_simp; try (with_reducible rfl))
    try simp only [Act.put, List.setIfInBounds_toArray, List.set_cons_zero, List.set_cons_succ]
    refine wpAnyH_take (i := 1) (v := ?zv1) (by simp only [List.getElem?_toArray, List.getElem?_cons_succ, List.getElem?_cons_zero]; rfl) (by kernel_rfl) (by kernel_rfl) (by kernel_rfl) (by exact fun _ _ _ h => h) (Or.inl ⟨by rfl, ?zy1⟩) hHeld ?_
    case zy1 => (intro w hSw; (try dsimp only at hSw); have hy0 := hSw.c0; have hy1 := hSw.c1; clear hSw; go_simp; try (with_reducible rfl))
    try simp only [Act.put, List.setIfInBounds_toArray, List.set_cons_zero, List.set_cons_succ]
    refine wpAnyH_take (i := 2) (v := ?zv2) (by simp only [List.getElem?_toArray, List.getElem?_cons_succ, List.getElem?_cons_zero]; rfl) (by kernel_rfl) (by kernel_rfl) (by kernel_rfl) (by exact fun _ _ _ h => h) (Or.inl ⟨by rfl, ?zy2⟩) hHeld ?_
    case zy2 => (intro w hSw; (try dsimp only at hSw); have hy0 := hSw.c0; have hy1 := hSw.c1; clear hSw; go_simp; try (with_reducible rfl))
    try simp only [Act.put, List.setIfInBounds_toArray, List.set_cons_zero, List.set_cons_succ]
    refine wpAnyH_take (i := 3) (v := ?zv3) (by simp only [List.getElem?_toArray, List.getElem?_cons_succ, List.getElem?_cons_zero]; rfl) (by kernel_rfl) (by kernel_rfl) (by kernel_rfl) (by exact fun _ _ _ h => h) (Or.inl ⟨by rfl, ?zy3⟩) hHeld ?_
    case zy3 => (intro w hSw; (try dsimp only at hSw); have hy0 := hSw.c0; have hy1 := hSw.c1; clear hSw; go_simp; try (with_reducible rfl))
    try simp only [Act.put, List.setIfInBounds_toArray, List.set_cons_zero, List.set_cons_succ]
    refine wpAnyH_take (i := 4) (v := ?zv4) (by simp only [List.getElem?_toArray, List.getElem?_cons_succ, List.getElem?_cons_zero]; rfl) (by kernel_rfl) (by kernel_rfl) (by kernel_rfl) (by exact fun _ _ _ h => h) (Or.inl ⟨by rfl, ?zy4⟩) hHeld ?_
    case zy4 => (intro w hSw; (try dsimp only at hSw); have hy0 := hSw.c0; have hy1 := hSw.c1; clear hSw; go_simp; try (with_reducible rfl))
    try simp only [Act.put, List.setIfInBounds_toArray, List.set_cons_zero, List.set_cons_succ]
    refine wpAnyH_take (i := 6) (v := ?zv6) (by simp only [List.getElem?_toArray, List.getElem?_cons_succ, List.getElem?_cons_zero]; rfl) (by kernel_rfl) (by kernel_rfl) (by kernel_rfl) (by exact fun _ _ _ h => h) (Or.inl ⟨by rfl, ?zy6⟩) hHeld ?_
    case zy6 => (intro w hSw; (try dsimp only at hSw); have hy0 := hSw.c0; have hy1 := hSw.c1; clear hSw; go_simp; try (with_reducible rfl))
    try simp only [Act.put, List.setIfInBounds_toArray, List.set_cons_zero, List.set_cons_succ]
    refine wpAnyH_take (i := 7) (v := ?zv7) (by simp only [List.getElem?_toArray, List.getElem?_cons_succ, List.getElem?_cons_zero]; rfl) (by kernel_rfl) (by kernel_rfl) (by kernel_rfl) (by exact fun _ _ _ h => h) (Or.inl ⟨by rfl, ?zy7⟩) hHeld ?_
    case zy7 => (intro w hSw; (try dsimp only at hSw); have hy0 := hSw.c0; have hy1 := hSw.c1; clear hSw; go_simp; try (with_reducible rfl))
    try simp only [Act.put, List.setIfInBounds_toArray, List.set_cons_zero, List.set_cons_succ]
    refine wpAnyH_take (i := 8) (v := ?zv8) (by simp only [List.getElem?_toArray, List.getElem?_cons_succ, List.getElem?_cons_zero]; rfl) (by kernel_rfl) (by kernel_rfl) (by kernel_rfl) (by exact fun _ _ _ h => h) (Or.inl ⟨by rfl, ?zy8⟩) hHeld ?_
    case zy8 => (intro w hSw; (try dsimp only at hSw); have hy0 := hSw.c0; have hy1 := hSw.c1; clear hSw; go_simp; try (with_reducible rfl))
    try simp only [Act.put, List.setIfInBounds_toArray, List.set_cons_zero, List.set_cons_succ]
    refine wpAnyH_take (i := 9) (v := ?zv9) (by simp only [List.getElem?_toArray, List.getElem?_cons_succ, List.getElem?_cons_zero]; rfl) (by kernel_rfl) (by kernel_rfl) (by kernel_rfl) (by exact fun _ _ _ h => h) (Or.inl ⟨by rfl, ?zy9⟩) hHeld ?_
    case zy9 => (intro w hSw; (try dsimp only at hSw); have hy0 := hSw.c0; have hy1 := hSw.c1; clear hSw; go_simp; try (with_reducible rfl))
    try simp only [Act.put, List.setIfInBounds_toArray, List.set_cons_zero, List.set_cons_succ]
    refine wpAnyH_take (i := 11) (v := ?zv11) (by simp only [List.getElem?_toArray, List.getElem?_cons_succ, List.getElem?_cons_zero]; rfl) (by kernel_rfl) (by kernel_rfl) (by kernel_rfl) (by exact fun _ _ _ h => h) (Or.inl ⟨by rfl, ?zy11⟩) hHeld ?_
    case zy11 => (intro w hSw; (try dsimp only at hSw); have hy0 := hSw.c0; have hy1 := hSw.c1; clear hSw; go_simp; try (with_reducible rfl))
    try simp only [Act.put, List.setIfInBounds_toArray, List.set_cons_zero, List.set_cons_succ]
    refine wpAnyH_take (i := 12) (v := ?zv12) (by simp only [List.getElem?_toArray, List.getElem?_cons_succ, List.getElem?_cons_zero]; rfl) (by kernel_rfl) (by kernel_rfl) (by kernel_rfl) (by exact fun _ _ _ h => h) (Or.inl ⟨by rfl, ?zy12⟩) hHeld ?_
    case zy12 => (intro w hSw; (try dsimp only at hSw); have hy0 := hSw.c0; have hy1 := hSw.c1; clear hSw; go_simp; try (with_reducible rfl))
    try simp only [Act.put, List.setIfInBounds_toArray, List.set_cons_zero, List.set_cons_succ]
    refine wpAnyH_ready (rs := [5, 10]) (by kernel_rfl) (by simp) ?_
    refine AllReadyH.cons (by simp only [List.getElem?_toArray, List.getElem?_cons_succ, List.getElem?_cons_zero]; rfl) (fun KK hKK => ?_) (AllReadyH.cons (by simp only [List.getElem?_toArray, List.getElem?_cons_succ, List.getElem?_cons_zero]; rfl) (fun KK hKK => ?_) AllReadyH.nil)
    · go_simp
      refine hKK.out _ _ ?_ (fun hHeld => ?_)
      · exact g2
      clear hKK KK
      try simp only [Act.put, List.setIfInBounds_toArray, List.set_cons_zero, List.set_cons_succ]
      refine wpAnyH_ready (rs := [10]) (by kernel_rfl) (by simp) ?_
      refine AllReadyH.cons (by simp only [List.getElem?_toArray, List.getElem?_cons_succ, List.getElem?_cons_zero]; rfl) (fun KK hKK => ?_) AllReadyH.nil
      go_simp
      refine (hLs _).mono ?_
      rintro e w6 ⟨rfl, rfl⟩
      go_wp2_with fail
      refine hKK.out _ _ ?_ (fun hHeld => ?_)
      · exact g2
      clear hKK KK
      try simp only [Act.put, List.setIfInBounds_toArray, List.set_cons_zero, List.set_cons_succ]
      refine wpAnyH_take (i := 13) (v := ?yv13) (by simp only [List.getElem?_toArray, List.getElem?_cons_succ, List.getElem?_cons_zero]; rfl) (by kernel_rfl) (by kernel_rfl) (by kernel_rfl) (by exact fun _ _ _ h => h) (Or.inl ⟨by rfl, ?yy13⟩) hHeld ?_
      case yy13 => (intro w hSw; (try dsimp only at hSw); have hy0 := hSw.c0; have hy1 := hSw.c1; clear hSw; go_simp; try (with_reducible rfl))
      try simp only [Act.put, List.setIfInBounds_toArray, List.set_cons_zero, List.set_cons_succ]
      refine wpAnyH_ready (rs := [14]) (by kernel_rfl) (by simp) ?_
      refine AllReadyH.cons (by simp only [List.getElem?_toArray, List.getElem?_cons_succ, List.getElem?_cons_zero]; rfl) (fun KK hKK => ?_) AllReadyH.nil
      go_simp
      have q3 := q2.alloc (.cells #[.int .i64 (i : Int), .int .u32 (f : Int), .int .i32 x] 56)
      have cS := q3.cS
      have l3 := l2.alloc (.cells #[.int .i64 (i : Int), .int .u32 (f : Int), .int .i32 x] 56)
      have g3 := BoxC.ext g2 (below_alloc1 wz (.cells #[.int .i64 (i : Int), .int .u32 (f : Int), .int .i32 x] 56))
      have hs3 : Sl (wz.alloc (.cells #[.int .i64 (i : Int), .int .u32 (f : Int), .int .i32 x] 56)) wz.heap.size (some ⟨wz.heap.size, 0, none⟩) (sv [(i, f, x)]) := Sl.cells_new wz _ _
      have hS3 := RowS.mod hS0 ((hm2.al (.cells #[.int .i64 (i : Int), .int .u32 (f : Int), .int .i32 x] 56))) (fun k hk h => hrb (hr.symm.trans (hk.trans (congrArg some h))))
      refine hKK.out _ _ ?_ (fun hHeld => ?_)
      · exact g3
      clear hKK KK
      try simp only [Act.put, List.setIfInBounds_toArray, List.set_cons_zero, List.set_cons_succ]
      refine wpAnyH_ready (rs := [15]) (by kernel_rfl) (by simp) ?_
      refine AllReadyH.cons (by simp only [List.getElem?_toArray, List.getElem?_cons_succ, List.getElem?_cons_zero]; rfl) (fun KK hKK => ?_) AllReadyH.nil
      rw [if_pos (by rfl)]
      refine wp_appS (.tmp 39) (.tmp 48) rfl B sh s.sh rfl (show RowS (wz.alloc (.cells #[.int .i64 (i : Int), .int .u32 (f : Int), .int .i32 x] 56)).drew B sh s.sh from hS3) wz.heap.size _ 1 (i, f, x) rfl (Sl.drew hs3) (by omega) (show B ≤ (wz.alloc (.cells #[.int .i64 (i : Int), .int .u32 (f : Int), .int .i32 x] 56)).heap.size by simp; have := hm2.size; omega) ?_
      intro v' w7 hrow hmod hown
      have hq7 : MB w7 b X sh s := MB.mod (w := (wz.alloc (.cells #[.int .i64 (i : Int), .int .u32 (f : Int), .int .i32 x] 56)).drew) q3 hmod (fun h => hrb (hr.symm.trans h))
      obtain ⟨A', n', c', rfl⟩ : ∃ A' n' c', v' = .slice A' n' c' := by rcases hrow.2 with ⟨h, _⟩ | ⟨g, cap, cur, h, _⟩ <;> exact ⟨_, _, _, h⟩
      have hrl := World.ownsRow.lt hS0
      have g7 : BoxC w7 G x y := (hmod.block G (show G < (wz.alloc (.cells #[.int .i64 (i : Int), .int .u32 (f : Int), .int .i32 x] 56)).heap.size from BoxC.lt g3) (fun h => by have := (hrl G h).2; omega)).trans g3
      have l7 : BoxL w7 N M := BoxL.mod (w := (wz.alloc (.cells #[.int .i64 (i : Int), .int .u32 (f : Int), .int .i32 x] 56)).drew) l3 hmod (fun h => by have := (hrl N h).2; omega)
      have hM7 : Mod (fun k => k = b ∨ r = some k) w w7 := ((hm2.al (.cells #[.int .i64 (i : Int), .int .u32 (f : Int), .int .i32 x] 56)).dr.mono (fun _ _ h => Or.inl h)).trans hmod (fun _ _ h => h) (fun _ _ h => Or.inr (hr.symm.trans h))
      have hzz : w.heap.size ≤ (wz.alloc (.cells #[.int .i64 (i : Int), .int .u32 (f : Int), .int .i32 x] 56)).heap.size := (hm2.al (.cells #[.int .i64 (i : Int), .int .u32 (f : Int), .int .i32 x] 56)).size
      have hown' : (Value.slice A' n' c').ownBlock = r ∨ ∃ k, (Value.slice A' n' c').ownBlock = some k ∧ w.heap.size ≤ k := hown.imp (fun h => h.trans hr) (fun h => ⟨_, h, hzz⟩)
      have hvb : (Value.slice A' n' c').ownBlock ≠ some b := by rcases hown' with h | ⟨k, h, hk⟩ <;> rw [h]; exact hrb; intro e; injection e with e; omega
      have e0 := hq7.cS
      have e1 := hq7.free 99
      clear hown hmod hrl
      refine hKK.out _ _ ?_ (fun hHeld => ?_)
      · exact g7
      clear hKK KK
      try simp only [Act.put]
      refine wpAnyH_take (i := 16) (v := ?yv16) (by simp only [List.getElem?_toArray, List.getElem?_cons_succ, List.getElem?_cons_zero]; rfl) (by kernel_rfl) (by kernel_rfl) (by kernel_rfl) (by exact fun _ _ _ h => h) (Or.inl ⟨by rfl, ?yy16⟩) hHeld ?_
      case yy16 => (intro w hSw; (try dsimp only at hSw); have hy0 := hSw.c0; have hy1 := hSw.c1; clear hSw; go_simp; try (with_reducible rfl))
      try simp only [Act.put, List.setIfInBounds_toArray, List.set_cons_zero, List.set_cons_succ]
      refine wpAnyH_take (i := 17) (v := ?yv17) (by simp only [List.getElem?_toArray, List.getElem?_cons_succ, List.getElem?_cons_zero]; rfl) (by kernel_rfl) (by kernel_rfl) (by kernel_rfl) (by exact fun _ _ _ h => h) (Or.inl ⟨by rfl, ?yy17⟩) hHeld ?_
      case yy17 => (intro w hSw; (try dsimp only at hSw); have hy0 := hSw.c0; have hy1 := hSw.c1; clear hSw; go_simp; try (with_reducible rfl))
      try simp only [Act.put, List.setIfInBounds_toArray, List.set_cons_zero, List.set_cons_succ]
      refine wpAnyH_take (i := 18) (v := ?yv18) (by simp only [List.getElem?_toArray, List.getElem?_cons_succ, List.getElem?_cons_zero]; rfl) (by kernel_rfl) (by kernel_rfl) (by kernel_rfl) (by exact fun _ _ _ h => h) (Or.inl ⟨by rfl, ?yy18⟩) hHeld ?_
      case yy18 => (intro w hSw; (try dsimp only at hSw); have hy0 := hSw.c0; have hy1 := hSw.c1; clear hSw; go_simp; try (with_reducible rfl))
      try simp only [Act.put, List.setIfInBounds_toArray, List.set_cons_zero, List.set_cons_succ]
      refine wpAnyH_ready (rs := [19]) (by kernel_rfl) (by simp) ?_
      refine AllReadyH.cons (by simp only [List.getElem?_toArray, List.getElem?_cons_succ, List.getElem?_cons_zero]; rfl) (fun KK hKK => ?_) AllReadyH.nil
      go_simp
      have q8 := hq7.sS (Value.slice A' n' c') (s.sh ++ [(i, f, x)])
      have g8 : BoxC (w7.setCell ⟨b, 99, none⟩ (Value.slice A' n' c')) G x y := (heap_setCell_other w7 ⟨b, 99, none⟩ G (Value.slice A' n' c') (by dsimp only; omega)).trans g7
      have l8 : BoxL (w7.setCell ⟨b, 99, none⟩ (Value.slice A' n' c')) N M := l7.other (p := ⟨b, 99, none⟩) (by dsimp only; omega) (Value.slice A' n' c')
      have hM8 := hM7.trans (Mod.setCell w7 ⟨b, 99, none⟩ (Value.slice A' n' c')) (fun _ _ h => h) (fun _ _ h => Or.inl h)
      have hrow8 := RowS.mod hrow (Mod.setCell w7 ⟨b, 99, none⟩ (Value.slice A' n' c')) (fun k hk h => hvb (hk.trans (congrArg some h)))
      refine hKK.out _ _ ?_ (fun hHeld => ?_)
      · exact g8
      clear hKK KK
      try simp only [Act.put, List.setIfInBounds_toArray, List.set_cons_zero, List.set_cons_succ]
      refine wpAnyH_done (by kernel_rfl) ?_ _
      clear e0 e1 cS
      go_wp2_with (first | ((with_reducible refine at_ld 36 8 ?_); refine wpList_ld rfl (.tmp 8) rfl N rfl M l8 ?_) | ((with_reducible refine at_st 36 57 54 ?_); refine wpList_stM rfl (.tmp 57) (.tmp 54) rfl b M rfl rfl q8 ?_))
      have q9 := q8.sL M
      have hM9 := hM8.trans (mod_setCells _ b 0 (bdL M).toList) (fun _ _ h => h) (fun _ _ h => Or.inl h)
      have hrow9 := RowS.mod hrow8 (mod_setCells _ b 0 (bdL M).toList) (fun k hk h => hvb (hk.trans (congrArg some h)))
      refine (hT _ (Value.slice A' n' c').ownBlock (s.sh ++ [(i, f, x)]) ⟨(Value.slice A' n' c'), q9, hrow9, rfl, hvb⟩).mono ?_
      rintro e w4 ⟨rfl, h4, h5⟩
      go_wp2_with fail
      go_end0
      exact ⟨rfl, (Value.slice A' n' c').ownBlock, h4, hown', hM9.trans h5 (fun _ _ h => h) (fun _ _ h => Or.inl h)⟩
    · go_simp
      refine (hLs _).mono ?_
      rintro e w6 ⟨rfl, rfl⟩
      go_wp2_with fail
      refine hKK.out _ _ ?_ (fun hHeld => ?_)
      · exact g2
      clear hKK KK
      try simp only [Act.put, List.setIfInBounds_toArray, List.set_cons_zero, List.set_cons_succ]
      refine wpAnyH_take (i := 13) (v := ?xv13) (by simp only [List.getElem?_toArray, List.getElem?_cons_succ, List.getElem?_cons_zero]; rfl) (by kernel_rfl) (by kernel_rfl) (by kernel_rfl) (by exact fun _ _ _ h => h) (Or.inl ⟨by rfl, ?xy13⟩) hHeld ?_
      case xy13 => (intro w hSw; (try dsimp only at hSw); have hy0 := hSw.c0; have hy1 := hSw.c1; clear hSw; go_simp; try (with_reducible rfl))
      try simp only [Act.put, List.setIfInBounds_toArray, List.set_cons_zero, List.set_cons_succ]
      refine wpAnyH_ready (rs := [5, 14]) (by kernel_rfl) (by simp) ?_
      refine AllReadyH.cons (by simp only [List.getElem?_toArray, List.getElem?_cons_succ, List.getElem?_cons_zero]; rfl) (fun KK hKK => ?_) (AllReadyH.cons (by simp only [List.getElem?_toArray, List.getElem?_cons_succ, List.getElem?_cons_zero]; rfl) (fun KK hKK => ?_) AllReadyH.nil)
      · go_simp
        refine hKK.out _ _ ?_ (fun hHeld => ?_)
        · exact g2
        clear hKK KK
        try simp only [Act.put, List.setIfInBounds_toArray, List.set_cons_zero, List.set_cons_succ]
        refine wpAnyH_ready (rs := [14]) (by kernel_rfl) (by simp) ?_
        refine AllReadyH.cons (by simp only [List.getElem?_toArray, List.getElem?_cons_succ, List.getElem?_cons_zero]; rfl) (fun KK hKK => ?_) AllReadyH.nil
        go_simp
        have q3 := q2.alloc (.cells #[.int .i64 (i : Int), .int .u32 (f : Int), .int .i32 x] 56)
        have cS := q3.cS
        have l3 := l2.alloc (.cells #[.int .i64 (i : Int), .int .u32 (f : Int), .int .i32 x] 56)
        have g3 := BoxC.ext g2 (below_alloc1 wz (.cells #[.int .i64 (i : Int), .int .u32 (f : Int), .int .i32 x] 56))
        have hs3 : Sl (wz.alloc (.cells #[.int .i64 (i : Int), .int .u32 (f : Int), .int .i32 x] 56)) wz.heap.size (some ⟨wz.heap.size, 0, none⟩) (sv [(i, f, x)]) := Sl.cells_new wz _ _
        have hS3 := RowS.mod hS0 ((hm2.al (.cells #[.int .i64 (i : Int), .int .u32 (f : Int), .int .i32 x] 56))) (fun k hk h => hrb (hr.symm.trans (hk.trans (congrArg some h))))
        refine hKK.out _ _ ?_ (fun hHeld => ?_)
        · exact g3
        clear hKK KK
        try simp only [Act.put, List.setIfInBounds_toArray, List.set_cons_zero, List.set_cons_succ]
        refine wpAnyH_ready (rs := [15]) (by kernel_rfl) (by simp) ?_
        refine AllReadyH.cons (by simp only [List.getElem?_toArray, List.getElem?_cons_succ, List.getElem?_cons_zero]; rfl) (fun KK hKK => ?_) AllReadyH.nil
        rw [if_pos (by rfl)]
        refine wp_appS (.tmp 39) (.tmp 48) rfl B sh s.sh rfl (show RowS (wz.alloc (.cells #[.int .i64 (i : Int), .int .u32 (f : Int), .int .i32 x] 56)).drew B sh s.sh from hS3) wz.heap.size _ 1 (i, f, x) rfl (Sl.drew hs3) (by omega) (show B ≤ (wz.alloc (.cells #[.int .i64 (i : Int), .int .u32 (f : Int), .int .i32 x] 56)).heap.size by simp; have := hm2.size; omega) ?_
        intro v' w7 hrow hmod hown
        have hq7 : MB w7 b X sh s := MB.mod (w := (wz.alloc (.cells #[.int .i64 (i : Int), .int .u32 (f : Int), .int .i32 x] 56)).drew) q3 hmod (fun h => hrb (hr.symm.trans h))
        obtain ⟨A', n', c', rfl⟩ : ∃ A' n' c', v' = .slice A' n' c' := by rcases hrow.2 with ⟨h, _⟩ | ⟨g, cap, cur, h, _⟩ <;> exact ⟨_, _, _, h⟩
        have hrl := World.ownsRow.lt hS0
        have g7 : BoxC w7 G x y := (hmod.block G (show G < (wz.alloc (.cells #[.int .i64 (i : Int), .int .u32 (f : Int), .int .i32 x] 56)).heap.size from BoxC.lt g3) (fun h => by have := (hrl G h).2; omega)).trans g3
        have l7 : BoxL w7 N M := BoxL.mod (w := (wz.alloc (.cells #[.int .i64 (i : Int), .int .u32 (f : Int), .int .i32 x] 56)).drew) l3 hmod (fun h => by have := (hrl N h).2; omega)
        have hM7 : Mod (fun k => k = b ∨ r = some k) w w7 := ((hm2.al (.cells #[.int .i64 (i : Int), .int .u32 (f : Int), .int .i32 x] 56)).dr.mono (fun _ _ h => Or.inl h)).trans hmod (fun _ _ h => h) (fun _ _ h => Or.inr (hr.symm.trans h))
        have hzz : w.heap.size ≤ (wz.alloc (.cells #[.int .i64 (i : Int), .int .u32 (f : Int), .int .i32 x] 56)).heap.size := (hm2.al (.cells #[.int .i64 (i : Int), .int .u32 (f : Int), .int .i32 x] 56)).size
        have hown' : (Value.slice A' n' c').ownBlock = r ∨ ∃ k, (Value.slice A' n' c').ownBlock = some k ∧ w.heap.size ≤ k := hown.imp (fun h => h.trans hr) (fun h => ⟨_, h, hzz⟩)
        have hvb : (Value.slice A' n' c').ownBlock ≠ some b := by rcases hown' with h | ⟨k, h, hk⟩ <;> rw [h]; exact hrb; intro e; injection e with e; omega
        have e0 := hq7.cS
        have e1 := hq7.free 99
        clear hown hmod hrl
        refine hKK.out _ _ ?_ (fun hHeld => ?_)
        · exact g7
        clear hKK KK
        try simp only [Act.put]
        refine wpAnyH_take (i := 16) (v := ?vv16) (by simp only [List.getElem?_toArray, List.getElem?_cons_succ, List.getElem?_cons_zero]; rfl) (by kernel_rfl) (by kernel_rfl) (by kernel_rfl) (by exact fun _ _ _ h => h) (Or.inl ⟨by rfl, ?vy16⟩) hHeld ?_
        case vy16 => (intro w hSw; (try dsimp only at hSw); have hy0 := hSw.c0; have hy1 := hSw.c1; clear hSw; go_simp; try (with_reducible rfl))
        try simp only [Act.put, List.setIfInBounds_toArray, List.set_cons_zero, List.set_cons_succ]
        refine wpAnyH_take (i := 17) (v := ?vv17) (by simp only [List.getElem?_toArray, List.getElem?_cons_succ, List.getElem?_cons_zero]; rfl) (by kernel_rfl) (by kernel_rfl) (by kernel_rfl) (by exact fun _ _ _ h => h) (Or.inl ⟨by rfl, ?vy17⟩) hHeld ?_
        case vy17 => (intro w hSw; (try dsimp only at hSw); have hy0 := hSw.c0; have hy1 := hSw.c1; clear hSw; go_simp; try (with_reducible rfl))
        try simp only [Act.put, List.setIfInBounds_toArray, List.set_cons_zero, List.set_cons_succ]
        refine wpAnyH_take (i := 18) (v := ?vv18) (by simp only [List.getElem?_toArray, List.getElem?_cons_succ, List.getElem?_cons_zero]; rfl) (by kernel_rfl) (by kernel_rfl) (by kernel_rfl) (by exact fun _ _ _ h => h) (Or.inl ⟨by rfl, ?vy18⟩) hHeld ?_
        case vy18 => (intro w hSw; (try dsimp only at hSw); have hy0 := hSw.c0; have hy1 := hSw.c1; clear hSw; go_simp; try (with_reducible rfl))
        try simp only [Act.put, List.setIfInBounds_toArray, List.set_cons_zero, List.set_cons_succ]
        refine wpAnyH_ready (rs := [19]) (by kernel_rfl) (by simp) ?_
        refine AllReadyH.cons (by simp only [List.getElem?_toArray, List.getElem?_cons_succ, List.getElem?_cons_zero]; rfl) (fun KK hKK => ?_) AllReadyH.nil
        go_simp
        have q8 := hq7.sS (Value.slice A' n' c') (s.sh ++ [(i, f, x)])
        have g8 : BoxC (w7.setCell ⟨b, 99, none⟩ (Value.slice A' n' c')) G x y := (heap_setCell_other w7 ⟨b, 99, none⟩ G (Value.slice A' n' c') (by dsimp only; omega)).trans g7
        have l8 : BoxL (w7.setCell ⟨b, 99, none⟩ (Value.slice A' n' c')) N M := l7.other (p := ⟨b, 99, none⟩) (by dsimp only; omega) (Value.slice A' n' c')
        have hM8 := hM7.trans (Mod.setCell w7 ⟨b, 99, none⟩ (Value.slice A' n' c')) (fun _ _ h => h) (fun _ _ h => Or.inl h)
        have hrow8 := RowS.mod hrow (Mod.setCell w7 ⟨b, 99, none⟩ (Value.slice A' n' c')) (fun k hk h => hvb (hk.trans (congrArg some h)))
        refine hKK.out _ _ ?_ (fun hHeld => ?_)
        · exact g8
        clear hKK KK
        try simp only [Act.put, List.setIfInBounds_toArray, List.set_cons_zero, List.set_cons_succ]
        refine wpAnyH_done (by kernel_rfl) ?_ _
        clear e0 e1 cS
        go_wp2_with (first | ((with_reducible refine at_ld 36 8 ?_); refine wpList_ld rfl (.tmp 8) rfl N rfl M l8 ?_) | ((with_reducible refine at_st 36 57 54 ?_); refine wpList_stM rfl (.tmp 57) (.tmp 54) rfl b M rfl rfl q8 ?_))
        have q9 := q8.sL M
        have hM9 := hM8.trans (mod_setCells _ b 0 (bdL M).toList) (fun _ _ h => h) (fun _ _ h => Or.inl h)
        have hrow9 := RowS.mod hrow8 (mod_setCells _ b 0 (bdL M).toList) (fun k hk h => hvb (hk.trans (congrArg some h)))
        refine (hT _ (Value.slice A' n' c').ownBlock (s.sh ++ [(i, f, x)]) ⟨(Value.slice A' n' c'), q9, hrow9, rfl, hvb⟩).mono ?_
        rintro e w4 ⟨rfl, h4, h5⟩
        go_wp2_with fail
        go_end0
        exact ⟨rfl, (Value.slice A' n' c').ownBlock, h4, hown', hM9.trans h5 (fun _ _ h => h) (fun _ _ h => Or.inl h)⟩
      · go_simp
        have q3 := q2.alloc (.cells #[.int .i64 (i : Int), .int .u32 (f : Int), .int .i32 x] 56)
        have cS := q3.cS
        have l3 := l2.alloc (.cells #[.int .i64 (i : Int), .int .u32 (f : Int), .int .i32 x] 56)
        have g3 := BoxC.ext g2 (below_alloc1 wz (.cells #[.int .i64 (i : Int), .int .u32 (f : Int), .int .i32 x] 56))
        have hs3 : Sl (wz.alloc (.cells #[.int .i64 (i : Int), .int .u32 (f : Int), .int .i32 x] 56)) wz.heap.size (some ⟨wz.heap.size, 0, none⟩) (sv [(i, f, x)]) := Sl.cells_new wz _ _
        have hS3 := RowS.mod hS0 ((hm2.al (.cells #[.int .i64 (i : Int), .int .u32 (f : Int), .int .i32 x] 56))) (fun k hk h => hrb (hr.symm.trans (hk.trans (congrArg some h))))
        refine hKK.out _ _ ?_ (fun hHeld => ?_)
        · exact g3
        clear hKK KK
        try simp only [Act.put, List.setIfInBounds_toArray, List.set_cons_zero, List.set_cons_succ]
        refine wpAnyH_ready (rs := [5]) (by kernel_rfl) (by simp) ?_
        refine AllReadyH.cons (by simp only [List.getElem?_toArray, List.getElem?_cons_succ, List.getElem?_cons_zero]; rfl) (fun KK hKK => ?_) AllReadyH.nil
        go_simp
        refine hKK.out _ _ ?_ (fun hHeld => ?_)
        · exact g3
        clear hKK KK
        try simp only [Act.put, List.setIfInBounds_toArray, List.set_cons_zero, List.set_cons_succ]
        refine wpAnyH_ready (rs := [15]) (by kernel_rfl) (by simp) ?_
        refine AllReadyH.cons (by simp only [List.getElem?_toArray, List.getElem?_cons_succ, List.getElem?_cons_zero]; rfl) (fun KK hKK => ?_) AllReadyH.nil
        rw [if_pos (by rfl)]
        refine wp_appS (.tmp 39) (.tmp 48) rfl B sh s.sh rfl (show RowS (wz.alloc (.cells #[.int .i64 (i : Int), .int .u32 (f : Int), .int .i32 x] 56)).drew B sh s.sh from hS3) wz.heap.size _ 1 (i, f, x) rfl (Sl.drew hs3) (by omega) (show B ≤ (wz.alloc (.cells #[.int .i64 (i : Int), .int .u32 (f : Int), .int .i32 x] 56)).heap.size by simp; have := hm2.size; omega) ?_
        intro v' w7 hrow hmod hown
        have hq7 : MB w7 b X sh s := MB.mod (w := (wz.alloc (.cells #[.int .i64 (i : Int), .int .u32 (f : Int), .int .i32 x] 56)).drew) q3 hmod (fun h => hrb (hr.symm.trans h))
        obtain ⟨A', n', c', rfl⟩ : ∃ A' n' c', v' = .slice A' n' c' := by rcases hrow.2 with ⟨h, _⟩ | ⟨g, cap, cur, h, _⟩ <;> exact ⟨_, _, _, h⟩
        have hrl := World.ownsRow.lt hS0
        have g7 : BoxC w7 G x y := (hmod.block G (show G < (wz.alloc (.cells #[.int .i64 (i : Int), .int .u32 (f : Int), .int .i32 x] 56)).heap.size from BoxC.lt g3) (fun h => by have := (hrl G h).2; omega)).trans g3
        have l7 : BoxL w7 N M := BoxL.mod (w := (wz.alloc (.cells #[.int .i64 (i : Int), .int .u32 (f : Int), .int .i32 x] 56)).drew) l3 hmod (fun h => by have := (hrl N h).2; omega)
        have hM7 : Mod (fun k => k = b ∨ r = some k) w w7 := ((hm2.al (.cells #[.int .i64 (i : Int), .int .u32 (f : Int), .int .i32 x] 56)).dr.mono (fun _ _ h => Or.inl h)).trans hmod (fun _ _ h => h) (fun _ _ h => Or.inr (hr.symm.trans h))
        have hzz : w.heap.size ≤ (wz.alloc (.cells #[.int .i64 (i : Int), .int .u32 (f : Int), .int .i32 x] 56)).heap.size := (hm2.al (.cells #[.int .i64 (i : Int), .int .u32 (f : Int), .int .i32 x] 56)).size
        have hown' : (Value.slice A' n' c').ownBlock = r ∨ ∃ k, (Value.slice A' n' c').ownBlock = some k ∧ w.heap.size ≤ k := hown.imp (fun h => h.trans hr) (fun h => ⟨_, h, hzz⟩)
        have hvb : (Value.slice A' n' c').ownBlock ≠ some b := by rcases hown' with h | ⟨k, h, hk⟩ <;> rw [h]; exact hrb; intro e; injection e with e; omega
        have e0 := hq7.cS
        have e1 := hq7.free 99
        clear hown hmod hrl
        refine hKK.out _ _ ?_ (fun hHeld => ?_)
        · exact g7
        clear hKK KK
        try simp only [Act.put]
        refine wpAnyH_take (i := 16) (v := ?uv16) (by simp only [List.getElem?_toArray, List.getElem?_cons_succ, List.getElem?_cons_zero]; rfl) (by kernel_rfl) (by kernel_rfl) (by kernel_rfl) (by exact fun _ _ _ h => h) (Or.inl ⟨by rfl, ?uy16⟩) hHeld ?_
        case uy16 => (intro w hSw; (try dsimp only at hSw); have hy0 := hSw.c0; have hy1 := hSw.c1; clear hSw; go_simp; try (with_reducible rfl))
        try simp only [Act.put, List.setIfInBounds_toArray, List.set_cons_zero, List.set_cons_succ]
        refine wpAnyH_take (i := 17) (v := ?uv17) (by simp only [List.getElem?_toArray, List.getElem?_cons_succ, List.getElem?_cons_zero]; rfl) (by kernel_rfl) (by kernel_rfl) (by kernel_rfl) (by exact fun _ _ _ h => h) (Or.inl ⟨by rfl, ?uy17⟩) hHeld ?_
        case uy17 => (intro w hSw; (try dsimp only at hSw); have hy0 := hSw.c0; have hy1 := hSw.c1; clear hSw; go_simp; try (with_reducible rfl))
        try simp only [Act.put, List.setIfInBounds_toArray, List.set_cons_zero, List.set_cons_succ]
        refine wpAnyH_take (i := 18) (v := ?uv18) (by simp only [List.getElem?_toArray, List.getElem?_cons_succ, List.getElem?_cons_zero]; rfl) (by kernel_rfl) (by kernel_rfl) (by kernel_rfl) (by exact fun _ _ _ h => h) (Or.inl ⟨by rfl, ?uy18⟩) hHeld ?_
        case uy18 => (intro w hSw; (try dsimp only at hSw); have hy0 := hSw.c0; have hy1 := hSw.c1; clear hSw; go_simp; try (with_reducible rfl))
        try simp only [Act.put, List.setIfInBounds_toArray, List.set_cons_zero, List.set_cons_succ]
        refine wpAnyH_ready (rs := [19]) (by kernel_rfl) (by simp) ?_
        refine AllReadyH.cons (by simp only [List.getElem?_toArray, List.getElem?_cons_succ, List.getElem?_cons_zero]; rfl) (fun KK hKK => ?_) AllReadyH.nil
        go_simp
        have q8 := hq7.sS (Value.slice A' n' c') (s.sh ++ [(i, f, x)])
        have g8 : BoxC (w7.setCell ⟨b, 99, none⟩ (Value.slice A' n' c')) G x y := (heap_setCell_other w7 ⟨b, 99, none⟩ G (Value.slice A' n' c') (by dsimp only; omega)).trans g7
        have l8 : BoxL (w7.setCell ⟨b, 99, none⟩ (Value.slice A' n' c')) N M := l7.other (p := ⟨b, 99, none⟩) (by dsimp only; omega) (Value.slice A' n' c')
        have hM8 := hM7.trans (Mod.setCell w7 ⟨b, 99, none⟩ (Value.slice A' n' c')) (fun _ _ h => h) (fun _ _ h => Or.inl h)
        have hrow8 := RowS.mod hrow (Mod.setCell w7 ⟨b, 99, none⟩ (Value.slice A' n' c')) (fun k hk h => hvb (hk.trans (congrArg some h)))
        refine hKK.out _ _ ?_ (fun hHeld => ?_)
        · exact g8
        clear hKK KK
        try simp only [Act.put, List.setIfInBounds_toArray, List.set_cons_zero, List.set_cons_succ]
        refine wpAnyH_done (by kernel_rfl) ?_ _
        clear e0 e1 cS
        go_wp2_with (first | ((with_reducible refine at_ld 36 8 ?_); refine wpList_ld rfl (.tmp 8) rfl N rfl M l8 ?_) | ((with_reducible refine at_st 36 57 54 ?_); refine wpList_stM rfl (.tmp 57) (.tmp 54) rfl b M rfl rfl q8 ?_))
        have q9 := q8.sL M
        have hM9 := hM8.trans (mod_setCells _ b 0 (bdL M).toList) (fun _ _ h => h) (fun _ _ h => Or.inl h)
        have hrow9 := RowS.mod hrow8 (mod_setCells _ b 0 (bdL M).toList) (fun k hk h => hvb (hk.trans (congrArg some h)))
        refine (hT _ (Value.slice A' n' c').ownBlock (s.sh ++ [(i, f, x)]) ⟨(Value.slice A' n' c'), q9, hrow9, rfl, hvb⟩).mono ?_
        rintro e w4 ⟨rfl, h4, h5⟩
        go_wp2_with fail
        go_end0
        exact ⟨rfl, (Value.slice A' n' c').ownBlock, h4, hown', hM9.trans h5 (fun _ _ h => h) (fun _ _ h => Or.inl h)⟩
end Go.Proofs.YtnbbglhpjpebhaaDoor
/- The machine's shuffle. Conditions: the cells are the board's; the numbers fit. -/
namespace Go.Proofs.YtnbbglhpjpebhaaDoor
open Go.RowKit

theorem puts_snoc (x : Int) : ∀ (l : List Int) (s : VS) (i : Nat), s.puts i (l ++ [x]) = (s.puts i l).put (i + l.length) (x, 0)
  | [], _, _ => rfl
  | y :: l, s, i => by
    rw [List.cons_append, VS.puts, VS.puts, puts_snoc x l]
    congr 1
    simp only [List.length_cons]
    omega
theorem puts_len (l : List Int) : ∀ (s : VS) (i : Nat), (s.puts i l).L.length = s.L.length := by
  induction l with
  | nil => intro s i; rfl
  | cons x l ih => intro s i; rw [VS.puts, ih]; simp [VS.put]
theorem put_t {s : VS} {i : Nat} (r : Int × Nat) (hi : i < 64) (h : s.t < 18446744073709551616) : (s.put i r).t < 18446744073709551616 :=
  Nat.or_lt_two_pow (n := 64) h (Nat.pow_lt_pow_right (by omega) hi)
theorem puts_t (l : List Int) : ∀ (s : VS) (i : Nat), i + l.length ≤ 64 → s.t < 18446744073709551616 → (s.puts i l).t < 18446744073709551616 := by
  induction l with
  | nil => intro s i _ h; exact h
  | cons x l ih => intro s i hi h; simp only [List.length_cons] at hi; rw [VS.puts]; exact ih _ _ (by omega) (put_t _ (by omega) h)
def valsV (L : List (Int × Nat)) (i k : Nat) : List Int := ((L.drop i).take k).map Prod.fst
theorem vals_len {L : List (Int × Nat)} {i k : Nat} (h : i + k ≤ L.length) : (valsV L i k).length = k := by simp [valsV]; omega
theorem vals_get {L : List (Int × Nat)} {i k j : Nat} (h : i + k ≤ L.length) (hj : j < k) : (valsV L i k)[j]? = some (L[i + j]'(by omega)).1 := by
  simp [valsV, hj, List.getElem?_drop, show i + j < L.length by omega]
set_option maxHeartbeats 4000000 in
set_option maxRecDepth 20000 in
theorem shuffle_calls (b : Nat) (r : Option Nat) (B : Nat) (X : MX) (s : VS) (i k : Nat) (w : World) (h : MAt w b r B X s) (hL : s.L.length ≤ 48) (hik : i + k ≤ s.L.length) (ht : s.t < 18446744073709551616) :
    Calls Tryd.prog 74 #[.pointer (some ⟨b, 0, none⟩), .int .i64 i, .int .i64 k] w fun e w' => e = .returned (.tuple #[]) ∧ MAt w' b r B X (shufV s i k) ∧ MM b w w' := by
  have hlt := h.lt
  have HR := Lib.hid h.rlt
  obtain ⟨s1, hs1⟩ : ∃ s1, s1 = shufV s i k := ⟨_, rfl⟩
  rw [← hs1]
  have HS1 := Lib.hid hs1
  have HV := Lib.hid (fun j (hj : j < k) => vals_get (L := s.L) hik hj)
  have HVL := Lib.hid (vals_len (L := s.L) hik)
  obtain ⟨V, hV⟩ : ∃ V, V = valsV s.L i k := ⟨_, rfl⟩
  rw [← hV] at HV HVL
  have hs2 : s1 = ({ s with d := (shufN (k - 1) s.d V).2 } : VS).puts i (shufN (k - 1) s.d V).1 := by rw [hs1, hV]; rfl
  have HS2 := Lib.hid hs2
  clear hs1 hV hs2 HS1
  go_enter Tryd.func74, Tryd.ntmps74
  go_wp2_with fail
  go_loopw [6, 7, 8, 9, 13] (fun vs v1 v2 v3 c wr => ∃ j : Nat, j ≤ k ∧ c = .int .i64 j ∧ MAt wr b r B X s ∧ Row32 wr w.heap.size vs (V.take j) ∧ MM b w wr) (fun _ _ _ _ c _ => k - (intOf c).toNat)
  case atStart => exact ⟨0, Nat.zero_le _, rfl, h, World.ownsRow_nil _ _ _ _, MM.refl_ _ _⟩
  case round =>
    obtain ⟨j, hj, rfl, hA, hrow, hm⟩ := hrel
    by_cases hlt2 : j < k
    · have hq := hA
      obtain ⟨sh, q, hS, hr, hrb⟩ := hq
      have hx := HV.out j hlt2
      have hAt := fun W => At_in s.L (i + j) W hL (by omega)
      obtain ⟨x, hxe⟩ : ∃ x, x = (s.L[i + j]'(by omega)).1 := ⟨_, rfl⟩
      obtain ⟨y, hye⟩ : ∃ y, y = (s.L[i + j]'(by omega)).2 := ⟨_, rfl⟩
      rw [← hxe, ← hye] at hAt
      rw [← hxe] at hx
      have hsn : V.take (j + 1) = V.take j ++ [x] := by rw [List.take_add_one, hx]; rfl
      have HSN := Lib.hid hsn
      have ej : (j : Int) < (k : Int) := by omega
      have ew : IntKind.i64.wrap ((i : Int) + (j : Int)) = ((i + j : Nat) : Int) := by rw [IntWalk.i64_in _ (by omega)]; omega
      have htl : (V.take j).length ≤ j := by rw [List.length_take]; omega
      clear hx hxe hye hsn hA h
      go_wp2_with ((with_reducible refine at_ld 36 20 ?_); refine wpList_ldM rfl (.tmp 20) rfl b rfl q ?_)
      refine (hAt _).mono ?_
      rintro e w1 ⟨rfl, h1⟩
      have q1 := (q.ext h1).alloc (.cells #[.int .i32 x, .int .u32 (y : Int)] 33)
      have g1 : BoxC (w1.alloc (.cells #[.int .i32 x, .int .u32 (y : Int)] 33)) w1.heap.size x y := heap_alloc_new w1 _
      have hmz := MM.al (MM.ofB (b := b) h1) (.cells #[.int .i32 x, .int .u32 (y : Int)] 33)
      have hm1 := hm.then_ hmz
      have hrow1 : Row32 (w1.alloc (.cells #[.int .i32 x, .int .u32 (y : Int)] 33)) w.heap.size u6 (V.take j) := own_ext (own_ext hrow h1) (below_alloc1 _ _)
      have hS1 := RowS.mod hS hmz (fun k hk h => hrb (hr.symm.trans (hk.trans (congrArg some h))))
      have hz1 : (w1.alloc (.cells #[.int .i32 x, .int .u32 (y : Int)] 33)).heap.size = w1.heap.size + 1 := by simp
      have hs2 : Is ((w1.alloc (.cells #[.int .i32 x, .int .u32 (y : Int)] 33)).alloc (.cells #[.int .i32 x] 21)) (w1.heap.size + 1) (some ⟨w1.heap.size + 1, 0, none⟩) [x] := by
        have := Sl.one_new (w1.alloc (.cells #[.int .i32 x, .int .u32 (y : Int)] 33)) (.int .i32 x) 21
        rw [hz1] at this
        exact this
      have hrow2 := own_ext hrow1 (below_alloc1 (w1.alloc (.cells #[.int .i32 x, .int .u32 (y : Int)] 33)) (.cells #[.int .i32 x] 21))
      have q2 := q1.alloc (.cells #[.int .i32 x] 21)
      have hm2 := MM.al hm1 (.cells #[.int .i32 x] 21)
      have hS2 := RowS.mod hS1 (Mod.alloc (fun k => k = b) _ (.cells #[.int .i32 x] 21)) (fun k hk h => hrb (hr.symm.trans (hk.trans (congrArg some h))))
      have c0 := g1.c0
      have hzb := hm2.size
      have HZ := Lib.hid (World.ownsRow.lt hrow2)
      have hb2 : b ≠ w1.heap.size := by have := q.lt; have := h1.size; omega
      clear hz1 hAt h1 q hrow hS hm hmz hm1 hrow1 hS1 g1 q1
      go_wp2_with (at_builtin; go_loud (refine wpList_app32 _ rfl (.tmp 28) (.tmp 31) rfl w.heap.size u6 (V.take j) rfl hrow2 (w1.heap.size + 1) (some ⟨w1.heap.size + 1, 0, none⟩) 1 1 [x] rfl hs2 rfl (by omega) hzb ?_); intro v' w7 hrow7 hmod7 hown7)
      go_roundw
      case rel =>
        refine ⟨j + 1, by omega, by go_num, ⟨sh, q2.mod hmod7 (fun h => by have := (HZ.out b h).1; omega), hS2.mod hmod7 (fun k hk h => ?_), hr, hrb⟩, by rw [HSN.out]; exact hrow7, ?_⟩
        · have h5 := (HR.out k (hr.symm.trans hk)).2
          have h6 := (HZ.out k h).1
          omega
        · exact hm2.trans hmod7 (fun _ _ h => h) (fun i hi h => by have := (HZ.out i h).1; omega)
      case measure => simp [intOf]; omega
    · obtain rfl : j = k := by omega
      have e1 : V.take j = V := List.take_of_length_le (by rw [HVL.out]; exact Nat.le_refl _)
      rw [e1] at hrow
      obtain ⟨A, c, bb, rfl, _, _, hsl⟩ := own_sl hrow
      obtain ⟨sh, q, hS, hr, hrb⟩ := hA
      have hvl := HVL.out
      have hSf := Shuffle_calls s.d A V j c bb wr hsl hvl (by omega)
      have cD := q.cD
      have HPl := Lib.hid (show (shufN (j - 1) s.d V).1.length = j by rw [shufN_length]; exact hvl)
      obtain ⟨dd, hdd⟩ : ∃ dd, dd = s.d := ⟨_, rfl⟩
      rw [← hdd] at cD hSf HPl HS2
      obtain ⟨P1, hP1⟩ : ∃ P1, P1 = (shufN (j - 1) dd V).1 := ⟨_, rfl⟩
      obtain ⟨D, hD⟩ : ∃ D, D = (shufN (j - 1) dd V).2 := ⟨_, rfl⟩
      rw [← hP1, ← hD] at hSf HS2
      rw [← hP1] at HPl
      rw [hvl]
      have hq := q.lt
      clear h hdd hP1 hD e1 hrow hvl
      go_wp2_with fail
      refine hSf.mono ?_
      rintro e w2 ⟨v, rfl, hrow2, h2⟩
      obtain ⟨A2, c2, b2, rfl, _, hb2, hs2⟩ := own_sl hrow2
      have hbl : b ≠ b2 := by omega
      have q2 := q.ext h2
      have hm2 := hm.ext h2
      have c2' := q2.cD
      have f2 := q2.free 97
      have q3 := q2.sD D
      have hs3 : Is (w2.setCell ⟨b, 97, none⟩ (.int .u64 (D : Int))) b2 A2 P1 := Sl.setCell hs2 (by dsimp only; omega) _
      have hm3 := hm2.cell 97 (.int .u64 (D : Int))
      have hS3 := RowS.mod hS ((MM.ofB (b := b) h2).cell 97 (.int .u64 (D : Int))) (fun k hk h => hrb (hr.symm.trans (hk.trans (congrArg some h))))
      have hP1 := HPl.out
      have hn : j = P1.length := hP1.symm
      have hA3 : MAt (w2.setCell ⟨b, 97, none⟩ (.int .u64 (D : Int))) b r B X { s with d := D } := ⟨sh, q3, hS3, hr, hrb⟩
      have HN := Lib.hid hn
      rw [hP1]
      clear hSf q q2 q3 hm hm2 hs2 hS hS3 hrow2 h2 hsl cD hP1 hn
      go_wp2_with fail
      obtain ⟨wz, hwz⟩ : ∃ wz, wz = w2.setCell ⟨b, 97, none⟩ (.int .u64 (D : Int)) := ⟨_, rfl⟩
      rw [← hwz] at hA3 hm3 hs3 ⊢
      clear c2' f2 hwz
      go_loopw [10, 11, 50] (fun v1 v2 c wr => ∃ k : Nat, k ≤ j ∧ c = .int .i64 k ∧ MAt wr b r B X (({ s with d := D } : VS).puts i (P1.take k)) ∧ Is wr b2 A2 P1 ∧ MM b w wr) (fun _ _ c _ => j - (intOf c).toNat)
      case atStart => exact ⟨0, Nat.zero_le _, rfl, hA3, hs3, hm3⟩
      case round =>
        clear hA3 hs3 hm3
        obtain ⟨k, hk, rfl, hA, hs, hm⟩ := hrel
        by_cases hlt2 : k < j
        · obtain ⟨y, hy⟩ : ∃ y, P1[k]? = some y := ⟨_, List.getElem?_eq_getElem (by rw [← HN.out]; exact hlt2)⟩
          obtain ⟨off, rfl, hc⟩ := hs (by intro h0; have := congrArg List.length h0; simp at this; rw [this] at hy; simp at hy)
          have hck := hc k (.int .i32 y) (by simp [iv, hy])
          have hsn : ({ s with d := D } : VS).puts i (P1.take (k + 1)) = (({ s with d := D } : VS).puts i (P1.take k)).put (i + k) (y, 0) := by
            rw [List.take_add_one, hy, Option.toList_some, puts_snoc, List.length_take, show min k P1.length = k by have := HN.out; omega]
          have HSN := Lib.hid hsn
          have hSt := store_calls b r B X (({ s with d := D } : VS).puts i (P1.take k)) (i + k) y 0 wr hA (by rw [puts_len]; exact hL) (by rw [puts_len]; show i + k < s.L.length; omega) (puts_t _ _ _ (by rw [List.length_take]; omega) ht)
          have ek : (k : Int) < (j : Int) := by omega
          have ew : IntKind.i64.wrap ((i : Int) + (k : Int)) = ((i + k : Nat) : Int) := by rw [IntWalk.i64_in _ (by omega)]; omega
          have HS' := Lib.hid hs
          clear hc hsn hy hA hs
          go_wp2_with fail
          refine hSt.mono ?_
          rintro e w4 ⟨rfl, h4, h5⟩
          clear hSt
          go_wp2_with fail
          go_roundw
          case rel => exact ⟨k + 1, by omega, by go_num, by rw [HSN.out]; exact h4, HS'.out.mod h5 (by omega), hm.then_ h5⟩
          case measure => simp [intOf]; omega
        · obtain rfl : k = j := by omega
          rw [List.take_of_length_le (by rw [← HN.out]; exact Nat.le_refl _)] at hA
          obtain rfl := HS2.out
          go_wp2_with fail
          go_end0
          exact ⟨rfl, hA, hm⟩
end Go.Proofs.YtnbbglhpjpebhaaDoor
/- Compute: what an operation makes of two values of 32 bits. Conditions: the values fit. -/
namespace Go.Proofs.YtnbbglhpjpebhaaDoor
open Go.RowKit

def compN (op : Nat) (x y : Int) : Int :=
  if op = 6 then wrap32 (x + y) else if op = 7 then wrap32 (x - y) else if op = 8 then wrap32 (x * y)
  else if op = 9 then (if y = 0 then 0 else wrap32 (x.tdiv y)) else if op = 10 then (if y = 0 then 0 else x.tmod y)
  else if op = 11 then bits .and .i32 x y else if op = 12 then bits .or .i32 x y else if op = 13 then bits .xor .i32 x y
  else if op = 14 then wrap32 (x * 2 ^ (y % 32).toNat) else if op = 15 then x / 2 ^ (y % 32).toNat
  else if op = 16 then (if x < y then 1 else 0) else if op = 17 then (if x = y then 1 else 0) else 0
theorem and31 (y : Int) : bits .and .i32 y 31 = (((y % 32).toNat : Nat) : Int) := by
  have h1 : (BitVec.ofInt 32 y &&& BitVec.ofInt 32 31).toNat = (y % 4294967296).toNat % 32 := by
    rw [BitVec.toNat_and, show (BitVec.ofInt 32 31).toNat = 31 from rfl, BitVec.toNat_ofInt, nat_mask5]
    rfl
  unfold bits
  show IntKind.i32.wrap ((BitVec.ofInt 32 y &&& BitVec.ofInt 32 31).toNat : Int) = _
  rw [h1, IntWalk.i32_in _ (by omega)]
  omega
theorem bits_fit (op : BinOp) (x y : Int) : -2147483648 ≤ bits op .i32 x y ∧ bits op .i32 x y ≤ 2147483647 := by
  have h := wf_bits op .i32 x y
  simp [Lit.wf, IntKind.min, IntKind.max, IntKind.signed, IntKind.bits] at h
  omega
theorem wrap32_fit (x : Int) : -2147483648 ≤ wrap32 x ∧ wrap32 x ≤ 2147483647 := by unfold wrap32; omega
theorem tmod_fit {x y : Int} (h0 : -2147483648 ≤ x) (h1 : x ≤ 2147483647) : -2147483648 ≤ x.tmod y ∧ x.tmod y ≤ 2147483647 := by
  have h := Int.natAbs_tmod x y
  have h2 : x.natAbs % y.natAbs ≤ x.natAbs := Nat.mod_le _ _
  rcases Int.le_total 0 x with hx | hx
  · have := Int.tmod_nonneg y hx; omega
  · have h3 := Int.tmod_nonneg (a := -x) y (by omega)
    rw [Int.neg_tmod] at h3
    omega
theorem div_fit {x : Int} (k : Nat) (h0 : -2147483648 ≤ x) (h1 : x ≤ 2147483647) : -2147483648 ≤ x / 2 ^ k ∧ x / 2 ^ k ≤ 2147483647 := by
  have hp : (0 : Int) < 2 ^ k := Int.pow_pos (by omega)
  constructor
  · rw [Int.le_ediv_iff_mul_le hp]
    have : (-2147483648 : Int) * 2 ^ k ≤ -2147483648 * 1 := Int.mul_le_mul_of_nonpos_left (by omega) (by omega)
    omega
  · rcases Int.le_total 0 x with hx | hx
    · have := Int.ediv_le_self (2 ^ k) hx; omega
    · by_cases h : 0 < x / 2 ^ k
      · have h2 : 1 ≤ x / 2 ^ k := h
        rw [Int.le_ediv_iff_mul_le hp] at h2
        omega
      · omega
theorem ite_fit {p : Prop} [Decidable p] {a b : Int} (ha : -2147483648 ≤ a ∧ a ≤ 2147483647) (hb : -2147483648 ≤ b ∧ b ≤ 2147483647) : -2147483648 ≤ (if p then a else b) ∧ (if p then a else b) ≤ 2147483647 := by
  by_cases h : p
  · rw [if_pos h]; exact ha
  · rw [if_neg h]; exact hb
theorem compN_fit (op : Nat) {x y : Int} (h0 : -2147483648 ≤ x) (h1 : x ≤ 2147483647) : -2147483648 ≤ compN op x y ∧ compN op x y ≤ 2147483647 := by


  have ht := @tmod_fit x y h0 h1
  have hd := fun k => @div_fit x k h0 h1
  unfold compN
  repeat' (first | exact wrap32_fit _ | exact bits_fit _ _ _ | exact ht | exact hd _ | refine ite_fit ?_ ?_ | exact ⟨by decide, by decide⟩)
theorem bit_calls (d : Bool) (w : World) : Calls Tryd.prog 56 #[.bool d] w fun e w' => e = .returned (.int .i32 (if d = true then 1 else 0)) ∧ w' = w := by
  cases d with
  | true =>
    go_enter Tryd.func56, Tryd.ntmps56
    go_wp2_with fail
    go_ret
    exact ⟨rfl, rfl⟩
  | false =>
    go_enter Tryd.func56, Tryd.ntmps56
    go_wp2_with fail
    go_ret
    exact ⟨rfl, rfl⟩

set_option maxHeartbeats 4000000 in
set_option maxRecDepth 20000 in
theorem Comp6 (x y : Int) (w : World) : Calls Tryd.prog 47 #[.int .u8 6, .int .i32 x, .int .i32 y] w fun e w' => e = .returned (.int .i32 (wrap32 (x + y))) ∧ w' = w := by
  go_enter Tryd.func47, Tryd.ntmps47
  go_wp2_with fail
  go_ret
  exact ⟨rfl, rfl⟩
set_option maxHeartbeats 4000000 in
set_option maxRecDepth 20000 in
theorem Comp7 (x y : Int) (w : World) : Calls Tryd.prog 47 #[.int .u8 7, .int .i32 x, .int .i32 y] w fun e w' => e = .returned (.int .i32 (wrap32 (x - y))) ∧ w' = w := by
  go_enter Tryd.func47, Tryd.ntmps47
  go_wp2_with fail
  go_ret
  exact ⟨rfl, rfl⟩
set_option maxHeartbeats 4000000 in
set_option maxRecDepth 20000 in
theorem Comp8 (x y : Int) (w : World) : Calls Tryd.prog 47 #[.int .u8 8, .int .i32 x, .int .i32 y] w fun e w' => e = .returned (.int .i32 (wrap32 (x * y))) ∧ w' = w := by
  go_enter Tryd.func47, Tryd.ntmps47
  go_wp2_with fail
  go_ret
  exact ⟨rfl, rfl⟩
set_option maxHeartbeats 4000000 in
set_option maxRecDepth 20000 in
theorem Comp11 (x y : Int) (w : World) : Calls Tryd.prog 47 #[.int .u8 11, .int .i32 x, .int .i32 y] w fun e w' => e = .returned (.int .i32 (bits .and .i32 x y)) ∧ w' = w := by
  go_enter Tryd.func47, Tryd.ntmps47
  go_wp2_with fail
  go_ret
  exact ⟨rfl, rfl⟩
set_option maxHeartbeats 4000000 in
set_option maxRecDepth 20000 in
theorem Comp12 (x y : Int) (w : World) : Calls Tryd.prog 47 #[.int .u8 12, .int .i32 x, .int .i32 y] w fun e w' => e = .returned (.int .i32 (bits .or .i32 x y)) ∧ w' = w := by
  go_enter Tryd.func47, Tryd.ntmps47
  go_wp2_with fail
  go_ret
  exact ⟨rfl, rfl⟩
set_option maxHeartbeats 4000000 in
set_option maxRecDepth 20000 in
theorem Comp13 (x y : Int) (w : World) : Calls Tryd.prog 47 #[.int .u8 13, .int .i32 x, .int .i32 y] w fun e w' => e = .returned (.int .i32 (bits .xor .i32 x y)) ∧ w' = w := by
  go_enter Tryd.func47, Tryd.ntmps47
  go_wp2_with fail
  go_ret
  exact ⟨rfl, rfl⟩
set_option maxHeartbeats 4000000 in
set_option maxRecDepth 20000 in
theorem Comp9 (x y : Int) (w : World) (hy : ¬ y = 0) : Calls Tryd.prog 47 #[.int .u8 9, .int .i32 x, .int .i32 y] w fun e w' => e = .returned (.int .i32 (wrap32 (x.tdiv y))) ∧ w' = w := by
  have e1 : (y != 0) = true := by simp [hy]
  have e2 : (y == 0) = false := by simp [hy]
  go_enter Tryd.func47, Tryd.ntmps47
  go_wp2_with fail
  go_ret
  exact ⟨rfl, rfl⟩
set_option maxRecDepth 20000 in
theorem Comp9z (x : Int) (w : World) : Calls Tryd.prog 47 #[.int .u8 9, .int .i32 x, .int .i32 0] w fun e w' => e = .returned (.int .i32 0) ∧ w' = w := by
  go_enter Tryd.func47, Tryd.ntmps47
  go_wp2_with fail
  go_ret
  exact ⟨rfl, rfl⟩
set_option maxHeartbeats 4000000 in
set_option maxRecDepth 20000 in
theorem Comp10 (x y : Int) (w : World) (hy : ¬ y = 0) (hx0 : -2147483648 ≤ x) (hx1 : x ≤ 2147483647) : Calls Tryd.prog 47 #[.int .u8 10, .int .i32 x, .int .i32 y] w fun e w' => e = .returned (.int .i32 (x.tmod y)) ∧ w' = w := by
  have e1 : (y != 0) = true := by simp [hy]
  have e2 : (y == 0) = false := by simp [hy]
  have e3 : IntKind.i32.wrap (x.tmod y) = x.tmod y := IntWalk.i32_in _ (by have := @tmod_fit x y hx0 hx1; omega)
  go_enter Tryd.func47, Tryd.ntmps47
  go_wp2_with fail
  go_ret
  exact ⟨rfl, rfl⟩
set_option maxRecDepth 20000 in
theorem Comp10z (x : Int) (w : World) : Calls Tryd.prog 47 #[.int .u8 10, .int .i32 x, .int .i32 0] w fun e w' => e = .returned (.int .i32 0) ∧ w' = w := by
  go_enter Tryd.func47, Tryd.ntmps47
  go_wp2_with fail
  go_ret
  exact ⟨rfl, rfl⟩
set_option maxHeartbeats 4000000 in
set_option maxRecDepth 20000 in
theorem Comp14 (x y : Int) (w : World) : Calls Tryd.prog 47 #[.int .u8 14, .int .i32 x, .int .i32 y] w fun e w' => e = .returned (.int .i32 (wrap32 (x * 2 ^ (y % 32).toNat))) ∧ w' = w := by
  have e1 := and31 y
  obtain ⟨k, hk⟩ : ∃ k, k = (y % 32).toNat := ⟨_, rfl⟩
  have e2 : (k : Int) < 32 := by omega
  rw [← hk] at e1 ⊢
  clear hk
  go_enter Tryd.func47, Tryd.ntmps47
  go_wp2_with fail
  go_ret
  exact ⟨rfl, rfl⟩
set_option maxHeartbeats 4000000 in
set_option maxRecDepth 20000 in
theorem Comp15 (x y : Int) (w : World) (hx0 : -2147483648 ≤ x) (hx1 : x ≤ 2147483647) : Calls Tryd.prog 47 #[.int .u8 15, .int .i32 x, .int .i32 y] w fun e w' => e = .returned (.int .i32 (x / 2 ^ (y % 32).toNat)) ∧ w' = w := by
  have e1 := and31 y
  obtain ⟨k, hk⟩ : ∃ k, k = (y % 32).toNat := ⟨_, rfl⟩
  have e2 : (k : Int) < 32 := by omega
  have e3 : IntKind.i32.wrap (x / 2 ^ k) = x / 2 ^ k := IntWalk.i32_in _ (by have := @div_fit x k hx0 hx1; omega)
  rw [← hk] at e1 ⊢
  clear hk
  go_enter Tryd.func47, Tryd.ntmps47
  go_wp2_with fail
  go_ret
  exact ⟨rfl, rfl⟩
set_option maxHeartbeats 4000000 in
set_option maxRecDepth 20000 in
theorem Comp16 (x y : Int) (w : World) : Calls Tryd.prog 47 #[.int .u8 16, .int .i32 x, .int .i32 y] w fun e w' => e = .returned (.int .i32 (if x < y then 1 else 0)) ∧ w' = w := by
  have hB := bit_calls (decide (x < y)) w
  rw [show (if x < y then (1 : Int) else 0) = (if (decide (x < y)) = true then 1 else 0) by simp]
  obtain ⟨v, hv⟩ : ∃ v : Int, v = (if (decide (x < y)) = true then 1 else 0) := ⟨_, rfl⟩
  rw [← hv] at hB ⊢
  clear hv
  go_enter Tryd.func47, Tryd.ntmps47
  go_wp2_with fail
  refine hB.mono ?_
  rintro e w1 ⟨rfl, rfl⟩
  go_wp2_with fail
  go_ret
  exact ⟨rfl, rfl⟩
set_option maxHeartbeats 4000000 in
set_option maxRecDepth 20000 in
theorem Comp17 (x y : Int) (w : World) : Calls Tryd.prog 47 #[.int .u8 17, .int .i32 x, .int .i32 y] w fun e w' => e = .returned (.int .i32 (if x = y then 1 else 0)) ∧ w' = w := by
  have hB := bit_calls (x == y) w
  rw [show (if x = y then (1 : Int) else 0) = (if (x == y) = true then 1 else 0) by simp]
  obtain ⟨v, hv⟩ : ∃ v : Int, v = (if (x == y) = true then 1 else 0) := ⟨_, rfl⟩
  rw [← hv] at hB ⊢
  clear hv
  go_enter Tryd.func47, Tryd.ntmps47
  go_wp2_with fail
  refine hB.mono ?_
  rintro e w1 ⟨rfl, rfl⟩
  go_wp2_with fail
  go_ret
  exact ⟨rfl, rfl⟩
set_option maxRecDepth 20000 in
theorem CompOut (op : Nat) (h : op < 6 ∨ 17 < op) (x y : Int) (w : World) : Calls Tryd.prog 47 #[.int .u8 (op : Int), .int .i32 x, .int .i32 y] w fun e w' => e = .returned (.int .i32 0) ∧ w' = w := by
  have f6 : ((op : Int) == 6) = false := by rw [beq_eq_false_iff_ne]; omega
  have f7 : ((op : Int) == 7) = false := by rw [beq_eq_false_iff_ne]; omega
  have f8 : ((op : Int) == 8) = false := by rw [beq_eq_false_iff_ne]; omega
  have f9 : ((op : Int) == 9) = false := by rw [beq_eq_false_iff_ne]; omega
  have f10 : ((op : Int) == 10) = false := by rw [beq_eq_false_iff_ne]; omega
  have f11 : ((op : Int) == 11) = false := by rw [beq_eq_false_iff_ne]; omega
  have f12 : ((op : Int) == 12) = false := by rw [beq_eq_false_iff_ne]; omega
  have f13 : ((op : Int) == 13) = false := by rw [beq_eq_false_iff_ne]; omega
  have f14 : ((op : Int) == 14) = false := by rw [beq_eq_false_iff_ne]; omega
  have f15 : ((op : Int) == 15) = false := by rw [beq_eq_false_iff_ne]; omega
  have f16 : ((op : Int) == 16) = false := by rw [beq_eq_false_iff_ne]; omega
  have f17 : ((op : Int) == 17) = false := by rw [beq_eq_false_iff_ne]; omega
  go_enter Tryd.func47, Tryd.ntmps47
  go_wp2_with fail
  go_ret
  exact ⟨rfl, rfl⟩
theorem comp_ok : Comp compN := by
  intro op x y w hop hx0 hx1 hy0 hy1
  refine ⟨?_, compN_fit op hx0 hx1⟩
  by_cases hi : op < 6 ∨ 17 < op
  · rw [show compN op x y = 0 by unfold compN; repeat' rw [if_neg (by omega)]]
    exact CompOut op hi x y w
  · obtain ⟨k, hk, rfl⟩ : ∃ k, k < 12 ∧ op = k + 6 := ⟨op - 6, by omega, by omega⟩
    rcases k with _ | _ | _ | _ | _ | _ | _ | _ | _ | _ | _ | _ | k
    · exact Comp6 x y w
    · exact Comp7 x y w
    · exact Comp8 x y w
    · by_cases hy : y = 0
      · subst hy; exact Comp9z x w
      · rw [show compN (0 + 1 + 1 + 1 + 6) x y = wrap32 (x.tdiv y) by simp [compN, hy]]; exact Comp9 x y w hy
    · by_cases hy : y = 0
      · subst hy; exact Comp10z x w
      · rw [show compN (0 + 1 + 1 + 1 + 1 + 6) x y = x.tmod y by simp [compN, hy]]; exact Comp10 x y w hy hx0 hx1
    · exact Comp11 x y w
    · exact Comp12 x y w
    · exact Comp13 x y w
    · exact Comp14 x y w
    · exact Comp15 x y w hx0 hx1
    · exact Comp16 x y w
    · exact Comp17 x y w
    · omega
end Go.Proofs.YtnbbglhpjpebhaaDoor
/- follow: what each operation makes of the machine. Conditions: the instruction may be; the numbers fit. -/
namespace Go.Proofs.YtnbbglhpjpebhaaDoor
open Go.RowKit

theorem BoxK.drew {w : World} {g : Nat} {c : Cd} (h : BoxK w g c) : BoxK w.drew g c := h
theorem MAt.drew {w : World} {b : Nat} {r : Option Nat} {B : Nat} {X : MX} {s : VS} (h : MAt w b r B X s) : MAt w.drew b r B X s := h.ext (below_drew (Below.refl _ _))
theorem MB.drew {w : World} {b : Nat} {X : MX} {sh : Value} {s : VS} (h : MB w b X sh s) : MB w.drew b X sh s := h
/-- What is known of a machine at each instruction. -/
structure VOk (X : MX) (s : VS) (N : Nat) : Prop where
  L : s.L.length = N
  N48 : N ≤ 48
  okL : okC s.L
  okR : okC s.R
  t : s.t < 18446744073709551616
  sh : s.sh.length ≤ 100000
  al : X.al < 4294967296
theorem place_lt {s : VS} {al : Nat} {c : Cd} (h : (s.place al c).1 = 0) : (s.place al c).2 < s.L.length := by
  unfold VS.place at h ⊢
  by_cases h1 : VS.clr al (s.rg c.b) = true
  · rw [if_pos h1] at h ⊢
    by_cases h2 : 0 ≤ c.n + (s.rg c.b).1 ∧ c.n + (s.rg c.b).1 < (s.L.length : Int)
    · rw [if_pos h2]
      show (c.n + (s.rg c.b).1).toNat < s.L.length
      omega
    · rw [if_neg h2] at h
      exact absurd h (by decide)
  · rw [if_neg h1] at h
    exact absurd h (by decide)
theorem rg_fit {s : VS} (h : okC s.R) (hR : s.R.length = 8) {i : Nat} (hi : i < 8) : (-2147483648 ≤ (s.rg i).1 ∧ (s.rg i).1 ≤ 2147483647) ∧ (s.rg i).2 < 4294967296 := by
  rw [MB.rg_eq (by omega)]
  exact okC_get h (by omega)

set_option maxHeartbeats 4000000 in
set_option maxRecDepth 20000 in
theorem follow_stop (b : Nat) (r : Option Nat) (B N : Nat) (X : MX) (s : VS) (a bb cc : Nat) (n : Int) (m : Nat) (w : World) (h : MAt w b r B X s) (_hv : VOk X s N) (ha : a < 8) (A : Option Addr) (len cap : Nat) (hcd : X.cd = .slice A len cap) :
    Calls Tryd.prog 58 #[.pointer (some ⟨b, 0, none⟩), .agg (cdA ⟨0, a, bb, cc, n, m⟩)] w fun e w' => e = .returned (.tuple #[]) ∧ ∃ r', MAt w' b r' B X (s.goes len) ∧ MS b r r' w w' := by
  have h0 := h
  obtain ⟨sh, q0, hS0, hr, hrb⟩ := h0
  have hR8 := q0.2
  have hlt := q0.lt
  have hb0 := below_alloc1 w (.cells (cdA ⟨0, a, bb, cc, n, m⟩) 80)
  have q1 := q0.alloc (.cells (cdA ⟨0, a, bb, cc, n, m⟩) 80)
  have k1 : BoxK (w.alloc (.cells (cdA ⟨0, a, bb, cc, n, m⟩) 80)) w.heap.size ⟨0, a, bb, cc, n, m⟩ := heap_alloc_new w _
  have hm1 := MM.ofB (b := b) hb0
  have h1 := h.ext hb0
  have kz0 := k1.c0
  have kz1 := k1.c1
  have kz2 := k1.c2
  have kz3 := k1.c3
  have kz4 := k1.c4
  have kz5 := k1.c5
  have ei : (a : Int) < 8 := by omega
  obtain ⟨wz, hwz⟩ : ∃ wz, wz = w.alloc (.cells (cdA ⟨0, a, bb, cc, n, m⟩) 80) := ⟨_, rfl⟩
  clear h
  go_enter Tryd.func58, Tryd.ntmps58
  go_wp2_with fail
  rw [← hwz] at hb0 q1 k1 hm1 h1 kz0 kz1 kz2 kz3 kz4 kz5 ⊢
  clear hwz
  have c1 := q1.cCd
  rw [hcd] at c1
  have c2 := q1.cN
  have f2 := q1.free 104
  go_region
  go_wp2_with fail
  go_end0
  have hm2 := (hm1.dr).cell 104 (.int .i64 (len : Int))
  exact ⟨rfl, r, MAt.back hS0 hr hrb ((MB.drew q1).sN len) hm2 rfl, hm2.ms r⟩
set_option maxHeartbeats 4000000 in
set_option maxRecDepth 20000 in
theorem follow_set (b : Nat) (r : Option Nat) (B N : Nat) (X : MX) (s : VS) (a bb cc : Nat) (n : Int) (m : Nat) (w : World) (h : MAt w b r B X s) (_hv : VOk X s N) (ha : a < 8) :
    Calls Tryd.prog 58 #[.pointer (some ⟨b, 0, none⟩), .agg (cdA ⟨1, a, bb, cc, n, m⟩)] w fun e w' => e = .returned (.tuple #[]) ∧ ∃ r', MAt w' b r' B X (s.setR a (n, X.al)) ∧ MS b r r' w w' := by
  have h0 := h
  obtain ⟨sh, q0, hS0, hr, hrb⟩ := h0
  have hR8 := q0.2
  have hlt := q0.lt
  have hb0 := below_alloc1 w (.cells (cdA ⟨1, a, bb, cc, n, m⟩) 80)
  have q1 := q0.alloc (.cells (cdA ⟨1, a, bb, cc, n, m⟩) 80)
  have k1 : BoxK (w.alloc (.cells (cdA ⟨1, a, bb, cc, n, m⟩) 80)) w.heap.size ⟨1, a, bb, cc, n, m⟩ := heap_alloc_new w _
  have hm1 := MM.ofB (b := b) hb0
  have h1 := h.ext hb0
  have kz0 := k1.c0
  have kz1 := k1.c1
  have kz2 := k1.c2
  have kz3 := k1.c3
  have kz4 := k1.c4
  have kz5 := k1.c5
  have ei : (a : Int) < 8 := by omega
  obtain ⟨wz, hwz⟩ : ∃ wz, wz = w.alloc (.cells (cdA ⟨1, a, bb, cc, n, m⟩) 80) := ⟨_, rfl⟩
  clear h
  go_enter Tryd.func58, Tryd.ntmps58
  go_wp2_with fail
  rw [← hwz] at hb0 q1 k1 hm1 h1 kz0 kz1 kz2 kz3 kz4 kz5 ⊢
  clear hwz
  have hO := open_calls b r B X s n wz.drew (h1.ext (below_drew (Below.refl _ _)))
  go_region
  go_wp2_with fail
  refine hO.mono ?_
  rintro e w3 ⟨rfl, h3⟩
  have h3 := below_undrew2 h3
  have q3 := q1.ext h3
  have c0 := q3.cRv ha
  have c1 := q3.cRl ha
  have f0 := q3.free (105 + a * 2)
  have f1 := q3.free (105 + a * 2 + 1)
  have hm4 := ((hm1.ext h3).cell (105 + a * 2) (.int .i32 n)).cell (105 + a * 2 + 1) (.int .u32 (X.al : Int))
  have q4 := Lib.hid (q3.sR ha (n, X.al))
  have hl3 := q3.lt
  clear hO h1 q3 q1 kz0 kz1 kz2 kz3 kz4 kz5
  go_wp2_with fail
  go_end0
  exact ⟨rfl, r, MAt.back hS0 hr hrb q4.out hm4 rfl, hm4.ms r⟩
set_option maxHeartbeats 4000000 in
set_option maxRecDepth 20000 in
theorem follow_clock (b : Nat) (r : Option Nat) (B N : Nat) (X : MX) (s : VS) (a bb cc : Nat) (n : Int) (m : Nat) (w : World) (h : MAt w b r B X s) (_hv : VOk X s N) (ha : a < 8) :
    Calls Tryd.prog 58 #[.pointer (some ⟨b, 0, none⟩), .agg (cdA ⟨25, a, bb, cc, n, m⟩)] w fun e w' => e = .returned (.tuple #[]) ∧ ∃ r', MAt w' b r' B X (s.setR a (w32 X.tk, X.al)) ∧ MS b r r' w w' := by
  have e0 : IntKind.i32.wrap (X.tk : Int) = w32 (X.tk : Int) := IntKind.wrap_i32 _
  obtain ⟨v, hvv⟩ : ∃ v, v = w32 (X.tk : Int) := ⟨_, rfl⟩
  rw [← hvv] at e0 ⊢
  have e2 : wrap32 (X.tk : Int) = v := by rw [hvv]; unfold wrap32 w32; rfl
  have e1 := e0
  clear e0 hvv
  have h0 := h
  obtain ⟨sh, q0, hS0, hr, hrb⟩ := h0
  have hR8 := q0.2
  have hlt := q0.lt
  have hb0 := below_alloc1 w (.cells (cdA ⟨25, a, bb, cc, n, m⟩) 80)
  have q1 := q0.alloc (.cells (cdA ⟨25, a, bb, cc, n, m⟩) 80)
  have k1 : BoxK (w.alloc (.cells (cdA ⟨25, a, bb, cc, n, m⟩) 80)) w.heap.size ⟨25, a, bb, cc, n, m⟩ := heap_alloc_new w _
  have hm1 := MM.ofB (b := b) hb0
  have h1 := h.ext hb0
  have kz0 := k1.c0
  have kz1 := k1.c1
  have kz2 := k1.c2
  have kz3 := k1.c3
  have kz4 := k1.c4
  have kz5 := k1.c5
  have ei : (a : Int) < 8 := by omega
  obtain ⟨wz, hwz⟩ : ∃ wz, wz = w.alloc (.cells (cdA ⟨25, a, bb, cc, n, m⟩) 80) := ⟨_, rfl⟩
  clear h
  go_enter Tryd.func58, Tryd.ntmps58
  go_wp2_with fail
  rw [← hwz] at hb0 q1 k1 hm1 h1 kz0 kz1 kz2 kz3 kz4 kz5 ⊢
  clear hwz
  have hO := open_calls b r B X s v wz.drew (h1.ext (below_drew (Below.refl _ _)))
  have c6 := q1.cK
  go_region
  go_wp2_with fail
  refine hO.mono ?_
  rintro e w3 ⟨rfl, h3⟩
  have h3 := below_undrew2 h3
  have q3 := q1.ext h3
  have c0 := q3.cRv ha
  have c1 := q3.cRl ha
  have f0 := q3.free (105 + a * 2)
  have f1 := q3.free (105 + a * 2 + 1)
  have hl3 := q3.lt
  have hm4 := ((hm1.ext h3).cell (105 + a * 2) (.int .i32 v)).cell (105 + a * 2 + 1) (.int .u32 (X.al : Int))
  have q4 := Lib.hid (q3.sR ha (v, X.al))
  clear hO h1 q3 q1 kz0 kz1 kz2 kz3 kz4 kz5 e1 e2 c6
  go_wp2_with fail
  go_end0
  exact ⟨rfl, r, MAt.back hS0 hr hrb q4.out hm4 rfl, hm4.ms r⟩
set_option maxHeartbeats 4000000 in
set_option maxRecDepth 20000 in
theorem follow_load (b : Nat) (r : Option Nat) (B N : Nat) (X : MX) (s : VS) (a bb cc : Nat) (k : Nat) (m : Nat) (w : World) (h : MAt w b r B X s) (hv : VOk X s N) (ha : a < 8) (hk : k < N) :
    Calls Tryd.prog 58 #[.pointer (some ⟨b, 0, none⟩), .agg (cdA ⟨2, a, bb, cc, (k : Int), m⟩)] w fun e w' => e = .returned (.tuple #[]) ∧ ∃ r', MAt w' b r' B X (s.setR a (s.cl k)) ∧ MS b r r' w w' := by
  have h0 := h
  obtain ⟨sh, q0, hS0, hr, hrb⟩ := h0
  have hR8 := q0.2
  have hlt := q0.lt
  have hb0 := below_alloc1 w (.cells (cdA ⟨2, a, bb, cc, (k : Int), m⟩) 80)
  have q1 := q0.alloc (.cells (cdA ⟨2, a, bb, cc, (k : Int), m⟩) 80)
  have k1 : BoxK (w.alloc (.cells (cdA ⟨2, a, bb, cc, (k : Int), m⟩) 80)) w.heap.size ⟨2, a, bb, cc, (k : Int), m⟩ := heap_alloc_new w _
  have hm1 := MM.ofB (b := b) hb0
  have h1 := h.ext hb0
  have kz0 := k1.c0
  have kz1 := k1.c1
  have kz2 := k1.c2
  have kz3 := k1.c3
  have kz4 := k1.c4
  have kz5 := k1.c5
  have ei : (a : Int) < 8 := by omega
  obtain ⟨wz, hwz⟩ : ∃ wz, wz = w.alloc (.cells (cdA ⟨2, a, bb, cc, (k : Int), m⟩) 80) := ⟨_, rfl⟩
  clear h
  go_enter Tryd.func58, Tryd.ntmps58
  go_wp2_with fail
  rw [← hwz] at hb0 q1 k1 hm1 h1 kz0 kz1 kz2 kz3 kz4 kz5 ⊢
  clear hwz
  have e1 : IntKind.i64.wrap (k : Int) = (k : Int) := IntWalk.i64_in _ (by have := hv.N48; omega)
  have hLd := load_calls b r B X s a k wz.drew (h1.ext (below_drew (Below.refl _ _))) (by rw [hv.L]; exact hv.N48) (by rw [hv.L]; exact hk) ha
  go_region
  go_wp2_with fail
  refine hLd.mono ?_
  rintro e w3 ⟨rfl, h3, h4⟩
  clear hLd
  go_wp2_with fail
  go_end0
  exact ⟨rfl, r, h3, (hm1.dr.then_ h4).ms r⟩
set_option maxHeartbeats 4000000 in
set_option maxRecDepth 20000 in
theorem follow_store (b : Nat) (r : Option Nat) (B N : Nat) (X : MX) (s : VS) (a bb cc : Nat) (k : Nat) (m : Nat) (w : World) (h : MAt w b r B X s) (hv : VOk X s N) (ha : a < 8) (hk : k < N) :
    Calls Tryd.prog 58 #[.pointer (some ⟨b, 0, none⟩), .agg (cdA ⟨3, a, bb, cc, (k : Int), m⟩)] w fun e w' => e = .returned (.tuple #[]) ∧ ∃ r', MAt w' b r' B X (s.put k (s.rg a)) ∧ MS b r r' w w' := by
  obtain ⟨x, hx⟩ : ∃ x, x = (s.rg a).1 := ⟨_, rfl⟩
  obtain ⟨y, hy⟩ : ∃ y, y = (s.rg a).2 := ⟨_, rfl⟩
  have hxy : s.rg a = (x, y) := Prod.ext hx.symm hy.symm
  rw [hxy]
  have h0 := h
  obtain ⟨sh, q0, hS0, hr, hrb⟩ := h0
  have hR8 := q0.2
  have hlt := q0.lt
  have hb0 := below_alloc1 w (.cells (cdA ⟨3, a, bb, cc, (k : Int), m⟩) 80)
  have q1 := q0.alloc (.cells (cdA ⟨3, a, bb, cc, (k : Int), m⟩) 80)
  have k1 : BoxK (w.alloc (.cells (cdA ⟨3, a, bb, cc, (k : Int), m⟩) 80)) w.heap.size ⟨3, a, bb, cc, (k : Int), m⟩ := heap_alloc_new w _
  have hm1 := MM.ofB (b := b) hb0
  have h1 := h.ext hb0
  have kz0 := k1.c0
  have kz1 := k1.c1
  have kz2 := k1.c2
  have kz3 := k1.c3
  have kz4 := k1.c4
  have kz5 := k1.c5
  have ei : (a : Int) < 8 := by omega
  obtain ⟨wz, hwz⟩ : ∃ wz, wz = w.alloc (.cells (cdA ⟨3, a, bb, cc, (k : Int), m⟩) 80) := ⟨_, rfl⟩
  clear h
  go_enter Tryd.func58, Tryd.ntmps58
  go_wp2_with fail
  rw [← hwz] at hb0 q1 k1 hm1 h1 kz0 kz1 kz2 kz3 kz4 kz5 ⊢
  clear hwz
  have e1 : IntKind.i64.wrap (k : Int) = (k : Int) := IntWalk.i64_in _ (by have := hv.N48; omega)
  have d0 := q1.cRv ha
  have d1 := q1.cRl ha
  rw [← hx] at d0
  rw [← hy] at d1
  have hSt := fun W hW => store_calls b r B X s k x y W hW (by rw [hv.L]; exact hv.N48) (by rw [hv.L]; exact hk) hv.t
  clear hx hy
  go_region
  go_wp2_with fail
  refine wp_region_held_drew (S := fun w' => BoxK w' w.heap.size ⟨3, a, bb, cc, (k : Int), m⟩ ∧ w'.cell? ⟨b, 105 + a * 2, none⟩ = some (.int .i32 x) ∧ w'.cell? ⟨b, 105 + a * 2 + 1, none⟩ = some (.int .u32 ((y : Nat) : Int))) (by kernel_rfl) ?_ (fun hHeld => ?_)
  · exact ⟨k1, d0, d1⟩
  refine wpAnyH_take (i := 0) (v := ?zv0) (by simp only [List.getElem?_toArray, List.getElem?_cons_zero]; rfl) (by kernel_rfl) (by kernel_rfl) (by kernel_rfl) (by exact fun _ _ _ h => h) (Or.inl ⟨by rfl, ?zy0⟩) hHeld ?_
  case zy0 => (intro w hSw; (try dsimp only at hSw); have hy0 := hSw.1.c4; have hy1 := hSw.2.1; have hy2 := hSw.2.2; (try dsimp only at hy0); clear hSw; go_simp; try (with_reducible rfl))
  try simp only [Act.put, List.setIfInBounds_toArray, List.set_cons_zero, List.set_cons_succ]
  refine wpAnyH_take (i := 1) (v := ?zv1) (by simp only [List.getElem?_toArray, List.getElem?_cons_succ, List.getElem?_cons_zero]; rfl) (by kernel_rfl) (by kernel_rfl) (by kernel_rfl) (by exact fun _ _ _ h => h) (Or.inl ⟨by rfl, ?zy1⟩) hHeld ?_
  case zy1 => (intro w hSw; (try dsimp only at hSw); have hy0 := hSw.1.c4; have hy1 := hSw.2.1; have hy2 := hSw.2.2; (try dsimp only at hy0); clear hSw; go_simp; try (with_reducible rfl))
  try simp only [Act.put, List.setIfInBounds_toArray, List.set_cons_zero, List.set_cons_succ]
  refine wpAnyH_take (i := 2) (v := ?zv2) (by simp only [List.getElem?_toArray, List.getElem?_cons_succ, List.getElem?_cons_zero]; rfl) (by kernel_rfl) (by kernel_rfl) (by kernel_rfl) (by exact fun _ _ _ h => h) (Or.inl ⟨by rfl, ?zy2⟩) hHeld ?_
  case zy2 => (intro w hSw; (try dsimp only at hSw); have hy0 := hSw.1.c4; have hy1 := hSw.2.1; have hy2 := hSw.2.2; (try dsimp only at hy0); clear hSw; go_simp; try (with_reducible rfl))
  try simp only [Act.put, List.setIfInBounds_toArray, List.set_cons_zero, List.set_cons_succ]
  refine wpAnyH_take (i := 3) (v := ?zv3) (by simp only [List.getElem?_toArray, List.getElem?_cons_succ, List.getElem?_cons_zero]; rfl) (by kernel_rfl) (by kernel_rfl) (by kernel_rfl) (by exact fun _ _ _ h => h) (Or.inl ⟨by rfl, ?zy3⟩) hHeld ?_
  case zy3 => (intro w hSw; (try dsimp only at hSw); have hy0 := hSw.1.c4; have hy1 := hSw.2.1; have hy2 := hSw.2.2; (try dsimp only at hy0); clear hSw; go_simp; try (with_reducible rfl))
  try simp only [Act.put, List.setIfInBounds_toArray, List.set_cons_zero, List.set_cons_succ]
  refine wpAnyH_take (i := 4) (v := ?zv4) (by simp only [List.getElem?_toArray, List.getElem?_cons_succ, List.getElem?_cons_zero]; rfl) (by kernel_rfl) (by kernel_rfl) (by kernel_rfl) (by exact fun _ _ _ h => h) (Or.inl ⟨by rfl, ?zy4⟩) hHeld ?_
  case zy4 => (intro w hSw; (try dsimp only at hSw); have hy0 := hSw.1.c4; have hy1 := hSw.2.1; have hy2 := hSw.2.2; (try dsimp only at hy0); clear hSw; go_simp; try (with_reducible rfl))
  try simp only [Act.put, List.setIfInBounds_toArray, List.set_cons_zero, List.set_cons_succ]
  refine wpAnyH_take (i := 5) (v := ?zv5) (by simp only [List.getElem?_toArray, List.getElem?_cons_succ, List.getElem?_cons_zero]; rfl) (by kernel_rfl) (by kernel_rfl) (by kernel_rfl) (by exact fun _ _ _ h => h) (Or.inl ⟨by rfl, ?zy5⟩) hHeld ?_
  case zy5 => (intro w hSw; (try dsimp only at hSw); have hy0 := hSw.1.c4; have hy1 := hSw.2.1; have hy2 := hSw.2.2; (try dsimp only at hy0); clear hSw; go_simp; try (with_reducible rfl))
  try simp only [Act.put, List.setIfInBounds_toArray, List.set_cons_zero, List.set_cons_succ]
  refine wpAnyH_take (i := 6) (v := ?zv6) (by simp only [List.getElem?_toArray, List.getElem?_cons_succ, List.getElem?_cons_zero]; rfl) (by kernel_rfl) (by kernel_rfl) (by kernel_rfl) (by exact fun _ _ _ h => h) (Or.inl ⟨by rfl, ?zy6⟩) hHeld ?_
  case zy6 => (intro w hSw; (try dsimp only at hSw); have hy0 := hSw.1.c4; have hy1 := hSw.2.1; have hy2 := hSw.2.2; (try dsimp only at hy0); clear hSw; go_simp; try (with_reducible rfl))
  try simp only [Act.put, List.setIfInBounds_toArray, List.set_cons_zero, List.set_cons_succ]
  refine wpAnyH_ready (rs := [7]) (by kernel_rfl) (by simp) ?_
  refine AllReadyH.cons (by simp only [List.getElem?_toArray, List.getElem?_cons_succ, List.getElem?_cons_zero]; rfl) (fun KK hKK => ?_) AllReadyH.nil
  go_simp
  refine (hSt _ h1.drew.drew).mono ?_
  rintro e w3 ⟨rfl, h3, h4⟩
  have k3 : BoxK w3 w.heap.size ⟨3, a, bb, cc, (k : Int), m⟩ := k1.drew.drew.mod h4 (by omega)
  have d3 : w3.cell? ⟨b, 105 + a * 2, none⟩ = some (.int .i32 x) := by obtain ⟨_, q, _⟩ := h3; have := q.cRv ha; rw [show (s.put k (x, y)).rg a = s.rg a from rfl, hxy] at this; exact this
  have d4 : w3.cell? ⟨b, 105 + a * 2 + 1, none⟩ = some (.int .u32 ((y : Nat) : Int)) := by obtain ⟨_, q, _⟩ := h3; have := q.cRl ha; rw [show (s.put k (x, y)).rg a = s.rg a from rfl, hxy] at this; exact this
  go_wp2_with fail
  refine hKK.out _ _ ?_ (fun hHeld => ?_)
  · exact ⟨k3, d3, d4⟩
  clear hKK KK
  try simp only [Act.put, List.setIfInBounds_toArray, List.set_cons_zero, List.set_cons_succ]
  refine wpAnyH_done (by kernel_rfl) ?_ _
  go_wp2_with fail
  go_end0
  exact ⟨rfl, r, h3, (hm1.dr.dr.then_ h4).ms r⟩
end Go.Proofs.YtnbbglhpjpebhaaDoor
/- follow: the operations with a place; branches; moves; what is rolled and shuffled. Conditions: the instruction may be; the numbers fit. -/
namespace Go.Proofs.YtnbbglhpjpebhaaDoor
open Go.RowKit

set_option maxHeartbeats 4000000 in
set_option maxRecDepth 20000 in
theorem follow_loadat (b : Nat) (r : Option Nat) (B N : Nat) (X : MX) (s : VS) (a bb cc : Nat) (n : Int) (m : Nat) (w : World) (h : MAt w b r B X s) (hv : VOk X s N) (ha : a < 8) (hb8 : bb < 8) (hn0 : -2147483648 ≤ n) (hn1 : n ≤ 2147483647) (hp : (s.place X.al ⟨4, a, bb, cc, n, m⟩).1 = 0) :
    Calls Tryd.prog 58 #[.pointer (some ⟨b, 0, none⟩), .agg (cdA ⟨4, a, bb, cc, n, m⟩)] w fun e w' => e = .returned (.tuple #[]) ∧ ∃ r', MAt w' b r' B X (s.setR a (s.cl (s.place X.al ⟨4, a, bb, cc, n, m⟩).2)) ∧ MS b r r' w w' := by
  have hpl := place_lt hp
  have hP0 := fun W h => place_calls b r B X s ⟨4, a, bb, cc, n, m⟩ W h hv.okR hv.al (by rw [hv.L]; exact hv.N48) hb8 hn0 hn1
  rw [hp] at hP0
  obtain ⟨PI, hPI⟩ : ∃ PI, PI = (s.place X.al ⟨4, a, bb, cc, n, m⟩).2 := ⟨_, rfl⟩
  rw [← hPI] at hpl hP0 ⊢
  have hP : ∀ W, MAt W b r B X s → Calls Tryd.prog 67 #[.pointer (some ⟨b, 0, none⟩), .agg #[.int .u8 4, .int .u8 (a : Int), .int .u8 (bb : Int), .int .u8 (cc : Int), .int .i32 n, .int .u32 (m : Int)]] W fun e w' => e = .returned (.tuple #[.int .i64 (PI : Int), .bool true]) ∧ MAt w' b r B X s ∧ MM b W w' := fun W h => hP0 W h
  clear hP0 hPI
  have h0 := h
  obtain ⟨sh, q0, hS0, hr, hrb⟩ := h0
  have hR8 := q0.2
  have hlt := q0.lt
  have hb0 := below_alloc1 w (.cells (cdA ⟨4, a, bb, cc, n, m⟩) 80)
  have q1 := q0.alloc (.cells (cdA ⟨4, a, bb, cc, n, m⟩) 80)
  have k1 : BoxK (w.alloc (.cells (cdA ⟨4, a, bb, cc, n, m⟩) 80)) w.heap.size ⟨4, a, bb, cc, n, m⟩ := heap_alloc_new w _
  have hm1 := MM.ofB (b := b) hb0
  have h1 := h.ext hb0
  have kz0 := k1.c0
  have kz1 := k1.c1
  have kz2 := k1.c2
  have kz3 := k1.c3
  have kz4 := k1.c4
  have kz5 := k1.c5
  have ei : (a : Int) < 8 := by omega
  obtain ⟨wz, hwz⟩ : ∃ wz, wz = w.alloc (.cells (cdA ⟨4, a, bb, cc, n, m⟩) 80) := ⟨_, rfl⟩
  clear h
  go_enter Tryd.func58, Tryd.ntmps58
  go_wp2_with fail
  rw [← hwz] at hb0 q1 k1 hm1 h1 kz0 kz1 kz2 kz3 kz4 kz5 ⊢
  clear hwz
  go_region
  go_wp2_with fail
  refine (hP _ h1.drew).mono ?_
  rintro e w3 ⟨rfl, h3, h4⟩
  have k3 := k1.drew.mod h4 (by omega)
  have hm3 := hm1.dr.then_ h4
  clear hP k1 hm1 h1 h4 q1 kz0 kz1 kz2 kz3 kz4 kz5
  have hLd := load_calls b r B X s a PI w3 h3 (by rw [hv.L]; exact hv.N48) hpl ha
  go_wp2_with fail
  refine hLd.mono ?_
  rintro e w4 ⟨rfl, h5, h6⟩
  clear hLd
  go_wp2_with fail
  go_end0
  exact ⟨rfl, r, h5, (hm3.then_ h6).ms r⟩
set_option maxHeartbeats 4000000 in
set_option maxRecDepth 20000 in
theorem follow_storeat (b : Nat) (r : Option Nat) (B N : Nat) (X : MX) (s : VS) (a bb cc : Nat) (n : Int) (m : Nat) (w : World) (h : MAt w b r B X s) (hv : VOk X s N) (ha : a < 8) (hb8 : bb < 8) (hn0 : -2147483648 ≤ n) (hn1 : n ≤ 2147483647) (hp : (s.place X.al ⟨5, a, bb, cc, n, m⟩).1 = 0) :
    Calls Tryd.prog 58 #[.pointer (some ⟨b, 0, none⟩), .agg (cdA ⟨5, a, bb, cc, n, m⟩)] w fun e w' => e = .returned (.tuple #[]) ∧ ∃ r', MAt w' b r' B X (s.put (s.place X.al ⟨5, a, bb, cc, n, m⟩).2 (s.rg a)) ∧ MS b r r' w w' := by
  have hpl := place_lt hp
  have hP0 := fun W h => place_calls b r B X s ⟨5, a, bb, cc, n, m⟩ W h hv.okR hv.al (by rw [hv.L]; exact hv.N48) hb8 hn0 hn1
  rw [hp] at hP0
  obtain ⟨PI, hPI⟩ : ∃ PI, PI = (s.place X.al ⟨5, a, bb, cc, n, m⟩).2 := ⟨_, rfl⟩
  rw [← hPI] at hpl hP0 ⊢
  have hP : ∀ W, MAt W b r B X s → Calls Tryd.prog 67 #[.pointer (some ⟨b, 0, none⟩), .agg #[.int .u8 5, .int .u8 (a : Int), .int .u8 (bb : Int), .int .u8 (cc : Int), .int .i32 n, .int .u32 (m : Int)]] W fun e w' => e = .returned (.tuple #[.int .i64 (PI : Int), .bool true]) ∧ MAt w' b r B X s ∧ MM b W w' := fun W h => hP0 W h
  clear hP0 hPI
  have h0 := h
  obtain ⟨sh, q0, hS0, hr, hrb⟩ := h0
  have hR8 := q0.2
  have hlt := q0.lt
  have hb0 := below_alloc1 w (.cells (cdA ⟨5, a, bb, cc, n, m⟩) 80)
  have q1 := q0.alloc (.cells (cdA ⟨5, a, bb, cc, n, m⟩) 80)
  have k1 : BoxK (w.alloc (.cells (cdA ⟨5, a, bb, cc, n, m⟩) 80)) w.heap.size ⟨5, a, bb, cc, n, m⟩ := heap_alloc_new w _
  have hm1 := MM.ofB (b := b) hb0
  have h1 := h.ext hb0
  have kz0 := k1.c0
  have kz1 := k1.c1
  have kz2 := k1.c2
  have kz3 := k1.c3
  have kz4 := k1.c4
  have kz5 := k1.c5
  have ei : (a : Int) < 8 := by omega
  obtain ⟨wz, hwz⟩ : ∃ wz, wz = w.alloc (.cells (cdA ⟨5, a, bb, cc, n, m⟩) 80) := ⟨_, rfl⟩
  clear h
  go_enter Tryd.func58, Tryd.ntmps58
  go_wp2_with fail
  rw [← hwz] at hb0 q1 k1 hm1 h1 kz0 kz1 kz2 kz3 kz4 kz5 ⊢
  clear hwz
  go_region
  go_wp2_with fail
  refine (hP _ h1.drew).mono ?_
  rintro e w3 ⟨rfl, h3, h4⟩
  have k3 := k1.drew.mod h4 (by omega)
  have hm3 := hm1.dr.then_ h4
  clear hP k1 hm1 h1 h4 q1 kz0 kz1 kz2 kz3 kz4 kz5
  obtain ⟨x, hx⟩ : ∃ x, x = (s.rg a).1 := ⟨_, rfl⟩
  obtain ⟨y, hy⟩ : ∃ y, y = (s.rg a).2 := ⟨_, rfl⟩
  have hxy : s.rg a = (x, y) := Prod.ext hx.symm hy.symm
  obtain ⟨sh3, q3, _⟩ := h3.hB
  have d0 := q3.cRv ha
  have d1 := q3.cRl ha
  rw [← hx] at d0
  rw [← hy] at d1
  have hSt := store_calls b r B X s PI x y w3 h3 (by rw [hv.L]; exact hv.N48) hpl hv.t
  clear hx hy q3
  go_wp2_with fail
  refine hSt.mono ?_
  rintro e w4 ⟨rfl, h5, h6⟩
  clear hSt
  go_wp2_with fail
  go_end0
  exact ⟨rfl, r, by rw [hxy]; exact h5, (hm3.then_ h6).ms r⟩
set_option maxHeartbeats 4000000 in
set_option maxRecDepth 20000 in
theorem follow_loadat_no (b : Nat) (r : Option Nat) (B N : Nat) (X : MX) (s : VS) (a bb cc : Nat) (n : Int) (m : Nat) (w : World) (h : MAt w b r B X s) (hv : VOk X s N) (ha : a < 8) (hb8 : bb < 8) (hn0 : -2147483648 ≤ n) (hn1 : n ≤ 2147483647) (hp : (s.place X.al ⟨4, a, bb, cc, n, m⟩).1 ≠ 0) :
    Calls Tryd.prog 58 #[.pointer (some ⟨b, 0, none⟩), .agg (cdA ⟨4, a, bb, cc, n, m⟩)] w fun e w' => e = .returned (.tuple #[]) ∧ ∃ r', MAt w' b r' B X (s.fail (s.place X.al ⟨4, a, bb, cc, n, m⟩).1) ∧ MS b r r' w w' := by
  have hP0 := fun W h => place_calls b r B X s ⟨4, a, bb, cc, n, m⟩ W h hv.okR hv.al (by rw [hv.L]; exact hv.N48) hb8 hn0 hn1
  simp only [if_neg hp, decide_eq_false hp] at hP0
  obtain ⟨PE, hPE⟩ : ∃ PE, PE = (s.place X.al ⟨4, a, bb, cc, n, m⟩).1 := ⟨_, rfl⟩
  obtain ⟨PI, hPI⟩ : ∃ PI, PI = (s.place X.al ⟨4, a, bb, cc, n, m⟩).2 := ⟨_, rfl⟩
  rw [← hPE] at hP0 ⊢
  rw [← hPI] at hP0
  have hP : ∀ W, MAt W b r B X s → Calls Tryd.prog 67 #[.pointer (some ⟨b, 0, none⟩), .agg #[.int .u8 4, .int .u8 (a : Int), .int .u8 (bb : Int), .int .u8 (cc : Int), .int .i32 n, .int .u32 (m : Int)]] W fun e w' => e = .returned (.tuple #[.int .i64 (PI : Int), .bool false]) ∧ MAt w' b r B X (s.fail PE) ∧ MM b W w' := fun W h => hP0 W h
  clear hP0 hPI hPE hp
  have h0 := h
  obtain ⟨sh, q0, hS0, hr, hrb⟩ := h0
  have hR8 := q0.2
  have hlt := q0.lt
  have hb0 := below_alloc1 w (.cells (cdA ⟨4, a, bb, cc, n, m⟩) 80)
  have q1 := q0.alloc (.cells (cdA ⟨4, a, bb, cc, n, m⟩) 80)
  have k1 : BoxK (w.alloc (.cells (cdA ⟨4, a, bb, cc, n, m⟩) 80)) w.heap.size ⟨4, a, bb, cc, n, m⟩ := heap_alloc_new w _
  have hm1 := MM.ofB (b := b) hb0
  have h1 := h.ext hb0
  have kz0 := k1.c0
  have kz1 := k1.c1
  have kz2 := k1.c2
  have kz3 := k1.c3
  have kz4 := k1.c4
  have kz5 := k1.c5
  have ei : (a : Int) < 8 := by omega
  obtain ⟨wz, hwz⟩ : ∃ wz, wz = w.alloc (.cells (cdA ⟨4, a, bb, cc, n, m⟩) 80) := ⟨_, rfl⟩
  clear h
  go_enter Tryd.func58, Tryd.ntmps58
  go_wp2_with fail
  rw [← hwz] at hb0 q1 k1 hm1 h1 kz0 kz1 kz2 kz3 kz4 kz5 ⊢
  clear hwz
  go_region
  go_wp2_with fail
  refine (hP _ h1.drew).mono ?_
  rintro e w3 ⟨rfl, h3, h4⟩
  have hm3 := hm1.dr.then_ h4
  clear hP k1 hm1 h1 h4 q1 kz0 kz1 kz2 kz3 kz4 kz5
  go_wp2_with fail
  go_end0
  exact ⟨rfl, r, h3, hm3.ms r⟩
set_option maxHeartbeats 4000000 in
set_option maxRecDepth 20000 in
theorem follow_storeat_no (b : Nat) (r : Option Nat) (B N : Nat) (X : MX) (s : VS) (a bb cc : Nat) (n : Int) (m : Nat) (w : World) (h : MAt w b r B X s) (hv : VOk X s N) (ha : a < 8) (hb8 : bb < 8) (hn0 : -2147483648 ≤ n) (hn1 : n ≤ 2147483647) (hp : (s.place X.al ⟨5, a, bb, cc, n, m⟩).1 ≠ 0) :
    Calls Tryd.prog 58 #[.pointer (some ⟨b, 0, none⟩), .agg (cdA ⟨5, a, bb, cc, n, m⟩)] w fun e w' => e = .returned (.tuple #[]) ∧ ∃ r', MAt w' b r' B X (s.fail (s.place X.al ⟨5, a, bb, cc, n, m⟩).1) ∧ MS b r r' w w' := by
  have hP0 := fun W h => place_calls b r B X s ⟨5, a, bb, cc, n, m⟩ W h hv.okR hv.al (by rw [hv.L]; exact hv.N48) hb8 hn0 hn1
  simp only [if_neg hp, decide_eq_false hp] at hP0
  obtain ⟨PE, hPE⟩ : ∃ PE, PE = (s.place X.al ⟨5, a, bb, cc, n, m⟩).1 := ⟨_, rfl⟩
  obtain ⟨PI, hPI⟩ : ∃ PI, PI = (s.place X.al ⟨5, a, bb, cc, n, m⟩).2 := ⟨_, rfl⟩
  rw [← hPE] at hP0 ⊢
  rw [← hPI] at hP0
  have hP : ∀ W, MAt W b r B X s → Calls Tryd.prog 67 #[.pointer (some ⟨b, 0, none⟩), .agg #[.int .u8 5, .int .u8 (a : Int), .int .u8 (bb : Int), .int .u8 (cc : Int), .int .i32 n, .int .u32 (m : Int)]] W fun e w' => e = .returned (.tuple #[.int .i64 (PI : Int), .bool false]) ∧ MAt w' b r B X (s.fail PE) ∧ MM b W w' := fun W h => hP0 W h
  clear hP0 hPI hPE hp
  have h0 := h
  obtain ⟨sh, q0, hS0, hr, hrb⟩ := h0
  have hR8 := q0.2
  have hlt := q0.lt
  have hb0 := below_alloc1 w (.cells (cdA ⟨5, a, bb, cc, n, m⟩) 80)
  have q1 := q0.alloc (.cells (cdA ⟨5, a, bb, cc, n, m⟩) 80)
  have k1 : BoxK (w.alloc (.cells (cdA ⟨5, a, bb, cc, n, m⟩) 80)) w.heap.size ⟨5, a, bb, cc, n, m⟩ := heap_alloc_new w _
  have hm1 := MM.ofB (b := b) hb0
  have h1 := h.ext hb0
  have kz0 := k1.c0
  have kz1 := k1.c1
  have kz2 := k1.c2
  have kz3 := k1.c3
  have kz4 := k1.c4
  have kz5 := k1.c5
  have ei : (a : Int) < 8 := by omega
  obtain ⟨wz, hwz⟩ : ∃ wz, wz = w.alloc (.cells (cdA ⟨5, a, bb, cc, n, m⟩) 80) := ⟨_, rfl⟩
  clear h
  go_enter Tryd.func58, Tryd.ntmps58
  go_wp2_with fail
  rw [← hwz] at hb0 q1 k1 hm1 h1 kz0 kz1 kz2 kz3 kz4 kz5 ⊢
  clear hwz
  go_region
  go_wp2_with fail
  refine (hP _ h1.drew).mono ?_
  rintro e w3 ⟨rfl, h3, h4⟩
  have hm3 := hm1.dr.then_ h4
  clear hP k1 hm1 h1 h4 q1 kz0 kz1 kz2 kz3 kz4 kz5
  go_wp2_with fail
  go_end0
  exact ⟨rfl, r, h3, hm3.ms r⟩
set_option maxHeartbeats 4000000 in
set_option maxRecDepth 20000 in
theorem follow_reveal_no (b : Nat) (r : Option Nat) (B N : Nat) (X : MX) (s : VS) (a bb cc : Nat) (n : Int) (m : Nat) (w : World) (h : MAt w b r B X s) (hv : VOk X s N) (ha : a < 8) (hb8 : bb < 8) (hn0 : -2147483648 ≤ n) (hn1 : n ≤ 2147483647) (hp : (s.place X.al ⟨22, a, bb, cc, n, m⟩).1 ≠ 0) :
    Calls Tryd.prog 58 #[.pointer (some ⟨b, 0, none⟩), .agg (cdA ⟨22, a, bb, cc, n, m⟩)] w fun e w' => e = .returned (.tuple #[]) ∧ ∃ r', MAt w' b r' B X (s.fail (s.place X.al ⟨22, a, bb, cc, n, m⟩).1) ∧ MS b r r' w w' := by
  have hP0 := fun W h => place_calls b r B X s ⟨22, a, bb, cc, n, m⟩ W h hv.okR hv.al (by rw [hv.L]; exact hv.N48) hb8 hn0 hn1
  simp only [if_neg hp, decide_eq_false hp] at hP0
  obtain ⟨PE, hPE⟩ : ∃ PE, PE = (s.place X.al ⟨22, a, bb, cc, n, m⟩).1 := ⟨_, rfl⟩
  obtain ⟨PI, hPI⟩ : ∃ PI, PI = (s.place X.al ⟨22, a, bb, cc, n, m⟩).2 := ⟨_, rfl⟩
  rw [← hPE] at hP0 ⊢
  rw [← hPI] at hP0
  have hP : ∀ W, MAt W b r B X s → Calls Tryd.prog 67 #[.pointer (some ⟨b, 0, none⟩), .agg #[.int .u8 22, .int .u8 (a : Int), .int .u8 (bb : Int), .int .u8 (cc : Int), .int .i32 n, .int .u32 (m : Int)]] W fun e w' => e = .returned (.tuple #[.int .i64 (PI : Int), .bool false]) ∧ MAt w' b r B X (s.fail PE) ∧ MM b W w' := fun W h => hP0 W h
  clear hP0 hPI hPE hp
  have h0 := h
  obtain ⟨sh, q0, hS0, hr, hrb⟩ := h0
  have hR8 := q0.2
  have hlt := q0.lt
  have hb0 := below_alloc1 w (.cells (cdA ⟨22, a, bb, cc, n, m⟩) 80)
  have q1 := q0.alloc (.cells (cdA ⟨22, a, bb, cc, n, m⟩) 80)
  have k1 : BoxK (w.alloc (.cells (cdA ⟨22, a, bb, cc, n, m⟩) 80)) w.heap.size ⟨22, a, bb, cc, n, m⟩ := heap_alloc_new w _
  have hm1 := MM.ofB (b := b) hb0
  have h1 := h.ext hb0
  have kz0 := k1.c0
  have kz1 := k1.c1
  have kz2 := k1.c2
  have kz3 := k1.c3
  have kz4 := k1.c4
  have kz5 := k1.c5
  have ei : (a : Int) < 8 := by omega
  obtain ⟨wz, hwz⟩ : ∃ wz, wz = w.alloc (.cells (cdA ⟨22, a, bb, cc, n, m⟩) 80) := ⟨_, rfl⟩
  clear h
  go_enter Tryd.func58, Tryd.ntmps58
  go_wp2_with fail
  rw [← hwz] at hb0 q1 k1 hm1 h1 kz0 kz1 kz2 kz3 kz4 kz5 ⊢
  clear hwz
  go_region
  go_wp2_with fail
  refine (hP _ h1.drew).mono ?_
  rintro e w3 ⟨rfl, h3, h4⟩
  have hm3 := hm1.dr.then_ h4
  clear hP k1 hm1 h1 h4 q1 kz0 kz1 kz2 kz3 kz4 kz5
  go_wp2_with fail
  go_end0
  exact ⟨rfl, r, h3, hm3.ms r⟩
end Go.Proofs.YtnbbglhpjpebhaaDoor
/- follow: branches; moves; what is rolled, shuffled, shown. Conditions: the instruction may be; the numbers fit. -/
namespace Go.Proofs.YtnbbglhpjpebhaaDoor
open Go.RowKit

set_option maxHeartbeats 4000000 in
set_option maxRecDepth 20000 in
theorem follow_jump (b : Nat) (r : Option Nat) (B N : Nat) (X : MX) (s : VS) (a bb cc : Nat) (k : Nat) (m : Nat) (w : World) (h : MAt w b r B X s) (_hv : VOk X s N) (ha : a < 8) (hk : k ≤ 1000) :
    Calls Tryd.prog 58 #[.pointer (some ⟨b, 0, none⟩), .agg (cdA ⟨20, a, bb, cc, (k : Int), m⟩)] w fun e w' => e = .returned (.tuple #[]) ∧ ∃ r', MAt w' b r' B X (s.goes k) ∧ MS b r r' w w' := by
  have h0 := h
  obtain ⟨sh, q0, hS0, hr, hrb⟩ := h0
  have hR8 := q0.2
  have hlt := q0.lt
  have hb0 := below_alloc1 w (.cells (cdA ⟨20, a, bb, cc, (k : Int), m⟩) 80)
  have q1 := q0.alloc (.cells (cdA ⟨20, a, bb, cc, (k : Int), m⟩) 80)
  have k1 : BoxK (w.alloc (.cells (cdA ⟨20, a, bb, cc, (k : Int), m⟩) 80)) w.heap.size ⟨20, a, bb, cc, (k : Int), m⟩ := heap_alloc_new w _
  have hm1 := MM.ofB (b := b) hb0
  have h1 := h.ext hb0
  have kz0 := k1.c0
  have kz1 := k1.c1
  have kz2 := k1.c2
  have kz3 := k1.c3
  have kz4 := k1.c4
  have kz5 := k1.c5
  have ei : (a : Int) < 8 := by omega
  obtain ⟨wz, hwz⟩ : ∃ wz, wz = w.alloc (.cells (cdA ⟨20, a, bb, cc, (k : Int), m⟩) 80) := ⟨_, rfl⟩
  clear h
  go_enter Tryd.func58, Tryd.ntmps58
  go_wp2_with fail
  rw [← hwz] at hb0 q1 k1 hm1 h1 kz0 kz1 kz2 kz3 kz4 kz5 ⊢
  clear hwz
  have e1 : IntKind.i64.wrap (k : Int) = (k : Int) := IntWalk.i64_in _ (by omega)
  have c2 := q1.cN
  have f2 := q1.free 104
  go_region
  go_wp2_with fail
  go_end0
  have hm2 := (hm1.dr).cell 104 (.int .i64 (k : Int))
  exact ⟨rfl, r, MAt.back hS0 hr hrb ((MB.drew q1).sN k) hm2 rfl, hm2.ms r⟩
set_option maxHeartbeats 4000000 in
set_option maxRecDepth 20000 in
theorem follow_branch (b : Nat) (r : Option Nat) (B N : Nat) (X : MX) (s : VS) (a bb cc : Nat) (k : Nat) (m : Nat) (w : World) (h : MAt w b r B X s) (hv : VOk X s N) (ha : a < 8) (hk : k ≤ 1000)  (hc : VS.clr X.al (s.rg a) = true) (hz : (s.rg a).1 = 0) :
    Calls Tryd.prog 58 #[.pointer (some ⟨b, 0, none⟩), .agg (cdA ⟨19, a, bb, cc, (k : Int), m⟩)] w fun e w' => e = .returned (.tuple #[]) ∧ ∃ r', MAt w' b r' B X (s.goes k) ∧ MS b r r' w w' := by
  obtain ⟨x, hx⟩ : ∃ x, x = (s.rg a).1 := ⟨_, rfl⟩
  obtain ⟨y, hy⟩ : ∃ y, y = (s.rg a).2 := ⟨_, rfl⟩
  have hxy : s.rg a = (x, y) := Prod.ext hx.symm hy.symm
  have hyf : (s.rg a).2 < 4294967296 := (rg_fit hv.okR (by obtain ⟨_, q, _⟩ := h; exact q.2) ha).2
  rw [hxy] at hc
  have hz0 := hz
  rw [← hy] at hyf
  have hC := fun W h => clear_calls b r B X s x y W h hv.al hyf
  rw [hc] at hC
  have hC2 : ∀ W, MAt W b r B X s → Calls Tryd.prog 69 #[.pointer (some ⟨b, 0, none⟩), .agg #[.int .i32 x, .int .u32 ((y : Nat) : Int)]] W fun e w' => e = .returned (.bool true) ∧ MAt w' b r B X (s) ∧ MM b W w' := fun W h => hC W h
  clear hc hC
  have hC := hC2
  clear hC2
  have h0 := h
  obtain ⟨sh, q0, hS0, hr, hrb⟩ := h0
  have hR8 := q0.2
  have hlt := q0.lt
  have hb0 := below_alloc1 w (.cells (cdA ⟨19, a, bb, cc, (k : Int), m⟩) 80)
  have q1 := q0.alloc (.cells (cdA ⟨19, a, bb, cc, (k : Int), m⟩) 80)
  have k1 : BoxK (w.alloc (.cells (cdA ⟨19, a, bb, cc, (k : Int), m⟩) 80)) w.heap.size ⟨19, a, bb, cc, (k : Int), m⟩ := heap_alloc_new w _
  have hm1 := MM.ofB (b := b) hb0
  have h1 := h.ext hb0
  have kz0 := k1.c0
  have kz1 := k1.c1
  have kz2 := k1.c2
  have kz3 := k1.c3
  have kz4 := k1.c4
  have kz5 := k1.c5
  have ei : (a : Int) < 8 := by omega
  obtain ⟨wz, hwz⟩ : ∃ wz, wz = w.alloc (.cells (cdA ⟨19, a, bb, cc, (k : Int), m⟩) 80) := ⟨_, rfl⟩
  clear h
  go_enter Tryd.func58, Tryd.ntmps58
  go_wp2_with fail
  rw [← hwz] at hb0 q1 k1 hm1 h1 kz0 kz1 kz2 kz3 kz4 kz5 ⊢
  clear hwz
  have e1 : IntKind.i64.wrap (k : Int) = (k : Int) := IntWalk.i64_in _ (by omega)
  have d0 := q1.cRv ha
  have d1 := q1.cRl ha
  rw [← hx] at d0
  rw [← hy] at d1
  go_region
  clear hx hy hxy
  go_wp2_with fail
  refine (hC _ h1.drew).mono ?_
  rintro e w3 ⟨rfl, h3, h4⟩
  have k3 := k1.drew.mod h4 (by omega)
  have hm3 := hm1.dr.then_ h4
  have kk4 := k3.c4
  clear hC k1 hm1 h1 h4 q1 kz0 kz1 kz2 kz3 kz4 kz5 d0 d1
  obtain ⟨sh3, q3, hS3, hr3, hrb3⟩ := h3
  have d3 := q3.cRv ha
  have c3 := q3.cN
  have f3 := q3.free 104
  rw [show (s.rg a).1 = 0 from hz0] at d3
  go_wp2_with fail
  go_end0
  have hm2 := (MM.refl_ b w3).cell 104 (.int .i64 (k : Int))
  exact ⟨rfl, r, MAt.back hS3 hr3 hrb3 (q3.sN k) hm2 rfl, (hm3.then_ hm2).ms r⟩
set_option maxHeartbeats 4000000 in
set_option maxRecDepth 20000 in
theorem follow_branch_no (b : Nat) (r : Option Nat) (B N : Nat) (X : MX) (s : VS) (a bb cc : Nat) (k : Nat) (m : Nat) (w : World) (h : MAt w b r B X s) (hv : VOk X s N) (ha : a < 8) (hk : k ≤ 1000)  (hc : VS.clr X.al (s.rg a) = true) (hz : (s.rg a).1 ≠ 0) :
    Calls Tryd.prog 58 #[.pointer (some ⟨b, 0, none⟩), .agg (cdA ⟨19, a, bb, cc, (k : Int), m⟩)] w fun e w' => e = .returned (.tuple #[]) ∧ ∃ r', MAt w' b r' B X (s) ∧ MS b r r' w w' := by
  obtain ⟨x, hx⟩ : ∃ x, x = (s.rg a).1 := ⟨_, rfl⟩
  obtain ⟨y, hy⟩ : ∃ y, y = (s.rg a).2 := ⟨_, rfl⟩
  have hxy : s.rg a = (x, y) := Prod.ext hx.symm hy.symm
  have hyf : (s.rg a).2 < 4294967296 := (rg_fit hv.okR (by obtain ⟨_, q, _⟩ := h; exact q.2) ha).2
  rw [hxy] at hc
  have hz0 := hz
  rw [← hy] at hyf
  have hC := fun W h => clear_calls b r B X s x y W h hv.al hyf
  rw [hc] at hC
  have hC2 : ∀ W, MAt W b r B X s → Calls Tryd.prog 69 #[.pointer (some ⟨b, 0, none⟩), .agg #[.int .i32 x, .int .u32 ((y : Nat) : Int)]] W fun e w' => e = .returned (.bool true) ∧ MAt w' b r B X (s) ∧ MM b W w' := fun W h => hC W h
  clear hc hC
  have hC := hC2
  clear hC2
  have h0 := h
  obtain ⟨sh, q0, hS0, hr, hrb⟩ := h0
  have hR8 := q0.2
  have hlt := q0.lt
  have hb0 := below_alloc1 w (.cells (cdA ⟨19, a, bb, cc, (k : Int), m⟩) 80)
  have q1 := q0.alloc (.cells (cdA ⟨19, a, bb, cc, (k : Int), m⟩) 80)
  have k1 : BoxK (w.alloc (.cells (cdA ⟨19, a, bb, cc, (k : Int), m⟩) 80)) w.heap.size ⟨19, a, bb, cc, (k : Int), m⟩ := heap_alloc_new w _
  have hm1 := MM.ofB (b := b) hb0
  have h1 := h.ext hb0
  have kz0 := k1.c0
  have kz1 := k1.c1
  have kz2 := k1.c2
  have kz3 := k1.c3
  have kz4 := k1.c4
  have kz5 := k1.c5
  have ei : (a : Int) < 8 := by omega
  obtain ⟨wz, hwz⟩ : ∃ wz, wz = w.alloc (.cells (cdA ⟨19, a, bb, cc, (k : Int), m⟩) 80) := ⟨_, rfl⟩
  clear h
  go_enter Tryd.func58, Tryd.ntmps58
  go_wp2_with fail
  rw [← hwz] at hb0 q1 k1 hm1 h1 kz0 kz1 kz2 kz3 kz4 kz5 ⊢
  clear hwz
  have e1 : IntKind.i64.wrap (k : Int) = (k : Int) := IntWalk.i64_in _ (by omega)
  have d0 := q1.cRv ha
  have d1 := q1.cRl ha
  rw [← hx] at d0
  rw [← hy] at d1
  go_region
  clear hx hy hxy
  go_wp2_with fail
  refine (hC _ h1.drew).mono ?_
  rintro e w3 ⟨rfl, h3, h4⟩
  have k3 := k1.drew.mod h4 (by omega)
  have hm3 := hm1.dr.then_ h4
  have kk4 := k3.c4
  clear hC k1 hm1 h1 h4 q1 kz0 kz1 kz2 kz3 kz4 kz5 d0 d1
  obtain ⟨sh3, q3, hS3, hr3, hrb3⟩ := h3
  have d3 := q3.cRv ha
  have e3 : ((s.rg a).1 == 0) = false := by rw [beq_eq_false_iff_ne]; exact hz0
  go_wp2_with fail
  go_end0
  exact ⟨rfl, r, ⟨sh3, q3, hS3, hr3, hrb3⟩, hm3.ms r⟩
set_option maxHeartbeats 4000000 in
set_option maxRecDepth 20000 in
theorem follow_branch_bad (b : Nat) (r : Option Nat) (B N : Nat) (X : MX) (s : VS) (a bb cc : Nat) (k : Nat) (m : Nat) (w : World) (h : MAt w b r B X s) (hv : VOk X s N) (ha : a < 8) (hk : k ≤ 1000)  (hc : VS.clr X.al (s.rg a) = false) :
    Calls Tryd.prog 58 #[.pointer (some ⟨b, 0, none⟩), .agg (cdA ⟨19, a, bb, cc, (k : Int), m⟩)] w fun e w' => e = .returned (.tuple #[]) ∧ ∃ r', MAt w' b r' B X (s.fail 8) ∧ MS b r r' w w' := by
  obtain ⟨x, hx⟩ : ∃ x, x = (s.rg a).1 := ⟨_, rfl⟩
  obtain ⟨y, hy⟩ : ∃ y, y = (s.rg a).2 := ⟨_, rfl⟩
  have hxy : s.rg a = (x, y) := Prod.ext hx.symm hy.symm
  have hyf : (s.rg a).2 < 4294967296 := (rg_fit hv.okR (by obtain ⟨_, q, _⟩ := h; exact q.2) ha).2
  rw [hxy] at hc
  skip
  rw [← hy] at hyf
  have hC := fun W h => clear_calls b r B X s x y W h hv.al hyf
  rw [hc] at hC
  have hC2 : ∀ W, MAt W b r B X s → Calls Tryd.prog 69 #[.pointer (some ⟨b, 0, none⟩), .agg #[.int .i32 x, .int .u32 ((y : Nat) : Int)]] W fun e w' => e = .returned (.bool false) ∧ MAt w' b r B X (s.fail 8) ∧ MM b W w' := fun W h => hC W h
  clear hc hC
  have hC := hC2
  clear hC2
  have h0 := h
  obtain ⟨sh, q0, hS0, hr, hrb⟩ := h0
  have hR8 := q0.2
  have hlt := q0.lt
  have hb0 := below_alloc1 w (.cells (cdA ⟨19, a, bb, cc, (k : Int), m⟩) 80)
  have q1 := q0.alloc (.cells (cdA ⟨19, a, bb, cc, (k : Int), m⟩) 80)
  have k1 : BoxK (w.alloc (.cells (cdA ⟨19, a, bb, cc, (k : Int), m⟩) 80)) w.heap.size ⟨19, a, bb, cc, (k : Int), m⟩ := heap_alloc_new w _
  have hm1 := MM.ofB (b := b) hb0
  have h1 := h.ext hb0
  have kz0 := k1.c0
  have kz1 := k1.c1
  have kz2 := k1.c2
  have kz3 := k1.c3
  have kz4 := k1.c4
  have kz5 := k1.c5
  have ei : (a : Int) < 8 := by omega
  obtain ⟨wz, hwz⟩ : ∃ wz, wz = w.alloc (.cells (cdA ⟨19, a, bb, cc, (k : Int), m⟩) 80) := ⟨_, rfl⟩
  clear h
  go_enter Tryd.func58, Tryd.ntmps58
  go_wp2_with fail
  rw [← hwz] at hb0 q1 k1 hm1 h1 kz0 kz1 kz2 kz3 kz4 kz5 ⊢
  clear hwz
  have e1 : IntKind.i64.wrap (k : Int) = (k : Int) := IntWalk.i64_in _ (by omega)
  have d0 := q1.cRv ha
  have d1 := q1.cRl ha
  rw [← hx] at d0
  rw [← hy] at d1
  go_region
  clear hx hy hxy
  go_wp2_with fail
  refine (hC _ h1.drew).mono ?_
  rintro e w3 ⟨rfl, h3, h4⟩
  have k3 := k1.drew.mod h4 (by omega)
  have hm3 := hm1.dr.then_ h4
  have kk4 := k3.c4
  clear hC k1 hm1 h1 h4 q1 kz0 kz1 kz2 kz3 kz4 kz5 d0 d1
  go_wp2_with fail
  go_end0
  exact ⟨rfl, r, h3, hm3.ms r⟩
set_option maxHeartbeats 4000000 in
set_option maxRecDepth 20000 in
theorem follow_roll (b : Nat) (r : Option Nat) (B N : Nat) (X : MX) (s : VS) (a bb cc : Nat) (k : Nat) (m : Nat) (w : World) (h : MAt w b r B X s) (_hv : VOk X s N) (ha : a < 8) (hk0 : 1 ≤ k) (hk : k ≤ 2147483647) :
    Calls Tryd.prog 58 #[.pointer (some ⟨b, 0, none⟩), .agg (cdA ⟨23, a, bb, cc, (k : Int), m⟩)] w fun e w' => e = .returned (.tuple #[]) ∧ ∃ r', MAt w' b r' B X ({ (s.setR a (w32 ((belowN s.d k : Nat) : Int), 0)) with d := goN s.d }) ∧ MS b r r' w w' := by
  have hQ := fun W h => roll_calls b r B X s (k : Int) W h (by omega) (by omega)
  rw [show ((k : Int)).toNat = k by omega] at hQ
  obtain ⟨v, hv⟩ : ∃ v, v = w32 ((belowN s.d k : Nat) : Int) := ⟨_, rfl⟩
  rw [← hv] at hQ ⊢
  clear hv
  have h0 := h
  obtain ⟨sh, q0, hS0, hr, hrb⟩ := h0
  have hR8 := q0.2
  have hlt := q0.lt
  have hb0 := below_alloc1 w (.cells (cdA ⟨23, a, bb, cc, (k : Int), m⟩) 80)
  have q1 := q0.alloc (.cells (cdA ⟨23, a, bb, cc, (k : Int), m⟩) 80)
  have k1 : BoxK (w.alloc (.cells (cdA ⟨23, a, bb, cc, (k : Int), m⟩) 80)) w.heap.size ⟨23, a, bb, cc, (k : Int), m⟩ := heap_alloc_new w _
  have hm1 := MM.ofB (b := b) hb0
  have h1 := h.ext hb0
  have kz0 := k1.c0
  have kz1 := k1.c1
  have kz2 := k1.c2
  have kz3 := k1.c3
  have kz4 := k1.c4
  have kz5 := k1.c5
  have ei : (a : Int) < 8 := by omega
  obtain ⟨wz, hwz⟩ : ∃ wz, wz = w.alloc (.cells (cdA ⟨23, a, bb, cc, (k : Int), m⟩) 80) := ⟨_, rfl⟩
  clear h
  go_enter Tryd.func58, Tryd.ntmps58
  go_wp2_with fail
  rw [← hwz] at hb0 q1 k1 hm1 h1 kz0 kz1 kz2 kz3 kz4 kz5 ⊢
  clear hwz
  go_region
  go_wp2_with fail
  refine (hQ _ h1.drew).mono ?_
  rintro e w3 ⟨rfl, h3, h4⟩
  have hm3 := hm1.dr.then_ h4
  clear hQ k1 hm1 h1 h4 q1 kz0 kz1 kz2 kz3 kz4 kz5
  obtain ⟨sh3, q3, hS3, hr3, hrb3⟩ := h3
  have c0 := q3.cRv ha
  have c1 := q3.cRl ha
  have f0 := q3.free (105 + a * 2)
  have f1 := q3.free (105 + a * 2 + 1)
  have hl3 := q3.lt
  have q4 := Lib.hid (q3.sR ha (v, 0))
  have hm4 := ((MM.refl_ b w3).cell (105 + a * 2) (.int .i32 v)).cell (105 + a * 2 + 1) (.int .u32 0)
  clear q3
  go_wp2_with fail
  go_end0
  exact ⟨rfl, r, MAt.back hS3 hr3 hrb3 q4.out hm4 rfl, (hm3.then_ hm4).ms r⟩
set_option maxHeartbeats 4000000 in
set_option maxRecDepth 20000 in
theorem follow_shuffle (b : Nat) (r : Option Nat) (B N : Nat) (X : MX) (s : VS) (a bb cc : Nat) (k : Nat) (m : Nat) (w : World) (h : MAt w b r B X s) (hv : VOk X s N) (ha : a < 8) (hc : cc ≤ 48) (hk : k + cc ≤ N) :
    Calls Tryd.prog 58 #[.pointer (some ⟨b, 0, none⟩), .agg (cdA ⟨24, a, bb, cc, (k : Int), m⟩)] w fun e w' => e = .returned (.tuple #[]) ∧ ∃ r', MAt w' b r' B X (shufV s k cc) ∧ MS b r r' w w' := by
  have hQ := fun W h => shuffle_calls b r B X s k cc W h (by rw [hv.L]; exact hv.N48) (by rw [hv.L]; exact hk) hv.t
  have h0 := h
  obtain ⟨sh, q0, hS0, hr, hrb⟩ := h0
  have hR8 := q0.2
  have hlt := q0.lt
  have hb0 := below_alloc1 w (.cells (cdA ⟨24, a, bb, cc, (k : Int), m⟩) 80)
  have q1 := q0.alloc (.cells (cdA ⟨24, a, bb, cc, (k : Int), m⟩) 80)
  have k1 : BoxK (w.alloc (.cells (cdA ⟨24, a, bb, cc, (k : Int), m⟩) 80)) w.heap.size ⟨24, a, bb, cc, (k : Int), m⟩ := heap_alloc_new w _
  have hm1 := MM.ofB (b := b) hb0
  have h1 := h.ext hb0
  have kz0 := k1.c0
  have kz1 := k1.c1
  have kz2 := k1.c2
  have kz3 := k1.c3
  have kz4 := k1.c4
  have kz5 := k1.c5
  have ei : (a : Int) < 8 := by omega
  obtain ⟨wz, hwz⟩ : ∃ wz, wz = w.alloc (.cells (cdA ⟨24, a, bb, cc, (k : Int), m⟩) 80) := ⟨_, rfl⟩
  clear h
  go_enter Tryd.func58, Tryd.ntmps58
  go_wp2_with fail
  rw [← hwz] at hb0 q1 k1 hm1 h1 kz0 kz1 kz2 kz3 kz4 kz5 ⊢
  clear hwz
  have e1 : IntKind.i64.wrap (k : Int) = (k : Int) := IntWalk.i64_in _ (by have := hv.N48; omega)
  have e2 : IntKind.i64.wrap (cc : Int) = (cc : Int) := IntWalk.i64_in _ (by omega)
  go_region
  go_wp2_with fail
  refine (hQ _ h1.drew).mono ?_
  rintro e w3 ⟨rfl, h3, h4⟩
  have hm3 := hm1.dr.then_ h4
  clear hQ k1 hm1 h1 h4 q1 kz0 kz1 kz2 kz3 kz4 kz5
  go_wp2_with fail
  go_end0
  exact ⟨rfl, r, h3, hm3.ms r⟩
end Go.Proofs.YtnbbglhpjpebhaaDoor
