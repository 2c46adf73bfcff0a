/- Full: all places; Board: the board of a delta's cells. Conditions: those said. -/
import Derived.Test.YtpppjlcfhijdgaaDeltaOf
import Derived.Test.YtpppjlcfhijdgaaApply
namespace Go.Proofs.Ytpppjlcfhijdgaa
open Go.RowKit

set_option maxHeartbeats 4000000 in
set_option maxRecDepth 20000 in
theorem Full_calls (L : List (Int × Nat)) (o : Int) (tick : Nat) (w : World) (hL : L.length ≤ 48) (hok : okC L) (ht : tick < 4294967296) :
    Calls Try.prog 12 #[.agg (bdL L), .int .i64 o, .int .u32 tick] w fun e w' => ∃ vp vc, e = .returned (.agg #[.int .u32 tick, .int .u32 (hashL (viewL o L) : Nat), vp, vc]) ∧ Row w' w.heap.size vp (placesB 281474976710655 L.length) ∧ RowC 29 w' w.heap.size vc (viewL o L) ∧ Below w.heap.size w w' := by
  have hO := fun W => Of_calls L 281474976710655 o tick W hL hok (by omega) ht
  have hcl : cellsTo (viewL o L) 281474976710655 L.length = viewL o L := by
    have := cellsTo_all (W := viewL o L) (by simp; omega)
    rwa [viewL_length] at this
  rw [hcl] at hO
  obtain ⟨H, hH⟩ : ∃ H, H = hashL (viewL o L) := ⟨_, rfl⟩
  rw [← hH] at hO ⊢
  clear hH hcl
  have q3 := (BoxL.new_ w L).alloc (.cells #[.int .u32 0, .int .u32 0, .slice none 0 0, .slice none 0 0] 38)
  have r6 : BoxD ((w.alloc (.cells (bdL L) 32)).alloc (.cells #[.int .u32 0, .int .u32 0, .slice none 0 0, .slice none 0 0] 38)) (w.heap.size + 1) 0 0 (.slice none 0 0) (.slice none 0 0) := by
    have := BoxD.new_ (w.alloc (.cells (bdL L) 32)) 0 0 (.slice none 0 0) (.slice none 0 0)
    rwa [show (w.alloc (.cells (bdL L) 32)).heap.size = w.heap.size + 1 by simp] at this
  have hb := below_alloc2 w (.cells (bdL L) 32) (.cells #[.int .u32 0, .int .u32 0, .slice none 0 0, .slice none 0 0] 38)
  go_enter Try.func12, Try.ntmps12
  go_wp2_with ((with_reducible refine at_ld 32 3 ?_); refine wpList_ld rfl (.tmp 3) rfl w.heap.size rfl L q3 ?_)
  refine (hO _).mono ?_
  rintro e w1 ⟨vp, vc, rfl, hp, hc, h1⟩
  have r6 := r6.ext h1
  obtain ⟨Ap, cp, bp, hvp, _⟩ := Row.sl hp
  obtain ⟨Ac, cc, bc, hvc, _⟩ := RowC.sl hc
  obtain ⟨n, hn⟩ : ∃ n, n = (placesB 281474976710655 L.length).length := ⟨_, rfl⟩
  obtain ⟨m, hm⟩ : ∃ m, m = (viewL o L).length := ⟨_, rfl⟩
  rw [← hn] at hvp
  rw [← hm] at hvc
  clear hn hm
  subst hvp hvc
  have hb := hb.trans (h1.mono hb.size)
  have hp := owns_low hp (show w.heap.size ≤ _ by simp; omega)
  have hc := owns_low hc (show w.heap.size ≤ _ by simp; omega)
  have hz1 := h1.size
  simp at hz1
  obtain ⟨p0, p1, p2, p3⟩ := And.intro r6.c0 (And.intro r6.c1 (And.intro r6.c2 r6.c3))
  have pf0 := r6.fr 0
  have pf1 := r6.fr 1
  have pf2 := r6.fr 2
  have pf3 := r6.fr 3
  clear h1 hO q3
  go_wp2_with fail
  have hnp := own_ne hp r6 (by decide)
  have hnc := own_ne hc r6 (by decide)
  have q0 := heap_setCell_same w1 (w.heap.size + 1) 0 _ _ (.int .u32 (tick : Int)) r6
  have rp0 := owns_mod hp (Mod.setCell w1 ⟨w.heap.size + 1, 0, none⟩ (.int .u32 (tick : Int))) (fun i hi h => by have h2 : i = w.heap.size + 1 := h; subst h2; first | exact hnp hi | exact hnc hi)
  have rc0 := owns_mod hc (Mod.setCell w1 ⟨w.heap.size + 1, 0, none⟩ (.int .u32 (tick : Int))) (fun i hi h => by have h2 : i = w.heap.size + 1 := h; subst h2; first | exact hnp hi | exact hnc hi)
  have bb0 := hb.setCell (p := ⟨w.heap.size + 1, 0, none⟩) (by simp) (.int .u32 (tick : Int))
  have q1 := heap_setCell_same (w1.setCell ⟨w.heap.size + 1, 0, none⟩ (.int .u32 (tick : Int))) (w.heap.size + 1) 1 _ _ (.int .u32 (H : Int)) q0
  have rp1 := owns_mod rp0 (Mod.setCell (w1.setCell ⟨w.heap.size + 1, 0, none⟩ (.int .u32 (tick : Int))) ⟨w.heap.size + 1, 1, none⟩ (.int .u32 (H : Int))) (fun i hi h => by have h2 : i = w.heap.size + 1 := h; subst h2; first | exact hnp hi | exact hnc hi)
  have rc1 := owns_mod rc0 (Mod.setCell (w1.setCell ⟨w.heap.size + 1, 0, none⟩ (.int .u32 (tick : Int))) ⟨w.heap.size + 1, 1, none⟩ (.int .u32 (H : Int))) (fun i hi h => by have h2 : i = w.heap.size + 1 := h; subst h2; first | exact hnp hi | exact hnc hi)
  have bb1 := bb0.setCell (p := ⟨w.heap.size + 1, 1, none⟩) (by simp) (.int .u32 (H : Int))
  have q2 := heap_setCell_same ((w1.setCell ⟨w.heap.size + 1, 0, none⟩ (.int .u32 (tick : Int))).setCell ⟨w.heap.size + 1, 1, none⟩ (.int .u32 (H : Int))) (w.heap.size + 1) 2 _ _ (.slice Ap n cp) q1
  have rp2 := owns_mod rp1 (Mod.setCell ((w1.setCell ⟨w.heap.size + 1, 0, none⟩ (.int .u32 (tick : Int))).setCell ⟨w.heap.size + 1, 1, none⟩ (.int .u32 (H : Int))) ⟨w.heap.size + 1, 2, none⟩ (.slice Ap n cp)) (fun i hi h => by have h2 : i = w.heap.size + 1 := h; subst h2; first | exact hnp hi | exact hnc hi)
  have rc2 := owns_mod rc1 (Mod.setCell ((w1.setCell ⟨w.heap.size + 1, 0, none⟩ (.int .u32 (tick : Int))).setCell ⟨w.heap.size + 1, 1, none⟩ (.int .u32 (H : Int))) ⟨w.heap.size + 1, 2, none⟩ (.slice Ap n cp)) (fun i hi h => by have h2 : i = w.heap.size + 1 := h; subst h2; first | exact hnp hi | exact hnc hi)
  have bb2 := bb1.setCell (p := ⟨w.heap.size + 1, 2, none⟩) (by simp) (.slice Ap n cp)
  have q3 := heap_setCell_same (((w1.setCell ⟨w.heap.size + 1, 0, none⟩ (.int .u32 (tick : Int))).setCell ⟨w.heap.size + 1, 1, none⟩ (.int .u32 (H : Int))).setCell ⟨w.heap.size + 1, 2, none⟩ (.slice Ap n cp)) (w.heap.size + 1) 3 _ _ (.slice Ac m cc) q2
  have rp3 := owns_mod rp2 (Mod.setCell (((w1.setCell ⟨w.heap.size + 1, 0, none⟩ (.int .u32 (tick : Int))).setCell ⟨w.heap.size + 1, 1, none⟩ (.int .u32 (H : Int))).setCell ⟨w.heap.size + 1, 2, none⟩ (.slice Ap n cp)) ⟨w.heap.size + 1, 3, none⟩ (.slice Ac m cc)) (fun i hi h => by have h2 : i = w.heap.size + 1 := h; subst h2; first | exact hnp hi | exact hnc hi)
  have rc3 := owns_mod rc2 (Mod.setCell (((w1.setCell ⟨w.heap.size + 1, 0, none⟩ (.int .u32 (tick : Int))).setCell ⟨w.heap.size + 1, 1, none⟩ (.int .u32 (H : Int))).setCell ⟨w.heap.size + 1, 2, none⟩ (.slice Ap n cp)) ⟨w.heap.size + 1, 3, none⟩ (.slice Ac m cc)) (fun i hi h => by have h2 : i = w.heap.size + 1 := h; subst h2; first | exact hnp hi | exact hnc hi)
  have bb3 := bb2.setCell (p := ⟨w.heap.size + 1, 3, none⟩) (by simp) (.slice Ac m cc)
  exact bodyPost_ret (results_cell_row (P := Try.prog) rfl _ _ (w.heap.size + 1) _ #[.int .u32 (tick : Int), .int .u32 (H : Int), .slice Ap n cp, .slice Ac m cc] (0, 0) _ rfl q3 Try.underlying38 rfl (by kernel_rfl)) rfl ⟨_, _, rfl, rp3, rc3, bb3⟩
set_option maxHeartbeats 16000000 in
set_option maxRecDepth 40000 in
theorem Board_calls (t h : Nat) (Ap : Option Addr) (ps : List UInt8) (np cp bp : Nat) (Ac : Option Addr) (cs : List (Int × Nat)) (cc bc : Nat) (d : Bool) (w : World)
    (hps : Bs w bp Ap ps) (hpn : ps.length = np) (hcs : Sl w bc Ac (cv cs)) (hcn : cs.length = np) (hl : np ≤ 48) (hr : risesB ps = true) (hlast : ∀ i (hi : i < ps.length), ps[i].toNat = i) (hoc : okC cs)
    (hd : ((hashL cs : Int) == (h : Int)) = d) :
    Calls Try.prog 19 #[.agg (dA t h Ap np cp Ac np cc)] w fun e w' => e = .returned (.tuple #[.agg (bdL (if d = true then cs else [])), .int .i64 (if d = true then 0 else 13)]) ∧ Below w.heap.size w w' := by
  have q1 := BoxD.new_ w t h (.slice Ap np cp) (.slice Ac np cc)
  have b1 := below_alloc1 w (.cells (dA t h Ap np cp Ac np cc) 38)
  have q1 := q1.alloc (.cells (bdL []) 32)
  have q2 := BoxL.new_ (w.alloc (.cells (dA t h Ap np cp Ac np cc) 38)) []
  rw [show (w.alloc (.cells (dA t h Ap np cp Ac np cc) 38)).heap.size = w.heap.size + 1 by simp] at q2
  have hb := b1.alloc b1.size (.cells (bdL []) 32)
  have hps := Sl.ext hps hb
  have hcs := Sl.ext hcs hb
  have hF := fun W hs => full_yes t h Ap ps np cp bp Ac cc W hs hpn hr hl hlast
  have hN := fun W hs => New_in Ac cs np cc bc W hs hcn hl
  have hHs := fun W => Hash_calls cs W (by omega) hoc
  obtain ⟨H, hH⟩ : ∃ H, H = hashL cs := ⟨_, rfl⟩
  rw [← hH] at hHs hd
  clear hH hr hlast
  obtain ⟨e0, e1, e2, e3⟩ := And.intro q1.c0 (And.intro q1.c1 (And.intro q1.c2 q1.c3))
  go_enter Try.func19, Try.ntmps19
  go_wp2_with ((with_reducible refine at_al 32 2 ?_); refine wpList_al rfl rfl (some 2) rfl (w.heap.size + 1) (by simp) ?_)
  (with_reducible refine (hF _ hps).mono ?_)
  rintro e w1 ⟨rfl, h9⟩
  have q1 := q1.ext h9
  have q2 := q2.ext h9
  have hcs := Sl.ext hcs h9
  have hb := hb.trans (h9.mono hb.size)
  clear h9
  obtain ⟨e0, e1, e2, e3⟩ := And.intro q1.c0 (And.intro q1.c1 (And.intro q1.c2 q1.c3))
  clear hF hps
  go_wp2_with fail
  (with_reducible refine (hN _ hcs).mono ?_)
  rintro e w2 ⟨rfl, h9⟩
  have q1 := q1.ext h9
  have q2 := q2.ext h9
  have hcs := Sl.ext hcs h9
  have hb := hb.trans (h9.mono hb.size)
  clear h9
  clear hN hcs e0 e1 e2 e3
  have q4 := BoxL.new_ w2 cs
  have q1 := q1.alloc (.cells (bdL cs) 32)
  have q2 := q2.alloc (.cells (bdL cs) 32)
  have hb := hb.alloc hb.size (.cells (bdL cs) 32)
  have hw4 : w2.heap.size < (w2.alloc (.cells (bdL cs) 32)).heap.size := by simp
  have hz2 := hb.size
  simp at hz2
  go_wp2_with (first | ((with_reducible refine at_al 32 4 ?_); refine wpList_al rfl rfl (some 4) rfl w2.heap.size rfl ?_) | ((with_reducible refine at_st 32 4 14 ?_); refine wpList_put rfl (.tmp 4) (.tmp 14) rfl rfl cs rfl rfl ?_))
  refine wp_region_held_drew (S := fun w' => BoxL w' w2.heap.size cs ∧ BoxD w' w.heap.size t h (.slice Ap np cp) (.slice Ac np cc)) (by kernel_rfl) ?_ (fun hHeld => ?_)
  · exact ⟨q4, q1⟩
  refine wpAnyH_take (i := 0) (v := ?zv0) (by simp only [List.getElem?_toArray, List.getElem?_cons_zero]; rfl) (by kernel_rfl) (by kernel_rfl) (by kernel_rfl) (by exact fun _ _ _ h => h) (Or.inl ⟨by kernel_rfl, ?zy0⟩) hHeld ?_
  case zy0 => (intro w hSw; (try dsimp only at hSw); have hy1 := hSw.2.c1; clear hSw; go_simp; try (with_reducible rfl))
  try simp only [Act.put, List.setIfInBounds_toArray, List.set_cons_zero, List.set_cons_succ]
  refine wpAnyH_take (i := 1) (v := ?zv1) (by simp only [List.getElem?_toArray, List.getElem?_cons_succ, List.getElem?_cons_zero]; rfl) (by kernel_rfl) (by kernel_rfl) (by kernel_rfl) (by exact fun _ _ _ h => h) (Or.inl ⟨by kernel_rfl, ?zy1⟩) hHeld ?_
  case zy1 => (intro w hSw; (try dsimp only at hSw); have hy1 := hSw.2.c1; clear hSw; go_simp; try (with_reducible rfl))
  try simp only [Act.put, List.setIfInBounds_toArray, List.set_cons_zero, List.set_cons_succ]
  refine wpAnyH_take (i := 2) (v := ?zv2) (by simp only [List.getElem?_toArray, List.getElem?_cons_succ, List.getElem?_cons_zero]; rfl) (by kernel_rfl) (by kernel_rfl) (by kernel_rfl) (by exact fun _ _ _ h => h) (Or.inl ⟨by kernel_rfl, ?zy2⟩) hHeld ?_
  case zy2 => (intro w hSw; (try dsimp only at hSw); have hy1 := hSw.2.c1; clear hSw; go_simp; try (with_reducible rfl))
  try simp only [Act.put, List.setIfInBounds_toArray, List.set_cons_zero, List.set_cons_succ]
  refine wpAnyH_take (i := 3) (by simp only [List.getElem?_toArray, List.getElem?_cons_succ, List.getElem?_cons_zero]; rfl) (by kernel_rfl) (by kernel_rfl) (by kernel_rfl) (by exact fun _ _ _ h => h) (by exact yieldsIf_ld (by kernel_rfl) (.tmp 4) rfl w2.heap.size rfl cs (fun w h => h.1)) hHeld ?_
  try simp only [Act.put, List.setIfInBounds_toArray, List.set_cons_zero, List.set_cons_succ]
  refine wpAnyH_take (i := 5) (v := ?zv5) (by simp only [List.getElem?_toArray, List.getElem?_cons_succ, List.getElem?_cons_zero]; rfl) (by kernel_rfl) (by kernel_rfl) (by kernel_rfl) (by exact fun _ _ _ h => h) (Or.inl ⟨by kernel_rfl, ?zy5⟩) hHeld ?_
  case zy5 => (intro w hSw; (try dsimp only at hSw); have hy1 := hSw.2.c1; clear hSw; go_simp; try (with_reducible rfl))
  try simp only [Act.put, List.setIfInBounds_toArray, List.set_cons_zero, List.set_cons_succ]
  refine wpAnyH_take (i := 6) (v := ?zv6) (by simp only [List.getElem?_toArray, List.getElem?_cons_succ, List.getElem?_cons_zero]; rfl) (by kernel_rfl) (by kernel_rfl) (by kernel_rfl) (by exact fun _ _ _ h => h) (Or.inl ⟨by kernel_rfl, ?zy6⟩) hHeld ?_
  case zy6 => (intro w hSw; (try dsimp only at hSw); have hy1 := hSw.2.c1; clear hSw; go_simp; try (with_reducible rfl))
  try simp only [Act.put, List.setIfInBounds_toArray, List.set_cons_zero, List.set_cons_succ]
  refine wpAnyH_ready (rs := [4]) (by kernel_rfl) (by simp) ?_
  refine AllReadyH.cons (by simp only [List.getElem?_toArray, List.getElem?_cons_succ, List.getElem?_cons_zero]; rfl) (fun KK hKK => ?_) AllReadyH.nil
  rw [if_pos (by kernel_rfl)]
  go_simp
  (with_reducible refine (hHs _).mono ?_)
  rintro e w3 ⟨rfl, h9⟩
  have h9 := below_undrew2 h9
  have q4 := q4.ext h9
  have q1 := q1.ext h9
  have q2 := q2.ext h9
  have hb := hb.trans (h9.mono hb.size)
  have hz3 := h9.size
  clear h9
  go_wp2_with fail
  refine hKK.out _ _ ?_ (fun hHeld => ?_)
  · exact ⟨q4, q1⟩
  clear hKK KK
  try simp only [Act.put, List.setIfInBounds_toArray, List.set_cons_zero, List.set_cons_succ]
  refine wpAnyH_take (i := 7) (v := ?zv7) (by simp only [List.getElem?_toArray, List.getElem?_cons_succ, List.getElem?_cons_zero]; rfl) (by kernel_rfl) (by kernel_rfl) (by kernel_rfl) (by exact fun _ _ _ h => h) (Or.inl ⟨by kernel_rfl, ?zy7⟩) hHeld ?_
  case zy7 => (intro w hSw; (try dsimp only at hSw); have hy1 := hSw.2.c1; clear hSw; go_simp; try (with_reducible rfl))
  try simp only [Act.put, List.setIfInBounds_toArray, List.set_cons_zero, List.set_cons_succ]
  refine wpAnyH_take (i := 8) (v := ?zv8) (by simp only [List.getElem?_toArray, List.getElem?_cons_succ, List.getElem?_cons_zero]; rfl) (by kernel_rfl) (by kernel_rfl) (by kernel_rfl) (by exact fun _ _ _ h => h) (Or.inl ⟨by kernel_rfl, ?zy8⟩) hHeld ?_
  case zy8 => (intro w hSw; (try dsimp only at hSw); have hy1 := hSw.2.c1; clear hSw; go_simp; try (with_reducible rfl))
  try simp only [Act.put, List.setIfInBounds_toArray, List.set_cons_zero, List.set_cons_succ]
  refine wpAnyH_done (by kernel_rfl) ?_ _
  cases d with
  | true =>
    go_wp2_with (first | ((with_reducible refine at_ld 32 4 ?_); refine wpList_ld rfl (.tmp 4) rfl w2.heap.size rfl cs q4 ?_) | ((with_reducible refine at_st 32 2 26 ?_); refine wpList_st rfl (.tmp 2) (.tmp 26) rfl (w.heap.size + 1) [] cs rfl rfl q2 ?_))
    exact bodyPost_ret (wp_result_bd _ _ _ rfl _ _ (w.heap.size + 1) (bdF cs) (bdG cs) cs.length rfl (q2.row_ cs)) rfl ⟨rfl, below_setRow hb _ _ (by omega)⟩
  | false =>
    go_wp2_with (first | ((with_reducible refine at_bd 32 25 _ ?_); refine wpList_build_bd0 rfl rfl ?_) | ((with_reducible refine at_st 32 2 25 ?_); refine wpList_st rfl (.tmp 2) (.tmp 25) rfl (w.heap.size + 1) [] [] rfl rfl q2 ?_))
    exact bodyPost_ret (wp_result_bd _ _ _ rfl _ _ (w.heap.size + 1) (bdF []) (bdG []) 0 rfl (q2.row_ [])) rfl ⟨rfl, below_setRow hb _ _ (by omega)⟩
end Go.Proofs.Ytpppjlcfhijdgaa
