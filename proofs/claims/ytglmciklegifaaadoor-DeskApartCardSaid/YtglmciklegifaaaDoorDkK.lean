/- maps.Clone at a desk's moves; Copy. Conditions: those said. -/
import Derived.Test.YtglmciklegifaaaDoorDkI
import Derived.Shelf.SlMaps.Clone
namespace Go.Proofs.YtglmciklegifaaaDoor
open Go.RowKit
set_option linter.unusedVariables false

theorem run_cloneM {w : World} {b : Nat} {es : Array MapEntry} {clock : Nat} (t : TypeId) (hb : w.heap[b]? = some (.map es clock)) :
    (Extern.MapsClone.clone #[.iface t (.map (some b))]).run Tryd.prog w = .ok (.iface t (.map (some w.heap.size))) (w.alloc (.map es clock)) := run_maps_clone_sl w t hb
set_option maxHeartbeats 2000000 in
set_option maxRecDepth 20000 in
theorem Clone_calls (b n : Nat) (f : MF) (w : World) (h : Mv w b n f) :
    Calls Tryd.prog 31 #[.map (some b)] w fun e w' => e = .returned (.map (some w.heap.size)) ∧ Mv w' w.heap.size n f ∧ Mv w' b n f ∧ Below w.heap.size w w' := by
  have hlt := h.lt
  obtain ⟨D, ⟨es, clock, hb, F, hs, hD⟩, hMD⟩ := h
  have hq := fun w => run_eql_map_nil_sl (P := Tryd.prog) w 62 _ _ (some b) mapT
  have HD := Lib.hid (And.intro F (And.intro hs (And.intro hD hMD)))
  clear F hs hD hMD
  go_enter Tryd.func31, Tryd.ntmps31
  go_wp2
  rw [run_callFunc_extern Tryd.func39 (by kernel_rfl) (by kernel_rfl) (by kernel_rfl) (e := Extern.MapsClone.clone) (by kernel_rfl), run_maps_clone_sl w 62 hb]
  simp only [Result.andThen]
  rw [Oper.upon_value]
  go_wp2
  rw [run_typeAssert_map_sl _ 62 _ _ _ _ mapT]
  simp only [Result.andThen]
  rw [Oper.upon_value]
  go_wp2
  go_ret
  obtain ⟨F, hs, hD, hMD⟩ := HD.out
  have hB : Below w.heap.size w (w.alloc (.map es clock)) := (Below.refl _ w).alloc (Nat.le_refl _) _
  exact ⟨rfl, ⟨D, ⟨es, clock, (MapKept.heap_alloc w _).1, F, hs, hD⟩, hMD⟩, ⟨D, ⟨es, clock, (Below.heap_alloc _ _ b hlt).trans hb, F, hs, hD⟩, hMD⟩, hB⟩
set_option maxHeartbeats 2000000 in
set_option maxRecDepth 20000 in
theorem Copy_calls (b bm : Nat) (s : DkS) (w : World) (h : Dk w b bm s) :
    Calls Tryd.prog 24 #[.pointer (some ⟨b, 0, none⟩)] w fun e w' => ∃ b2 bm2, e = .returned (.pointer (some ⟨b2, 0, none⟩)) ∧ Dk w' b2 bm2 s ∧ Dk w' b bm s ∧ w.heap.size ≤ b2 ∧ w.heap.size ≤ bm2 ∧ Below w.heap.size w w' := by
  have hC := fun W => Clone_calls bm s.n s.f W
  replace hC := hC w.drew h.mv
  go_enter Tryd.func24, Tryd.ntmps24
  go_wp2_with fail
  refine wp_region_held_drew (S := fun w0 => Dk w0 b bm s) (by kernel_rfl) ?_ (fun hHeld => ?_)
  · exact h.drew
  refine wpAnyH_take (i := 0) (v := ?kv0) (by simp only [List.getElem?_toArray, List.getElem?_cons_zero]; rfl) (by kernel_rfl) (by kernel_rfl) (by kernel_rfl) (by exact fun _ _ _ h => h) (Or.inl ⟨by kernel_rfl, ?ky0⟩) hHeld ?_
  case ky0 => (intro w hSw; (try dsimp only at hSw); obtain ⟨d0, d1, d2, d3, d4, d5, d6, d7⟩ := dbox8_all hSw.box; go_simp; try (with_reducible rfl))
  try simp only [Act.put, List.setIfInBounds_toArray, List.set_cons_zero, List.set_cons_succ]
  refine wpAnyH_take (i := 1) (v := ?kv1) (by simp only [List.getElem?_toArray, List.getElem?_cons_succ, List.getElem?_cons_zero]; rfl) (by kernel_rfl) (by kernel_rfl) (by kernel_rfl) (by exact fun _ _ _ h => h) (Or.inl ⟨by kernel_rfl, ?ky1⟩) hHeld ?_
  case ky1 => (intro w hSw; (try dsimp only at hSw); obtain ⟨d0, d1, d2, d3, d4, d5, d6, d7⟩ := dbox8_all hSw.box; go_simp; try (with_reducible rfl))
  try simp only [Act.put, List.setIfInBounds_toArray, List.set_cons_zero, List.set_cons_succ]
  refine wpAnyH_take (i := 2) (v := ?kv2) (by simp only [List.getElem?_toArray, List.getElem?_cons_succ, List.getElem?_cons_zero]; rfl) (by kernel_rfl) (by kernel_rfl) (by kernel_rfl) (by exact fun _ _ _ h => h) (Or.inl ⟨by kernel_rfl, ?ky2⟩) hHeld ?_
  case ky2 => (intro w hSw; (try dsimp only at hSw); obtain ⟨d0, d1, d2, d3, d4, d5, d6, d7⟩ := dbox8_all hSw.box; go_simp; try (with_reducible rfl))
  try simp only [Act.put, List.setIfInBounds_toArray, List.set_cons_zero, List.set_cons_succ]
  refine wpAnyH_take (i := 3) (v := ?kv3) (by simp only [List.getElem?_toArray, List.getElem?_cons_succ, List.getElem?_cons_zero]; rfl) (by kernel_rfl) (by kernel_rfl) (by kernel_rfl) (by exact fun _ _ _ h => h) (Or.inl ⟨by kernel_rfl, ?ky3⟩) hHeld ?_
  case ky3 => (intro w hSw; (try dsimp only at hSw); obtain ⟨d0, d1, d2, d3, d4, d5, d6, d7⟩ := dbox8_all hSw.box; go_simp; try (with_reducible rfl))
  try simp only [Act.put, List.setIfInBounds_toArray, List.set_cons_zero, List.set_cons_succ]
  refine wpAnyH_take (i := 4) (v := ?kv4) (by simp only [List.getElem?_toArray, List.getElem?_cons_succ, List.getElem?_cons_zero]; rfl) (by kernel_rfl) (by kernel_rfl) (by kernel_rfl) (by exact fun _ _ _ h => h) (Or.inl ⟨by kernel_rfl, ?ky4⟩) hHeld ?_
  case ky4 => (intro w hSw; (try dsimp only at hSw); obtain ⟨d0, d1, d2, d3, d4, d5, d6, d7⟩ := dbox8_all hSw.box; go_simp; try (with_reducible rfl))
  try simp only [Act.put, List.setIfInBounds_toArray, List.set_cons_zero, List.set_cons_succ]
  refine wpAnyH_take (i := 5) (v := ?kv5) (by simp only [List.getElem?_toArray, List.getElem?_cons_succ, List.getElem?_cons_zero]; rfl) (by kernel_rfl) (by kernel_rfl) (by kernel_rfl) (by exact fun _ _ _ h => h) (Or.inl ⟨by kernel_rfl, ?ky5⟩) hHeld ?_
  case ky5 => (intro w hSw; (try dsimp only at hSw); obtain ⟨d0, d1, d2, d3, d4, d5, d6, d7⟩ := dbox8_all hSw.box; go_simp; try (with_reducible rfl))
  try simp only [Act.put, List.setIfInBounds_toArray, List.set_cons_zero, List.set_cons_succ]
  refine wpAnyH_take (i := 6) (v := ?kv6) (by simp only [List.getElem?_toArray, List.getElem?_cons_succ, List.getElem?_cons_zero]; rfl) (by kernel_rfl) (by kernel_rfl) (by kernel_rfl) (by exact fun _ _ _ h => h) (Or.inl ⟨by kernel_rfl, ?ky6⟩) hHeld ?_
  case ky6 => (intro w hSw; (try dsimp only at hSw); obtain ⟨d0, d1, d2, d3, d4, d5, d6, d7⟩ := dbox8_all hSw.box; go_simp; try (with_reducible rfl))
  try simp only [Act.put, List.setIfInBounds_toArray, List.set_cons_zero, List.set_cons_succ]
  refine wpAnyH_take (i := 7) (v := ?kv7) (by simp only [List.getElem?_toArray, List.getElem?_cons_succ, List.getElem?_cons_zero]; rfl) (by kernel_rfl) (by kernel_rfl) (by kernel_rfl) (by exact fun _ _ _ h => h) (Or.inl ⟨by kernel_rfl, ?ky7⟩) hHeld ?_
  case ky7 => (intro w hSw; (try dsimp only at hSw); obtain ⟨d0, d1, d2, d3, d4, d5, d6, d7⟩ := dbox8_all hSw.box; go_simp; try (with_reducible rfl))
  try simp only [Act.put, List.setIfInBounds_toArray, List.set_cons_zero, List.set_cons_succ]
  refine wpAnyH_take (i := 8) (v := ?kv8) (by simp only [List.getElem?_toArray, List.getElem?_cons_succ, List.getElem?_cons_zero]; rfl) (by kernel_rfl) (by kernel_rfl) (by kernel_rfl) (by exact fun _ _ _ h => h) (Or.inl ⟨by kernel_rfl, ?ky8⟩) hHeld ?_
  case ky8 => (intro w hSw; (try dsimp only at hSw); obtain ⟨d0, d1, d2, d3, d4, d5, d6, d7⟩ := dbox8_all hSw.box; go_simp; try (with_reducible rfl))
  try simp only [Act.put, List.setIfInBounds_toArray, List.set_cons_zero, List.set_cons_succ]
  refine wpAnyH_take (i := 9) (v := ?kv9) (by simp only [List.getElem?_toArray, List.getElem?_cons_succ, List.getElem?_cons_zero]; rfl) (by kernel_rfl) (by kernel_rfl) (by kernel_rfl) (by exact fun _ _ _ h => h) (Or.inl ⟨by kernel_rfl, ?ky9⟩) hHeld ?_
  case ky9 => (intro w hSw; (try dsimp only at hSw); obtain ⟨d0, d1, d2, d3, d4, d5, d6, d7⟩ := dbox8_all hSw.box; go_simp; try (with_reducible rfl))
  try simp only [Act.put, List.setIfInBounds_toArray, List.set_cons_zero, List.set_cons_succ]
  refine wpAnyH_take (i := 10) (v := ?kv10) (by simp only [List.getElem?_toArray, List.getElem?_cons_succ, List.getElem?_cons_zero]; rfl) (by kernel_rfl) (by kernel_rfl) (by kernel_rfl) (by exact fun _ _ _ h => h) (Or.inl ⟨by kernel_rfl, ?ky10⟩) hHeld ?_
  case ky10 => (intro w hSw; (try dsimp only at hSw); obtain ⟨d0, d1, d2, d3, d4, d5, d6, d7⟩ := dbox8_all hSw.box; go_simp; try (with_reducible rfl))
  try simp only [Act.put, List.setIfInBounds_toArray, List.set_cons_zero, List.set_cons_succ]
  refine wpAnyH_take (i := 11) (v := ?kv11) (by simp only [List.getElem?_toArray, List.getElem?_cons_succ, List.getElem?_cons_zero]; rfl) (by kernel_rfl) (by kernel_rfl) (by kernel_rfl) (by exact fun _ _ _ h => h) (Or.inl ⟨by kernel_rfl, ?ky11⟩) hHeld ?_
  case ky11 => (intro w hSw; (try dsimp only at hSw); obtain ⟨d0, d1, d2, d3, d4, d5, d6, d7⟩ := dbox8_all hSw.box; go_simp; try (with_reducible rfl))
  try simp only [Act.put, List.setIfInBounds_toArray, List.set_cons_zero, List.set_cons_succ]
  refine wpAnyH_ready (rs := [12]) (by kernel_rfl) (by simp) ?_
  refine AllReadyH.cons (by simp only [List.getElem?_toArray, List.getElem?_cons_succ, List.getElem?_cons_zero]; rfl) (fun KK hKK => ?_) AllReadyH.nil
  rw [if_pos (by kernel_rfl)]
  go_simp
  refine hC.mono ?_
  rintro e w1 ⟨rfl, hm1, -, h1⟩
  have hd1 := hHeld.ext h1
  go_wp2_with fail
  refine hKK.out _ _ ?_ (fun hHeld => ?_)
  · exact hd1
  clear hKK KK
  try simp only [Act.put, List.setIfInBounds_toArray, List.set_cons_zero, List.set_cons_succ]
  refine wpAnyH_take (i := 13) (v := ?kv13) (by simp only [List.getElem?_toArray, List.getElem?_cons_succ, List.getElem?_cons_zero]; rfl) (by kernel_rfl) (by kernel_rfl) (by kernel_rfl) (by exact fun _ _ _ h => h) (Or.inl ⟨by kernel_rfl, ?ky13⟩) hHeld ?_
  case ky13 => (intro w hSw; (try dsimp only at hSw); obtain ⟨d0, d1, d2, d3, d4, d5, d6, d7⟩ := dbox8_all hSw.box; go_simp; try (with_reducible rfl))
  try simp only [Act.put, List.setIfInBounds_toArray, List.set_cons_zero, List.set_cons_succ]
  refine wpAnyH_ready (rs := [14]) (by kernel_rfl) (by simp) ?_
  refine AllReadyH.cons (by simp only [List.getElem?_toArray, List.getElem?_cons_succ, List.getElem?_cons_zero]; rfl) (fun KK hKK => ?_) AllReadyH.nil
  rw [if_pos (by kernel_rfl)]
  go_simp
  have g9 := below_alloc1 w1 (.cells (dkA s w.heap.size) 64)
  have hd2 := hd1.ext g9
  have hm2 := hm1.ext g9
  have hx2 : (w1.alloc (.cells (dkA s w.heap.size) 64)).heap[w1.heap.size]? = some (.cells (dkA s w.heap.size) 64 (0, 0)) := heap_alloc_new w1 _
  refine hKK.out _ _ ?_ (fun hHeld => ?_)
  · exact hd2
  clear hKK KK
  try simp only [Act.put, List.setIfInBounds_toArray, List.set_cons_zero, List.set_cons_succ]
  refine wpAnyH_take (i := 15) (v := ?kv15) (by simp only [List.getElem?_toArray, List.getElem?_cons_succ, List.getElem?_cons_zero]; rfl) (by kernel_rfl) (by kernel_rfl) (by kernel_rfl) (by exact fun _ _ _ h => h) (Or.inl ⟨by kernel_rfl, ?ky15⟩) hHeld ?_
  case ky15 => (intro w hSw; (try dsimp only at hSw); obtain ⟨d0, d1, d2, d3, d4, d5, d6, d7⟩ := dbox8_all hSw.box; go_simp; try (with_reducible rfl))
  try simp only [Act.put, List.setIfInBounds_toArray, List.set_cons_zero, List.set_cons_succ]
  refine wpAnyH_done (by kernel_rfl) ?_ _
  have hw1 : w.heap.size ≤ w1.heap.size := h1.size
  have hb1 : Below w.heap.size w w1 := ⟨h1.os, h1.tape, h1.output, h1.size, h1.block⟩
  have hbB := hb1.trans (g9.mono hb1.size)
  have HD := Lib.hid (And.intro hx2 (And.intro hm2 (And.intro hd2 (And.intro hw1 hbB))))
  clear hHeld hd1 hd2 hm1 hm2 hx2 g9 h1 hw1 hb1 hbB hC
  go_wp2_with fail
  go_ret
  obtain ⟨hx2, hm2, hd2, hw1, hbB⟩ := HD.out
  exact ⟨_, _, rfl, ⟨hx2, hm2, ⟨h.ok.p, h.ok.m, h.ok.d, h.ok.t⟩⟩, hd2, hw1, Nat.le_refl _, hbB⟩
end Go.Proofs.YtglmciklegifaaaDoor
