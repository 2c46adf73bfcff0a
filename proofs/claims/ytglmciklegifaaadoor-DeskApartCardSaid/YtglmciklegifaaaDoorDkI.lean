/- What Drop does; what Tick tells; what a nil desk does. Conditions: the numbers fit; the moves of a player stand within eight ticks. -/
import Derived.Test.YtglmciklegifaaaDoorDkH
namespace Go.Proofs.YtglmciklegifaaaDoor
open Go.RowKit
open Go.Maps (Keyed IsMap Tidy)
set_option linter.unusedVariables false

def dropF (f : MF) (p : Int) : MF := fun q t => if q = p then none else f q t
def dropS (s : DkS) (p : Int) : DkS := { s with f := dropF s.f p }
theorem ranges_drew {w : World} {b r n : Nat} {D : DataW Unit} {left : Lit → Bool} {cnt : Nat} (h : w.ranges Tryd.prog 75 (plainElem Tryd.prog 22) b r n D left cnt) : w.drew.ranges Tryd.prog 75 (plainElem Tryd.prog 22) b r n D left cnt := h
set_option maxRecDepth 100000 in
theorem wp_mapDelR {o : Oper} {a : Act} {w : World} {K : Act → World → Prop} {Q : Exit → Act → World → Prop} (m x : Operand) (ho : o.op = .call { callee := .builtin .delete, args := #[m, x], argTypes := #[62, 75] }) (b r n : Nat) (D : DataW Unit) (left : Lit → Bool) (cnt : Nat) (p : Int) (t : Nat)
    (hm : a.eval m = .map (some b)) (hx : a.eval x = slotV p t) (hrg : w.ranges Tryd.prog 75 (plainElem Tryd.prog 22) b r n D left cnt) (hp : inI p) (ht : t < 4294967296)
    (h : ∀ w' cnt', w'.ranges Tryd.prog 75 (plainElem Tryd.prog 22) b r n (D.del (skey p t)) (fun z => left z && !z.sameKey (skey p t)) cnt' → cnt' ≤ cnt → Mod (fun i => i = b) w w' → w'.heap.size = w.heap.size → K (a.put o.dst (.tuple #[])) w') : o.wp Tryd.prog a w K Q := by
  obtain ⟨w', cnt', hrun, h1, h2, h3⟩ := hrg.drop slot_law mapT (slot_key hp ht) o.type
  have hz : w'.heap.size = w.heap.size := by
    obtain ⟨es, clock, es', clock', _, rfl⟩ := h3
    simp [ChangeMaps.setBlock]
  unfold Oper.wp execOp
  simp only [ho, resolve, invoke, builtin, Sem.run_bind, Sem.run_pure, Result.andThen_ok, List.map_toArray, List.map_cons, List.map_nil, hm, hx, hrun]
  exact h w' cnt' h1 h2 ((Mod.of_grown h3.grown).mono (fun i _ e => by injection e with e; exact e.symm)) hz
/-- What is left of the moves when these ticks of a player are gone. -/
def outF (f : MF) (p : Int) (acc : List Nat) : MF := fun q t => if q = p ∧ t ∈ acc then none else f q t
theorem MvD.del {D : DataW Unit} {f : MF} {p : Int} {acc : List Nat} (h : MvD D (outF f p acc)) (hp : inI p) {u : Nat} (hu : u < 4294967296) : MvD (D.del (skey p u)) (outF f p (acc ++ [u])) := fun q t hq ht => by
  unfold outF
  by_cases e : q = p ∧ t = u
  · obtain ⟨rfl, rfl⟩ := e
    rw [Maps.has_del_same, if_pos ⟨rfl, by simp⟩]
    exact ⟨rfl, fun x hx => by cases hx⟩
  · have hne : skey q t ≠ skey p u := fun e' => e (skey_inj hq hp ht hu e')
    have hif : (if q = p ∧ t ∈ acc ++ [u] then none else f q t) = outF f p acc q t := by
      unfold outF
      by_cases e2 : q = p ∧ t ∈ acc
      · rw [if_pos e2, if_pos ⟨e2.1, by simp [e2.2]⟩]
      · rw [if_neg e2, if_neg (fun h => by
          rcases List.mem_append.1 h.2 with h3 | h3
          · exact e2 ⟨h.1, h3⟩
          · exact e ⟨h.1, by simpa using h3⟩)]
    rw [Maps.has_del_other hne, hif]
    refine ⟨(h q t hq ht).1, fun x hx => ?_⟩
    rw [Maps.atKey_del_other hne]
    exact (h q t hq ht).2 x hx
theorem MvD.congr {D : DataW Unit} {f g : MF} (h : MvD D f) (e : ∀ q t, inI q → t < 4294967296 → f q t = g q t) : MvD D g := fun q t hq ht => by
  rw [← e q t hq ht]
  exact h q t hq ht
set_option maxHeartbeats 4000000 in
set_option maxRecDepth 20000 in
theorem Drop_calls (b bm : Nat) (s : DkS) (p : Int) (T : Nat) (w : World) (h : Dk w b bm s) (hp : inI p) (hW : ∀ t, t < 4294967296 → (s.f p t).isSome = true → T < t ∧ t ≤ T + 8) :
    Calls Tryd.prog 16 #[.pointer (some ⟨b, 0, none⟩), .int .i64 p] w fun e w' => ∃ l : List Nat, e = .returned (.int .i64 (l.length : Int)) ∧ l.Nodup ∧ (∀ t, t ∈ l ↔ t < 4294967296 ∧ (s.f p t).isSome = true) ∧ Dk w' b bm (dropS s p) ∧ Mod (fun i => i = bm) w w' := by
  have hbox := h.box
  have hne := h.ne
  have hok := h.ok
  obtain ⟨D, hown, hD⟩ := h.mv
  have q7 := h.c7
  have HD := Lib.hid hD
  have HW := Lib.hid hW
  clear hW hD
  go_enter Tryd.func16, Tryd.ntmps16
  go_wp2_with (at_range; refine wpList_range_own _ rfl _ 62 rfl 75 22 slot_law mapT _ bm s.n D rfl hown ?_; intro w1 hrg hg1 hs1)
  go_frame
  obtain ⟨r, hr⟩ : ∃ r, r = w.heap.size := ⟨_, rfl⟩
  have hM1 : Mod (fun i => i = bm) w w1 := (Mod.of_grown hg1).mono (fun i _ e => by cases e)
  have hbm : bm < r := by rw [hr]; exact h.ltm
  have hbl : b < r := by rw [hr]; exact h.lt
  replace hbox := (hM1.block b h.lt hne).trans hbox
  rw [← hr] at hrg hs1 ⊢
  have HR := Lib.hid hr
  clear hg1 hown q7 hr h
  go_loopw [5] (fun v wr => ∃ left cnt acc D2, wr.ranges Tryd.prog 75 (plainElem Tryd.prog 22) bm r s.n D2 left cnt ∧ v = .int .i64 ((acc.length : Nat) : Int) ∧ Hid (Coll D left p acc) ∧ Hid (MvD D2 (outF s.f p acc)) ∧ wr.heap[b]? = some (.cells (dkA s bm) 64 (0, 0)) ∧ Mod (fun i => i = bm) w wr) (fun _ wr => wr.rangeLeft bm r)
  case atStart => exact ⟨_, _, [], D, hrg, rfl, Lib.hid (Coll.start D p), Lib.hid (HD.out.congr (fun q t _ _ => by unfold outF; rw [if_neg (by simp)])), hbox, hM1⟩
  case round =>
    obtain ⟨left, cnt, acc, D2, hrg2, rfl, hco, hmv, hbox, hM⟩ := hrel
    clear hrg hs1 hM1
    have hal : acc.length ≤ 8 := within8 acc T hco.out.nd (fun t ht => by
      have h1 := hco.out.lt t ht
      have h2 := ((hco.out.mem t h1).1 ht).1
      rw [(HD.out p t hp h1).1] at h2
      exact HW.out t h1 h2)
    obtain ⟨m, hm⟩ : ∃ m, m = acc.length := ⟨_, rfl⟩
    rw [← hm] at hal ⊢
    have HMm := Lib.hid hm
    have HLQ := Lib.hid hrg2.left_eq
    obtain ⟨d0, d1, d2, d3, d4, d5, d6, d7⟩ := dbox8_all hbox
    clear hm
    go_wp2_with (at_next; refine wpList_next_ranges _ rfl _ rfl 75 slot_law (plainElem Tryd.prog 22) (fun (x : Int × Nat) => slotV x.1 x.2) (fun (c : Int) => Value.int .u32 c) slot_shape elem_shape bm r s.n D2 left cnt rfl hrg2 ?_ ?_)
    · intro _ hl0
      have hco0 := hco.out
      have hmem : ∀ t, t ∈ acc ↔ t < 4294967296 ∧ (s.f p t).isSome = true := fun t => by
        constructor
        · intro ht
          have h1 := hco0.lt t ht
          have h2 := ((hco0.mem t h1).1 ht).1
          rw [(HD.out p t hp h1).1] at h2
          exact ⟨h1, h2⟩
        · rintro ⟨h1, h2⟩
          rw [hco0.mem t h1, (HD.out p t hp h1).1]
          exact ⟨h2, hl0 _⟩
      have HM := Lib.hid (And.intro hmem hco0.nd)
      have hDk : Dk wr b bm (dropS s p) := ⟨hbox, ⟨D2, hrg2.owns, hmv.out.congr (fun q t _ ht => by
        show outF s.f p acc q t = dropF s.f p q t
        unfold outF dropF
        by_cases e : q = p
        · subst e
          rw [if_pos rfl]
          by_cases e2 : t ∈ acc
          · rw [if_pos ⟨rfl, e2⟩]
          · rw [if_neg (fun h => e2 h.2)]
            cases e3 : s.f q t with
            | none => rfl
            | some x => exact absurd ((hmem t).2 ⟨ht, by rw [e3]; rfl⟩) e2
        · rw [if_neg e, if_neg (fun h => e h.1)])⟩, ⟨hok.p, hok.m, hok.d, hok.t⟩⟩
      have HDK := Lib.hid hDk
      clear hmem hco0 hl0 hrg2 hco hDk d0 d1 d2 d3 d4 d5 d6 d7
      go_wp2_with fail
      go_ret
      exact ⟨acc, by rw [← HMm.out]; rfl, HM.out.2, HM.out.1, HDK.out, hM⟩
    · intro q u c kl ya yb w2 cnt2 hkey hlx hRy hat hrg3 hlt2 hg2 hs2 hen
      obtain ⟨hq, hu, rfl⟩ := slot_at_key hkey
      have HS2 := Lib.hid hs2
      clear hs2
      have hhas2 : Maps.has D2 (skey q u) = true := Maps.has_true_of_atKey hat
      rw [(hmv.out q u hq hu).1] at hhas2
      have hhas : Maps.has D (skey q u) = true := by
        rw [(HD.out q u hq hu).1]
        unfold outF at hhas2
        split at hhas2
        · cases hhas2
        · exact hhas2
      have hbr : b < wr.heap.size := dbox_lt hbox
      have hwz := hM.size
      have hm2 : Mod (fun i => i = r) wr w2 := (Mod.of_grown hg2).mono (fun i _ e => by injection e with e; exact e.symm)
      have hM2 : Mod (fun i => i = bm) w w2 := ⟨hm2.os.trans hM.os, hm2.tape.trans hM.tape, hm2.output.trans hM.output, Nat.le_trans hM.size hm2.size, fun i hi hn => (hm2.block i (Nat.lt_of_lt_of_le hi hM.size) (fun e => by have := HR.out; omega)).trans (hM.block i hi hn)⟩
      replace hbox := (hm2.block b hbr (by omega)).trans hbox
      have hx : (w2.alloc (.cells #[.int .i64 q, .int .u32 (u : Int)] 75)).heap[w2.heap.size]? = some (.cells #[.int .i64 q, .int .u32 (u : Int)] 75 (0, 0)) := heap_alloc_new w2 _
      replace hbox := (Below.heap_alloc w2 (.cells #[.int .i64 q, .int .u32 (u : Int)] 75) b (dbox_lt hbox)).trans hbox
      replace hrg3 := hrg3.alloc (.cells #[.int .i64 q, .int .u32 (u : Int)] 75)
      replace hM2 : Mod (fun i => i = bm) w (w2.alloc (.cells #[.int .i64 q, .int .u32 (u : Int)] 75)) := hM2.trans (Mod.alloc (fun i => i = bm) w2 _) (fun _ _ h => h) (fun _ _ h => h)
      have hXb : w2.heap.size ≠ bm := by have := HS2.out; have h8 := hrg2.owns.lt; omega
      obtain ⟨x0, x1⟩ := dbox2_all hx
      have HC := Lib.hid (And.intro hlx hhas)
      have HL2 := Lib.hid hlt2
      clear hkey hlx hRy hat hg2 hhas hhas2 hlt2 hm2 hM hwz hbr hrg2 d0 d1 d2 d3 d4 d5 d6 d7
      by_cases hqp : q = p
      · subst hqp
        have hco2 := Lib.hid (hco.out.add hq hu HC.out.1 HC.out.2)
        have hmv2 := Lib.hid (hmv.out.del hq hu)
        go_wp2_with fail
        clear x0 x1 hen
        refine wp_region_held_drew (S := fun w0 => w0.heap[b]? = some (.cells (dkA s bm) 64 (0, 0)) ∧ w0.heap[w2.heap.size]? = some (.cells #[.int .i64 q, .int .u32 (u : Int)] 75 (0, 0))) (by kernel_rfl) ?_ (fun hHeld => ?_)
        · exact ⟨hbox, hx⟩
        refine wpAnyH_take (i := 0) (v := ?dv0) (by simp only [List.getElem?_toArray, List.getElem?_cons_zero]; rfl) (by kernel_rfl) (by kernel_rfl) (by kernel_rfl) (by exact fun _ _ _ h => h) (Or.inl ⟨by kernel_rfl, ?dy0⟩) hHeld ?_
        case dy0 => (intro w hSw; (try dsimp only at hSw); obtain ⟨hb9, hx9⟩ := hSw; obtain ⟨d0, d1, d2, d3, d4, d5, d6, q7⟩ := dbox8_all hb9; obtain ⟨x0, x1⟩ := dbox2_all hx9; go_simp; try (with_reducible rfl))
        try simp only [Act.put, List.setIfInBounds_toArray, List.set_cons_zero, List.set_cons_succ]
        refine wpAnyH_take (i := 1) (v := ?dv1) (by simp only [List.getElem?_toArray, List.getElem?_cons_succ, List.getElem?_cons_zero]; rfl) (by kernel_rfl) (by kernel_rfl) (by kernel_rfl) (by exact fun _ _ _ h => h) (Or.inl ⟨by kernel_rfl, ?dy1⟩) hHeld ?_
        case dy1 => (intro w hSw; (try dsimp only at hSw); obtain ⟨hb9, hx9⟩ := hSw; obtain ⟨d0, d1, d2, d3, d4, d5, d6, q7⟩ := dbox8_all hb9; obtain ⟨x0, x1⟩ := dbox2_all hx9; go_simp; try (with_reducible rfl))
        try simp only [Act.put, List.setIfInBounds_toArray, List.set_cons_zero, List.set_cons_succ]
        refine wpAnyH_take (i := 2) (v := ?dv2) (by simp only [List.getElem?_toArray, List.getElem?_cons_succ, List.getElem?_cons_zero]; rfl) (by kernel_rfl) (by kernel_rfl) (by kernel_rfl) (by exact fun _ _ _ h => h) (Or.inl ⟨by kernel_rfl, ?dy2⟩) hHeld ?_
        case dy2 => (intro w hSw; (try dsimp only at hSw); obtain ⟨hb9, hx9⟩ := hSw; obtain ⟨d0, d1, d2, d3, d4, d5, d6, q7⟩ := dbox8_all hb9; obtain ⟨x0, x1⟩ := dbox2_all hx9; go_simp; try (with_reducible rfl))
        try simp only [Act.put, List.setIfInBounds_toArray, List.set_cons_zero, List.set_cons_succ]
        refine wpAnyH_take (i := 3) (v := ?dv3) (by simp only [List.getElem?_toArray, List.getElem?_cons_succ, List.getElem?_cons_zero]; rfl) (by kernel_rfl) (by kernel_rfl) (by kernel_rfl) (by exact fun _ _ _ h => h) (Or.inl ⟨by kernel_rfl, ?dy3⟩) hHeld ?_
        case dy3 => (intro w hSw; (try dsimp only at hSw); obtain ⟨hb9, hx9⟩ := hSw; obtain ⟨d0, d1, d2, d3, d4, d5, d6, q7⟩ := dbox8_all hb9; obtain ⟨x0, x1⟩ := dbox2_all hx9; go_simp; try (with_reducible rfl))
        try simp only [Act.put, List.setIfInBounds_toArray, List.set_cons_zero, List.set_cons_succ]
        refine wpAnyH_take (i := 4) (v := ?dv4) (by simp only [List.getElem?_toArray, List.getElem?_cons_succ, List.getElem?_cons_zero]; rfl) (by kernel_rfl) (by kernel_rfl) (by kernel_rfl) (by exact fun _ _ _ h => h) (Or.inl ⟨by kernel_rfl, ?dy4⟩) hHeld ?_
        case dy4 => (intro w hSw; (try dsimp only at hSw); obtain ⟨hb9, hx9⟩ := hSw; obtain ⟨d0, d1, d2, d3, d4, d5, d6, q7⟩ := dbox8_all hb9; obtain ⟨x0, x1⟩ := dbox2_all hx9; go_simp; try (with_reducible rfl))
        try simp only [Act.put, List.setIfInBounds_toArray, List.set_cons_zero, List.set_cons_succ]
        refine wpAnyH_ready (rs := [5]) (by kernel_rfl) (by simp) ?_
        refine AllReadyH.cons (by simp only [List.getElem?_toArray, List.getElem?_cons_succ, List.getElem?_cons_zero]; rfl) (fun KK hKK => ?_) AllReadyH.nil
        rw [if_pos (by kernel_rfl)]
        refine wp_mapDelR (.tmp 25) (.tmp 26) rfl bm r s.n D2 _ cnt2 q u rfl rfl (ranges_drew hrg3) hq hu ?_
        intro w6 cnt6 hrg6 hle6 hm6 hz6
        rw [Maps.strike_twice] at hrg6
        have hb6 := (hm6.block b (dbox_lt hbox) hne).trans hbox
        have hx6 := (hm6.block w2.heap.size (dbox_lt hx) hXb).trans hx
        have hM6 := (mod_drew hM2).trans hm6 (fun _ _ h => h) (fun _ _ h => h)
        refine hKK.out _ _ ?_ (fun hHeld => ?_)
        · exact ⟨hb6, hx6⟩
        clear hKK KK
        try simp only [Act.put]
        refine wpAnyH_done (by kernel_rfl) ?_ _
        have HLL := Lib.hid (show (((acc ++ [u]).length : Nat) : Int) = (m : Int) + 1 by rw [List.length_append, ← HMm.out]; rfl)
        go_wp2_with fail
        go_roundw
        case rel => exact ⟨_, cnt6, acc ++ [u], D2.del (skey q u), hrg6, by rw [HLL.out], hco2, hmv2, hb6, hM6⟩
        case measure => rw [hrg6.left_eq, HLQ.out]; have := HL2.out; omega
      · have hqp' : (q == p) = false := by simpa using hqp
        have hco2 := Lib.hid (hco.out.skip hp hq hu (fun e => hqp e.symm))
        go_wp2_with fail
        go_roundw
        case rel => exact ⟨_, cnt2, acc, D2, hrg3, by rw [← HMm.out], hco2, hmv, hbox, hM2⟩
        case measure => rw [hrg3.left_eq, HLQ.out]; exact HL2.out
theorem Tick_calls (b bm : Nat) (s : DkS) (w : World) (h : Dk w b bm s) : Calls Tryd.prog 20 #[.pointer (some ⟨b, 0, none⟩)] w fun e w' => e = .returned (.int .u32 (s.tk : Int)) ∧ w' = w := by
  have q6 := h.c6
  go_enter Tryd.func20, Tryd.ntmps20
  go_wp2_with fail
  go_ret
  exact ⟨rfl, rfl⟩
theorem Tick_nil (w : World) : Calls Tryd.prog 20 #[.pointer none] w fun e w' => e = .returned (.int .u32 0) ∧ w' = w := by
  go_enter Tryd.func20, Tryd.ntmps20
  go_wp2_with fail
  go_ret
  exact ⟨rfl, rfl⟩
theorem Put_nil (p : Int) (t m : Nat) (w : World) : Calls Tryd.prog 18 #[.pointer none, .int .i64 p, .int .u32 (t : Int), .int .u32 (m : Int)] w fun e w' => e = .returned (.int .i64 3) ∧ w' = w := by
  go_enter Tryd.func18, Tryd.ntmps18
  go_wp2_with fail
  go_ret
  exact ⟨rfl, rfl⟩
theorem Take_nil (w : World) : Calls Tryd.prog 14 #[.pointer none] w fun e w' => e = .returned (.slice none 0 0) ∧ w' = w := by
  go_enter Tryd.func14, Tryd.ntmps14
  go_wp2_with fail
  go_ret
  exact ⟨rfl, rfl⟩
theorem Held_nil (p : Int) (w : World) : Calls Tryd.prog 21 #[.pointer none, .int .i64 p] w fun e w' => e = .returned (.slice none 0 0) ∧ w' = w := by
  go_enter Tryd.func21, Tryd.ntmps21
  go_wp2_with fail
  go_ret
  exact ⟨rfl, rfl⟩
theorem Drop_nil (p : Int) (w : World) : Calls Tryd.prog 16 #[.pointer none, .int .i64 p] w fun e w' => e = .returned (.int .i64 0) ∧ w' = w := by
  go_enter Tryd.func16, Tryd.ntmps16
  go_wp2_with fail
  go_ret
  exact ⟨rfl, rfl⟩
theorem Copy_nil (w : World) : Calls Tryd.prog 24 #[.pointer none] w fun e w' => e = .returned (.pointer none) ∧ w' = w := by
  go_enter Tryd.func24, Tryd.ntmps24
  go_wp2_with fail
  go_ret
  exact ⟨rfl, rfl⟩
end Go.Proofs.YtglmciklegifaaaDoor
