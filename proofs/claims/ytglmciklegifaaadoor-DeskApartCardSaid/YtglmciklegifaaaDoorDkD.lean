/- What Put does. Conditions: the numbers fit; the map has room. -/
import Derived.Test.YtglmciklegifaaaDoorDkC
import Derived.Deep.DeepCutAuto
namespace Go.Proofs.YtglmciklegifaaaDoor
open Go.RowKit

def putE (s : DkS) (p : Int) (t m : Nat) : Nat := if p < 0 ∨ (s.pl : Int) ≤ p then 3 else if s.mv ≤ m then 1 else if t ≤ s.tk then 11 else if s.tk + 8 < t then 14 else if (s.f p t).isSome = true then 12 else 0
def putS (s : DkS) (p : Int) (t m : Nat) : DkS := if putE s p t m = 0 then { s with n := s.n + 1, f := updF s.f p t (some m) } else s
theorem LegalD_calls (pl mv df m : Nat) (w : World) (hm : m < 4294967296) (hv : mv < 4294967296) :
    Calls Tryd.prog 27 #[.agg #[.int .i64 0, .int .i64 (pl : Int), .int .u32 (mv : Int), .int .u32 (df : Int), .slice none 0 0, .slice none 0 0], .int .u32 (m : Int)] w fun e w' => e = .returned (.bool (decide (m < mv))) ∧ Below w.heap.size w w' :=
  Legal_calls ⟨0, (pl : Int), mv, df, [], []⟩ ⟨none, 0, 0, none, 0, 0⟩ m w (by omega) (show mv ≤ 4294967295 by omega)
set_option maxHeartbeats 4000000 in
set_option maxRecDepth 20000 in
theorem Put_calls (b bm : Nat) (s : DkS) (p : Int) (t m : Nat) (w : World) (h : Dk w b bm s) (hp : inI p) (ht : t < 4294967296) (hm : m < 4294967296) (hn : s.n < maxLen) :
    Calls Tryd.prog 18 #[.pointer (some ⟨b, 0, none⟩), .int .i64 p, .int .u32 (t : Int), .int .u32 (m : Int)] w fun e w' => e = .returned (.int .i64 ((putE s p t m : Nat) : Int)) ∧ Dk w' b bm (putS s p t m) ∧ Mod (fun i => i = bm) w w' := by
  have hL := fun W => LegalD_calls s.pl s.mv s.df m W hm h.ok.m
  have q1 := h.c1
  have q2 := h.c2
  have q3 := h.c3
  have q4 := h.c4
  have q5 := h.c5
  have q0 := h.c0
  obtain ⟨E, hE⟩ : ∃ E, E = putE s p t m := ⟨_, rfl⟩
  obtain ⟨S', hS⟩ : ∃ S', S' = putS s p t m := ⟨_, rfl⟩
  rw [← hE, ← hS]
  have HE := Lib.hid hE
  have HS := Lib.hid (show S' = if E = 0 then { s with n := s.n + 1, f := updF s.f p t (some m) } else s by rw [hE, hS]; rfl)
  clear hE hS
  by_cases h1 : p < 0
  · have eE : E = 3 := by rw [HE.out, putE, if_pos (Or.inl h1)]
    have eS : S' = s := by rw [HS.out, eE]; rfl
    rw [eE, eS]
    clear hL
    go_enter Tryd.func18, Tryd.ntmps18
    go_wp2_with fail
    go_ret
    exact ⟨rfl, h, Mod.refl _ _⟩
  · by_cases h2 : (s.pl : Int) ≤ p
    · have eE : E = 3 := by rw [HE.out, putE, if_pos (Or.inr h2)]
      have eS : S' = s := by rw [HS.out, eE]; rfl
      rw [eE, eS]
      clear hL
      go_enter Tryd.func18, Tryd.ntmps18
      go_wp2_with fail
      go_ret
      exact ⟨rfl, h, Mod.refl _ _⟩
    · have HE1 := Lib.hid (show E = if s.mv ≤ m then 1 else if t ≤ s.tk then 11 else if s.tk + 8 < t then 14 else if (s.f p t).isSome = true then 12 else 0 by rw [HE.out, putE, if_neg (by omega)])
      obtain ⟨D, hD⟩ : ∃ D, D = decide (m < s.mv) := ⟨_, rfl⟩
      rw [← hD] at hL
      have HD := Lib.hid hD
      clear HE hD
      go_enter Tryd.func18, Tryd.ntmps18
      go_wp2_with fail
      refine (hL _).mono ?_
      rintro e w1 ⟨rfl, g1⟩
      have hM := Mod.of_below g1
      replace h := h.ext g1
      have hM : Mod (fun i => i = bm) w w1 := ⟨g1.os, g1.tape, g1.output, g1.size, fun k hk _ => g1.block k hk⟩
      clear g1 q0 q1 q2 q3 q4 q5 hL
      cases D with
      | false =>
        have h3 : s.mv ≤ m := by have := HD.out; simpa using this
        have eE : E = 1 := by rw [HE1.out, if_pos h3]
        have eS : S' = s := by rw [HS.out, eE]; rfl
        have HEE := Lib.hid (And.intro eE eS)
        clear eE eS
        go_wp2_with fail
        go_ret
        exact ⟨by rw [HEE.out.1]; rfl, by rw [HEE.out.2]; exact h, hM⟩
      | true =>
        have h3 : ¬ s.mv ≤ m := by have := HD.out; simp at this; omega
        have HE2 := Lib.hid (show E = if t ≤ s.tk then 11 else if s.tk + 8 < t then 14 else if (s.f p t).isSome = true then 12 else 0 by rw [HE1.out, if_neg h3])
        have q6 := h.c6
        have q7 := h.c7
        have htk := h.ok.t
        obtain ⟨T, hT⟩ : ∃ T, T = s.tk := ⟨_, rfl⟩
        rw [← hT] at q6 HE2 htk
        clear HE1 HD h3 hT
        by_cases h4 : t ≤ T
        · have eE : E = 11 := by rw [HE2.out, if_pos h4]
          have eS : S' = s := by rw [HS.out, eE]; rfl
          have h4' : (t : Int) ≤ (T : Int) := by omega
          have HEE := Lib.hid (And.intro eE eS)
          clear eE eS
          go_wp2_with fail
          go_ret
          exact ⟨by rw [HEE.out.1]; rfl, by rw [HEE.out.2]; exact h, hM⟩
        · have HE3 := Lib.hid (show E = if T + 8 < t then 14 else if (s.f p t).isSome = true then 12 else 0 by rw [HE2.out, if_neg h4])
          have h4' : ¬ (t : Int) ≤ (T : Int) := by omega
          have w1' : IntKind.u64.wrap (t : Int) = (t : Int) := IntWalk.u64_in _ (by omega)
          have w2' : IntKind.u64.wrap (T : Int) = (T : Int) := IntWalk.u64_in _ (by omega)
          clear HE2
          by_cases h5 : T + 8 < t
          · have eE : E = 14 := by rw [HE3.out, if_pos h5]
            have eS : S' = s := by rw [HS.out, eE]; rfl
            have h5' : (T : Int) + 8 < (t : Int) := by omega
            have HEE := Lib.hid (And.intro eE eS)
            clear eE eS
            go_wp2_with fail
            go_ret
            exact ⟨by rw [HEE.out.1]; rfl, by rw [HEE.out.2]; exact h, hM⟩
          · have HE4 := Lib.hid (show E = if (s.f p t).isSome = true then 12 else 0 by rw [HE3.out, if_neg h5])
            have h5' : ¬ (T : Int) + 8 < (t : Int) := by omega
            have hx : (w1.alloc (.cells #[.int .i64 p, .int .u32 (t : Int)] 75)).heap[w1.heap.size]? = some (.cells #[.int .i64 p, .int .u32 (t : Int)] 75 (0, 0)) := heap_alloc_new w1 _
            have g1 := below_alloc1 w1 (.cells #[.int .i64 p, .int .u32 (t : Int)] 75)
            replace h := h.ext g1
            replace hM : Mod (fun i => i = bm) w (w1.alloc (.cells #[.int .i64 p, .int .u32 (t : Int)] 75)) := hM.trans (Mod.alloc (fun i => i = bm) w1 _) (fun _ _ h => h) (fun _ _ h => h)
            clear HE3 g1
            go_wp2_with fail
            obtain ⟨X, hX⟩ : ∃ X, X = w1.heap.size := ⟨_, rfl⟩
            obtain ⟨w2, hw2⟩ : ∃ w2, w2 = w1.alloc (.cells #[.int .i64 p, .int .u32 (t : Int)] 75) := ⟨_, rfl⟩
            have hXb : X ≠ bm := by have h9 := h.ltm; intro e; obtain ⟨es, clock, h8⟩ := h.mv.isMap; rw [← e, hX, hx] at h8; cases h8
            rw [← hw2] at h hx hM ⊢
            rw [← hX] at hx ⊢
            clear hw2 hX q6 q7
            obtain ⟨d, hd⟩ : ∃ d, d = (s.f p t).isSome := ⟨_, rfl⟩
            obtain ⟨c, hc⟩ : ∃ c : Int, c = (((s.f p t).getD 0 : Nat) : Int) := ⟨_, rfl⟩
            have HC := Lib.hid (And.intro hc hd)
            clear hc hd
            refine wp_region_held_drew (S := fun w0 => Dk w0 b bm s ∧ w0.heap[X]? = some (.cells #[.int .i64 p, .int .u32 (t : Int)] 75 (0, 0)) ∧ Mod (fun i => i = bm) w w0) (by kernel_rfl) ?_ (fun hHeld => ?_)
            · exact ⟨h.drew, hx, mod_drew hM⟩
            refine wpAnyH_take (i := 0) (v := ?adv0) (by simp only [List.getElem?_toArray, List.getElem?_cons_zero]; rfl) (by kernel_rfl) (by kernel_rfl) (by kernel_rfl) (by exact fun _ _ _ h => h) (Or.inl ⟨by kernel_rfl, ?ady0⟩) hHeld ?_
            case ady0 => (intro w hSw; (try dsimp only at hSw); obtain ⟨hd9, hx9, hm9⟩ := hSw; have q7 := hd9.c7; obtain ⟨x0, x1⟩ := dbox2_all hx9; go_simp; try (with_reducible rfl))
            try simp only [Act.put, List.setIfInBounds_toArray, List.set_cons_zero, List.set_cons_succ]
            refine wpAnyH_take (i := 1) (v := ?adv1) (by simp only [List.getElem?_toArray, List.getElem?_cons_succ, List.getElem?_cons_zero]; rfl) (by kernel_rfl) (by kernel_rfl) (by kernel_rfl) (by exact fun _ _ _ h => h) (Or.inl ⟨by kernel_rfl, ?ady1⟩) hHeld ?_
            case ady1 => (intro w hSw; (try dsimp only at hSw); obtain ⟨hd9, hx9, hm9⟩ := hSw; have q7 := hd9.c7; obtain ⟨x0, x1⟩ := dbox2_all hx9; go_simp; try (with_reducible rfl))
            try simp only [Act.put, List.setIfInBounds_toArray, List.set_cons_zero, List.set_cons_succ]
            refine wpAnyH_take (i := 2) (v := ?adv2) (by simp only [List.getElem?_toArray, List.getElem?_cons_succ, List.getElem?_cons_zero]; rfl) (by kernel_rfl) (by kernel_rfl) (by kernel_rfl) (by exact fun _ _ _ h => h) (Or.inl ⟨by kernel_rfl, ?ady2⟩) hHeld ?_
            case ady2 => (intro w hSw; (try dsimp only at hSw); obtain ⟨hd9, hx9, hm9⟩ := hSw; have q7 := hd9.c7; obtain ⟨x0, x1⟩ := dbox2_all hx9; go_simp; try (with_reducible rfl))
            try simp only [Act.put, List.setIfInBounds_toArray, List.set_cons_zero, List.set_cons_succ]
            refine wpAnyH_take (i := 3) (v := ?adv3) (by simp only [List.getElem?_toArray, List.getElem?_cons_succ, List.getElem?_cons_zero]; rfl) (by kernel_rfl) (by kernel_rfl) (by kernel_rfl) (by exact fun _ _ _ h => h) (Or.inl ⟨by kernel_rfl, ?ady3⟩) hHeld ?_
            case ady3 => (intro w hSw; (try dsimp only at hSw); obtain ⟨hd9, hx9, hm9⟩ := hSw; have q7 := hd9.c7; obtain ⟨x0, x1⟩ := dbox2_all hx9; go_simp; try (with_reducible rfl))
            try simp only [Act.put, List.setIfInBounds_toArray, List.set_cons_zero, List.set_cons_succ]
            refine wpAnyH_take (i := 4) (v := ?adv4) (by simp only [List.getElem?_toArray, List.getElem?_cons_succ, List.getElem?_cons_zero]; rfl) (by kernel_rfl) (by kernel_rfl) (by kernel_rfl) (by exact fun _ _ _ h => h) (Or.inl ⟨by kernel_rfl, ?ady4⟩) hHeld ?_
            case ady4 => (intro w hSw; (try dsimp only at hSw); obtain ⟨hd9, hx9, hm9⟩ := hSw; have q7 := hd9.c7; obtain ⟨x0, x1⟩ := dbox2_all hx9; go_simp; try (with_reducible rfl))
            try simp only [Act.put, List.setIfInBounds_toArray, List.set_cons_zero, List.set_cons_succ]
            refine wpAnyH_take (i := 5) (by simp only [List.getElem?_toArray, List.getElem?_cons_succ, List.getElem?_cons_zero]; rfl) (by kernel_rfl) (by kernel_rfl) (by kernel_rfl) (by exact fun _ _ _ h => h) (by exact yk_look (by kernel_rfl) (.tmp 56) (.tmp 57) rfl bm s.n s.f p t rfl rfl hp ht (fun w0 h => h.1.mv) c d HC.out.1.symm HC.out.2.symm) hHeld ?_
            try simp only [Act.put, List.setIfInBounds_toArray, List.set_cons_zero, List.set_cons_succ]
            refine wpAnyH_take (i := 6) (v := ?adv6) (by simp only [List.getElem?_toArray, List.getElem?_cons_succ, List.getElem?_cons_zero]; rfl) (by kernel_rfl) (by kernel_rfl) (by kernel_rfl) (by exact fun _ _ _ h => h) (Or.inl ⟨by kernel_rfl, ?ady6⟩) hHeld ?_
            case ady6 => (intro w hSw; (try dsimp only at hSw); obtain ⟨hd9, hx9, hm9⟩ := hSw; have q7 := hd9.c7; obtain ⟨x0, x1⟩ := dbox2_all hx9; go_simp; try (with_reducible rfl))
            try simp only [Act.put, List.setIfInBounds_toArray, List.set_cons_zero, List.set_cons_succ]
            refine wpAnyH_take (i := 7) (v := ?adv7) (by simp only [List.getElem?_toArray, List.getElem?_cons_succ, List.getElem?_cons_zero]; rfl) (by kernel_rfl) (by kernel_rfl) (by kernel_rfl) (by exact fun _ _ _ h => h) (Or.inl ⟨by kernel_rfl, ?ady7⟩) hHeld ?_
            case ady7 => (intro w hSw; (try dsimp only at hSw); obtain ⟨hd9, hx9, hm9⟩ := hSw; have q7 := hd9.c7; obtain ⟨x0, x1⟩ := dbox2_all hx9; go_simp; try (with_reducible rfl))
            try simp only [Act.put, List.setIfInBounds_toArray, List.set_cons_zero, List.set_cons_succ]
            refine wpAnyH_take (i := 8) (v := ?adv8) (by simp only [List.getElem?_toArray, List.getElem?_cons_succ, List.getElem?_cons_zero]; rfl) (by kernel_rfl) (by kernel_rfl) (by kernel_rfl) (by exact fun _ _ _ h => h) (Or.inl ⟨by kernel_rfl, ?ady8⟩) hHeld ?_
            case ady8 => (intro w hSw; (try dsimp only at hSw); obtain ⟨hd9, hx9, hm9⟩ := hSw; have q7 := hd9.c7; obtain ⟨x0, x1⟩ := dbox2_all hx9; go_simp; try (with_reducible rfl))
            try simp only [Act.put, List.setIfInBounds_toArray, List.set_cons_zero, List.set_cons_succ]
            refine wpAnyH_take (i := 9) (v := ?adv9) (by simp only [List.getElem?_toArray, List.getElem?_cons_succ, List.getElem?_cons_zero]; rfl) (by kernel_rfl) (by kernel_rfl) (by kernel_rfl) (by exact fun _ _ _ h => h) (Or.inl ⟨by kernel_rfl, ?ady9⟩) hHeld ?_
            case ady9 => (intro w hSw; (try dsimp only at hSw); obtain ⟨hd9, hx9, hm9⟩ := hSw; have q7 := hd9.c7; obtain ⟨x0, x1⟩ := dbox2_all hx9; go_simp; try (with_reducible rfl))
            try simp only [Act.put, List.setIfInBounds_toArray, List.set_cons_zero, List.set_cons_succ]
            refine wpAnyH_take (i := 10) (v := ?adv10) (by simp only [List.getElem?_toArray, List.getElem?_cons_succ, List.getElem?_cons_zero]; rfl) (by kernel_rfl) (by kernel_rfl) (by kernel_rfl) (by exact fun _ _ _ h => h) (Or.inl ⟨by kernel_rfl, ?ady10⟩) hHeld ?_
            case ady10 => (intro w hSw; (try dsimp only at hSw); obtain ⟨hd9, hx9, hm9⟩ := hSw; have q7 := hd9.c7; obtain ⟨x0, x1⟩ := dbox2_all hx9; go_simp; try (with_reducible rfl))
            try simp only [Act.put, List.setIfInBounds_toArray, List.set_cons_zero, List.set_cons_succ]
            refine wpAnyH_done (by kernel_rfl) ?_ _
            try simp only [Act.put, List.setIfInBounds_toArray, List.set_cons_zero, List.set_cons_succ]
            obtain ⟨h, hx, hM⟩ := hHeld
            obtain ⟨w3, hw3⟩ : ∃ w3, w3 = World.drew w2 := ⟨_, rfl⟩
            rw [← hw3] at h hx hM ⊢
            clear hw3
            cases d with
            | true =>
              have eE : E = 12 := by rw [HE4.out, if_pos HC.out.2.symm]
              have eS : S' = s := by rw [HS.out, eE]; rfl
              have HEE := Lib.hid (And.intro eE eS)
              clear eE eS
              go_wp2_with fail
              go_ret
              exact ⟨by rw [HEE.out.1]; rfl, by rw [HEE.out.2]; exact h, hM⟩
            | false =>
              have eE : E = 0 := by rw [HE4.out, if_neg (by rw [← HC.out.2]; simp)]
              have eS : S' = { s with n := s.n + 1, f := updF s.f p t (some m) } := by rw [HS.out, if_pos eE]
              have HEE := Lib.hid (And.intro eE eS)
              clear eE eS
              go_wp2_with fail
              refine wp_region_held_drew (S := fun w0 => (∃ n f, Dk w0 b bm ⟨s.pl, s.mv, s.df, s.tk, n, f⟩) ∧ w0.heap[X]? = some (.cells #[.int .i64 p, .int .u32 (t : Int)] 75 (0, 0))) (by kernel_rfl) ?_ (fun hHeld => ?_)
              · exact ⟨⟨s.n, s.f, h.drew⟩, hx⟩
              refine wpAnyH_take (i := 0) (v := ?bv0) (by simp only [List.getElem?_toArray, List.getElem?_cons_zero]; rfl) (by kernel_rfl) (by kernel_rfl) (by kernel_rfl) (by exact fun _ _ _ h => h) (Or.inl ⟨by kernel_rfl, ?by0⟩) hHeld ?_
              case by0 => (intro w hSw; (try dsimp only at hSw); obtain ⟨⟨n9, f9, hd9⟩, hx9⟩ := hSw; have q7 := hd9.c7; obtain ⟨x0, x1⟩ := dbox2_all hx9; go_simp; try (with_reducible rfl))
              try simp only [Act.put, List.setIfInBounds_toArray, List.set_cons_zero, List.set_cons_succ]
              refine wpAnyH_take (i := 1) (v := ?bv1) (by simp only [List.getElem?_toArray, List.getElem?_cons_succ, List.getElem?_cons_zero]; rfl) (by kernel_rfl) (by kernel_rfl) (by kernel_rfl) (by exact fun _ _ _ h => h) (Or.inl ⟨by kernel_rfl, ?by1⟩) hHeld ?_
              case by1 => (intro w hSw; (try dsimp only at hSw); obtain ⟨⟨n9, f9, hd9⟩, hx9⟩ := hSw; have q7 := hd9.c7; obtain ⟨x0, x1⟩ := dbox2_all hx9; go_simp; try (with_reducible rfl))
              try simp only [Act.put, List.setIfInBounds_toArray, List.set_cons_zero, List.set_cons_succ]
              refine wpAnyH_take (i := 2) (v := ?bv2) (by simp only [List.getElem?_toArray, List.getElem?_cons_succ, List.getElem?_cons_zero]; rfl) (by kernel_rfl) (by kernel_rfl) (by kernel_rfl) (by exact fun _ _ _ h => h) (Or.inl ⟨by kernel_rfl, ?by2⟩) hHeld ?_
              case by2 => (intro w hSw; (try dsimp only at hSw); obtain ⟨⟨n9, f9, hd9⟩, hx9⟩ := hSw; have q7 := hd9.c7; obtain ⟨x0, x1⟩ := dbox2_all hx9; go_simp; try (with_reducible rfl))
              try simp only [Act.put, List.setIfInBounds_toArray, List.set_cons_zero, List.set_cons_succ]
              refine wpAnyH_take (i := 3) (v := ?bv3) (by simp only [List.getElem?_toArray, List.getElem?_cons_succ, List.getElem?_cons_zero]; rfl) (by kernel_rfl) (by kernel_rfl) (by kernel_rfl) (by exact fun _ _ _ h => h) (Or.inl ⟨by kernel_rfl, ?by3⟩) hHeld ?_
              case by3 => (intro w hSw; (try dsimp only at hSw); obtain ⟨⟨n9, f9, hd9⟩, hx9⟩ := hSw; have q7 := hd9.c7; obtain ⟨x0, x1⟩ := dbox2_all hx9; go_simp; try (with_reducible rfl))
              try simp only [Act.put, List.setIfInBounds_toArray, List.set_cons_zero, List.set_cons_succ]
              refine wpAnyH_take (i := 4) (v := ?bv4) (by simp only [List.getElem?_toArray, List.getElem?_cons_succ, List.getElem?_cons_zero]; rfl) (by kernel_rfl) (by kernel_rfl) (by kernel_rfl) (by exact fun _ _ _ h => h) (Or.inl ⟨by kernel_rfl, ?by4⟩) hHeld ?_
              case by4 => (intro w hSw; (try dsimp only at hSw); obtain ⟨⟨n9, f9, hd9⟩, hx9⟩ := hSw; have q7 := hd9.c7; obtain ⟨x0, x1⟩ := dbox2_all hx9; go_simp; try (with_reducible rfl))
              try simp only [Act.put, List.setIfInBounds_toArray, List.set_cons_zero, List.set_cons_succ]
              refine wpAnyH_take (i := 5) (v := ?bv5) (by simp only [List.getElem?_toArray, List.getElem?_cons_succ, List.getElem?_cons_zero]; rfl) (by kernel_rfl) (by kernel_rfl) (by kernel_rfl) (by exact fun _ _ _ h => h) (Or.inl ⟨by kernel_rfl, ?by5⟩) hHeld ?_
              case by5 => (intro w hSw; (try dsimp only at hSw); obtain ⟨⟨n9, f9, hd9⟩, hx9⟩ := hSw; have q7 := hd9.c7; obtain ⟨x0, x1⟩ := dbox2_all hx9; go_simp; try (with_reducible rfl))
              try simp only [Act.put, List.setIfInBounds_toArray, List.set_cons_zero, List.set_cons_succ]
              refine wpAnyH_ready (rs := [6]) (by kernel_rfl) (by simp) ?_
              refine AllReadyH.cons (by simp only [List.getElem?_toArray, List.getElem?_cons_succ, List.getElem?_cons_zero]; rfl) (fun KK hKK => ?_) AllReadyH.nil
              rw [if_pos (by kernel_rfl)]
              refine wp_mapUp (.tmp 65) (.tmp 66) (.tmp 67) rfl bm s.n s.f p t m rfl rfl rfl (Dk.mv h.drew) hn hp ht hm ?_
              intro w4 hv4 hm4 hz4
              have hM4 := (mod_drew hM).trans hm4 (fun _ _ h => h) (fun _ _ h => h)
              have h4 : Dk w4 b bm { s with n := s.n + 1, f := updF s.f p t (some m) } := ⟨(hm4.block b h.lt h.ne).trans h.box, hv4, ⟨h.ok.p, h.ok.m, h.ok.d, h.ok.t⟩⟩
              have hx4 := (hm4.block X (dbox_lt hx) hXb).trans hx
              refine hKK.out _ _ ?_ (fun hHeld => ?_)
              · exact ⟨⟨_, _, h4⟩, hx4⟩
              clear hKK KK
              try simp only [Act.put]
              refine wpAnyH_done (by kernel_rfl) ?_ _
              go_wp2_with fail
              go_ret
              exact ⟨by rw [HEE.out.1]; rfl, by rw [HEE.out.2]; exact h4, hM4⟩
end Go.Proofs.YtglmciklegifaaaDoor
