/- slices.insertionSortOrdered and slices.Sort of at most twelve numbers of 32 bits in a row of the call's own. Conditions: those said. -/
import Derived.Test.YtglmciklegifaaaDoorDkS
namespace Go.Proofs.YtglmciklegifaaaDoor
open Go.RowKit

/-- The first i rise. -/
def SP (l : List Nat) (i : Nat) : Prop := ∀ x y a b, x < y → y < i → l[x]? = some a → l[y]? = some b → a ≤ b
/-- The first i + 1 rise, but for what stands at j. -/
def IP (l : List Nat) (i j : Nat) : Prop := ∀ x y a b, x < y → y ≤ i → y ≠ j → l[x]? = some a → l[y]? = some b → a ≤ b
theorem SP.ip {l : List Nat} {i : Nat} (h : SP l i) : IP l i i := fun x y a b h1 h2 h3 => h x y a b h1 (by omega)
theorem IP.sp0 {l : List Nat} {i : Nat} (h : IP l i 0) : SP l (i + 1) := fun x y a b h1 h2 => h x y a b h1 (by omega) (by omega)
theorem IP.sp {l : List Nat} {i k p q : Nat} (h : IP l i (k + 1)) (hp : l[k + 1]? = some p) (hq : l[k]? = some q) (hpq : ¬ p < q) : SP l (i + 1) := fun x y a b h1 h2 ha hb => by
  by_cases e : y = k + 1
  · subst e
    rw [hp] at hb
    injection hb with hb
    subst hb
    by_cases e2 : x = k
    · subst e2
      rw [hq] at ha
      injection ha with ha
      omega
    · have := h x k a q (by omega) (by omega) (by omega) ha hq
      omega
  · exact h x y a b h1 (by omega) e ha hb
theorem IP.swap {l : List Nat} {i k p q : Nat} (h : IP l i (k + 1)) (hp : l[k + 1]? = some p) (hq : l[k]? = some q) (hpq : p < q) (hki : k + 1 ≤ i) : IP ((l.set (k + 1) q).set k p) i k := fun x y a b h1 h2 h3 ha hb => by
  have hlk : k < l.length := (List.getElem?_eq_some_iff.1 hq).1
  have hlk1 : k + 1 < l.length := (List.getElem?_eq_some_iff.1 hp).1
  have g : ∀ z c, ((l.set (k + 1) q).set k p)[z]? = some c → (z = k ∧ c = p) ∨ (z = k + 1 ∧ c = q) ∨ (z ≠ k ∧ z ≠ k + 1 ∧ l[z]? = some c) := by
    intro z c hz
    rw [List.getElem?_set] at hz
    split at hz
    · rename_i e
      rw [if_pos (by simpa using hlk)] at hz
      injection hz with hz
      exact .inl ⟨e.symm, hz.symm⟩
    · rename_i e
      rw [List.getElem?_set] at hz
      split at hz
      · rename_i e2
        try rw [if_pos hlk1] at hz
        injection hz with hz
        exact .inr (.inl ⟨e2.symm, hz.symm⟩)
      · rename_i e2
        exact .inr (.inr ⟨fun e' => e e'.symm, fun e' => e2 e'.symm, hz⟩)
  rcases g x a ha with ⟨rfl, rfl⟩ | ⟨rfl, rfl⟩ | ⟨hx1, hx2, hx⟩
  · rcases g y b hb with ⟨e, _⟩ | ⟨rfl, rfl⟩ | ⟨hy1, hy2, hy⟩
    · exact absurd e h3
    · omega
    · exact h (x + 1) y a b (by omega) h2 hy2 hp hy
  · rcases g y b hb with ⟨e, _⟩ | ⟨e, _⟩ | ⟨hy1, hy2, hy⟩
    · omega
    · omega
    · exact h k y a b (by omega) h2 hy2 hq hy
  · rcases g y b hb with ⟨e, _⟩ | ⟨rfl, rfl⟩ | ⟨hy1, hy2, hy⟩
    · exact absurd e h3
    · exact h x k a b (by omega) (by omega) (by omega) hx hq
    · exact h x y a b h1 h2 hy2 hx hy
theorem SP.pairwise {l : List Nat} (h : SP l l.length) : l.Pairwise (· ≤ ·) := by
  rw [List.pairwise_iff_getElem]
  intro i j hi hj hij
  exact h i j _ _ hij hj (List.getElem?_eq_getElem hi) (List.getElem?_eq_getElem hj)
theorem swap2_perm {l : List Nat} {k p q : Nat} (hp : l[k + 1]? = some p) (hq : l[k]? = some q) : ((l.set (k + 1) q).set k p).Perm l := by
  obtain ⟨h1, rfl⟩ := List.getElem?_eq_some_iff.1 hp
  obtain ⟨h2, rfl⟩ := List.getElem?_eq_some_iff.1 hq
  exact List.set_set_perm h1 h2
theorem RowW.modne {w w' : World} {B n g c : Nat} {xs : List Value} (h : w.ownsRow B 22 1 (.slice (some ⟨g, 0, none⟩) n c) n xs) {S : Nat → Prop} (hm : Mod S w w') (hs : ¬ S g) : w'.ownsRow B 22 1 (.slice (some ⟨g, 0, none⟩) n c) n xs :=
  own_mod h hm (fun k hk => by have : k = g := by simpa [Value.ownBlock] using hk.symm
                               rw [this]; exact hs)

set_option maxHeartbeats 4000000 in
set_option maxRecDepth 20000 in
theorem Ins_calls (B g n c : Nat) (l : List Nat) (w : World) (hr : w.ownsRow B 22 1 (.slice (some ⟨g, 0, none⟩) n c) n (wv l)) (hn : l.length = n) (hl : n ≤ 1000000) :
    Calls Tryd.prog 41 #[.slice (some ⟨g, 0, none⟩) n c, .int .i64 0, .int .i64 (n : Int)] w fun e w' => e = .returned (.tuple #[]) ∧ ∃ l', l'.Perm l ∧ l'.Pairwise (· ≤ ·) ∧ w'.ownsRow B 22 1 (.slice (some ⟨g, 0, none⟩) n c) n (wv l') ∧ Mod (fun i => i = g) w w' := by
  have HN := Lib.hid hn
  clear hn
  go_enter Tryd.func41, Tryd.ntmps41
  go_wp2_with fail
  go_loopw [6] (fun i wr => ∃ (k : Nat) (l1 : List Nat), 1 ≤ k ∧ k ≤ max n 1 ∧ i = .int .i64 (k : Int) ∧ Hid (l1.length = n ∧ l1.Perm l ∧ SP l1 k) ∧ Hid (wr.ownsRow B 22 1 (.slice (some ⟨g, 0, none⟩) n c) n (wv l1)) ∧ Mod (fun i => i = g) w wr) (fun i _ => n - (intOf i).toNat)
  case atStart => exact ⟨1, l, by omega, by omega, by go_num, Lib.hid ⟨HN.out, List.Perm.refl _, fun x y a b h1 h2 => by omega⟩, Lib.hid hr, Mod.refl _ _⟩
  case round =>
    obtain ⟨k, l1, hk1, hkn, rfl, hls, hown, hM⟩ := hrel
    clear hr
    by_cases hlt : k < n
    · have hlt' : (k : Int) < (n : Int) := by omega
      have HK := Lib.hid hkn
      clear hkn
      obtain ⟨wo, hwo⟩ : ∃ wo, wo = wr := ⟨_, rfl⟩
      rw [← hwo] at hown hM ⊢
      clear hwo wr
      go_wp2_with fail
      go_loopw [7] (fun j wr => ∃ (m : Nat) (l2 : List Nat), m ≤ k ∧ j = .int .i64 (m : Int) ∧ Hid (l2.length = n ∧ l2.Perm l ∧ IP l2 k m) ∧ Hid (wr.ownsRow B 22 1 (.slice (some ⟨g, 0, none⟩) n c) n (wv l2)) ∧ Mod (fun i => i = g) w wr) (fun j _ => (intOf j).toNat)
      case atStart => exact ⟨k, l1, Nat.le_refl _, rfl, Lib.hid ⟨hls.out.1, hls.out.2.1, hls.out.2.2.ip⟩, hown, hM⟩
      case round =>
        obtain ⟨m, l2, hmk, rfl, hl2, hown2, hM2⟩ := hrel
        clear hls hown hM
        cases m with
        | zero =>
          have hz : ¬ (0 : Int) < 0 := by omega
          go_wp2_with fail
          refine wp_region_held_drew (S := fun _ => True) (by kernel_rfl) ?_ (fun hHeld => ?_)
          · exact trivial
          refine wpAnyH_take (i := 0) (v := ?zv0) (by simp only [List.getElem?_toArray, List.getElem?_cons_zero]; rfl) (by kernel_rfl) (by kernel_rfl) (by kernel_rfl) (by exact fun _ _ _ h => h) (Or.inl ⟨by kernel_rfl, ?zy0⟩) hHeld ?_
          case zy0 => (intro w hSw; (try dsimp only at hSw); skip; go_simp; try (with_reducible rfl))
          try simp only [Act.put, List.setIfInBounds_toArray, List.set_cons_zero, List.set_cons_succ]
          refine wpAnyH_take (i := 1) (v := ?zv1) (by simp only [List.getElem?_toArray, List.getElem?_cons_succ, List.getElem?_cons_zero]; rfl) (by kernel_rfl) (by kernel_rfl) (by kernel_rfl) (by exact fun _ _ _ h => h) (Or.inl ⟨by kernel_rfl, ?zy1⟩) hHeld ?_
          case zy1 => (intro w hSw; (try dsimp only at hSw); skip; go_simp; try (with_reducible rfl))
          try simp only [Act.put, List.setIfInBounds_toArray, List.set_cons_zero, List.set_cons_succ]
          refine wpAnyH_take (i := 2) (v := ?zv2) (by simp only [List.getElem?_toArray, List.getElem?_cons_succ, List.getElem?_cons_zero]; rfl) (by kernel_rfl) (by kernel_rfl) (by kernel_rfl) (by exact fun _ _ _ h => h) (Or.inl ⟨by kernel_rfl, ?zy2⟩) hHeld ?_
          case zy2 => (intro w hSw; (try dsimp only at hSw); skip; go_simp; try (with_reducible rfl))
          try simp only [Act.put, List.setIfInBounds_toArray, List.set_cons_zero, List.set_cons_succ]
          refine wpAnyH_take (i := 3) (v := ?zv3) (by simp only [List.getElem?_toArray, List.getElem?_cons_succ, List.getElem?_cons_zero]; rfl) (by kernel_rfl) (by kernel_rfl) (by kernel_rfl) (by exact fun _ _ _ h => h) (Or.inl ⟨by kernel_rfl, ?zy3⟩) hHeld ?_
          case zy3 => (intro w hSw; (try dsimp only at hSw); skip; go_simp; try (with_reducible rfl))
          try simp only [Act.put, List.setIfInBounds_toArray, List.set_cons_zero, List.set_cons_succ]
          refine wpAnyH_take (i := 4) (by simp only [List.getElem?_toArray, List.getElem?_cons_succ, List.getElem?_cons_zero]; rfl) (by kernel_rfl) (by kernel_rfl) (by kernel_rfl) (by exact fun _ _ _ h => h) (Or.inr ⟨by kernel_rfl, rfl⟩) hHeld ?_
          try simp only [Act.put, List.setIfInBounds_toArray, List.set_cons_zero, List.set_cons_succ]
          refine wpAnyH_take (i := 5) (by simp only [List.getElem?_toArray, List.getElem?_cons_succ, List.getElem?_cons_zero]; rfl) (by kernel_rfl) (by kernel_rfl) (by kernel_rfl) (by exact fun _ _ _ h => h) (Or.inr ⟨by kernel_rfl, rfl⟩) hHeld ?_
          try simp only [Act.put, List.setIfInBounds_toArray, List.set_cons_zero, List.set_cons_succ]
          refine wpAnyH_take (i := 6) (by simp only [List.getElem?_toArray, List.getElem?_cons_succ, List.getElem?_cons_zero]; rfl) (by kernel_rfl) (by kernel_rfl) (by kernel_rfl) (by exact fun _ _ _ h => h) (Or.inr ⟨by kernel_rfl, rfl⟩) hHeld ?_
          try simp only [Act.put, List.setIfInBounds_toArray, List.set_cons_zero, List.set_cons_succ]
          refine wpAnyH_take (i := 7) (by simp only [List.getElem?_toArray, List.getElem?_cons_succ, List.getElem?_cons_zero]; rfl) (by kernel_rfl) (by kernel_rfl) (by kernel_rfl) (by exact fun _ _ _ h => h) (Or.inr ⟨by kernel_rfl, rfl⟩) hHeld ?_
          try simp only [Act.put, List.setIfInBounds_toArray, List.set_cons_zero, List.set_cons_succ]
          refine wpAnyH_take (i := 8) (by simp only [List.getElem?_toArray, List.getElem?_cons_succ, List.getElem?_cons_zero]; rfl) (by kernel_rfl) (by kernel_rfl) (by kernel_rfl) (by exact fun _ _ _ h => h) (Or.inr ⟨by kernel_rfl, rfl⟩) hHeld ?_
          try simp only [Act.put, List.setIfInBounds_toArray, List.set_cons_zero, List.set_cons_succ]
          refine wpAnyH_take (i := 9) (by simp only [List.getElem?_toArray, List.getElem?_cons_succ, List.getElem?_cons_zero]; rfl) (by kernel_rfl) (by kernel_rfl) (by kernel_rfl) (by exact fun _ _ _ h => h) (Or.inr ⟨by kernel_rfl, rfl⟩) hHeld ?_
          try simp only [Act.put, List.setIfInBounds_toArray, List.set_cons_zero, List.set_cons_succ]
          refine wpAnyH_take (i := 10) (by simp only [List.getElem?_toArray, List.getElem?_cons_succ, List.getElem?_cons_zero]; rfl) (by kernel_rfl) (by kernel_rfl) (by kernel_rfl) (by exact fun _ _ _ h => h) (Or.inr ⟨by kernel_rfl, rfl⟩) hHeld ?_
          try simp only [Act.put, List.setIfInBounds_toArray, List.set_cons_zero, List.set_cons_succ]
          refine wpAnyH_take (i := 11) (by simp only [List.getElem?_toArray, List.getElem?_cons_succ, List.getElem?_cons_zero]; rfl) (by kernel_rfl) (by kernel_rfl) (by kernel_rfl) (by exact fun _ _ _ h => h) (Or.inr ⟨by kernel_rfl, rfl⟩) hHeld ?_
          try simp only [Act.put, List.setIfInBounds_toArray, List.set_cons_zero, List.set_cons_succ]
          refine wpAnyH_take (i := 12) (by simp only [List.getElem?_toArray, List.getElem?_cons_succ, List.getElem?_cons_zero]; rfl) (by kernel_rfl) (by kernel_rfl) (by kernel_rfl) (by exact fun _ _ _ h => h) (Or.inr ⟨by kernel_rfl, rfl⟩) hHeld ?_
          try simp only [Act.put, List.setIfInBounds_toArray, List.set_cons_zero, List.set_cons_succ]
          refine wpAnyH_take (i := 13) (by simp only [List.getElem?_toArray, List.getElem?_cons_succ, List.getElem?_cons_zero]; rfl) (by kernel_rfl) (by kernel_rfl) (by kernel_rfl) (by exact fun _ _ _ h => h) (Or.inr ⟨by kernel_rfl, rfl⟩) hHeld ?_
          try simp only [Act.put, List.setIfInBounds_toArray, List.set_cons_zero, List.set_cons_succ]
          refine wpAnyH_take (i := 14) (v := ?zv14) (by simp only [List.getElem?_toArray, List.getElem?_cons_succ, List.getElem?_cons_zero]; rfl) (by kernel_rfl) (by kernel_rfl) (by kernel_rfl) (by exact fun _ _ _ h => h) (Or.inl ⟨by kernel_rfl, ?zy14⟩) hHeld ?_
          case zy14 => (intro w hSw; (try dsimp only at hSw); skip; go_simp; try (with_reducible rfl))
          try simp only [Act.put, List.setIfInBounds_toArray, List.set_cons_zero, List.set_cons_succ]
          refine wpAnyH_done (by kernel_rfl) ?_ _
          go_wp2_with fail
          refine ⟨⟨k + 1, l2, by omega, by omega, by go_num, Lib.hid ⟨hl2.out.1, hl2.out.2.1, hl2.out.2.2.sp0⟩, Lib.hid hown2.out, mod_drew hM2⟩, by simp [intOf]; omega⟩
        | succ m =>
          obtain ⟨g', cap, hv, hBg, hgl, hnc, hcell, hfr, hset⟩ := own_set hown2.out (by omega)
          injection hv with hv hv2 hv3
          injection hv with hv
          injection hv with hv hv4 hv5
          subst hv
          clear hv2 hv3 hv4 hv5
          obtain ⟨p, hp⟩ : ∃ p, l2[m + 1]? = some p := ⟨_, List.getElem?_eq_getElem (by rw [hl2.out.1]; omega)⟩
          obtain ⟨q, hq⟩ : ∃ q, l2[m]? = some q := ⟨_, List.getElem?_eq_getElem (by rw [hl2.out.1]; omega)⟩
          have hcp := hcell (m + 1) _ (wv_get? hp)
          have hcq := hcell m _ (wv_get? hq)
          have hfp := hfr (m + 1)
          have hfq := hfr m
          have e1 : (m : Int) + 1 < (n : Int) := by omega
          have e2 : (m : Int) < (n : Int) := by omega
          have e3 : (0 : Int) < (m : Int) + 1 := by omega
          have e4 : (0 : Int) ≤ (m : Int) + 1 := by omega
          have e5 : IntKind.i64.wrap (m : Int) = (m : Int) := IntWalk.i64_in _ (by omega)
          have hL := fun W => Less_calls p q W
          have HPQ := Lib.hid (And.intro hp hq)
          have HSet := Lib.hid hset
          obtain ⟨D, hD⟩ : ∃ D, D = decide (p < q) := ⟨_, rfl⟩
          rw [← hD] at hL
          have HD := Lib.hid hD
          clear hp hq hcell hfr hset hD
          go_wp2_with fail
          refine wp_region_held_drew (S := fun w0 => w0.cell? ⟨g, m + 1, none⟩ = some (.int .u32 (p : Int)) ∧ w0.cell? ⟨g, m, none⟩ = some (.int .u32 (q : Int)) ∧ Mod (fun i => i = g) w w0) (by kernel_rfl) ?_ (fun hHeld => ?_)
          · exact ⟨hcp, hcq, mod_drew hM2⟩
          refine wpAnyH_take (i := 0) (v := ?ov0) (by simp only [List.getElem?_toArray, List.getElem?_cons_zero]; rfl) (by kernel_rfl) (by kernel_rfl) (by kernel_rfl) (by exact fun _ _ _ h => h) (Or.inl ⟨by kernel_rfl, ?oy0⟩) hHeld ?_
          case oy0 => (intro w hSw; (try dsimp only at hSw); obtain ⟨hcp9, hcq9, hm9⟩ := hSw; go_simp; try (with_reducible rfl))
          try simp only [Act.put, List.setIfInBounds_toArray, List.set_cons_zero, List.set_cons_succ]
          refine wpAnyH_take (i := 1) (v := ?ov1) (by simp only [List.getElem?_toArray, List.getElem?_cons_succ, List.getElem?_cons_zero]; rfl) (by kernel_rfl) (by kernel_rfl) (by kernel_rfl) (by exact fun _ _ _ h => h) (Or.inl ⟨by kernel_rfl, ?oy1⟩) hHeld ?_
          case oy1 => (intro w hSw; (try dsimp only at hSw); obtain ⟨hcp9, hcq9, hm9⟩ := hSw; go_simp; try (with_reducible rfl))
          try simp only [Act.put, List.setIfInBounds_toArray, List.set_cons_zero, List.set_cons_succ]
          refine wpAnyH_take (i := 2) (v := ?ov2) (by simp only [List.getElem?_toArray, List.getElem?_cons_succ, List.getElem?_cons_zero]; rfl) (by kernel_rfl) (by kernel_rfl) (by kernel_rfl) (by exact fun _ _ _ h => h) (Or.inl ⟨by kernel_rfl, ?oy2⟩) hHeld ?_
          case oy2 => (intro w hSw; (try dsimp only at hSw); obtain ⟨hcp9, hcq9, hm9⟩ := hSw; go_simp; try (with_reducible rfl))
          try simp only [Act.put, List.setIfInBounds_toArray, List.set_cons_zero, List.set_cons_succ]
          refine wpAnyH_take (i := 3) (v := ?ov3) (by simp only [List.getElem?_toArray, List.getElem?_cons_succ, List.getElem?_cons_zero]; rfl) (by kernel_rfl) (by kernel_rfl) (by kernel_rfl) (by exact fun _ _ _ h => h) (Or.inl ⟨by kernel_rfl, ?oy3⟩) hHeld ?_
          case oy3 => (intro w hSw; (try dsimp only at hSw); obtain ⟨hcp9, hcq9, hm9⟩ := hSw; go_simp; try (with_reducible rfl))
          try simp only [Act.put, List.setIfInBounds_toArray, List.set_cons_zero, List.set_cons_succ]
          refine wpAnyH_take (i := 4) (v := ?ov4) (by simp only [List.getElem?_toArray, List.getElem?_cons_succ, List.getElem?_cons_zero]; rfl) (by kernel_rfl) (by kernel_rfl) (by kernel_rfl) (by exact fun _ _ _ h => h) (Or.inl ⟨by kernel_rfl, ?oy4⟩) hHeld ?_
          case oy4 => (intro w hSw; (try dsimp only at hSw); obtain ⟨hcp9, hcq9, hm9⟩ := hSw; go_simp; try (with_reducible rfl))
          try simp only [Act.put, List.setIfInBounds_toArray, List.set_cons_zero, List.set_cons_succ]
          refine wpAnyH_take (i := 5) (v := ?ov5) (by simp only [List.getElem?_toArray, List.getElem?_cons_succ, List.getElem?_cons_zero]; rfl) (by kernel_rfl) (by kernel_rfl) (by kernel_rfl) (by exact fun _ _ _ h => h) (Or.inl ⟨by kernel_rfl, ?oy5⟩) hHeld ?_
          case oy5 => (intro w hSw; (try dsimp only at hSw); obtain ⟨hcp9, hcq9, hm9⟩ := hSw; go_simp; try (with_reducible rfl))
          try simp only [Act.put, List.setIfInBounds_toArray, List.set_cons_zero, List.set_cons_succ]
          refine wpAnyH_take (i := 6) (v := ?ov6) (by simp only [List.getElem?_toArray, List.getElem?_cons_succ, List.getElem?_cons_zero]; rfl) (by kernel_rfl) (by kernel_rfl) (by kernel_rfl) (by exact fun _ _ _ h => h) (Or.inl ⟨by kernel_rfl, ?oy6⟩) hHeld ?_
          case oy6 => (intro w hSw; (try dsimp only at hSw); obtain ⟨hcp9, hcq9, hm9⟩ := hSw; go_simp; try (with_reducible rfl))
          try simp only [Act.put, List.setIfInBounds_toArray, List.set_cons_zero, List.set_cons_succ]
          refine wpAnyH_take (i := 7) (v := ?ov7) (by simp only [List.getElem?_toArray, List.getElem?_cons_succ, List.getElem?_cons_zero]; rfl) (by kernel_rfl) (by kernel_rfl) (by kernel_rfl) (by exact fun _ _ _ h => h) (Or.inl ⟨by kernel_rfl, ?oy7⟩) hHeld ?_
          case oy7 => (intro w hSw; (try dsimp only at hSw); obtain ⟨hcp9, hcq9, hm9⟩ := hSw; go_simp; try (with_reducible rfl))
          try simp only [Act.put, List.setIfInBounds_toArray, List.set_cons_zero, List.set_cons_succ]
          refine wpAnyH_take (i := 8) (v := ?ov8) (by simp only [List.getElem?_toArray, List.getElem?_cons_succ, List.getElem?_cons_zero]; rfl) (by kernel_rfl) (by kernel_rfl) (by kernel_rfl) (by exact fun _ _ _ h => h) (Or.inl ⟨by kernel_rfl, ?oy8⟩) hHeld ?_
          case oy8 => (intro w hSw; (try dsimp only at hSw); obtain ⟨hcp9, hcq9, hm9⟩ := hSw; go_simp; try (with_reducible rfl))
          try simp only [Act.put, List.setIfInBounds_toArray, List.set_cons_zero, List.set_cons_succ]
          refine wpAnyH_take (i := 9) (v := ?ov9) (by simp only [List.getElem?_toArray, List.getElem?_cons_succ, List.getElem?_cons_zero]; rfl) (by kernel_rfl) (by kernel_rfl) (by kernel_rfl) (by exact fun _ _ _ h => h) (Or.inl ⟨by kernel_rfl, ?oy9⟩) hHeld ?_
          case oy9 => (intro w hSw; (try dsimp only at hSw); obtain ⟨hcp9, hcq9, hm9⟩ := hSw; go_simp; try (with_reducible rfl))
          try simp only [Act.put, List.setIfInBounds_toArray, List.set_cons_zero, List.set_cons_succ]
          refine wpAnyH_take (i := 10) (v := ?ov10) (by simp only [List.getElem?_toArray, List.getElem?_cons_succ, List.getElem?_cons_zero]; rfl) (by kernel_rfl) (by kernel_rfl) (by kernel_rfl) (by exact fun _ _ _ h => h) (Or.inl ⟨by kernel_rfl, ?oy10⟩) hHeld ?_
          case oy10 => (intro w hSw; (try dsimp only at hSw); obtain ⟨hcp9, hcq9, hm9⟩ := hSw; go_simp; try (with_reducible rfl))
          try simp only [Act.put, List.setIfInBounds_toArray, List.set_cons_zero, List.set_cons_succ]
          refine wpAnyH_take (i := 11) (v := ?ov11) (by simp only [List.getElem?_toArray, List.getElem?_cons_succ, List.getElem?_cons_zero]; rfl) (by kernel_rfl) (by kernel_rfl) (by kernel_rfl) (by exact fun _ _ _ h => h) (Or.inl ⟨by kernel_rfl, ?oy11⟩) hHeld ?_
          case oy11 => (intro w hSw; (try dsimp only at hSw); obtain ⟨hcp9, hcq9, hm9⟩ := hSw; go_simp; try (with_reducible rfl))
          try simp only [Act.put, List.setIfInBounds_toArray, List.set_cons_zero, List.set_cons_succ]
          refine wpAnyH_take (i := 12) (v := ?ov12) (by simp only [List.getElem?_toArray, List.getElem?_cons_succ, List.getElem?_cons_zero]; rfl) (by kernel_rfl) (by kernel_rfl) (by kernel_rfl) (by exact fun _ _ _ h => h) (Or.inl ⟨by kernel_rfl, ?oy12⟩) hHeld ?_
          case oy12 => (intro w hSw; (try dsimp only at hSw); obtain ⟨hcp9, hcq9, hm9⟩ := hSw; go_simp; try (with_reducible rfl))
          try simp only [Act.put, List.setIfInBounds_toArray, List.set_cons_zero, List.set_cons_succ]
          refine wpAnyH_ready (rs := [13]) (by kernel_rfl) (by simp) ?_
          refine AllReadyH.cons (by simp only [List.getElem?_toArray, List.getElem?_cons_succ, List.getElem?_cons_zero]; rfl) (fun KK hKK => ?_) AllReadyH.nil
          rw [if_pos (by kernel_rfl)]
          go_simp
          refine (hL _).mono ?_
          rintro e w9 ⟨rfl, rfl⟩
          go_wp2_with fail
          refine hKK.out _ _ ?_ (fun hHeld => ?_)
          · exact hHeld
          clear hKK KK
          try simp only [Act.put, List.setIfInBounds_toArray, List.set_cons_zero, List.set_cons_succ]
          refine wpAnyH_take (i := 14) (v := ?ov14) (by simp only [List.getElem?_toArray, List.getElem?_cons_succ, List.getElem?_cons_zero]; rfl) (by kernel_rfl) (by kernel_rfl) (by kernel_rfl) (by exact fun _ _ _ h => h) (Or.inl ⟨by kernel_rfl, ?oy14⟩) hHeld ?_
          case oy14 => (intro w hSw; (try dsimp only at hSw); obtain ⟨hcp9, hcq9, hm9⟩ := hSw; go_simp; try (with_reducible rfl))
          try simp only [Act.put, List.setIfInBounds_toArray, List.set_cons_zero, List.set_cons_succ]
          refine wpAnyH_done (by kernel_rfl) ?_ _
          have hM3 := hHeld.2.2
          cases D with
          | false =>
            have hpq : ¬ p < q := by have := HD.out; simpa using this
            have hsp := hl2.out.2.2.sp HPQ.out.1 HPQ.out.2 hpq
            have HSP := Lib.hid hsp
            clear hsp hpq hHeld
            go_wp2_with fail
            refine ⟨⟨k + 1, l2, by omega, by omega, by go_num, Lib.hid ⟨hl2.out.1, hl2.out.2.1, HSP.out⟩, Lib.hid hown2.out, hM3⟩, by simp [intOf]; omega⟩
          | true =>
            have hpq : p < q := by have := HD.out; simpa using this
            have HSW := Lib.hid (And.intro (hl2.out.2.2.swap HPQ.out.1 HPQ.out.2 hpq hmk) (swap2_perm HPQ.out.1 HPQ.out.2))
            clear hpq hHeld
            go_wp2_with fail
            go_region
            go_wp2_with fail
            refine ⟨⟨m, (l2.set (m + 1) q).set m p, by omega, rfl, Lib.hid ⟨by simp [hl2.out.1], HSW.out.2.trans hl2.out.2.1, HSW.out.1⟩, Lib.hid ?_, mod_drew (mod_drew ((hM2.trans (Mod.setCell wr ⟨g, m + 1, none⟩ _) (fun _ _ h => h) (fun _ _ h => h)).trans (Mod.setCell _ ⟨g, m, none⟩ _) (fun _ _ h => h) (fun _ _ h => h)))⟩, by simp [intOf]⟩
            rw [← wv_set, ← wv_set]
            exact own_mod (own_mod (own_set2 (by omega) (HSet.out (m + 1) (.int .u32 (q : Int)) _ rfl) m (.int .u32 (p : Int))) (Mod.drew (fun _ => False) _) (fun _ _ h => h)) (Mod.drew (fun _ => False) _) (fun _ _ h => h)
    · have hkn' : k = n ∨ (n = 0 ∧ k = 1) := by omega
      have hP : l1.Pairwise (· ≤ ·) := by
        refine SP.pairwise (fun x y a b h1 h2 => hls.out.2.2 x y a b h1 ?_)
        have := hls.out.1
        omega
      have HP := Lib.hid hP
      have hlt' : ¬ (k : Int) < (n : Int) := by omega
      clear hP hkn' hkn
      go_wp2_with fail
      first | go_end0 | refine bodyPost_ret (results_none rfl _ _ _) rfl ?_
      exact ⟨rfl, l1, hls.out.2.1, HP.out, hown.out, hM⟩

theorem Ins_nil (w : World) : Calls Tryd.prog 41 #[.slice none 0 0, .int .i64 0, .int .i64 0] w fun e w' => e = .returned (.tuple #[]) ∧ w' = w := by
  go_enter Tryd.func41, Tryd.ntmps41
  go_wp2_with fail
  go_loopw [6] (fun i wr => i = .int .i64 1 ∧ wr = w) (fun _ _ => 0)
  case atStart => exact ⟨rfl, rfl⟩
  case round =>
    obtain ⟨rfl, rfl⟩ := hrel
    go_wp2_with fail
    first | go_end0 | refine bodyPost_ret (results_none rfl _ _ _) rfl ?_
    exact ⟨rfl, rfl⟩
set_option maxHeartbeats 4000000 in
set_option maxRecDepth 20000 in
theorem Pdq_calls (B g n c : Nat) (lim : Int) (l : List Nat) (w : World) (hr : w.ownsRow B 22 1 (.slice (some ⟨g, 0, none⟩) n c) n (wv l)) (hn : l.length = n) (hl : n ≤ 12) :
    Calls Tryd.prog 34 #[.slice (some ⟨g, 0, none⟩) n c, .int .i64 0, .int .i64 (n : Int), .int .i64 lim] w fun e w' => e = .returned (.tuple #[]) ∧ ∃ l', l'.Perm l ∧ l'.Pairwise (· ≤ ·) ∧ w'.ownsRow B 22 1 (.slice (some ⟨g, 0, none⟩) n c) n (wv l') ∧ Mod (fun i => i = g) w w' := by
  have hI := Ins_calls B g n c l w hr hn (by omega)
  have e1 : (n : Int) ≤ 12 := by omega
  have e2 : IntKind.i64.wrap (n : Int) = (n : Int) := IntWalk.i64_in _ (by omega)
  clear hn
  go_enter Tryd.func34, Tryd.ntmps34
  go_wp2_with fail
  go_loopw [1, 2] (fun a b wr => a = .int .i64 0 ∧ b = .int .i64 (n : Int) ∧ wr = w) (fun _ _ _ => 0)
  case atStart => exact ⟨rfl, rfl, rfl⟩
  case round =>
    obtain ⟨rfl, rfl, rfl⟩ := hrel
    go_wp2_with fail
    refine hI.mono ?_
    rintro e w1 ⟨rfl, h1⟩
    clear hI hr
    go_wp2_with fail
    first | go_end0 | refine bodyPost_ret (results_none rfl _ _ _) rfl ?_
    exact ⟨rfl, h1⟩
theorem Pdq_nil (lim : Int) (w : World) :
    Calls Tryd.prog 34 #[.slice none 0 0, .int .i64 0, .int .i64 0, .int .i64 lim] w fun e w' => e = .returned (.tuple #[]) ∧ w' = w := by
  have hI := Ins_nil w
  go_enter Tryd.func34, Tryd.ntmps34
  go_wp2_with fail
  go_loopw [1, 2] (fun a b wr => a = .int .i64 0 ∧ b = .int .i64 0 ∧ wr = w) (fun _ _ _ => 0)
  case atStart => exact ⟨rfl, rfl, rfl⟩
  case round =>
    obtain ⟨rfl, rfl, rfl⟩ := hrel
    go_wp2_with fail
    refine hI.mono ?_
    rintro e w1 ⟨rfl, rfl⟩
    clear hI
    go_wp2_with fail
    first | go_end0 | refine bodyPost_ret (results_none rfl _ _ _) rfl ?_
    exact ⟨rfl, rfl⟩
theorem Sort_calls (B n : Nat) (v : Value) (l : List Nat) (w : World) (hr : w.ownsRow B 22 1 v n (wv l)) (hn : l.length = n) (hl : n ≤ 12) :
    Calls Tryd.prog 28 #[v] w fun e w' => e = .returned (.tuple #[]) ∧ ∃ l', l'.Perm l ∧ l'.Pairwise (· ≤ ·) ∧ w'.ownsRow B 22 1 v n (wv l') ∧ Mod (fun i => v.ownBlock = some i) w w' := by
  have hL := fun W => Len_calls n W hl
  have e1 : IntKind.u64.wrap (n : Int) = (n : Int) := IntWalk.u64_in _ (by omega)
  rcases hr.2 with ⟨rfl, h0⟩ | ⟨g, cap, cur, rfl, -⟩
  · subst h0
    obtain rfl : l = [] := List.eq_nil_of_length_eq_zero hn
    clear e1
    go_enter Tryd.func28, Tryd.ntmps28
    go_wp2_with fail
    refine (hL _).mono ?_
    rintro e w1 ⟨L, rfl, rfl⟩
    have hP := Pdq_nil L w1
    clear hL
    go_wp2_with fail
    refine hP.mono ?_
    rintro e w2 ⟨rfl, rfl⟩
    clear hP
    go_wp2_with fail
    first | go_end0 | refine bodyPost_ret (results_none rfl _ _ _) rfl ?_
    exact ⟨rfl, [], List.Perm.refl _, List.Pairwise.nil, hr, Mod.refl _ _⟩
  · have hP := fun L => Pdq_calls B g n cap L l w hr hn hl
    clear hr hn
    go_enter Tryd.func28, Tryd.ntmps28
    go_wp2_with fail
    refine (hL _).mono ?_
    rintro e w1 ⟨L, rfl, rfl⟩
    clear hL
    go_wp2_with fail
    refine (hP L).mono ?_
    rintro e w2 ⟨rfl, l', h1, h2, h3, h4⟩
    clear hP
    go_wp2_with fail
    first | go_end0 | refine bodyPost_ret (results_none rfl _ _ _) rfl ?_
    exact ⟨rfl, l', h1, h2, h3, h4.mono (fun i _ e => by rw [e]; rfl)⟩
end Go.Proofs.YtglmciklegifaaaDoor
