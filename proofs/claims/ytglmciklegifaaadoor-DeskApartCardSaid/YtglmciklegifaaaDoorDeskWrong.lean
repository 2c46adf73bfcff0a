/- DeskWrong: the walk. Conditions: the numbers fit; the table lies. -/
import Derived.Test.YtglmciklegifaaaDoorDkW
namespace Go.Proofs.YtglmciklegifaaaDoor
open Go.RowKit

abbrev two0 : DkS := ⟨2, 3, 0, 0, 0, fun _ _ => none⟩
/-- Nothing is held: the list is empty. -/
theorem held_none {l : List Nat} {f : MF} {p : Int} (hm : ∀ t, t ∈ l ↔ t < 4294967296 ∧ (f p t).isSome = true) (hf : ∀ t, f p t = none) : l.length = 0 := by
  cases l with
  | nil => rfl
  | cons x l =>
    have := (hm x).1 (by simp)
    rw [hf x] at this
    cases this.2
theorem Held_none (b bm : Nat) (s : DkS) (p : Int) (w : World) (h : Dk w b bm s) (hp : inI p) (hf : ∀ t, s.f p t = none) :
    Calls Tryd.prog 21 #[.pointer (some ⟨b, 0, none⟩), .int .i64 p] w fun e w' => (∃ A c, e = .returned (.slice A 0 c)) ∧ Below w.heap.size w w' :=
  (Held_calls b bm s p 0 w h hp (fun t _ hs => by rw [hf t] at hs; cases hs)).mono fun e w' ⟨v, l, he, hr, _, _, hm, hb⟩ => by
    have hl := held_none hm hf
    rw [hl] at hr
    rcases hr.2 with ⟨hv, _⟩ | ⟨g, cap, cur, hv, _⟩
    · exact ⟨⟨_, _, by rw [he, hv]⟩, hb⟩
    · exact ⟨⟨_, _, by rw [he, hv]⟩, hb⟩
set_option maxHeartbeats 4000000 in
set_option maxRecDepth 20000 in
theorem DeskWrong_walk (p : Int) (m t : Nat) (w : World) (hT : CTab w) (hp : inI p) (hm : m ≤ 4294967295) (ht : t ≤ 4294967295) :
    Calls Tryd.prog 8 #[.int .i64 p, .int .u32 (m : Int), .int .u32 (t : Int)] w fun e w' => e = .returned (.bool true) ∧ Below w.heap.size w w' := by
  have hA := awake_calls w hT
  obtain ⟨E, hE⟩ : ∃ E, putE two0 p t m = E := ⟨_, rfl⟩
  obtain ⟨S', hS⟩ : ∃ S', putS two0 p t m = S' := ⟨_, rfl⟩
  have HE := Lib.hid (And.intro hE hS)
  clear hE hS
  go_enter Tryd.func8, Tryd.ntmps8
  go_wp2_with fail
  refine hA.mono ?_
  rintro e w1 ⟨rfl, hb⟩
  clear hA
  have hN := New_plain 2 2 3 0 2 2 3 0 w1 rfl rfl rfl rfl (by omega) (by omega) (by omega) (by omega) (by omega) (by omega) (hT.ext hb)
  go_wp2_with fail
  refine hN.mono ?_
  rintro e w2 ⟨b, bm, rfl, hd, h1, h2, hb2⟩
  have hbz := hb.size
  have hb := hb.trans (hb2.mono hbz)
  clear hN hb2 hT
  have hP := Put_lit b bm two0 p t m (t : Int) (m : Int) w2 hd rfl rfl hp (by omega) (by omega) (by simp [maxLen]) E (E : Int) S' HE.out.1 rfl HE.out.2
  have hbz2 := hb.size
  go_wp2_with fail
  refine hP.mono ?_
  rintro e w3 ⟨rfl, hd3, m3⟩
  have hb := Mod.below2 hb m3 hbz2 (fun i hi e => by omega)
  clear hP hd m3
  by_cases hp1 : p < 0 ∨ 1 < p
  · have hE3 : E = 3 := by rw [← HE.out.1, putE, if_pos (by show p < 0 ∨ (2 : Int) ≤ p; omega)]
    have hS3 : S' = two0 := by rw [← HE.out.2]; unfold putS; rw [HE.out.1, hE3]; rfl
    subst hE3 hS3
    have hH := fun W h => Held_none b bm two0 p W h hp (fun _ => rfl)
    clear HE h1 h2 hbz hbz2
    by_cases hp0 : p < 0
    · clear hp1
      go_wp2_with fail
      refine (hH _ hd3).mono ?_
      rintro e w4 ⟨⟨A, c, rfl⟩, hb4⟩
      have hb := hb.trans (hb4.mono hb.size)
      clear hb4 hH hd3
      go_wp2_with fail
      go_ret
      exact ⟨rfl, hb⟩
    · have hp2 : 1 < p := by omega
      clear hp1
      go_wp2_with fail
      refine (hH _ hd3).mono ?_
      rintro e w4 ⟨⟨A, c, rfl⟩, hb4⟩
      have hb := hb.trans (hb4.mono hb.size)
      clear hb4 hH hd3
      go_wp2_with fail
      go_ret
      exact ⟨rfl, hb⟩
  · have hp0 : ¬ p < 0 := by omega
    have hp2 : ¬ 1 < p := by omega
    by_cases hm3 : 2 < m
    · have hE1 : E = 1 := by rw [← HE.out.1, putE, if_neg (by show ¬ (p < 0 ∨ (2 : Int) ≤ p); omega), if_pos (show 3 ≤ m by omega)]
      have hS1 : S' = two0 := by rw [← HE.out.2]; unfold putS; rw [HE.out.1, hE1]; rfl
      subst hE1 hS1
      have hH := fun W h => Held_none b bm two0 p W h hp (fun _ => rfl)
      have hm3' : (2 : Int) < (m : Int) := by omega
      clear HE h1 h2 hbz hbz2 hp1
      go_wp2_with fail
      refine (hH _ hd3).mono ?_
      rintro e w4 ⟨⟨A, c, rfl⟩, hb4⟩
      have hb := hb.trans (hb4.mono hb.size)
      clear hb4 hH hd3
      go_wp2_with fail
      go_ret
      exact ⟨rfl, hb⟩
    · have hE : E ≠ 3 ∧ E ≠ 1 := by
        rw [← HE.out.1, putE, if_neg (by show ¬ (p < 0 ∨ (2 : Int) ≤ p); omega), if_neg (show ¬ 3 ≤ m by omega)]
        split
        · omega
        · split
          · omega
          · split <;> omega
      have e3 : ((E : Int) != 3) = true := by simp; omega
      have e1 : ((E : Int) != 1) = true := by simp; omega
      have hm3' : ¬ (2 : Int) < (m : Int) := by omega
      clear HE h1 h2 hbz hbz2 hp1 hE
      go_wp2_with fail
      go_ret
      exact ⟨rfl, hb⟩
end Go.Proofs.YtglmciklegifaaaDoor
