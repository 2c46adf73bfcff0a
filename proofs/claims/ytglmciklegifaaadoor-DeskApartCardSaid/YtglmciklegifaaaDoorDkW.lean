/- The document's example; New and Put at plain games. Conditions: the numbers fit; the table lies. -/
import Derived.Test.YtglmciklegifaaaDoorDkI
namespace Go.Proofs.YtglmciklegifaaaDoor
open Go.RowKit
set_option linter.unusedVariables false

theorem right_plain {ob pl mv df : Nat} (h1 : 1 ≤ pl) (h6 : pl ≤ 6) (ho : pl ≤ ob) (h32 : ob ≤ 32) (hd : df < mv) : rightB ⟨(ob : Int), (pl : Int), mv, df, [], []⟩ = true := by
  have h0 : (checkV [] (([] : List (Int × Nat)).length : Int) (pl : Int)).2 = true := rfl
  have h2 : rcB ⟨(ob : Int), (pl : Int), mv, df, [], []⟩ = true := by simp [rcB]
  unfold rightB
  simp only [h2, h0, Bool.and_eq_true, decide_eq_true_eq, Bool.true_and, and_true]
  omega
theorem New_plain (ob pl mv df : Nat) (O P M F : Int) (w : World) (hO : O = (ob : Int)) (hP : P = (pl : Int)) (hM : M = (mv : Int)) (hF : F = (df : Int)) (h1 : 1 ≤ pl) (h6 : pl ≤ 6) (ho : pl ≤ ob) (h32 : ob ≤ 32) (hd : df < mv) (hm : mv < 4294967296) (hT : CTab w) :
    Calls Tryd.prog 11 #[.agg #[.int .i64 O, .int .i64 P, .int .u32 M, .int .u32 F, .slice none 0 0, .slice none 0 0]] w fun e w' => ∃ b bm, e = .returned (.pointer (some ⟨b, 0, none⟩)) ∧ Dk w' b bm ⟨pl, mv, df, 0, 0, fun _ _ => none⟩ ∧ w.heap.size ≤ b ∧ w.heap.size ≤ bm ∧ Below w.heap.size w w' := by
  subst hO hP hM hF
  have e : newS ⟨(ob : Int), (pl : Int), mv, df, [], []⟩ = ⟨pl, mv, df, 0, 0, fun _ _ => none⟩ := by
    unfold newS
    rw [if_pos (right_plain h1 h6 ho h32 hd)]
    rfl
  have h := New_calls ⟨(ob : Int), (pl : Int), mv, df, [], []⟩ ⟨none, 0, 0, none, 0, 0⟩ w ⟨Sl.nil_ _ _ _, Sl.nil_ _ _ _⟩
    ⟨by show -9223372036854775808 ≤ (ob : Int); omega, by show (ob : Int) ≤ 9223372036854775807; omega, by show -9223372036854775808 ≤ (pl : Int); omega, by show (pl : Int) ≤ 9223372036854775807; omega, by show mv ≤ 4294967295; omega, by show df ≤ 4294967295; omega, Nat.zero_le _, Nat.zero_le _, Nat.zero_le _, Nat.zero_le _, (fun c hc => by cases hc), (fun c hc => by cases hc)⟩ hT
  rw [e] at h
  exact h
theorem Put_lit (b bm : Nat) (s : DkS) (p : Int) (t m : Nat) (Ti Mi : Int) (w : World) (h : Dk w b bm s) (hT : Ti = (t : Int)) (hM : Mi = (m : Int)) (hp : inI p) (ht : t < 4294967296) (hm : m < 4294967296) (hn : s.n < maxLen) (E : Nat) (EI : Int) (S' : DkS) (hE : putE s p t m = E) (hEI : (E : Int) = EI) (hS : putS s p t m = S') :
    Calls Tryd.prog 18 #[.pointer (some ⟨b, 0, none⟩), .int .i64 p, .int .u32 Ti, .int .u32 Mi] w fun e w' => e = .returned (.int .i64 EI) ∧ Dk w' b bm S' ∧ Mod (fun i => i = bm) w w' := by
  subst hT hM hE hEI hS
  exact Put_calls b bm s p t m w h hp ht hm hn
theorem Mod.below2 {S : Nat → Prop} {B : Nat} {a w w' : World} (hb : Below B a w) (h : Mod S w w') (hB : B ≤ w.heap.size) (hs : ∀ i, i < B → ¬ S i) : Below B a w' := hb.trans (h.below hB hs)
set_option maxHeartbeats 4000000 in
set_option maxRecDepth 20000 in
theorem awake_calls (w : World) (hT : CTab w) : Calls Tryd.prog 9 #[] w fun e w' => e = .returned (.bool true) ∧ Below w.heap.size w w' := by
  have hN := New_plain 1 1 3 0 1 1 3 0 w rfl rfl rfl rfl (by omega) (by omega) (by omega) (by omega) (by omega) (by omega) hT
  go_enter Tryd.func9, Tryd.ntmps9
  go_wp2_with fail
  refine hN.mono ?_
  rintro e w1 ⟨b, bm, rfl, hd, h1, h2, hb⟩
  clear hN hT
  have hP := Put_lit b bm _ 0 1 2 1 2 w1 hd rfl rfl (by constructor <;> omega) (by omega) (by omega) (by simp [maxLen]) 0 0 ⟨1, 3, 0, 0, 1, updF (fun _ _ => none) 0 1 (some 2)⟩ rfl rfl rfl
  go_wp2_with fail
  refine hP.mono ?_
  rintro e w2 ⟨rfl, hd2, m2⟩
  replace hb := Mod.below2 hb m2 hb.size (fun i hi e => by omega)
  clear hP hd m2
  have hK := Take_calls b bm _ w2 hd2
  have eS : takeS ⟨1, 3, 0, 0, 1, updF (fun _ _ => none) 0 1 (some 2)⟩ = ⟨1, 3, 0, 1, 1, takeF (updF (fun _ _ => none) 0 1 (some 2)) 1 1⟩ := rfl
  have eL : takeL ⟨1, 3, 0, 0, 1, updF (fun _ _ => none) 0 1 (some 2)⟩ = [2] := rfl
  rw [eS, eL] at hK
  clear eS eL
  have hws := hb.size
  go_wp2_with fail
  refine hK.mono ?_
  rintro e w3 ⟨g, rfl, hrow, hg, hd3, m3⟩
  replace hb := Mod.below2 hb m3 hws (fun i hi e => by omega)
  obtain ⟨_, _, hsl⟩ := RowW.sl hrow
  have c0 : w3.cell? ⟨g, 0, none⟩ = some (.int .u32 2) := by
    obtain ⟨off, e, hc⟩ := hsl (by simp [wv])
    injection e with e
    injection e with _ e
    subst e
    exact hc 0 _ rfl
  clear hK hd2 m3 hrow hsl hws
  have hP := Put_lit b bm _ 0 1 2 1 2 w3 hd3 rfl rfl (by constructor <;> omega) (by omega) (by omega) (by simp [maxLen]) 11 11 ⟨1, 3, 0, 1, 1, takeF (updF (fun _ _ => none) 0 1 (some 2)) 1 1⟩ rfl rfl rfl
  have hws := hb.size
  go_wp2_with fail
  refine hP.mono ?_
  rintro e w4 ⟨rfl, hd4, m4⟩
  replace hb := Mod.below2 hb m4 hws (fun i hi e => by omega)
  have hTk := Tick_calls b bm _ w4 hd4
  rw [show (((⟨1, 3, 0, 1, 1, takeF (updF (fun _ _ => none) 0 1 (some 2)) 1 1⟩ : DkS).tk : Nat) : Int) = 1 from rfl] at hTk
  clear hP hd3 m4 hws c0
  go_wp2_with fail
  refine hTk.mono ?_
  rintro e w5 ⟨rfl, rfl⟩
  clear hTk
  go_wp2_with fail
  go_ret
  exact ⟨rfl, hb⟩
end Go.Proofs.YtglmciklegifaaaDoor
