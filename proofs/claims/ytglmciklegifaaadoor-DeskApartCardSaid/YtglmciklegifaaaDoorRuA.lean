/- A game, as it is handed on; Legal, All, rightCells. Conditions: the numbers fit. -/
import Derived.Test.YtglmciklegifaaaDoorKReg
namespace Go.Proofs.YtglmciklegifaaaDoor
open Go.RowKit

/-- A game. -/
structure Gm where
  ob : Int
  pl : Int
  mv : Nat
  df : Nat
  L : List (Int × Nat)
  K : List Cd
/-- Its cells and its instructions, where they lie. -/
structure Gs where
  A : Option Addr
  c : Nat
  b : Nat
  A' : Option Addr
  c' : Nat
  b' : Nat
abbrev gmA (g : Gm) (s : Gs) : Array Value := #[.int .i64 g.ob, .int .i64 g.pl, .int .u32 (g.mv : Int), .int .u32 (g.df : Int), .slice s.A g.L.length s.c, .slice s.A' g.K.length s.c']
structure GIn (w : World) (g : Gm) (s : Gs) : Prop where
  sc : Sl w s.b s.A (cv g.L)
  sk : Sl w s.b' s.A' (kv g.K)
theorem GIn.ext {w w' : World} {g : Gm} {s : Gs} (h : GIn w g s) (hb : Below w.heap.size w w') : GIn w' g s := ⟨Sl.ext h.sc hb, Sl.ext h.sk hb⟩
structure GOk (g : Gm) (s : Gs) : Prop where
  o0 : -9223372036854775808 ≤ g.ob
  o1 : g.ob ≤ 9223372036854775807
  p0 : -9223372036854775808 ≤ g.pl
  p1 : g.pl ≤ 9223372036854775807
  m1 : g.mv ≤ 4294967295
  d1 : g.df ≤ 4294967295
  lL : g.L.length ≤ 55
  lK : g.K.length ≤ 100
  hL : g.L.length ≤ s.c
  hK : g.K.length ≤ s.c'
  oL : okC g.L
  oK : okK g.K
set_option maxHeartbeats 1000000 in
theorem Legal_calls (g : Gm) (s : Gs) (m : Nat) (w : World) (_hm : m ≤ 4294967295) (_hm2 : g.mv ≤ 4294967295) :
    Calls Tryd.prog 27 #[.agg (gmA g s), .int .u32 (m : Int)] w fun e w' => e = .returned (.bool (decide (m < g.mv))) ∧ Below w.heap.size w w' := by
  obtain ⟨ob, pl, mv, df, L, K⟩ := g
  have hb := below_alloc1 w (.cells (gmA ⟨ob, pl, mv, df, L, K⟩ s) 26)
  simp only at _hm2 ⊢
  obtain ⟨D, hD⟩ : ∃ D, D = decide (m < mv) := ⟨_, rfl⟩
  have e1 : decide (m < mv) = D := hD.symm
  rw [← hD]
  clear hD
  go_enter Tryd.func27, Tryd.ntmps27
  go_wp2
  go_ret
  exact ⟨rfl, hb⟩
set_option maxHeartbeats 1000000 in
theorem AllG_calls (g : Gm) (s : Gs) (w : World) :
    Calls Tryd.prog 37 #[.agg (gmA g s)] w fun e w' => e = .returned (.int .u32 (allN g.ob : Nat)) ∧ Below w.heap.size w w' := by
  obtain ⟨ob, pl, mv, df, L, K⟩ := g
  have hb := below_alloc1 w (.cells (gmA ⟨ob, pl, mv, df, L, K⟩ s) 26)
  have hA := fun W => All_calls ob W
  simp only
  obtain ⟨al, hal⟩ : ∃ al, al = allN ob := ⟨_, rfl⟩
  rw [← hal] at hA ⊢
  clear hal
  go_enter Tryd.func37, Tryd.ntmps37
  go_wp2_with fail
  refine (hA _).mono ?_
  rintro e w9 ⟨rfl, hw9⟩
  have hw9 := hw9.symm
  subst hw9
  go_wp2
  go_ret
  exact ⟨rfl, hb⟩
/-- Nobody who doesn't observe sees a cell. -/
def rcB (g : Gm) : Bool := decide (g.L.length ≤ 48) && g.L.all fun c => decide (lessN c.2 (allN g.ob) = 0)
theorem rcB_bad {g : Gm} {k : Nat} (hk : k < g.L.length) (h : lessN g.L[k].2 (allN g.ob) ≠ 0) : rcB g = false := by
  have : (g.L.all fun c => decide (lessN c.2 (allN g.ob) = 0)) = false := by
    rw [List.all_eq_false]
    exact ⟨g.L[k], List.getElem_mem hk, by simpa using h⟩
  unfold rcB
  rw [this, Bool.and_false]
theorem rcB_good {g : Gm} (h48 : g.L.length ≤ 48) (h : ∀ j (hj : j < g.L.length), lessN g.L[j].2 (allN g.ob) = 0) : rcB g = true := by
  unfold rcB
  rw [decide_eq_true h48, Bool.true_and, List.all_eq_true]
  intro c hc
  obtain ⟨j, hj, rfl⟩ := List.getElem_of_mem hc
  exact decide_eq_true (h j hj)
end Go.Proofs.YtglmciklegifaaaDoor
