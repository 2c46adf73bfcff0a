/- Views of views, in plain words. No condition. -/
import Derived.Test.YtpppjlcfhijdgaaBoardSumD
namespace Go.Proofs.Ytpppjlcfhijdgaa
open Go.RowKit

theorem view_view (o p : Int) (M : List (Int × Nat)) : viewL p (viewL o M) = M.map fun c => if sees c.2 o = true ∧ sees c.2 p = true then c else (0, c.2) := by
  unfold viewL
  rw [List.map_map]
  apply List.map_congr_left
  intro c _
  simp only [Function.comp]
  have e : seeC p (seeC o c) = if sees c.2 p = true then seeC o c else (0, c.2) := by
    conv => lhs; unfold seeC
    rw [show (if sees c.2 o = true then c else (0, c.2)).2 = c.2 by split <;> rfl]
    rfl
  rw [e]
  unfold seeC
  by_cases h1 : sees c.2 o = true <;> by_cases h2 : sees c.2 p = true <;> simp [h1, h2]
theorem view_comm (o p : Int) (M : List (Int × Nat)) : viewL o (viewL p M) = viewL p (viewL o M) := by
  rw [view_view, view_view]
  apply List.map_congr_left
  intro c _
  by_cases h1 : sees c.2 o = true <;> by_cases h2 : sees c.2 p = true <;> simp [h1, h2]
theorem view_all {o : Int} {M : List (Int × Nat)} (h : (M.all fun c => sees c.2 o) = true) : viewL o M = M := by
  unfold viewL
  rw [List.all_eq_true] at h
  conv => rhs; rw [← List.map_id M]
  apply List.map_congr_left
  intro c hc
  simp [seeC, h c hc]
theorem view_twice (o : Int) (M : List (Int × Nat)) : viewL o (viewL o M) = viewL o M := by
  rw [view_view]
  unfold viewL
  apply List.map_congr_left
  intro c _
  unfold seeC
  by_cases h : sees c.2 o = true <;> simp [h]
end Go.Proofs.Ytpppjlcfhijdgaa
