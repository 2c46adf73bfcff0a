/- The laws' like: are two fields alike? It tells so, and turns nothing that was there. Condition: the lengths fit. -/
import Derived.Test.YtokjkbbijfiloaaApart
import Derived.Test.YtokjkbbijfiloaaRefSame
namespace Go.Proofs.Ytokjkbbijfiloaa
open Go.RowKit

/-- Alike: the same number, the same blob. -/
def Alike2 (a b : Fld) : Bool := decide (a.n = b.n) && decide (a.b = b.b)

set_option maxHeartbeats 1000000 in
theorem like_calls (x y : FV) (w : World) (hx : Bs w x.b x.A x.f.b) (hy : Bs w y.b y.A y.f.b) (lx : x.f.b.length ≤ 1000000) (ly : y.f.b.length ≤ 1000000) :
    Calls Try.prog 19 #[.agg x.cells.toArray, .agg y.cells.toArray] w fun e w' => e = .returned (.bool (Alike2 x.f y.f)) ∧ Below w.heap.size w w' := by
  obtain ⟨⟨k, n, l, most⟩, A, c, b⟩ := x
  obtain ⟨⟨k', n', l', most'⟩, A', c', b'⟩ := y
  simp only [FV.cells, Fld.cells] at *
  by_cases hn : n = n'
  · have hq : ((n : Int) == (n' : Int)) = true := by simp [hn]
    have HN := Lib.hid hn
    clear hn
    go_enter Try.func19, Try.ntmps19
    go_wp2_with fail
    have hw : Below w.heap.size w ((w.alloc (.cells #[.int .u8 (k : Int), .int .u64 (n : Int), .slice A l.length c, .int .u64 (most : Int)] 30)).alloc (.cells #[.int .u8 (k' : Int), .int .u64 (n' : Int), .slice A' l'.length c', .int .u64 (most' : Int)] 30)) := ((Below.refl _ _).alloc (Nat.le_refl _) _).alloc (by simp) _
    refine (Same_calls A A' l l' l.length l'.length c c' b b' _ (Sl.ext hx hw) (Sl.ext hy hw) rfl rfl (by simp only [maxLen]; omega) (by simp only [maxLen]; omega)).mono ?_
    rintro e w1 ⟨rfl, kk, rfl⟩
    obtain ⟨d, hd⟩ : ∃ d, d = decide (l = l') := ⟨_, rfl⟩
    rw [← hd]
    have HD := Lib.hid hd
    clear hd
    go_wp2_with fail
    go_ret
    exact ⟨by unfold Alike2; simp only; rw [HN.out, ← HD.out]; simp, below_drewN hw kk⟩
  · have hq : ((n : Int) == (n' : Int)) = false := by simp only [beq_eq_false_iff_ne, ne_eq]; omega
    have HN := Lib.hid hn
    clear hn
    go_enter Try.func19, Try.ntmps19
    go_wp2_with fail
    go_ret
    refine ⟨?_, ((Below.refl _ _).alloc (Nat.le_refl _) _).alloc (by simp) _⟩
    have : decide (n = n') = false := by simpa using HN.out
    unfold Alike2; simp only; rw [this]; rfl
end Go.Proofs.Ytokjkbbijfiloaa
