/- The laws' own look at the document's examples: it returns true, and turns nothing that was there. -/
import Derived.Test.YtokjkbbijfiloaaEyeNil
import Derived.Test.YtokjkbbijfiloaaRefSame
namespace Go.Proofs.Ytokjkbbijfiloaa
open Go.RowKit

theorem PenAt.new (w : World) : PenAt (w.alloc (.cells #[.slice none 0 0] 27)) w.heap.size none [] :=
  ⟨_, heap_alloc_new w _, Row.nil_ _ _, rfl⟩

theorem num300 : low 258 2 ++ num 300 = [2, 1, 172, 2] := by decide

set_option maxHeartbeats 400000 in
theorem awake_calls (w : World) : Calls Try.prog 9 #[] w fun e w' => e = .returned (.bool true) ∧ Below w.heap.size w w' := by
  have hx : Below w.heap.size w (w.alloc (.cells #[.slice none 0 0] 27)) := (Below.refl _ _).alloc (Nat.le_refl _) _
  go_enter Try.func9, Try.ntmps9
  go_wp2_with fail
  refine (PenHalf_calls _ _ _ 258 _ (PenAt.new w) (by omega) (by simp)).mono ?_
  rintro e w1 ⟨rfl, r1, hp1, hs1⟩
  go_wp2_with fail
  refine (PenNum_calls _ _ _ 300 _ hp1 (by omega) (by simp)).mono ?_
  rintro e w2 ⟨rfl, r2, hp2, hs2⟩
  have hp2 := hp2.cast (show _ = [2, 1, 172, 2] by rw [List.nil_append]; exact num300)
  have hs := hs1.trans hs2
  have hb2 : Below w.heap.size w w2 := hx.trans (hs.2.below (by simp) (fun i hi h => by rcases h with h | h; omega; cases h))
  clear hs hs1 hs2 hp1 hx
  go_wp2_with fail
  refine (PenBytes_calls _ _ _ _ hp2 (by simp)).mono ?_
  rintro e w3 ⟨v, rfl, hrow, hb3⟩
  obtain ⟨A, c, b, rfl, hlc, hcm, _, hb, hs, _⟩ := hrow.sl
  have hb4 : Below w.heap.size w w3 := hb2.trans (hb3.mono hb2.size)
  clear hp2 hrow
  go_wp2_with fail
  have hx4 : Below w3.heap.size w3 (w3.alloc (.cells #[.int .u8 2, .int .u8 1, .int .u8 172, .int .u8 2] 5)) := (Below.refl _ _).alloc (Nat.le_refl _) _
  refine (Same_calls A _ [2, 1, 172, 2] [2, 1, 172, 2] 4 4 c 4 b w3.heap.size _ (Sl.ext hs hx4) (Sl.cells_new w3 _ _) rfl rfl (by simp [maxLen]) (by simp [maxLen])).mono ?_
  rintro e w5 ⟨rfl, k, rfl⟩
  go_wp2_with fail
  have hs5 : Bs ((w3.alloc (.cells #[.int .u8 2, .int .u8 1, .int .u8 172, .int .u8 2] 5)).drewN k) b A [2, 1, 172, 2] := (Sl.ext hs hx4).drewN k
  have hb5 : Below w.heap.size w ((w3.alloc (.cells #[.int .u8 2, .int .u8 1, .int .u8 172, .int .u8 2] 5)).drewN k) := below_drewN (hb4.alloc hb4.size _) k
  clear hs hx4 hb4 hb2
  refine (Read_calls A [2, 1, 172, 2] 4 c b _ hs5 rfl (by omega)).mono ?_
  rintro e w6 ⟨g, b', rfl, he, hg6, _, hb6⟩
  have hg7 : w.heap.size ≤ g := Nat.le_trans hb5.size hg6
  have hb7 : Below w.heap.size w w6 := hb5.trans (hb6.mono hb5.size)
  clear hb5 hb6 hs5 hg6
  go_wp2_with fail
  refine (EyeHalf_calls g b' _ _ _ he).mono ?_
  rintro e w7 ⟨hy, _⟩
  have hgb := he.lt
  obtain ⟨rfl, _, hm⟩ := hy (by simp)
  have hv : ((valN (List.take 2 [2, 1, 172, 2]) : Nat) : Int) = 258 := by decide
  rw [hv]
  go_wp2_with fail
  go_ret
  exact ⟨rfl, hb7.trans (hm.below hb7.size (fun i hi h => by omega))⟩
end Go.Proofs.Ytokjkbbijfiloaa
