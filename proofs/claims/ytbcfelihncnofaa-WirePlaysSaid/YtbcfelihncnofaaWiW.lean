/- awake: the document's example. No condition. -/
import Derived.Test.YtbcfelihncnofaaWiL
import Derived.Lib.SlBytesConst
namespace Go.Proofs.Ytbcfelihncnofaa
open Go.RowKit
set_option linter.unusedVariables false

theorem SlT.new2 (w : World) (cs : Array Value) (e : TypeId) (g : Nat) (hg : w.heap.size = g) : SlT e (w.alloc (.cells cs e)) g (some ⟨g, 0, none⟩) cs.toList := by subst hg; exact SlT.new_ w cs e
theorem own_first {w : World} {B n sz : Nat} {e : TypeId} {v : Value} {xs : List Value} (h : w.ownsRow B e sz v n xs) (hn : 0 < n) : ∃ g c, v = .slice (some ⟨g, 0, none⟩) n c ∧ B ≤ g ∧ g < w.heap.size ∧ n ≤ c ∧ ∀ j u, xs[j]? = some u → w.cell? ⟨g, j, none⟩ = some u := by
  rcases h.2 with ⟨_, h0⟩ | ⟨g, cap, cur, hv, hg, hh, hnc, hcm, hcs, hct⟩
  · omega
  · refine ⟨g, cap, hv, hg, (Array.getElem?_eq_some_iff.1 hh).1, hnc, fun j u hu => ?_⟩
    subst hv
    have := h.cells (g := g) rfl j u hu
    simpa [Addr.add_lit] using this
/-- A list of one list of bytes, read. -/
theorem one_read {w : World} {B D : Nat} {vo : Value} {us : List Value} {x : UInt8} (h : RowS w B vo us) (hi : RowsIn w D us [[x]]) : ∃ b c bu cu, vo = .slice (some ⟨b, 0, none⟩) 1 c ∧ w.cell? ⟨b, 0, none⟩ = some (.slice (some ⟨bu, 0, none⟩) 1 cu) ∧ w.cell? ⟨bu, 0, none⟩ = some (.int .u8 (x.toNat : Int)) := by
  have hl : us.length = 1 := hi.1
  obtain ⟨u, hu, hr⟩ := hi.2 0 [x] rfl
  have h' : w.ownsRow B 46 1 vo 1 us := by have h := h; unfold RowS at h; rwa [hl] at h
  obtain ⟨b, c, hv, -, -, -, hc⟩ := own_first h' (by omega)
  obtain ⟨bu, cu, hu2, -, -, -, hc2⟩ := own_first (n := 1) hr (by decide)
  refine ⟨b, c, bu, cu, hv, by rw [← hu2]; exact hc 0 u hu, hc2 0 _ rfl⟩
set_option maxHeartbeats 8000000 in
set_option maxRecDepth 20000 in
theorem awake_calls (w : World) : Calls Try.prog 9 #[] w fun e w' => e = .returned (.bool true) ∧ Below w.heap.size w w' := by
  have b1 := below_alloc1 w (.cells #[.slice none 0 0] 26)
  have f1 : Box (w.alloc (.cells #[.slice none 0 0] 26)) w.heap.size (.slice none 0 0) 26 := Box.new_ _ _ _
  have s1 : (w.alloc (.cells #[.slice none 0 0] 26)).heap.size = w.heap.size + 1 := by simp
  obtain ⟨w1, e1⟩ : ∃ w1, w1 = w.alloc (.cells #[.slice none 0 0] 26) := ⟨_, rfl⟩
  rw [← e1] at b1 f1 s1
  have b2 := below_alloc1 w1 (.cells #[.int .u8 1] 5)
  have f2 : SlT 5 (w1.alloc (.cells #[.int .u8 1] 5)) (w.heap.size + 1) (some ⟨w.heap.size + 1, 0, none⟩) (bv [1]) := SlT.new2 w1 _ _ _ s1
  have s2 : (w1.alloc (.cells #[.int .u8 1] 5)).heap.size = w.heap.size + 1 + 1 := by simp [s1]
  obtain ⟨w2, e2⟩ : ∃ w2, w2 = w1.alloc (.cells #[.int .u8 1] 5) := ⟨_, rfl⟩
  rw [← e2] at b2 f2 s2
  have b3 := below_alloc1 w2 (.cells #[.int .u8 2] 5)
  have f3 : SlT 5 (w2.alloc (.cells #[.int .u8 2] 5)) (w.heap.size + 1 + 1) (some ⟨w.heap.size + 1 + 1, 0, none⟩) (bv [2]) := SlT.new2 w2 _ _ _ s2
  have s3 : (w2.alloc (.cells #[.int .u8 2] 5)).heap.size = w.heap.size + 1 + 1 + 1 := by simp [s2]
  obtain ⟨w3, e3⟩ : ∃ w3, w3 = w2.alloc (.cells #[.int .u8 2] 5) := ⟨_, rfl⟩
  rw [← e3] at b3 f3 s3
  have b4 := below_alloc1 w3 (.cells #[.slice (some ⟨w.heap.size + 1, 0, none⟩) 1 1, .slice (some ⟨w.heap.size + 1 + 1, 0, none⟩) 1 1] 46)
  have f4 := SlT.new2 w3 #[.slice (some ⟨w.heap.size + 1, 0, none⟩) 1 1, .slice (some ⟨w.heap.size + 1 + 1, 0, none⟩) 1 1] 46 _ s3
  have s4 : (w3.alloc (.cells #[.slice (some ⟨w.heap.size + 1, 0, none⟩) 1 1, .slice (some ⟨w.heap.size + 1 + 1, 0, none⟩) 1 1] 46)).heap.size = w.heap.size + 1 + 1 + 1 + 1 := by simp [s3]
  obtain ⟨w4, e4⟩ : ∃ w4, w4 = w3.alloc (.cells #[.slice (some ⟨w.heap.size + 1, 0, none⟩) 1 1, .slice (some ⟨w.heap.size + 1 + 1, 0, none⟩) 1 1] 46) := ⟨_, rfl⟩
  rw [← e4] at b4 f4 s4
  have b5 := below_alloc1 w4 (.cells #[.int .u8 3, .int .u16 0, .int .u32 0] 50)
  have f5 : SlT 50 (w4.alloc (.cells #[.int .u8 3, .int .u16 0, .int .u32 0] 50)) (w.heap.size + 1 + 1 + 1 + 1) (some ⟨w.heap.size + 1 + 1 + 1 + 1, 0, none⟩) (ftv [⟨3, 0, 0⟩]) := SlT.new2 w4 _ _ _ s4
  have s5 : (w4.alloc (.cells #[.int .u8 3, .int .u16 0, .int .u32 0] 50)).heap.size = w.heap.size + 1 + 1 + 1 + 1 + 1 := by simp [s4]
  obtain ⟨w5, e5⟩ : ∃ w5, w5 = w4.alloc (.cells #[.int .u8 3, .int .u16 0, .int .u32 0] 50) := ⟨_, rfl⟩
  rw [← e5] at b5 f5 s5
  have b15 := b1.trans ((((b2.trans (b3.mono b2.size)).trans (b4.mono (Nat.le_trans b2.size b3.size))).trans (b5.mono (Nat.le_trans (Nat.le_trans b2.size b3.size) b4.size))).mono b1.size)
  have q5 : Wi w.heap.size w.heap.size w.heap.size w5 [] := Wi.new_ (f1.ext (((b2.trans (b3.mono b2.size)).trans (b4.mono (Nat.le_trans b2.size b3.size))).trans (b5.mono (Nat.le_trans (Nat.le_trans b2.size b3.size) b4.size))))
  have g2 := f2.ext ((b3.trans (b4.mono b3.size)).trans (b5.mono (Nat.le_trans b3.size b4.size)))
  have g3 := f3.ext (b4.trans (b5.mono b4.size))
  have hP := WPut_calls w.heap.size w.heap.size w.heap.size [] _ _ [[1], [2]] 2 2 _ _ [⟨3, 0, 0⟩] 1 1 _ w5 q5 (f4.ext b5) (BssT.cons g2 rfl (BssT.cons g3 rfl (BssT.nil_ _))) rfl (by decide) f5 rfl (by decide) (by decide) (by decide) b15.size (Nat.le_refl _) b15.size
  rw [show ([] ++ putsN [[1], [2]] [⟨3, 0, 0⟩] 2 : List (List UInt8 × Int)) = [([1], 2), ([2], 1)] from rfl] at hP
  clear b1 b2 b3 b4 b5 f1 f2 f3 f4 f5 s1 s2 s3 s4 s5 q5 g2 g3
  go_enter Try.func9, Try.ntmps9
  go_wp2_with fail
  rw [← e1, ← e2, ← e3, ← e4, ← e5]
  refine hP.mono ?_
  rintro e w6 ⟨rfl, hw6, hm6⟩
  have hb6 := b15.trans hm6.bel
  have hT := WTake_calls w.heap.size w.heap.size w.heap.size [([1], 2), ([2], 1)] w6 hw6 (by decide) (by decide) hb6.size (Nat.le_refl _)
  clear hP b15 e1 e2 e3 e4 e5 hw6 hm6
  go_wp2_with fail
  refine hT.mono ?_
  rintro e w7 ⟨vo7, rfl, ⟨us7, hr7, hi7, -, hw7, hm7⟩⟩
  rw [show nowK [(([1] : List UInt8), (2 : Int)), ([2], 1)] = [[2]] from rfl] at hi7
  rw [show laterK [(([1] : List UInt8), (2 : Int)), ([2], 1)] = [([1], 1)] from rfl] at hw7
  have hb7 := hb6.trans hm7.bel
  have hT := WTake_calls w.heap.size w.heap.size w.heap.size [([1], 1)] w7 hw7 (by decide) (by decide) hb7.size (Nat.le_refl _)
  clear hw7 hm7 hb6
  go_wp2_with fail
  refine hT.mono ?_
  rintro e w8 ⟨vo8, rfl, ⟨us8, hr8, hi8, -, hw8, hm8⟩⟩
  rw [show nowK [(([1] : List UInt8), (1 : Int))] = [[1]] from rfl] at hi8
  rw [show laterK [(([1] : List UInt8), (1 : Int))] = [] from rfl] at hw8
  have hb8 := hb7.trans hm8.bel
  obtain ⟨x1, x2, x3, x4, rfl, y1, y2⟩ := one_read (hm8.own hr7 (by decide) (by decide)) (hm8.rowsIn hi7 (by decide) (by decide))
  obtain ⟨z1, z2, z3, z4, rfl, t1, t2⟩ := one_read hr8 hi8
  rw [show (((2 : UInt8).toNat : Nat) : Int) = 2 from rfl] at y2
  rw [show (((1 : UInt8).toNat : Nat) : Int) = 1 from rfl] at t2
  have hW := WWait_calls w.heap.size w.heap.size w.heap.size [] w8 hw8
  rw [show (((([] : List (List UInt8 × Int)).length : Nat)) : Int) = 0 from rfl] at hW
  have HB := Lib.hid hb8
  clear hb8 hb7 hw8 hm8 hi8 hr8 hi7 hr7 hT
  go_wp2_with fail
  refine hW.mono ?_
  rintro e w9 ⟨rfl, rfl⟩
  go_wp2_with fail
  go_ret
  exact ⟨rfl, HB.out⟩
end Go.Proofs.Ytbcfelihncnofaa
