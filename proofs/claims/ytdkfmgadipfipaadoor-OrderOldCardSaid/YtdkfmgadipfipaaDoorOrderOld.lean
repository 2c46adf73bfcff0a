/- OrderOld: the walk. Conditions: the table lies as the library lays it; the numbers fit. -/
import Derived.Test.YtdkfmgadipfipaaDoorOrderAwake
namespace Go.Proofs.YtdkfmgadipfipaaDoor
open Go.RowKit

set_option maxHeartbeats 8000000 in
set_option maxRecDepth 20000 in
theorem OrderOld_true (x y s back bx by_ : Nat) (w : World) (hTab : Tab w) (hx : x < 65536) (hy : y < 4294967296) (hs : s < 65536) (hbx : bx < 65536) (hby : by_ < 4294967296)
    (hn1 : noteV x y (noteN x y s) = .tuple #[acksV bx by_, .bool true]) (hn2 : noteN bx by_ s = none) (h4p : hasN bx by_ s = true) (h5p : hasN bx by_ ((x + 65536 - 1 - back % 32000) % 65536) = true) :
    Calls Tryd.prog 6 #[.int .u16 x, .int .u32 y, .int .u16 s, .int .u16 back] w fun e w' => e = .returned (.bool true) ∧ Below w.heap.size w w' := by
  obtain ⟨d, hd⟩ : ∃ d, d = back % 32000 := ⟨_, rfl⟩
  have hdl : d < 32000 := by omega
  have hdi : (back : Int) % 32000 = (d : Int) := by omega
  have hdt : Int.tmod (back : Int) 32000 = (d : Int) := by rw [Int.tmod_eq_emod_of_nonneg (by omega)]; exact hdi
  obtain ⟨old, hold⟩ : ∃ old, old = (x + 65536 - 1 - d) % 65536 := ⟨_, rfl⟩
  obtain ⟨far, hfar⟩ : ∃ far, far = (x + 33 + d) % 65536 := ⟨_, rfl⟩
  have hol : old < 65536 := by omega
  have hfl : far < 65536 := by omega
  have hN := fun W h => Note_calls x y s W h hx hy hs
  have hN2 := fun W h => Note_calls bx by_ s W h hbx hby hs
  have hF := fun W h => Note_calls x y far W h hx hy hfl
  have hO := fun W => Add_calls x (-1 - (d : Int)) old W (by omega)
  have hR := fun W => Add_calls x (33 + (d : Int)) far W (by omega)
  have h1 := fun W => Has_calls x y old W hx hy hol
  have h2 := fun W => Has_calls x y x W hx hy hx
  have h3 := fun W => Has_calls x y far W hx hy hfl
  have h4 := fun W => Has_calls bx by_ s W hbx hby hs
  have h5 := fun W => Has_calls bx by_ old W hbx hby hol
  rw [hn1] at hN
  rw [hn2] at hN2
  rw [hfar, noteN_far hx hdl, ← hfar] at hF
  rw [hold, hasN_back hx hdl, ← hold] at h1
  rw [hasN_next x y hx] at h2
  rw [hfar, hasN_far hx hdl, ← hfar] at h3
  rw [← hd, ← hold] at h5p
  rw [h5p] at h5
  rw [h4p] at h4
  clear h4p
  simp only [noteV] at hN hN2 hF
  have dl : (d : Int) < 32000 := by omega
  clear hd hdl hdi hold hfar hol hfl hn1 hn2 h5p hx hy hs hbx hby
  go_enter Tryd.func6, Tryd.ntmps6
  go_wp2_with fail
  refine (Awake_calls _ hTab).mono ?_
  rintro e w1 ⟨rfl, hb1⟩
  have t1 := Tab.ext hTab (hb1.alloc hb1.size (.cells #[.int .u16 (x : Int), .int .u32 (y : Int)] 34))
  have q0 := Box2.new_ w1 (.int .u16 (x : Int)) (.int .u32 (y : Int))
  have hz := hb1.size
  have hb1 := hb1.alloc hb1.size (.cells #[.int .u16 (x : Int), .int .u32 (y : Int)] 34)
  obtain ⟨g0, hg0⟩ : ∃ g0, g0 = w1.heap.size := ⟨_, rfl⟩
  clear hTab
  go_wp2_with fail
  refine (hN _ t1).mono ?_
  rintro e w2 ⟨rfl, hb2⟩
  have t2 := Tab.ext t1 hb2
  have q0 := q0.ext hb2
  have hb := hb1.trans (hb2.mono hb1.size)
  rw [← hg0] at q0 hz
  have t2 := Tab.ext t2 (below_alloc1 w2 (.cells #[.int .u16 (bx : Int), .int .u32 (by_ : Int)] 34))
  have q1 := Box2.new_ w2 (.int .u16 (bx : Int)) (.int .u32 (by_ : Int))
  have q0 := q0.alloc (.cells #[.int .u16 (bx : Int), .int .u32 (by_ : Int)] 34)
  have hb := hb.alloc hb.size (.cells #[.int .u16 (bx : Int), .int .u32 (by_ : Int)] 34)
  rw [← hg0]
  clear hb1 hb2 t1 hN hg0
  go_wp2_with fail
  refine (hO _).mono ?_
  rintro e w3 ⟨rfl, rfl⟩
  clear hO
  have c00 := q0.c0
  have c01 := q0.c1
  go_wp2_with fail
  refine (h1 _).mono ?_
  rintro e w4 ⟨rfl, hb4⟩
  have t2 := Tab.ext t2 hb4
  have q0 := q0.ext hb4
  have q1 := q1.ext hb4
  have hb := hb.trans (hb4.mono hb.size)
  have c00 := q0.c0
  have c01 := q0.c1
  clear hb4 h1
  go_wp2_with fail
  refine (h2 _).mono ?_
  rintro e w5 ⟨rfl, hb4⟩
  have t2 := Tab.ext t2 hb4
  have q0 := q0.ext hb4
  have q1 := q1.ext hb4
  have hb := hb.trans (hb4.mono hb.size)
  have c10 := q1.c0
  have c11 := q1.c1
  clear hb4 h2 c00 c01
  go_wp2_with fail
  refine (hN2 _ t2).mono ?_
  rintro e w6 ⟨rfl, hb4⟩
  have t2 := Tab.ext t2 hb4
  have q0 := q0.ext hb4
  have q1 := q1.ext hb4
  have hb := hb.trans (hb4.mono hb.size)
  clear hb4 hN2 c10 c11
  have t2 := Tab.ext t2 (below_alloc1 w6 (.cells #[.int .u16 (bx : Int), .int .u32 (by_ : Int)] 34))
  have q0 := q0.alloc (.cells #[.int .u16 (bx : Int), .int .u32 (by_ : Int)] 34)
  have q1 := q1.alloc (.cells #[.int .u16 (bx : Int), .int .u32 (by_ : Int)] 34)
  have hb := hb.alloc hb.size (.cells #[.int .u16 (bx : Int), .int .u32 (by_ : Int)] 34)
  go_wp2_with fail
  refine (hR _).mono ?_
  rintro e w7 ⟨rfl, rfl⟩
  clear hR
  have c00 := q0.c0
  have c01 := q0.c1
  go_wp2_with fail
  refine (hF _ t2).mono ?_
  rintro e w8 ⟨rfl, hb4⟩
  have q0 := q0.ext hb4
  have q1 := q1.ext hb4
  have hb := hb.trans (hb4.mono hb.size)
  clear hb4 hF c00 c01 t2
  have q0 := q0.alloc (.cells #[.int .u16 (x : Int), .int .u32 (y : Int)] 34)
  have q1 := q1.alloc (.cells #[.int .u16 (x : Int), .int .u32 (y : Int)] 34)
  have hb := hb.alloc hb.size (.cells #[.int .u16 (x : Int), .int .u32 (y : Int)] 34)
  have c00 := q0.c0
  have c01 := q0.c1
  go_wp2_with fail
  refine (h3 _).mono ?_
  rintro e w9 ⟨rfl, hb4⟩
  have q1 := q1.ext hb4
  have hb := hb.trans (hb4.mono hb.size)
  clear hb4 h3 c00 c01 q0
  have c10 := q1.c0
  have c11 := q1.c1
  go_wp2_with fail
  refine (h4 _).mono ?_
  rintro e w10 ⟨rfl, hb4⟩
  have q1 := q1.ext hb4
  have hb := hb.trans (hb4.mono hb.size)
  clear hb4 h4 c10 c11
  have c10 := q1.c0
  have c11 := q1.c1
  go_wp2_with fail
  refine (h5 _).mono ?_
  rintro e w11 ⟨rfl, hb4⟩
  have hb := hb.trans (hb4.mono hb.size)
  clear hb4 h5
  go_wp2_with fail
  go_ret
  exact ⟨rfl, by first | exact hb | exact below_drew hb | exact below_drewN hb _⟩

set_option maxHeartbeats 8000000 in
set_option maxRecDepth 20000 in
theorem OrderOld_false (x y s back bx by_ : Nat) (w : World) (hTab : Tab w) (hx : x < 65536) (hy : y < 4294967296) (hs : s < 65536) (hbx : bx < 65536) (hby : by_ < 4294967296)
    (hn1 : noteV x y (noteN x y s) = .tuple #[acksV bx by_, .bool false]) (hn2 : noteN bx by_ s = none) (h5p : hasN bx by_ ((x + 65536 - 1 - back % 32000) % 65536) = true) :
    Calls Tryd.prog 6 #[.int .u16 x, .int .u32 y, .int .u16 s, .int .u16 back] w fun e w' => e = .returned (.bool true) ∧ Below w.heap.size w w' := by
  obtain ⟨d, hd⟩ : ∃ d, d = back % 32000 := ⟨_, rfl⟩
  have hdl : d < 32000 := by omega
  have hdi : (back : Int) % 32000 = (d : Int) := by omega
  have hdt : Int.tmod (back : Int) 32000 = (d : Int) := by rw [Int.tmod_eq_emod_of_nonneg (by omega)]; exact hdi
  obtain ⟨old, hold⟩ : ∃ old, old = (x + 65536 - 1 - d) % 65536 := ⟨_, rfl⟩
  obtain ⟨far, hfar⟩ : ∃ far, far = (x + 33 + d) % 65536 := ⟨_, rfl⟩
  have hol : old < 65536 := by omega
  have hfl : far < 65536 := by omega
  have hN := fun W h => Note_calls x y s W h hx hy hs
  have hN2 := fun W h => Note_calls bx by_ s W h hbx hby hs
  have hF := fun W h => Note_calls x y far W h hx hy hfl
  have hO := fun W => Add_calls x (-1 - (d : Int)) old W (by omega)
  have hR := fun W => Add_calls x (33 + (d : Int)) far W (by omega)
  have h1 := fun W => Has_calls x y old W hx hy hol
  have h2 := fun W => Has_calls x y x W hx hy hx
  have h3 := fun W => Has_calls x y far W hx hy hfl
  have h4 := fun W => Has_calls bx by_ s W hbx hby hs
  have h5 := fun W => Has_calls bx by_ old W hbx hby hol
  rw [hn1] at hN
  rw [hn2] at hN2
  rw [hfar, noteN_far hx hdl, ← hfar] at hF
  rw [hold, hasN_back hx hdl, ← hold] at h1
  rw [hasN_next x y hx] at h2
  rw [hfar, hasN_far hx hdl, ← hfar] at h3
  rw [← hd, ← hold] at h5p
  rw [h5p] at h5
  clear h4
  simp only [noteV] at hN hN2 hF
  have dl : (d : Int) < 32000 := by omega
  clear hd hdl hdi hold hfar hol hfl hn1 hn2 h5p hx hy hs hbx hby
  go_enter Tryd.func6, Tryd.ntmps6
  go_wp2_with fail
  refine (Awake_calls _ hTab).mono ?_
  rintro e w1 ⟨rfl, hb1⟩
  have t1 := Tab.ext hTab (hb1.alloc hb1.size (.cells #[.int .u16 (x : Int), .int .u32 (y : Int)] 34))
  have q0 := Box2.new_ w1 (.int .u16 (x : Int)) (.int .u32 (y : Int))
  have hz := hb1.size
  have hb1 := hb1.alloc hb1.size (.cells #[.int .u16 (x : Int), .int .u32 (y : Int)] 34)
  obtain ⟨g0, hg0⟩ : ∃ g0, g0 = w1.heap.size := ⟨_, rfl⟩
  clear hTab
  go_wp2_with fail
  refine (hN _ t1).mono ?_
  rintro e w2 ⟨rfl, hb2⟩
  have t2 := Tab.ext t1 hb2
  have q0 := q0.ext hb2
  have hb := hb1.trans (hb2.mono hb1.size)
  rw [← hg0] at q0 hz
  have t2 := Tab.ext t2 (below_alloc1 w2 (.cells #[.int .u16 (bx : Int), .int .u32 (by_ : Int)] 34))
  have q1 := Box2.new_ w2 (.int .u16 (bx : Int)) (.int .u32 (by_ : Int))
  have q0 := q0.alloc (.cells #[.int .u16 (bx : Int), .int .u32 (by_ : Int)] 34)
  have hb := hb.alloc hb.size (.cells #[.int .u16 (bx : Int), .int .u32 (by_ : Int)] 34)
  rw [← hg0]
  clear hb1 hb2 t1 hN hg0
  go_wp2_with fail
  refine (hO _).mono ?_
  rintro e w3 ⟨rfl, rfl⟩
  clear hO
  have c00 := q0.c0
  have c01 := q0.c1
  go_wp2_with fail
  refine (h1 _).mono ?_
  rintro e w4 ⟨rfl, hb4⟩
  have t2 := Tab.ext t2 hb4
  have q0 := q0.ext hb4
  have q1 := q1.ext hb4
  have hb := hb.trans (hb4.mono hb.size)
  have c00 := q0.c0
  have c01 := q0.c1
  clear hb4 h1
  go_wp2_with fail
  refine (h2 _).mono ?_
  rintro e w5 ⟨rfl, hb4⟩
  have t2 := Tab.ext t2 hb4
  have q0 := q0.ext hb4
  have q1 := q1.ext hb4
  have hb := hb.trans (hb4.mono hb.size)
  have c10 := q1.c0
  have c11 := q1.c1
  clear hb4 h2 c00 c01
  go_wp2_with fail
  refine (hN2 _ t2).mono ?_
  rintro e w6 ⟨rfl, hb4⟩
  have t2 := Tab.ext t2 hb4
  have q0 := q0.ext hb4
  have q1 := q1.ext hb4
  have hb := hb.trans (hb4.mono hb.size)
  clear hb4 hN2 c10 c11
  have t2 := Tab.ext t2 (below_alloc1 w6 (.cells #[.int .u16 (bx : Int), .int .u32 (by_ : Int)] 34))
  have q0 := q0.alloc (.cells #[.int .u16 (bx : Int), .int .u32 (by_ : Int)] 34)
  have q1 := q1.alloc (.cells #[.int .u16 (bx : Int), .int .u32 (by_ : Int)] 34)
  have hb := hb.alloc hb.size (.cells #[.int .u16 (bx : Int), .int .u32 (by_ : Int)] 34)
  go_wp2_with fail
  refine (hR _).mono ?_
  rintro e w7 ⟨rfl, rfl⟩
  clear hR
  have c00 := q0.c0
  have c01 := q0.c1
  go_wp2_with fail
  refine (hF _ t2).mono ?_
  rintro e w8 ⟨rfl, hb4⟩
  have q0 := q0.ext hb4
  have q1 := q1.ext hb4
  have hb := hb.trans (hb4.mono hb.size)
  clear hb4 hF c00 c01 t2
  have q0 := q0.alloc (.cells #[.int .u16 (x : Int), .int .u32 (y : Int)] 34)
  have q1 := q1.alloc (.cells #[.int .u16 (x : Int), .int .u32 (y : Int)] 34)
  have hb := hb.alloc hb.size (.cells #[.int .u16 (x : Int), .int .u32 (y : Int)] 34)
  have c00 := q0.c0
  have c01 := q0.c1
  go_wp2_with fail
  refine (h3 _).mono ?_
  rintro e w9 ⟨rfl, hb4⟩
  have q1 := q1.ext hb4
  have hb := hb.trans (hb4.mono hb.size)
  clear hb4 h3 c00 c01 q0
  have c10 := q1.c0
  have c11 := q1.c1
  go_wp2_with fail
  refine (h5 _).mono ?_
  rintro e w11 ⟨rfl, hb4⟩
  have hb := hb.trans (hb4.mono hb.size)
  clear hb4 h5
  go_wp2_with fail
  go_ret
  exact ⟨rfl, by first | exact hb | exact below_drew hb | exact below_drewN hb _⟩
theorem OrderOld_walk (x y s back : Nat) (w : World) (hTab : Tab w) (hx : x ≤ 65535) (hy : y ≤ 4294967295) (hs : s ≤ 65535) (_hk : back ≤ 65535) :
    Calls Tryd.prog 6 #[.int .u16 x, .int .u32 y, .int .u16 s, .int .u16 back] w fun e w' => e = .returned (.bool true) ∧ Below w.heap.size w w' := by
  have hd : back % 32000 < 32000 := Nat.mod_lt _ (by omega)
  cases h : noteN x y s with
  | none => exact OrderOld_false x y s back x y w hTab (by omega) (by omega) (by omega) (by omega) (by omega) (by rw [h]; rfl) h (hasN_back (by omega) hd)
  | some p =>
    obtain ⟨bx, by_⟩ := p
    have hl := noteN_lt (by omega) (by omega) h
    have hh := hasN_noteN (by omega) (by omega) h
    exact OrderOld_true x y s back bx by_ w hTab (by omega) (by omega) (by omega) hl.1 hl.2 (by rw [h]; rfl) (noteN_had hh) hh (hasN_old (by omega) (by omega) (by omega) hd h)
end Go.Proofs.YtdkfmgadipfipaaDoor
