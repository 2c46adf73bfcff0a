/- FrameAlone: the walk. Conditions: the numbers fit. -/
import Derived.Test.YtcbhochfdnbaaaaFrL
import Derived.Test.YtcbhochfdnbaaaaRefCut
import Derived.Test.YtcbhochfdnbaaaaRefJoin
namespace Go.Proofs.Ytcbhochfdnbaaaa
open Go.RowKit
set_option linter.unusedVariables false

set_option maxHeartbeats 8000000 in
set_option maxRecDepth 20000 in
theorem FrameAlone_walk (ep nx bi sq : Nat) (A : Option Addr) (l : List UInt8) (n c b : Nat) (how : Nat) (w : World) (hep : ep ≤ 65535) (hnx : nx ≤ 65535) (hbi : bi ≤ 4294967295) (hsq : sq ≤ 65535) (hs : Bs w b A l) (hn : l.length = n) (hnm : n ≤ maxLen) (hhow : how ≤ 255) :
    Calls Try.prog 7 #[.int .u16 ep, .int .u16 nx, .int .u32 bi, .int .u16 sq, .slice A n c, .int .u8 how] w fun e w' => e = .returned (.bool true) ∧ Below w.heap.size w w' := by
  obtain ⟨f0, hf0⟩ : ∃ f0 : Fr, f0 = ⟨ep, 0, nx, bi, false, false, true, []⟩ := ⟨_, rfl⟩
  have ho : f0.Ok := by rw [hf0]; exact ⟨by simp only; omega, by simp, by simp only; omega, by simp only; omega⟩
  have hr : f0.right = true := by rw [hf0]; rfl
  have hlen : (sealedL f0.raw).length = 17 := by rw [raw_length f0 hr, hf0]; rfl
  have hB := fun W => LBytes_yes ep 0 nx bi 0 false false true none [] 0 0 0 rfl rfl W f0 hf0 ho (Sl.nil_ _ _ _) hr
  have hP := fun A c b W h hc => LParse ep 0 nx bi 0 false false true [] 0 17 A c b rfl rfl W f0 hf0 ho hr h hlen hc
  have hQ := fun A' c' b' W h => LSame ep 0 nx bi 0 false false true A' [] 0 c' b' ep 0 nx bi 0 false false true none [] 0 0 0 rfl rfl rfl rfl true (Fr.same_self _) W h (Sl.nil_ _ _ _)
  have hN := fun s S fi la A d n c W hS hn hr => LBytes_no ep s nx bi S fi la true A d n c hS hn W hr
  have HN := Lib.hid hn
  have hcut := fun W h => Cut_calls A l n c b 20 W h HN.out hnm (by simp only [List.length_take]; omega)
  rw [show (20 : Int).toNat = 20 from rfl] at hcut
  obtain ⟨d, hd⟩ : ∃ d, d = l.take 20 := ⟨_, rfl⟩
  have hdl : d.length ≤ 20 := by rw [hd, List.length_take]; omega
  rw [← hd] at hcut
  clear hd hf0 ho hr hnm hn
  go_enter Try.func7, Try.ntmps7
  go_wp2_with fail
  refine (awake_calls _).mono ?_
  rintro e w1 ⟨rfl, hb⟩
  replace hs := Sl.ext hs hb
  have q : (w1.alloc (.cells #[.int .u16 (ep : Int), .int .u16 0, .int .u16 (nx : Int), .int .u32 (bi : Int), .bool false, .bool false, .bool true, .slice none 0 0] 29)).heap[w1.heap.size]? = some (.cells #[.int .u16 (ep : Int), .int .u16 0, .int .u16 (nx : Int), .int .u32 (bi : Int), .bool false, .bool false, .bool true, .slice none 0 0] 29 (0, 0)) := heap_alloc_new w1 _
  have ha := below_alloc1 w1 (.cells #[.int .u16 (ep : Int), .int .u16 0, .int .u16 (nx : Int), .int .u32 (bi : Int), .bool false, .bool false, .bool true, .slice none 0 0] 29)
  replace hs := Sl.ext hs ha
  have hg0 := hb.size
  replace hb := hb.trans (ha.mono hb.size)
  clear ha
  go_wp2_with fail
  obtain ⟨g0, hg⟩ : ∃ g0, g0 = w1.heap.size := ⟨_, rfl⟩
  rw [← hg] at q hg0 ⊢
  clear hg
  refine (hB _).mono ?_
  rintro e w2 ⟨v, rfl, hrow, h1⟩
  obtain ⟨A2, c2, b2, rfl, hc2, -, -, -, hs2, -⟩ := hrow.sl
  rw [hlen] at hc2
  rw [hlen]
  replace q := box_ext q h1
  replace hs := Sl.ext hs h1
  replace hb := hb.trans (h1.mono hb.size)
  clear h1 hrow
  go_wp2_with fail
  refine (hP A2 c2 b2 _ hs2 hc2).mono ?_
  rintro e w3 ⟨A3, c3, b3, rfl, hs3, -, h1⟩
  replace q := box_ext q h1
  replace hs := Sl.ext hs h1
  replace hb := hb.trans (h1.mono hb.size)
  clear h1 hs2
  have ha := below_alloc1 w3 (.cells #[.int .u16 (ep : Int), .int .u16 0, .int .u16 (nx : Int), .int .u32 (bi : Int), .bool false, .bool false, .bool true, .slice A3 0 c3] 29)
  have q3 : (w3.alloc (.cells #[.int .u16 (ep : Int), .int .u16 0, .int .u16 (nx : Int), .int .u32 (bi : Int), .bool false, .bool false, .bool true, .slice A3 0 c3] 29)).heap[w3.heap.size]? = some (.cells #[.int .u16 (ep : Int), .int .u16 0, .int .u16 (nx : Int), .int .u32 (bi : Int), .bool false, .bool false, .bool true, .slice A3 0 c3] 29 (0, 0)) := heap_alloc_new w3 _
  replace q := box_ext q ha
  replace hs := Sl.ext hs ha
  replace hs3 := Sl.ext hs3 ha
  replace hb := hb.trans (ha.mono hb.size)
  obtain ⟨k0, k1, k2, k3, k4, k5, k6, k7⟩ := box8_all q
  clear ha
  go_wp2_with fail
  refine (hQ A3 c3 b3 _ hs3).mono ?_
  rintro e w4 ⟨rfl, h1⟩
  replace q := box_ext q h1
  replace hs := Sl.ext hs h1
  replace hb := hb.trans (h1.mono hb.size)
  clear h1 q3 k0 k1 k2 k3 k4 k5 k6 k7 hs3 hP hQ hB hlen
  obtain ⟨k0, k1, k2, k3, k4, k5, k6, k7⟩ := box8_all q
  have ha := below_alloc1 w4 (.cells #[.int .u16 (ep : Int), .int .u16 0, .int .u16 (nx : Int), .int .u32 (bi : Int), .bool false, .bool false, .bool true, .slice none 0 0] 29)
  have q5 : (w4.alloc (.cells #[.int .u16 (ep : Int), .int .u16 0, .int .u16 (nx : Int), .int .u32 (bi : Int), .bool false, .bool false, .bool true, .slice none 0 0] 29)).heap[w4.heap.size]? = some (.cells #[.int .u16 (ep : Int), .int .u16 0, .int .u16 (nx : Int), .int .u32 (bi : Int), .bool false, .bool false, .bool true, .slice none 0 0] 29 (0, 0)) := heap_alloc_new w4 _
  have hg5 := box_lt q
  have hbs := hb.size
  clear ha q5
  have hq4 : how % 4 = 0 ∨ how % 4 = 1 ∨ how % 4 = 2 ∨ how % 4 = 3 := by omega
  rcases hq4 with hq4 | hq4 | hq4 | hq4
  · rcases Nat.eq_zero_or_pos sq with h0 | h0
    · subst h0
      have hqi : (how : Int) % 4 = 0 := by omega
      go_wp2_with fail
      have qg : (w4.alloc (.cells #[.int .u16 (ep : Int), .int .u16 1, .int .u16 (nx : Int), .int .u32 (bi : Int), .bool false, .bool false, .bool true, .slice none 0 0] 29)).heap[w4.heap.size]? = some (.cells #[.int .u16 (ep : Int), .int .u16 1, .int .u16 (nx : Int), .int .u32 (bi : Int), .bool false, .bool false, .bool true, .slice none 0 0] 29 (0, 0)) := heap_alloc_new w4 _
      have ha := below_alloc1 w4 (.cells #[.int .u16 (ep : Int), .int .u16 1, .int .u16 (nx : Int), .int .u32 (bi : Int), .bool false, .bool false, .bool true, .slice none 0 0] 29)
      replace q := box_ext q ha
      replace hb := hb.trans (ha.mono hb.size)
      clear ha
      refine (hN (1) (1) false false none [] (0) (0) _ (rfl) (rfl) (by simp [Fr.right])).mono ?_
      rintro e w6 ⟨rfl, h1⟩
      replace q := box_ext q h1
      replace qg := box_ext qg h1
      replace hb := hb.trans (h1.mono hb.size)
      clear h1
      obtain ⟨k0, k1, k2, k3, k4, k5, k6, k7⟩ := box8_all q
      obtain ⟨j0, j1, j2, j3, j4, j5, j6, j7⟩ := box8_all qg
      go_wp2_with fail
      refine (LSame ep 0 nx bi 0 false false true none [] 0 0 0 ep (1) nx bi (1) false false true none [] (0) (0) (0) rfl rfl (rfl) (rfl) false (by simp [Fr.same]) _ (Sl.nil_ _ _ _) (Sl.nil_ _ _ _)).mono ?_
      rintro e w7 ⟨rfl, h1⟩
      replace hb := hb.trans (h1.mono hb.size)
      go_wp2_with fail
      go_ret
      exact ⟨rfl, hb⟩
    · have h1 : (1 : Int) ≤ (sq : Int) := by omega
      have h2 : ¬ (sq : Int) < 1 := by omega
      have hqi : (how : Int) % 4 = 0 := by omega
      go_wp2_with fail
      have qg : (w4.alloc (.cells #[.int .u16 (ep : Int), .int .u16 (sq : Int), .int .u16 (nx : Int), .int .u32 (bi : Int), .bool false, .bool false, .bool true, .slice none 0 0] 29)).heap[w4.heap.size]? = some (.cells #[.int .u16 (ep : Int), .int .u16 (sq : Int), .int .u16 (nx : Int), .int .u32 (bi : Int), .bool false, .bool false, .bool true, .slice none 0 0] 29 (0, 0)) := heap_alloc_new w4 _
      have ha := below_alloc1 w4 (.cells #[.int .u16 (ep : Int), .int .u16 (sq : Int), .int .u16 (nx : Int), .int .u32 (bi : Int), .bool false, .bool false, .bool true, .slice none 0 0] 29)
      replace q := box_ext q ha
      replace hb := hb.trans (ha.mono hb.size)
      clear ha
      refine (hN (sq) ((sq : Int)) false false none [] (0) (0) _ (rfl) (rfl) (by simp [Fr.right]; omega)).mono ?_
      rintro e w6 ⟨rfl, h1⟩
      replace q := box_ext q h1
      replace qg := box_ext qg h1
      replace hb := hb.trans (h1.mono hb.size)
      clear h1
      obtain ⟨k0, k1, k2, k3, k4, k5, k6, k7⟩ := box8_all q
      obtain ⟨j0, j1, j2, j3, j4, j5, j6, j7⟩ := box8_all qg
      go_wp2_with fail
      refine (LSame ep 0 nx bi 0 false false true none [] 0 0 0 ep (sq) nx bi ((sq : Int)) false false true none [] (0) (0) (0) rfl rfl (rfl) (rfl) false (by simp [Fr.same]; omega) _ (Sl.nil_ _ _ _) (Sl.nil_ _ _ _)).mono ?_
      rintro e w7 ⟨rfl, h1⟩
      replace hb := hb.trans (h1.mono hb.size)
      go_wp2_with fail
      go_ret
      exact ⟨rfl, hb⟩
  · skip
    have hqi : (how : Int) % 4 = 1 := by omega
    have qg : (w4.alloc (.cells #[.int .u16 (ep : Int), .int .u16 0, .int .u16 (nx : Int), .int .u32 (bi : Int), .bool false, .bool false, .bool true, .slice none 0 0] 29)).heap[w4.heap.size]? = some (.cells #[.int .u16 (ep : Int), .int .u16 0, .int .u16 (nx : Int), .int .u32 (bi : Int), .bool false, .bool false, .bool true, .slice none 0 0] 29 (0, 0)) := heap_alloc_new w4 _
    have ha := below_alloc1 w4 (.cells #[.int .u16 (ep : Int), .int .u16 0, .int .u16 (nx : Int), .int .u32 (bi : Int), .bool false, .bool false, .bool true, .slice none 0 0] 29)
    replace q := box_ext q ha
    replace hs := Sl.ext hs ha
    replace hb := hb.trans (ha.mono hb.size)
    clear ha
    have hs1 : Bs ((w4.alloc (.cells #[.int .u16 (ep : Int), .int .u16 0, .int .u16 (nx : Int), .int .u32 (bi : Int), .bool false, .bool false, .bool true, .slice none 0 0] 29)).alloc (.cells #[.int .u8 1] 5)) (w4.alloc (.cells #[.int .u16 (ep : Int), .int .u16 0, .int .u16 (nx : Int), .int .u32 (bi : Int), .bool false, .bool false, .bool true, .slice none 0 0] 29)).heap.size (some ⟨(w4.alloc (.cells #[.int .u16 (ep : Int), .int .u16 0, .int .u16 (nx : Int), .int .u32 (bi : Int), .bool false, .bool false, .bool true, .slice none 0 0] 29)).heap.size, 0, none⟩) [1] := Sl.one_new _ _ _
    have ha := below_alloc1 (w4.alloc (.cells #[.int .u16 (ep : Int), .int .u16 0, .int .u16 (nx : Int), .int .u32 (bi : Int), .bool false, .bool false, .bool true, .slice none 0 0] 29)) (.cells #[.int .u8 1] 5)
    replace q := box_ext q ha
    replace qg := box_ext qg ha
    replace hs := Sl.ext hs ha
    replace hb := hb.trans (ha.mono hb.size)
    clear ha
    rw [World.size_alloc] at hs1
    go_wp2_with fail
    refine (hcut _ hs).mono ?_
    rintro e w5 ⟨v, rfl, hr5, h1⟩
    obtain ⟨Ac, cc, bc, rfl, -, -, -, -, hsc, -⟩ := hr5.sl
    replace q := box_ext q h1
    replace qg := box_ext qg h1
    replace hs1 := Sl.ext hs1 h1
    replace hb := hb.trans (h1.mono hb.size)
    clear h1 hr5 hcut hs
    have ha := below_alloc1 w5 (.cells #[.slice (some ⟨w4.heap.size + 1, 0, none⟩) 1 1, .slice Ac d.length cc] 27)
    go_wp2_with fail
    refine (Join_calls _ [.slice (some ⟨w4.heap.size + 1, 0, none⟩) 1 1, .slice Ac d.length cc] [[1], d] 2 2 w5.heap.size _ (Sl.cells_new w5 _ _) ((Bss.cons hs1 rfl (Bss.cons hsc rfl (Bss.nil_ _))).ext ha) rfl (by simp [maxLen]) (by simp; omega)).mono ?_
    rintro e w8 ⟨v, rfl, hr8, h1⟩
    obtain ⟨J, hJ⟩ : ∃ J, J = [(1 : UInt8)] ++ d := ⟨_, rfl⟩
    have hJl : J.length ≠ 0 := by rw [hJ]; simp
    have hJ0 : J ≠ [] := by rw [hJ]; simp
    replace hr8 := hr8.cast (show [[1], d].flatten = J by simp [hJ])
    obtain ⟨A8, c8, b8, rfl, -, -, -, hb8, hs8, -⟩ := hr8.sl
    have h2 := ha.trans (h1.mono ha.size)
    have hg4 := box_lt qg
    replace q := box_ext q h2
    replace qg := box_ext qg h2
    replace hb := hb.trans (h2.mono hb.size)
    have hbg : b8 ≠ w4.heap.size := by simp at hb8; omega
    obtain ⟨j0, j1, j2, j3, j4, j5, j6, j7⟩ := box8_all qg
    have hfz := fun j => frozen_of_row _ w4.heap.size j _ _ qg
    clear h1 h2 ha hr8 hs1 hsc hJ hg4 hb8
    go_wp2_with fail
    have hsm := Mod.setCell w8 ⟨w4.heap.size, 7, none⟩ (.slice A8 J.length c8)
    replace qg := heap_setCell_same w8 w4.heap.size 7 _ _ (.slice A8 J.length c8) qg
    rw [show (#[.int .u16 (ep : Int), .int .u16 0, .int .u16 (nx : Int), .int .u32 (bi : Int), .bool false, .bool false, .bool true, .slice none 0 0] : Array Value).setIfInBounds 7 (.slice A8 J.length c8) = #[.int .u16 (ep : Int), .int .u16 0, .int .u16 (nx : Int), .int .u32 (bi : Int), .bool false, .bool false, .bool true, .slice A8 J.length c8] from rfl] at qg
    replace q := (hsm.block g0 (box_lt q) (fun e => by have e : g0 = w4.heap.size := e; omega)).trans q
    replace hs8 := Bs.modne hs8 hsm (fun _ e => hbg e)
    replace hb := hb.trans (hsm.below hb.size (fun i hi e => by have e : i = w4.heap.size := e; omega))
    obtain ⟨w9, hw9⟩ : ∃ w9, w9 = w8.setCell ⟨w4.heap.size, 7, none⟩ (.slice A8 J.length c8) := ⟨_, rfl⟩
    rw [← hw9] at qg q hs8 hb ⊢
    clear hw9 hsm j0 j1 j2 j3 j4 j5 j6 j7 hfz
    refine (hN (0) (0) false false A8 J (J.length) (c8) _ (rfl) (rfl) (by simp [Fr.right, hJl])).mono ?_
    rintro e w6 ⟨rfl, h1⟩
    replace q := box_ext q h1
    replace qg := box_ext qg h1
    replace hs8 := Sl.ext hs8 h1
    replace hb := hb.trans (h1.mono hb.size)
    clear h1
    obtain ⟨k0, k1, k2, k3, k4, k5, k6, k7⟩ := box8_all q
    obtain ⟨j0, j1, j2, j3, j4, j5, j6, j7⟩ := box8_all qg
    go_wp2_with fail
    refine (LSame ep 0 nx bi 0 false false true none [] 0 0 0 ep (0) nx bi (0) false false true A8 J (J.length) (c8) (b8) rfl rfl (rfl) (rfl) false (by simp [Fr.same]; exact fun _ => hJ0) _ (Sl.nil_ _ _ _) hs8).mono ?_
    rintro e w7 ⟨rfl, h1⟩
    replace hb := hb.trans (h1.mono hb.size)
    go_wp2_with fail
    go_ret
    exact ⟨rfl, hb⟩
  · skip
    have hqi : (how : Int) % 4 = 2 := by omega
    go_wp2_with fail
    have qg : (w4.alloc (.cells #[.int .u16 (ep : Int), .int .u16 0, .int .u16 (nx : Int), .int .u32 (bi : Int), .bool true, .bool false, .bool true, .slice none 0 0] 29)).heap[w4.heap.size]? = some (.cells #[.int .u16 (ep : Int), .int .u16 0, .int .u16 (nx : Int), .int .u32 (bi : Int), .bool true, .bool false, .bool true, .slice none 0 0] 29 (0, 0)) := heap_alloc_new w4 _
    have ha := below_alloc1 w4 (.cells #[.int .u16 (ep : Int), .int .u16 0, .int .u16 (nx : Int), .int .u32 (bi : Int), .bool true, .bool false, .bool true, .slice none 0 0] 29)
    replace q := box_ext q ha
    replace hb := hb.trans (ha.mono hb.size)
    clear ha
    refine (hN (0) (0) true false none [] (0) (0) _ (rfl) (rfl) (by simp [Fr.right])).mono ?_
    rintro e w6 ⟨rfl, h1⟩
    replace q := box_ext q h1
    replace qg := box_ext qg h1
    replace hb := hb.trans (h1.mono hb.size)
    clear h1
    obtain ⟨k0, k1, k2, k3, k4, k5, k6, k7⟩ := box8_all q
    obtain ⟨j0, j1, j2, j3, j4, j5, j6, j7⟩ := box8_all qg
    go_wp2_with fail
    refine (LSame ep 0 nx bi 0 false false true none [] 0 0 0 ep (0) nx bi (0) true false true none [] (0) (0) (0) rfl rfl (rfl) (rfl) false (by simp [Fr.same, Fr.marks]) _ (Sl.nil_ _ _ _) (Sl.nil_ _ _ _)).mono ?_
    rintro e w7 ⟨rfl, h1⟩
    replace hb := hb.trans (h1.mono hb.size)
    go_wp2_with fail
    go_ret
    exact ⟨rfl, hb⟩
  · skip
    have hqi : (how : Int) % 4 = 3 := by omega
    go_wp2_with fail
    have qg : (w4.alloc (.cells #[.int .u16 (ep : Int), .int .u16 0, .int .u16 (nx : Int), .int .u32 (bi : Int), .bool false, .bool true, .bool true, .slice none 0 0] 29)).heap[w4.heap.size]? = some (.cells #[.int .u16 (ep : Int), .int .u16 0, .int .u16 (nx : Int), .int .u32 (bi : Int), .bool false, .bool true, .bool true, .slice none 0 0] 29 (0, 0)) := heap_alloc_new w4 _
    have ha := below_alloc1 w4 (.cells #[.int .u16 (ep : Int), .int .u16 0, .int .u16 (nx : Int), .int .u32 (bi : Int), .bool false, .bool true, .bool true, .slice none 0 0] 29)
    replace q := box_ext q ha
    replace hb := hb.trans (ha.mono hb.size)
    clear ha
    refine (hN (0) (0) false true none [] (0) (0) _ (rfl) (rfl) (by simp [Fr.right])).mono ?_
    rintro e w6 ⟨rfl, h1⟩
    replace q := box_ext q h1
    replace qg := box_ext qg h1
    replace hb := hb.trans (h1.mono hb.size)
    clear h1
    obtain ⟨k0, k1, k2, k3, k4, k5, k6, k7⟩ := box8_all q
    obtain ⟨j0, j1, j2, j3, j4, j5, j6, j7⟩ := box8_all qg
    go_wp2_with fail
    refine (LSame ep 0 nx bi 0 false false true none [] 0 0 0 ep (0) nx bi (0) false true true none [] (0) (0) (0) rfl rfl (rfl) (rfl) false (by simp [Fr.same, Fr.marks]) _ (Sl.nil_ _ _ _) (Sl.nil_ _ _ _)).mono ?_
    rintro e w7 ⟨rfl, h1⟩
    replace hb := hb.trans (h1.mono hb.size)
    go_wp2_with fail
    go_ret
    exact ⟨rfl, hb⟩
end Go.Proofs.Ytcbhochfdnbaaaa
