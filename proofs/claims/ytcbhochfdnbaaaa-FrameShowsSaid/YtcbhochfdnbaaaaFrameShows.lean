/- FrameShows: the walk. Conditions: the numbers fit. -/
import Derived.Test.YtcbhochfdnbaaaaFrL
import Derived.Test.YtcbhochfdnbaaaaTurned
import Derived.Test.YtcbhochfdnbaaaaOpenFr
import Derived.Test.YtcbhochfdnbaaaaRefCut
import Derived.Test.YtcbhochfdnbaaaaRefSame
namespace Go.Proofs.Ytcbhochfdnbaaaa
open Go.RowKit
set_option linter.unusedVariables false

theorem Open_five (A : Option Addr) (l : List UInt8) (k n c b : Nat) (hn : l.length = k + 4) (hm : n = k + 4) (hc : n ≤ c) (h2 : k ≤ 140737488355000) (heq : opensB l k = false) (W : World) (hs : Bs W b A l) :
    Calls Try.prog 47 #[.agg (tabTo 256), .slice A n c] W fun e w' => e = .returned (.tuple #[.slice none 0 0, .int .i64 ((5 : Nat) : Int)]) ∧ Below W.heap.size W w' := by
  subst hm
  exact Open_bad A l k c b W hs hn hc h2 heq
theorem Parse_five (A : Option Addr) (l : List UInt8) (k n c b : Nat) (hn : l.length = k + 4) (hm : n = k + 4) (hc : n ≤ c) (h2 : k ≤ 140737488355000) (heq : opensB l k = false) (w : World) (hs : Bs w b A l) :
    Calls Try.prog 15 #[.slice A n c] w fun e w' => e = .returned (.tuple #[.agg #[.int .u16 0, .int .u16 0, .int .u16 0, .int .u32 0, .bool false, .bool false, .bool false, .slice none 0 0], .int .i64 5]) ∧ Below w.heap.size w w' :=
  Parse_no A l n c b 5 w (by decide) (fun W h => Open_five A l k n c b hn hm hc h2 heq W h) hs

set_option maxHeartbeats 8000000 in
set_option maxRecDepth 20000 in
theorem FrameShows_walk (F : Fr) (A : Option Addr) (c b : Nat) (at_ ms : Nat) (w : World) (hO : F.Ok) (hFl : F.data.length ≤ maxLen) (hs : Bs w b A F.data) (hat : at_ ≤ 65535) (hms : ms ≤ 4294967295) :
    Calls Try.prog 4 #[.agg (F.cells A c), .int .u16 at_, .int .u32 ms] w fun e w' => e = .returned (.bool true) ∧ Below w.heap.size w w' := by
  obtain ⟨ep, sq, nx, bi, fi, la, al, d0⟩ := F
  simp only [Fr.cells]
  simp only at hFl hs
  obtain ⟨hO1, hO2, hO3, hO4⟩ := hO
  simp only at hO1 hO2 hO3 hO4
  have q : (w.alloc (.cells #[.int .u16 (ep : Int), .int .u16 (sq : Int), .int .u16 (nx : Int), .int .u32 (bi : Int), .bool fi, .bool la, .bool al, .slice A d0.length c] 29)).heap[w.heap.size]? = some (.cells #[.int .u16 (ep : Int), .int .u16 (sq : Int), .int .u16 (nx : Int), .int .u32 (bi : Int), .bool fi, .bool la, .bool al, .slice A d0.length c] 29 (0, 0)) := heap_alloc_new w _
  have hb := below_alloc1 w (.cells #[.int .u16 (ep : Int), .int .u16 (sq : Int), .int .u16 (nx : Int), .int .u32 (bi : Int), .bool fi, .bool la, .bool al, .slice A d0.length c] 29)
  replace hs := Sl.ext hs hb
  go_enter Try.func4, Try.ntmps4
  go_wp2_with fail
  refine (awake_calls _).mono ?_
  rintro e w1 ⟨rfl, h1⟩
  replace q := box_ext q h1
  replace hs := Sl.ext hs h1
  replace hb := hb.trans (h1.mono hb.size)
  obtain ⟨k0, k1, k2, k3, k4, k5, k6, k7⟩ := box8_all q
  clear h1
  go_wp2_with fail
  refine (Cut_calls A d0 d0.length c b 64 _ hs rfl hFl (by simp only [List.length_take]; omega)).mono ?_
  rintro e w2 ⟨v, rfl, hr2, h1⟩
  rw [show (64 : Int).toNat = 64 from rfl] at hr2
  obtain ⟨d, hd⟩ : ∃ d, d = d0.take 64 := ⟨_, rfl⟩
  have hdl : d.length ≤ 64 := by rw [hd, List.length_take]; omega
  rw [← hd] at hr2
  obtain ⟨A2, c2, b2, rfl, -, -, -, hb2, hs2, -⟩ := hr2.sl
  have hb2' : w.heap.size < b2 := by have := box_lt q; omega
  replace q := box_ext q h1
  replace hb := hb.trans (h1.mono hb.size)
  clear h1 hr2 hs k0 k1 k2 k3 k4 k5 k6 k7 hd hb2
  obtain ⟨k0, k1, k2, k3, k4, k5, k6, k7⟩ := box8_all q
  have hfz := fun j => frozen_of_row _ w.heap.size j _ _ q
  have hsm := Mod.setCell w2 ⟨w.heap.size, 7, none⟩ (.slice A2 d.length c2)
  have q3 := heap_setCell_same w2 w.heap.size 7 _ _ (.slice A2 d.length c2) q
  rw [show (#[.int .u16 (ep : Int), .int .u16 (sq : Int), .int .u16 (nx : Int), .int .u32 (bi : Int), .bool fi, .bool la, .bool al, .slice A d0.length c] : Array Value).setIfInBounds 7 (.slice A2 d.length c2) = #[.int .u16 (ep : Int), .int .u16 (sq : Int), .int .u16 (nx : Int), .int .u32 (bi : Int), .bool fi, .bool la, .bool al, .slice A2 d.length c2] from rfl] at q3
  have hs3 := Bs.modne hs2 hsm (fun _ e => by have e : b2 = w.heap.size := e; omega)
  have hb3 := hb.trans (hsm.below hb.size (fun i hi e => by have e : i = w.heap.size := e; omega))
  obtain ⟨j0, j1, j2, j3, j4, j5, j6, j7⟩ := box8_all q3
  clear hsm hb hs2 q
  go_wp2_with fail
  obtain ⟨w3, hw3⟩ : ∃ w3, w3 = w2.setCell ⟨w.heap.size, 7, none⟩ (.slice A2 d.length c2) := ⟨_, rfl⟩
  rw [← hw3] at q3 hs3 hb3 j0 j1 j2 j3 j4 j5 j6 j7 ⊢
  clear hw3 k0 k1 k2 k3 k4 k5 k6 k7 hfz
  obtain ⟨f, hf⟩ : ∃ f : Fr, f = ⟨ep, sq, nx, bi, fi, la, al, d⟩ := ⟨_, rfl⟩
  have ho : f.Ok := by rw [hf]; exact ⟨hO1, hO2, hO3, hO4⟩
  cases hr : f.right with
  | false =>
    have ha : al = true := by
      cases al with
      | true => rfl
      | false => rw [hf] at hr; simp [Fr.right] at hr; omega
    subst ha
    refine (LBytes_no ep sq nx bi sq fi la true A2 d d.length c2 rfl rfl _ (by rw [← hf]; exact hr)).mono ?_
    rintro e w4 ⟨rfl, h1⟩
    replace q3 := box_ext q3 h1
    replace hb3 := hb3.trans (h1.mono hb3.size)
    clear j0 j1 j2 j3 j4 j5 j6 j7
    obtain ⟨j0, j1, j2, j3, j4, j5, j6, j7⟩ := box8_all q3
    go_wp2_with fail
    go_ret
    exact ⟨rfl, hb3⟩
  | true =>
    have hlen : (sealedL f.raw).length = 17 + d.length := by rw [raw_length f hr, hf]
    have hraw : f.raw.length + 4 = 17 + d.length := by rw [← hlen, sealedL_length]
    obtain ⟨pl, hpl⟩ : ∃ pl, pl = 17 + d.length := ⟨_, rfl⟩
    have hpl2 : pl ≤ 81 := by omega
    rw [← hpl] at hlen hraw
    have hpl0 : pl ≠ 0 := by omega
    clear hpl
    have hP := fun A c b W h hc => LParse ep sq nx bi sq fi la al d d.length pl A c b rfl rfl W f hf ho hr h hlen hc
    refine (LBytes_yes ep sq nx bi sq fi la al A2 d d.length c2 b2 rfl rfl _ f hf ho hs3 hr).mono ?_
    rintro e w4 ⟨v, rfl, hrow, h1⟩
    obtain ⟨A4, c4, b4, rfl, hc4, -, -, -, hs4, -⟩ := hrow.sl
    rw [hlen] at hc4
    rw [hlen]
    replace hb3 := hb3.trans (h1.mono hb3.size)
    clear h1 hrow j0 j1 j2 j3 j4 j5 j6 j7 q3 hs3
    have hz1 : ((pl : Int) == 0) = false := by simp; omega
    have hmod : (at_ : Int) % (8 * (pl : Int)) = ((at_ % (8 * pl) : Nat) : Int) := by
      rw [show (8 * (pl : Int)) = ((8 * pl : Nat) : Int) by omega]
      simp
    obtain ⟨J, hJ⟩ : ∃ J, J = at_ % (8 * pl) := ⟨_, rfl⟩
    have hJl : J < 8 * pl := by rw [hJ]; exact Nat.mod_lt _ (by omega)
    rw [← hJ] at hmod
    have hmod2 : (at_ : Int).tmod (8 * (pl : Int)) = (J : Int) := by rw [Int.tmod_eq_emod_of_nonneg (by omega)]; exact hmod
    have HOP := Lib.hid (opens_spoilt (p := f.raw) (j := J) (mask := ms) (by omega) (by omega))
    clear hJ
    go_wp2_with fail
    refine (Turned_calls A4 (sealedL f.raw) pl c4 b4 J ms _ hs4 hlen (by omega) (by omega) (by omega)).mono ?_
    rintro e w5 ⟨v, rfl, hrow, h1⟩
    obtain ⟨T, hT⟩ : ∃ T, T = turned (sealedL f.raw) J ms 32 := ⟨_, rfl⟩
    have hTl : T.length = pl := by rw [hT, turned_length, hlen]
    rw [← hT] at hrow HOP
    obtain ⟨A5, c5, b5, rfl, hc5, -, -, -, hs5, -⟩ := hrow.sl
    rw [hTl] at hc5
    rw [hTl]
    replace hs4 := Sl.ext hs4 h1
    replace hb3 := hb3.trans (h1.mono hb3.size)
    clear h1 hrow hT hmod hmod2 hJl
    have hSm := fun W h1 h2 => Same_calls A4 A5 (sealedL f.raw) T pl pl c4 c5 b4 b5 W h1 h2 hlen hTl (by simp only [maxLen]; omega) (by simp only [maxLen]; omega)
    by_cases hTp : T = sealedL f.raw
    · rw [show decide (sealedL f.raw = T) = true by simp [hTp]] at hSm
      have hP5 := hP A5 c5 b5 _ (hTp ▸ hs5) hc5
      have HT := Lib.hid hTp
      clear hP hTp
      go_wp2_with fail
      refine hP5.mono ?_
      rintro e w6 ⟨A6, c6, b6, rfl, -, -, h1⟩
      replace hs4 := Sl.ext hs4 h1
      replace hs5 := Sl.ext hs5 h1
      replace hb3 := hb3.trans (h1.mono hb3.size)
      have ha := below_alloc1 w6 (.cells #[.int .u16 (ep : Int), .int .u16 (sq : Int), .int .u16 (nx : Int), .int .u32 (bi : Int), .bool fi, .bool la, .bool al, .slice A6 d.length c6] 29)
      replace hs4 := Sl.ext hs4 ha
      replace hs5 := Sl.ext hs5 ha
      replace hb3 := hb3.trans (ha.mono hb3.size)
      clear h1 ha hP5
      go_wp2_with fail
      refine (hSm _ hs4 hs5).mono ?_
      rintro e w7 ⟨rfl, kd, rfl⟩
      go_wp2_with fail
      go_ret
      exact ⟨rfl, below_drewN hb3 kd⟩
    · have hno : opensB T f.raw.length = false := by rw [HOP.out]; simp [hTp]
      rw [show decide (sealedL f.raw = T) = false by simp; exact fun e => hTp e.symm] at hSm
      have hP5 := Parse_five A5 T f.raw.length pl c5 b5 (by omega) (by omega) hc5 (by omega) hno _ hs5
      have HT := Lib.hid hTp
      clear hP hTp hno
      go_wp2_with fail
      refine hP5.mono ?_
      rintro e w6 ⟨rfl, h1⟩
      replace hs4 := Sl.ext hs4 h1
      replace hs5 := Sl.ext hs5 h1
      replace hb3 := hb3.trans (h1.mono hb3.size)
      have ha := below_alloc1 w6 (.cells #[.int .u16 0, .int .u16 0, .int .u16 0, .int .u32 0, .bool false, .bool false, .bool false, .slice none 0 0] 29)
      replace hs4 := Sl.ext hs4 ha
      replace hs5 := Sl.ext hs5 ha
      replace hb3 := hb3.trans (ha.mono hb3.size)
      clear h1 ha hP5
      go_wp2_with fail
      refine (hSm _ hs4 hs5).mono ?_
      rintro e w7 ⟨rfl, kd, rfl⟩
      go_wp2_with fail
      go_ret
      exact ⟨rfl, below_drewN hb3 kd⟩
end Go.Proofs.Ytcbhochfdnbaaaa
