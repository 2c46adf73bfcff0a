/- FrameForms: the walk. Conditions: the numbers fit. -/
import Derived.Test.YtbkimknfhpbcfaaFrY
import Derived.Test.YtbkimknfhpbcfaaFrZ
import Derived.Test.YtbkimknfhpbcfaaOpenFr
import Derived.Deep.DeepCutAuto
import Derived.Test.YtbkimknfhpbcfaaRowSet
import Derived.Laws.BitsAllLaws
namespace Go.Proofs.Ytbkimknfhpbcfaa
open Go.RowKit
set_option linter.unusedVariables false

theorem FBytes_any (f : Fr) (A : Option Addr) (c b : Nat) (w : World) (ho : f.Ok) (hs : Bs w b A f.data) (hd : f.data.length ≤ 1000000) :
    Calls Try.prog 12 #[.agg (f.cells A c)] w fun e w' => ∃ v, e = .returned v ∧ Row w' w.heap.size v f.bytes ∧ Below w.heap.size w w' := by
  unfold Fr.bytes
  cases hr : f.right with
  | true => exact FBytes_yes f A c b w ho hs hd hr
  | false => exact (FBytes_no f A c w hr).mono fun e w' h => ⟨_, h.1, Row.nil_ _ _, h.2⟩
theorem bytes_len (f : Fr) : f.bytes.length = if f.right then 17 + f.data.length else 0 := by
  unfold Fr.bytes
  split
  · rename_i h; exact raw_length f h
  · rfl

theorem FParse_own (f : Fr) (P : List UInt8) (A : Option Addr) (n c b : Nat) (w : World) (ho : f.Ok) (hr : f.right = true) (hs : Bs w b A P) (hP : P = sealedL f.raw) (hn : P.length = n) (hc : n ≤ c) :
    Calls Try.prog 15 #[.slice A n c] w fun e w' => ∃ A6 c6 b', e = .returned (.tuple #[.agg #[.int .u16 (f.epoch : Int), .int .u16 (f.seq : Int), .int .u16 (f.next : Int), .int .u32 (f.bits : Int), .bool f.first, .bool f.last, .bool f.alone, .slice A6 f.data.length c6], .int .i64 0]) ∧ Bs w' b' A6 f.data ∧ Below w.heap.size w w' := by
  subst hP
  exact (Parse_own f A n c b w ho hr hs hn hc).mono fun e w' h => by
    obtain ⟨A', c', b', h1, h2, _, h3⟩ := h
    exact ⟨A', c', b', h1, h2, h3⟩
theorem Same_yes (A B : Option Addr) (a : List UInt8) (n ca cb ba bb : Nat) (w : World) (ha : Bs w ba A a) (hb : Bs w bb B a) (hn : a.length = n) (h1 : n ≤ 1000) :
    Calls Try.prog 16 #[.slice A n ca, .slice B n cb] w fun e w' => e = .returned (.bool true) ∧ Below w.heap.size w w' :=
  (Same_calls A B a a n n ca cb ba bb w ha hb hn hn (by simp only [maxLen]; omega) (by simp only [maxLen]; omega)).mono fun e w' h => by
    obtain ⟨rfl, k, rfl⟩ := h
    exact ⟨by simp, below_drewN (Below.refl _ _) k⟩
/-- The four texts, as they lie. -/
def TextsAt (w : World) (vb : Nat) : Prop := vb < w.heap.size ∧ ∀ k, k < 4 → ∃ A l n c b, w.cell? ⟨vb, k, none⟩ = some (.slice A n c) ∧ Bs w b A l ∧ l.length = n ∧ n ≤ c ∧ n ≤ 400
theorem TextsAt.ext {w w' : World} {vb : Nat} (h : TextsAt w vb) (hb : Below w.heap.size w w') : TextsAt w' vb :=
  ⟨Nat.lt_of_lt_of_le h.1 hb.size, fun k hk => by
    obtain ⟨A, l, n, c, b, h1, h2, h3⟩ := h.2 k hk
    exact ⟨A, l, n, c, b, (World.cell?_of_block (hb.block vb h.1)).trans h1, Sl.ext h2 hb, h3⟩⟩
theorem TextsAt.mk4 {w : World} {vb : Nat} {t : TypeId} {A1 A2 A3 A4 : Option Addr} {l1 l2 l3 l4 : List UInt8} {n1 n2 n3 n4 c1 c2 c3 c4 b1 b2 b3 b4 : Nat} (h : w.heap[vb]? = some (.cells #[.slice A1 n1 c1, .slice A2 n2 c2, .slice A3 n3 c3, .slice A4 n4 c4] t (0, 0)))
    (s1 : Bs w b1 A1 l1) (s2 : Bs w b2 A2 l2) (s3 : Bs w b3 A3 l3) (s4 : Bs w b4 A4 l4) (e1 : l1.length = n1 ∧ n1 ≤ c1 ∧ n1 ≤ 400) (e2 : l2.length = n2 ∧ n2 ≤ c2 ∧ n2 ≤ 400) (e3 : l3.length = n3 ∧ n3 ≤ c3 ∧ n3 ≤ 400) (e4 : l4.length = n4 ∧ n4 ≤ c4 ∧ n4 ≤ 400) : TextsAt w vb := by
  refine ⟨box_lt h, fun k hk => ?_⟩
  have h4 : k = 0 ∨ k = 1 ∨ k = 2 ∨ k = 3 := by omega
  rcases h4 with rfl | rfl | rfl | rfl
  · exact ⟨A1, l1, n1, c1, b1, by rw [cell_of_row w vb _ _ _ _ h]; rfl, s1, e1⟩
  · exact ⟨A2, l2, n2, c2, b2, by rw [cell_of_row w vb _ _ _ _ h]; rfl, s2, e2⟩
  · exact ⟨A3, l3, n3, c3, b3, by rw [cell_of_row w vb _ _ _ _ h]; rfl, s3, e3⟩
  · exact ⟨A4, l4, n4, c4, b4, by rw [cell_of_row w vb _ _ _ _ h]; rfl, s4, e4⟩
theorem parseF_len (l : List UInt8) : (parseF l).1.data.length ≤ 64 := by
  obtain ⟨f, n, h⟩ : ∃ f n, parseF l = (f, n) := ⟨_, _, rfl⟩
  rw [h]
  by_cases hn : n = 0
  · subst hn
    exact Fr.right_len ((parseF_iff l f).1 h).2.1
  · unfold parseF at h
    split at h
    · injection h with h1 _; subst h1; exact Nat.zero_le _
    · split at h
      · injection h with h1 _; subst h1; exact Nat.zero_le _
      · split at h
        · injection h with _ h2; exact absurd h2.symm hn
        · injection h with h1 _; subst h1; exact Nat.zero_le _
theorem Parse_lit (A : Option Addr) (l : List UInt8) (n c b : Nat) (w : World) (hs : Bs w b A l) (hn : l.length = n) (hc : n ≤ c) (h2 : n ≤ 1000000) (rf : Fr) (re : Nat) (hR : (rf, re) = parseF l) :
    Calls Try.prog 15 #[.slice A n c] w fun e w' => ∃ A6 c6 b', e = .returned (.tuple #[.agg #[.int .u16 (rf.epoch : Int), .int .u16 (rf.seq : Int), .int .u16 (rf.next : Int), .int .u32 (rf.bits : Int), .bool rf.first, .bool rf.last, .bool rf.alone, .slice A6 rf.data.length c6], .int .i64 (re : Int)]) ∧ Bs w' b' A6 rf.data ∧ Below w.heap.size w w' :=
  (Parse_any A l n c b w hs hn hc h2 (rf, re) hR).mono fun e w' h => by
    obtain ⟨A', c', b', h1, h2, _, h3⟩ := h
    exact ⟨A', c', b', h1, h2, h3⟩
theorem RParse_lit (A : Option Addr) (l : List UInt8) (n c b : Nat) (w : World) (hs : Bs w b A l) (hn : l.length = n) (hc : n ≤ c) (h2 : n ≤ 1000000) (rf : Fr) (re : Nat) (hR : (rf, re) = parseF l) :
    Calls Try.prog 21 #[.slice A n c] w fun e w' => ∃ A6 c6 b', e = .returned (.tuple #[.agg #[.int .u16 (rf.epoch : Int), .int .u16 (rf.seq : Int), .int .u16 (rf.next : Int), .int .u32 (rf.bits : Int), .bool rf.first, .bool rf.last, .bool rf.alone, .slice A6 rf.data.length c6], .int .i64 (re : Int)]) ∧ Bs w' b' A6 rf.data ∧ Below w.heap.size w w' :=
  (RParse_calls A l n c b w hs hn hc h2 (rf, re) (by rw [hR, rparse_eq])).mono fun e w' h => by
    obtain ⟨A', c', b', h1, h2, _, h3⟩ := h
    exact ⟨A', c', b', h1, h2, h3⟩

set_option maxHeartbeats 16000000 in
set_option maxRecDepth 20000 in
theorem FrameForms_walk (F : Fr) (AF : Option Addr) (cF bF : Nat) (Ar : Option Addr) (rw_ : List UInt8) (nr cr br : Nat) (at_ tn : Nat) (md : Bool) (G : Fr) (AG : Option Addr) (cG bG : Nat) (w : World) (hOF : F.Ok) (hFl : F.data.length ≤ maxLen) (hsF : Bs w bF AF F.data) (hsR : Bs w br Ar rw_) (hRn : rw_.length = nr) (hRm : nr ≤ maxLen) (hat : at_ ≤ 65535) (htn : tn ≤ 255) (hOG : G.Ok) (hGl : G.data.length ≤ maxLen) (hsG : Bs w bG AG G.data) :
    Calls Try.prog 3 #[.agg (F.cells AF cF), .slice Ar nr cr, .int .u16 at_, .int .u8 tn, .bool md, .agg (G.cells AG cG)] w fun e w' => e = .returned (.bool true) ∧ Below w.heap.size w w' := by
  have q1 : ((w.alloc (.cells #[.int .u16 (F.epoch : Int), .int .u16 (F.seq : Int), .int .u16 (F.next : Int), .int .u32 (F.bits : Int), .bool F.first, .bool F.last, .bool F.alone, .slice AF F.data.length cF] 29)).alloc (.cells #[.int .u16 (G.epoch : Int), .int .u16 (G.seq : Int), .int .u16 (G.next : Int), .int .u32 (G.bits : Int), .bool G.first, .bool G.last, .bool G.alone, .slice AG G.data.length cG] 29)).heap[w.heap.size]? = some (.cells #[.int .u16 (F.epoch : Int), .int .u16 (F.seq : Int), .int .u16 (F.next : Int), .int .u32 (F.bits : Int), .bool F.first, .bool F.last, .bool F.alone, .slice AF F.data.length cF] 29 (0, 0)) := box_ext (heap_alloc_new w _) (below_alloc1 _ _)
  have q2 : ((w.alloc (.cells #[.int .u16 (F.epoch : Int), .int .u16 (F.seq : Int), .int .u16 (F.next : Int), .int .u32 (F.bits : Int), .bool F.first, .bool F.last, .bool F.alone, .slice AF F.data.length cF] 29)).alloc (.cells #[.int .u16 (G.epoch : Int), .int .u16 (G.seq : Int), .int .u16 (G.next : Int), .int .u32 (G.bits : Int), .bool G.first, .bool G.last, .bool G.alone, .slice AG G.data.length cG] 29)).heap[(w.alloc (.cells #[.int .u16 (F.epoch : Int), .int .u16 (F.seq : Int), .int .u16 (F.next : Int), .int .u32 (F.bits : Int), .bool F.first, .bool F.last, .bool F.alone, .slice AF F.data.length cF] 29)).heap.size]? = some (.cells #[.int .u16 (G.epoch : Int), .int .u16 (G.seq : Int), .int .u16 (G.next : Int), .int .u32 (G.bits : Int), .bool G.first, .bool G.last, .bool G.alone, .slice AG G.data.length cG] 29 (0, 0)) := heap_alloc_new _ _
  rw [World.size_alloc] at q2
  have hb := below_alloc2 w (.cells #[.int .u16 (F.epoch : Int), .int .u16 (F.seq : Int), .int .u16 (F.next : Int), .int .u32 (F.bits : Int), .bool F.first, .bool F.last, .bool F.alone, .slice AF F.data.length cF] 29) (.cells #[.int .u16 (G.epoch : Int), .int .u16 (G.seq : Int), .int .u16 (G.next : Int), .int .u32 (G.bits : Int), .bool G.first, .bool G.last, .bool G.alone, .slice AG G.data.length cG] 29)
  replace hsF := Sl.ext hsF hb
  replace hsR := Sl.ext hsR hb
  replace hsG := Sl.ext hsG hb
  have HRN := Lib.hid hRn
  clear hRn
  go_enter Try.func3, Try.ntmps3
  go_wp2_with fail
  refine (awake_calls _).mono ?_
  rintro e w1 ⟨rfl, h1⟩
  replace q1 := box_ext q1 h1
  replace q2 := box_ext q2 h1
  replace hsF := Sl.ext hsF h1
  replace hsR := Sl.ext hsR h1
  replace hsG := Sl.ext hsG h1
  replace hb := hb.trans (h1.mono hb.size)
  clear h1
  obtain ⟨dF, hdF⟩ : ∃ d, d = F.data.take 80 := ⟨_, rfl⟩
  obtain ⟨dG, hdG⟩ : ∃ d, d = G.data.take 80 := ⟨_, rfl⟩
  obtain ⟨ra, hra⟩ : ∃ d, d = rw_.take 60 := ⟨_, rfl⟩
  have hdFl : dF.length ≤ 80 := by rw [hdF, List.length_take]; omega
  have hdGl : dG.length ≤ 80 := by rw [hdG, List.length_take]; omega
  have hral : ra.length ≤ 60 := by rw [hra, List.length_take]; omega
  have HD := Lib.hid (And.intro hdF (And.intro hdG hra))
  clear hdF hdG hra
  go_upto_region 3 with fail
  go_cut [1] (fun s1 wx => ∃ (wz : World) (A2 : Option Addr) (c2 b2 : Nat) (A3 : Option Addr) (c3 b3 : Nat) (A4 : Option Addr) (c4 b4 : Nat), wz = wx ∧ s1 = .slice A4 ra.length c4 ∧ wz.heap[w.heap.size]? = some (.cells #[.int .u16 (F.epoch : Int), .int .u16 (F.seq : Int), .int .u16 (F.next : Int), .int .u32 (F.bits : Int), .bool F.first, .bool F.last, .bool F.alone, .slice A2 dF.length c2] 29 (0, 0)) ∧ wz.heap[w.heap.size + 1]? = some (.cells #[.int .u16 (G.epoch : Int), .int .u16 (G.seq : Int), .int .u16 (G.next : Int), .int .u32 (G.bits : Int), .bool G.first, .bool G.last, .bool G.alone, .slice A3 dG.length c3] 29 (0, 0)) ∧ Bs wz b2 A2 dF ∧ Bs wz b3 A3 dG ∧ Bs wz b4 A4 ra ∧ ra.length ≤ c4 ∧ Below w.heap.size w wz)
  case first =>
    refine wp_region_held_drew (S := fun w0 => w.heap.size ≤ w0.heap.size) (by kernel_rfl) ?_ (fun hHeld => ?_)
    · exact hb.size
    obtain ⟨wd2, hwd2⟩ : ∃ wd2, wd2 = World.drew w1 := ⟨_, rfl⟩
    have h9 : Below w1.heap.size w1 wd2 := by rw [hwd2]; exact below_drew (Below.refl _ _)
    rw [← hwd2] at hHeld ⊢
    replace q1 := box_ext q1 h9
    replace q2 := box_ext q2 h9
    replace hsF := Sl.ext hsF h9
    replace hsG := Sl.ext hsG h9
    replace hsR := Sl.ext hsR h9
    replace hb := hb.trans (h9.mono hb.size)
    clear h9
    clear hwd2
    refine wpAnyH_take (i := 0) (v := ?vt13) (by simp only [List.getElem?_toArray, List.getElem?_cons_zero]; rfl) (by kernel_rfl) (by kernel_rfl) (by kernel_rfl) (by exact fun _ _ _ h => h) (Or.inl ⟨by kernel_rfl, ?yt13⟩) hHeld ?_
    case yt13 => (intro ww hSw; (try dsimp only at hSw); clear hSw; go_simp; try (with_reducible rfl))
    try simp only [Act.put, List.setIfInBounds_toArray, List.set_cons_zero, List.set_cons_succ]
    refine wpAnyH_take (i := 3) (v := ?vt14) (by simp only [List.getElem?_toArray, List.getElem?_cons_succ, List.getElem?_cons_zero]; rfl) (by kernel_rfl) (by kernel_rfl) (by kernel_rfl) (by exact fun _ _ _ h => h) (Or.inl ⟨by kernel_rfl, ?yt14⟩) hHeld ?_
    case yt14 => (intro ww hSw; (try dsimp only at hSw); clear hSw; go_simp; try (with_reducible rfl))
    try simp only [Act.put, List.setIfInBounds_toArray, List.set_cons_zero, List.set_cons_succ]
    refine wpAnyH_take (i := 6) (v := ?vt15) (by simp only [List.getElem?_toArray, List.getElem?_cons_succ, List.getElem?_cons_zero]; rfl) (by kernel_rfl) (by kernel_rfl) (by kernel_rfl) (by exact fun _ _ _ h => h) (Or.inl ⟨by kernel_rfl, ?yt15⟩) hHeld ?_
    case yt15 => (intro ww hSw; (try dsimp only at hSw); clear hSw; go_simp; try (with_reducible rfl))
    try simp only [Act.put, List.setIfInBounds_toArray, List.set_cons_zero, List.set_cons_succ]
    refine wpAnyH_ready (rs := [1, 4]) (by kernel_rfl) (by simp) ?_
    refine AllReadyH.cons (by simp only [List.getElem?_toArray, List.getElem?_cons_succ, List.getElem?_cons_zero]; rfl) (fun KK hKK => ?_) (AllReadyH.cons (by simp only [List.getElem?_toArray, List.getElem?_cons_succ, List.getElem?_cons_zero]; rfl) (fun KK hKK => ?_) AllReadyH.nil)
    · skip
      rw [if_pos (by kernel_rfl)]
      obtain ⟨s0, s1, s2, s3, s4, s5, s6, s7⟩ := box8_all q1
      go_simp
      clear s0 s1 s2 s3 s4 s5 s6 s7
      refine hKK.out _ _ ?_ (fun hHeld => ?_)
      · exact hb.size
      clear hKK KK
      try simp only [Act.put, List.setIfInBounds_toArray, List.set_cons_zero, List.set_cons_succ]
      refine wpAnyH_ready (rs := [2, 4]) (by kernel_rfl) (by simp) ?_
      refine AllReadyH.cons (by simp only [List.getElem?_toArray, List.getElem?_cons_succ, List.getElem?_cons_zero]; rfl) (fun KK hKK => ?_) (AllReadyH.cons (by simp only [List.getElem?_toArray, List.getElem?_cons_succ, List.getElem?_cons_zero]; rfl) (fun KK hKK => ?_) AllReadyH.nil)
      · skip
        rw [if_pos (by kernel_rfl)]
        have hlq := box_lt q2
        go_simp
        (with_reducible refine (Cut_calls AF F.data F.data.length cF bF 80 _ hsF rfl hFl (by simp only [List.length_take]; omega)).mono ?_)
        rintro e wc7 ⟨v2, rfl, hrow, g6⟩
        replace q1 := box_ext q1 g6
        replace q2 := box_ext q2 g6
        replace hsF := Sl.ext hsF g6
        replace hsG := Sl.ext hsG g6
        replace hsR := Sl.ext hsR g6
        replace hb := hb.trans (g6.mono hb.size)
        clear g6
        rw [show (80 : Int).toNat = 80 from rfl, ← HD.out.1] at hrow
        obtain ⟨A2, c2, b2, rfl, hc2, -, -, hB2, hn2s, -⟩ := hrow.sl
        have hn2 : w.heap.size + 1 < b2 := by omega
        clear hrow hB2
        go_wp2_with fail
        refine hKK.out _ _ ?_ (fun hHeld => ?_)
        · exact hb.size
        clear hKK KK
        try simp only [Act.put, List.setIfInBounds_toArray, List.set_cons_zero, List.set_cons_succ]
        refine wpAnyH_take (i := 8) (v := ?vt18) (by simp only [List.getElem?_toArray, List.getElem?_cons_succ, List.getElem?_cons_zero]; rfl) (by kernel_rfl) (by kernel_rfl) (by kernel_rfl) (by exact fun _ _ _ h => h) (Or.inl ⟨by kernel_rfl, ?yt18⟩) hHeld ?_
        case yt18 => (intro ww hSw; (try dsimp only at hSw); clear hSw; go_simp; try (with_reducible rfl))
        try simp only [Act.put, List.setIfInBounds_toArray, List.set_cons_zero, List.set_cons_succ]
        refine wpAnyH_ready (rs := [4]) (by kernel_rfl) (by simp) ?_
        refine AllReadyH.cons (by simp only [List.getElem?_toArray, List.getElem?_cons_succ, List.getElem?_cons_zero]; rfl) (fun KK hKK => ?_) AllReadyH.nil
        rw [if_pos (by kernel_rfl)]
        obtain ⟨s0, s1, s2, s3, s4, s5, s6, s7⟩ := box8_all q2
        go_simp
        clear s0 s1 s2 s3 s4 s5 s6 s7
        refine hKK.out _ _ ?_ (fun hHeld => ?_)
        · exact hb.size
        clear hKK KK
        try simp only [Act.put, List.setIfInBounds_toArray, List.set_cons_zero, List.set_cons_succ]
        refine wpAnyH_ready (rs := [5]) (by kernel_rfl) (by simp) ?_
        refine AllReadyH.cons (by simp only [List.getElem?_toArray, List.getElem?_cons_succ, List.getElem?_cons_zero]; rfl) (fun KK hKK => ?_) AllReadyH.nil
        rw [if_pos (by kernel_rfl)]
        have hlq := box_lt q2
        go_simp
        (with_reducible refine (Cut_calls AG G.data G.data.length cG bG 80 _ hsG rfl hGl (by simp only [List.length_take]; omega)).mono ?_)
        rintro e wc10 ⟨v3, rfl, hrow, g9⟩
        replace q1 := box_ext q1 g9
        replace q2 := box_ext q2 g9
        replace hsF := Sl.ext hsF g9
        replace hsG := Sl.ext hsG g9
        replace hsR := Sl.ext hsR g9
        replace hn2s := Sl.ext hn2s g9
        replace hb := hb.trans (g9.mono hb.size)
        clear g9
        rw [show (80 : Int).toNat = 80 from rfl, ← HD.out.2.1] at hrow
        obtain ⟨A3, c3, b3, rfl, hc3, -, -, hB3, hn3s, -⟩ := hrow.sl
        have hn3 : w.heap.size + 1 < b3 := by omega
        clear hrow hB3
        go_wp2_with fail
        refine hKK.out _ _ ?_ (fun hHeld => ?_)
        · exact hb.size
        clear hKK KK
        try simp only [Act.put, List.setIfInBounds_toArray, List.set_cons_zero, List.set_cons_succ]
        refine wpAnyH_ready (rs := [7]) (by kernel_rfl) (by simp) ?_
        refine AllReadyH.cons (by simp only [List.getElem?_toArray, List.getElem?_cons_succ, List.getElem?_cons_zero]; rfl) (fun KK hKK => ?_) AllReadyH.nil
        rw [if_pos (by kernel_rfl)]
        have hlq := box_lt q2
        go_simp
        (with_reducible refine (Cut_calls Ar rw_ nr cr br 60 _ hsR HRN.out hRm (by simp only [List.length_take]; omega)).mono ?_)
        rintro e wc12 ⟨v4, rfl, hrow, g11⟩
        replace q1 := box_ext q1 g11
        replace q2 := box_ext q2 g11
        replace hsF := Sl.ext hsF g11
        replace hsG := Sl.ext hsG g11
        replace hsR := Sl.ext hsR g11
        replace hn2s := Sl.ext hn2s g11
        replace hn3s := Sl.ext hn3s g11
        replace hb := hb.trans (g11.mono hb.size)
        clear g11
        rw [show (60 : Int).toNat = 60 from rfl, ← HD.out.2.2] at hrow
        obtain ⟨A4, c4, b4, rfl, hc4, -, -, hB4, hn4s, -⟩ := hrow.sl
        have hn4 : w.heap.size + 1 < b4 := by omega
        clear hrow hB4
        go_wp2_with fail
        refine hKK.out _ _ ?_ (fun hHeld => ?_)
        · exact hb.size
        clear hKK KK
        try simp only [Act.put, List.setIfInBounds_toArray, List.set_cons_zero, List.set_cons_succ]
        refine wpAnyH_ready (rs := [9]) (by kernel_rfl) (by simp) ?_
        refine AllReadyH.cons (by simp only [List.getElem?_toArray, List.getElem?_cons_succ, List.getElem?_cons_zero]; rfl) (fun KK hKK => ?_) AllReadyH.nil
        rw [if_pos (by kernel_rfl)]
        obtain ⟨s0, s1, s2, s3, s4, s5, s6, s7⟩ := box8_all q1
        have hff := fun j => frozen_of_row _ (w.heap.size) j _ _ q1
        go_simp
        clear s0 s1 s2 s3 s4 s5 s6 s7 hff
        have hsm := Mod.setCell wc12 ⟨w.heap.size, 7, none⟩ (.slice A2 dF.length c2)
        replace q1 := heap_setCell_same wc12 (w.heap.size) 7 _ _ (.slice A2 dF.length c2) q1
        rw [show (#[.int .u16 (F.epoch : Int), .int .u16 (F.seq : Int), .int .u16 (F.next : Int), .int .u32 (F.bits : Int), .bool F.first, .bool F.last, .bool F.alone, .slice AF F.data.length cF] : Array Value).setIfInBounds 7 (.slice A2 dF.length c2) = #[.int .u16 (F.epoch : Int), .int .u16 (F.seq : Int), .int .u16 (F.next : Int), .int .u32 (F.bits : Int), .bool F.first, .bool F.last, .bool F.alone, .slice A2 dF.length c2] from rfl] at q1
        replace q2 := (hsm.block _ (box_lt q2) (fun e => by have e : w.heap.size + 1 = w.heap.size := e; omega)).trans q2
        replace hn2s := Bs.modne hn2s hsm (fun _ e => by have e : b2 = w.heap.size := e; omega)
        replace hn3s := Bs.modne hn3s hsm (fun _ e => by have e : b3 = w.heap.size := e; omega)
        replace hn4s := Bs.modne hn4s hsm (fun _ e => by have e : b4 = w.heap.size := e; omega)
        replace hb := hb.trans (hsm.below hb.size (fun i hi e => by have e : i = w.heap.size := e; omega))
        obtain ⟨ws13, hws13⟩ : ∃ ws13, ws13 = wc12.setCell ⟨w.heap.size, 7, none⟩ (.slice A2 dF.length c2) := ⟨_, rfl⟩
        rw [← hws13] at q1 q2 hn2s hn3s hn4s hb ⊢
        clear hws13 hsm
        refine hKK.out _ _ ?_ (fun hHeld => ?_)
        · exact hb.size
        clear hKK KK
        try simp only [Act.put, List.setIfInBounds_toArray, List.set_cons_zero, List.set_cons_succ]
        refine wpAnyH_take (i := 10) (v := ?vt114) (by simp only [List.getElem?_toArray, List.getElem?_cons_succ, List.getElem?_cons_zero]; rfl) (by kernel_rfl) (by kernel_rfl) (by kernel_rfl) (by exact fun _ _ _ h => h) (Or.inl ⟨by kernel_rfl, ?yt114⟩) hHeld ?_
        case yt114 => (intro ww hSw; (try dsimp only at hSw); clear hSw; go_simp; try (with_reducible rfl))
        try simp only [Act.put, List.setIfInBounds_toArray, List.set_cons_zero, List.set_cons_succ]
        refine wpAnyH_ready (rs := [11]) (by kernel_rfl) (by simp) ?_
        refine AllReadyH.cons (by simp only [List.getElem?_toArray, List.getElem?_cons_succ, List.getElem?_cons_zero]; rfl) (fun KK hKK => ?_) AllReadyH.nil
        rw [if_pos (by kernel_rfl)]
        obtain ⟨s0, s1, s2, s3, s4, s5, s6, s7⟩ := box8_all q2
        have hff := fun j => frozen_of_row _ (w.heap.size + 1) j _ _ q2
        go_simp
        clear s0 s1 s2 s3 s4 s5 s6 s7 hff
        have hsm := Mod.setCell ws13 ⟨w.heap.size + 1, 7, none⟩ (.slice A3 dG.length c3)
        replace q2 := heap_setCell_same ws13 (w.heap.size + 1) 7 _ _ (.slice A3 dG.length c3) q2
        rw [show (#[.int .u16 (G.epoch : Int), .int .u16 (G.seq : Int), .int .u16 (G.next : Int), .int .u32 (G.bits : Int), .bool G.first, .bool G.last, .bool G.alone, .slice AG G.data.length cG] : Array Value).setIfInBounds 7 (.slice A3 dG.length c3) = #[.int .u16 (G.epoch : Int), .int .u16 (G.seq : Int), .int .u16 (G.next : Int), .int .u32 (G.bits : Int), .bool G.first, .bool G.last, .bool G.alone, .slice A3 dG.length c3] from rfl] at q2
        replace q1 := (hsm.block _ (box_lt q1) (fun e => by have e : w.heap.size = w.heap.size + 1 := e; omega)).trans q1
        replace hn2s := Bs.modne hn2s hsm (fun _ e => by have e : b2 = w.heap.size + 1 := e; omega)
        replace hn3s := Bs.modne hn3s hsm (fun _ e => by have e : b3 = w.heap.size + 1 := e; omega)
        replace hn4s := Bs.modne hn4s hsm (fun _ e => by have e : b4 = w.heap.size + 1 := e; omega)
        replace hb := hb.trans (hsm.below hb.size (fun i hi e => by have e : i = w.heap.size + 1 := e; omega))
        obtain ⟨ws15, hws15⟩ : ∃ ws15, ws15 = ws13.setCell ⟨w.heap.size + 1, 7, none⟩ (.slice A3 dG.length c3) := ⟨_, rfl⟩
        rw [← hws15] at q1 q2 hn2s hn3s hn4s hb ⊢
        clear hws15 hsm
        refine hKK.out _ _ ?_ (fun hHeld => ?_)
        · exact hb.size
        clear hKK KK
        try simp only [Act.put, List.setIfInBounds_toArray, List.set_cons_zero, List.set_cons_succ]
        refine wpAnyH_take (i := 12) (v := ?vt116) (by simp only [List.getElem?_toArray, List.getElem?_cons_succ, List.getElem?_cons_zero]; rfl) (by kernel_rfl) (by kernel_rfl) (by kernel_rfl) (by exact fun _ _ _ h => h) (Or.inl ⟨by kernel_rfl, ?yt116⟩) hHeld ?_
        case yt116 => (intro ww hSw; (try dsimp only at hSw); clear hSw; go_simp; try (with_reducible rfl))
        try simp only [Act.put, List.setIfInBounds_toArray, List.set_cons_zero, List.set_cons_succ]
        refine wpAnyH_done (by kernel_rfl) ?_ _
        go_wp2_with fail
        go_meet
        exact ⟨_, A2, c2, b2, A3, c3, b3, A4, c4, b4, rfl, rfl, q1, q2, hn2s, hn3s, hn4s, hc4, hb⟩
      · skip
        rw [if_pos (by kernel_rfl)]
        obtain ⟨s0, s1, s2, s3, s4, s5, s6, s7⟩ := box8_all q2
        go_simp
        clear s0 s1 s2 s3 s4 s5 s6 s7
        refine hKK.out _ _ ?_ (fun hHeld => ?_)
        · exact hb.size
        clear hKK KK
        try simp only [Act.put, List.setIfInBounds_toArray, List.set_cons_zero, List.set_cons_succ]
        refine wpAnyH_ready (rs := [2]) (by kernel_rfl) (by simp) ?_
        refine AllReadyH.cons (by simp only [List.getElem?_toArray, List.getElem?_cons_succ, List.getElem?_cons_zero]; rfl) (fun KK hKK => ?_) AllReadyH.nil
        rw [if_pos (by kernel_rfl)]
        have hlq := box_lt q2
        go_simp
        (with_reducible refine (Cut_calls AF F.data F.data.length cF bF 80 _ hsF rfl hFl (by simp only [List.length_take]; omega)).mono ?_)
        rintro e wc18 ⟨v2, rfl, hrow, g17⟩
        replace q1 := box_ext q1 g17
        replace q2 := box_ext q2 g17
        replace hsF := Sl.ext hsF g17
        replace hsG := Sl.ext hsG g17
        replace hsR := Sl.ext hsR g17
        replace hb := hb.trans (g17.mono hb.size)
        clear g17
        rw [show (80 : Int).toNat = 80 from rfl, ← HD.out.1] at hrow
        obtain ⟨A2, c2, b2, rfl, hc2, -, -, hB2, hn2s, -⟩ := hrow.sl
        have hn2 : w.heap.size + 1 < b2 := by omega
        clear hrow hB2
        go_wp2_with fail
        refine hKK.out _ _ ?_ (fun hHeld => ?_)
        · exact hb.size
        clear hKK KK
        try simp only [Act.put, List.setIfInBounds_toArray, List.set_cons_zero, List.set_cons_succ]
        refine wpAnyH_take (i := 8) (v := ?vt119) (by simp only [List.getElem?_toArray, List.getElem?_cons_succ, List.getElem?_cons_zero]; rfl) (by kernel_rfl) (by kernel_rfl) (by kernel_rfl) (by exact fun _ _ _ h => h) (Or.inl ⟨by kernel_rfl, ?yt119⟩) hHeld ?_
        case yt119 => (intro ww hSw; (try dsimp only at hSw); clear hSw; go_simp; try (with_reducible rfl))
        try simp only [Act.put, List.setIfInBounds_toArray, List.set_cons_zero, List.set_cons_succ]
        refine wpAnyH_ready (rs := [5]) (by kernel_rfl) (by simp) ?_
        refine AllReadyH.cons (by simp only [List.getElem?_toArray, List.getElem?_cons_succ, List.getElem?_cons_zero]; rfl) (fun KK hKK => ?_) AllReadyH.nil
        rw [if_pos (by kernel_rfl)]
        have hlq := box_lt q2
        go_simp
        (with_reducible refine (Cut_calls AG G.data G.data.length cG bG 80 _ hsG rfl hGl (by simp only [List.length_take]; omega)).mono ?_)
        rintro e wc21 ⟨v3, rfl, hrow, g20⟩
        replace q1 := box_ext q1 g20
        replace q2 := box_ext q2 g20
        replace hsF := Sl.ext hsF g20
        replace hsG := Sl.ext hsG g20
        replace hsR := Sl.ext hsR g20
        replace hn2s := Sl.ext hn2s g20
        replace hb := hb.trans (g20.mono hb.size)
        clear g20
        rw [show (80 : Int).toNat = 80 from rfl, ← HD.out.2.1] at hrow
        obtain ⟨A3, c3, b3, rfl, hc3, -, -, hB3, hn3s, -⟩ := hrow.sl
        have hn3 : w.heap.size + 1 < b3 := by omega
        clear hrow hB3
        go_wp2_with fail
        refine hKK.out _ _ ?_ (fun hHeld => ?_)
        · exact hb.size
        clear hKK KK
        try simp only [Act.put, List.setIfInBounds_toArray, List.set_cons_zero, List.set_cons_succ]
        refine wpAnyH_ready (rs := [7]) (by kernel_rfl) (by simp) ?_
        refine AllReadyH.cons (by simp only [List.getElem?_toArray, List.getElem?_cons_succ, List.getElem?_cons_zero]; rfl) (fun KK hKK => ?_) AllReadyH.nil
        rw [if_pos (by kernel_rfl)]
        have hlq := box_lt q2
        go_simp
        (with_reducible refine (Cut_calls Ar rw_ nr cr br 60 _ hsR HRN.out hRm (by simp only [List.length_take]; omega)).mono ?_)
        rintro e wc23 ⟨v4, rfl, hrow, g22⟩
        replace q1 := box_ext q1 g22
        replace q2 := box_ext q2 g22
        replace hsF := Sl.ext hsF g22
        replace hsG := Sl.ext hsG g22
        replace hsR := Sl.ext hsR g22
        replace hn2s := Sl.ext hn2s g22
        replace hn3s := Sl.ext hn3s g22
        replace hb := hb.trans (g22.mono hb.size)
        clear g22
        rw [show (60 : Int).toNat = 60 from rfl, ← HD.out.2.2] at hrow
        obtain ⟨A4, c4, b4, rfl, hc4, -, -, hB4, hn4s, -⟩ := hrow.sl
        have hn4 : w.heap.size + 1 < b4 := by omega
        clear hrow hB4
        go_wp2_with fail
        refine hKK.out _ _ ?_ (fun hHeld => ?_)
        · exact hb.size
        clear hKK KK
        try simp only [Act.put, List.setIfInBounds_toArray, List.set_cons_zero, List.set_cons_succ]
        refine wpAnyH_ready (rs := [9]) (by kernel_rfl) (by simp) ?_
        refine AllReadyH.cons (by simp only [List.getElem?_toArray, List.getElem?_cons_succ, List.getElem?_cons_zero]; rfl) (fun KK hKK => ?_) AllReadyH.nil
        rw [if_pos (by kernel_rfl)]
        obtain ⟨s0, s1, s2, s3, s4, s5, s6, s7⟩ := box8_all q1
        have hff := fun j => frozen_of_row _ (w.heap.size) j _ _ q1
        go_simp
        clear s0 s1 s2 s3 s4 s5 s6 s7 hff
        have hsm := Mod.setCell wc23 ⟨w.heap.size, 7, none⟩ (.slice A2 dF.length c2)
        replace q1 := heap_setCell_same wc23 (w.heap.size) 7 _ _ (.slice A2 dF.length c2) q1
        rw [show (#[.int .u16 (F.epoch : Int), .int .u16 (F.seq : Int), .int .u16 (F.next : Int), .int .u32 (F.bits : Int), .bool F.first, .bool F.last, .bool F.alone, .slice AF F.data.length cF] : Array Value).setIfInBounds 7 (.slice A2 dF.length c2) = #[.int .u16 (F.epoch : Int), .int .u16 (F.seq : Int), .int .u16 (F.next : Int), .int .u32 (F.bits : Int), .bool F.first, .bool F.last, .bool F.alone, .slice A2 dF.length c2] from rfl] at q1
        replace q2 := (hsm.block _ (box_lt q2) (fun e => by have e : w.heap.size + 1 = w.heap.size := e; omega)).trans q2
        replace hn2s := Bs.modne hn2s hsm (fun _ e => by have e : b2 = w.heap.size := e; omega)
        replace hn3s := Bs.modne hn3s hsm (fun _ e => by have e : b3 = w.heap.size := e; omega)
        replace hn4s := Bs.modne hn4s hsm (fun _ e => by have e : b4 = w.heap.size := e; omega)
        replace hb := hb.trans (hsm.below hb.size (fun i hi e => by have e : i = w.heap.size := e; omega))
        obtain ⟨ws24, hws24⟩ : ∃ ws24, ws24 = wc23.setCell ⟨w.heap.size, 7, none⟩ (.slice A2 dF.length c2) := ⟨_, rfl⟩
        rw [← hws24] at q1 q2 hn2s hn3s hn4s hb ⊢
        clear hws24 hsm
        refine hKK.out _ _ ?_ (fun hHeld => ?_)
        · exact hb.size
        clear hKK KK
        try simp only [Act.put, List.setIfInBounds_toArray, List.set_cons_zero, List.set_cons_succ]
        refine wpAnyH_take (i := 10) (v := ?vt125) (by simp only [List.getElem?_toArray, List.getElem?_cons_succ, List.getElem?_cons_zero]; rfl) (by kernel_rfl) (by kernel_rfl) (by kernel_rfl) (by exact fun _ _ _ h => h) (Or.inl ⟨by kernel_rfl, ?yt125⟩) hHeld ?_
        case yt125 => (intro ww hSw; (try dsimp only at hSw); clear hSw; go_simp; try (with_reducible rfl))
        try simp only [Act.put, List.setIfInBounds_toArray, List.set_cons_zero, List.set_cons_succ]
        refine wpAnyH_ready (rs := [11]) (by kernel_rfl) (by simp) ?_
        refine AllReadyH.cons (by simp only [List.getElem?_toArray, List.getElem?_cons_succ, List.getElem?_cons_zero]; rfl) (fun KK hKK => ?_) AllReadyH.nil
        rw [if_pos (by kernel_rfl)]
        obtain ⟨s0, s1, s2, s3, s4, s5, s6, s7⟩ := box8_all q2
        have hff := fun j => frozen_of_row _ (w.heap.size + 1) j _ _ q2
        go_simp
        clear s0 s1 s2 s3 s4 s5 s6 s7 hff
        have hsm := Mod.setCell ws24 ⟨w.heap.size + 1, 7, none⟩ (.slice A3 dG.length c3)
        replace q2 := heap_setCell_same ws24 (w.heap.size + 1) 7 _ _ (.slice A3 dG.length c3) q2
        rw [show (#[.int .u16 (G.epoch : Int), .int .u16 (G.seq : Int), .int .u16 (G.next : Int), .int .u32 (G.bits : Int), .bool G.first, .bool G.last, .bool G.alone, .slice AG G.data.length cG] : Array Value).setIfInBounds 7 (.slice A3 dG.length c3) = #[.int .u16 (G.epoch : Int), .int .u16 (G.seq : Int), .int .u16 (G.next : Int), .int .u32 (G.bits : Int), .bool G.first, .bool G.last, .bool G.alone, .slice A3 dG.length c3] from rfl] at q2
        replace q1 := (hsm.block _ (box_lt q1) (fun e => by have e : w.heap.size = w.heap.size + 1 := e; omega)).trans q1
        replace hn2s := Bs.modne hn2s hsm (fun _ e => by have e : b2 = w.heap.size + 1 := e; omega)
        replace hn3s := Bs.modne hn3s hsm (fun _ e => by have e : b3 = w.heap.size + 1 := e; omega)
        replace hn4s := Bs.modne hn4s hsm (fun _ e => by have e : b4 = w.heap.size + 1 := e; omega)
        replace hb := hb.trans (hsm.below hb.size (fun i hi e => by have e : i = w.heap.size + 1 := e; omega))
        obtain ⟨ws26, hws26⟩ : ∃ ws26, ws26 = ws24.setCell ⟨w.heap.size + 1, 7, none⟩ (.slice A3 dG.length c3) := ⟨_, rfl⟩
        rw [← hws26] at q1 q2 hn2s hn3s hn4s hb ⊢
        clear hws26 hsm
        refine hKK.out _ _ ?_ (fun hHeld => ?_)
        · exact hb.size
        clear hKK KK
        try simp only [Act.put, List.setIfInBounds_toArray, List.set_cons_zero, List.set_cons_succ]
        refine wpAnyH_take (i := 12) (v := ?vt127) (by simp only [List.getElem?_toArray, List.getElem?_cons_succ, List.getElem?_cons_zero]; rfl) (by kernel_rfl) (by kernel_rfl) (by kernel_rfl) (by exact fun _ _ _ h => h) (Or.inl ⟨by kernel_rfl, ?yt127⟩) hHeld ?_
        case yt127 => (intro ww hSw; (try dsimp only at hSw); clear hSw; go_simp; try (with_reducible rfl))
        try simp only [Act.put, List.setIfInBounds_toArray, List.set_cons_zero, List.set_cons_succ]
        refine wpAnyH_done (by kernel_rfl) ?_ _
        go_wp2_with fail
        go_meet
        exact ⟨_, A2, c2, b2, A3, c3, b3, A4, c4, b4, rfl, rfl, q1, q2, hn2s, hn3s, hn4s, hc4, hb⟩
    · skip
      rw [if_pos (by kernel_rfl)]
      obtain ⟨s0, s1, s2, s3, s4, s5, s6, s7⟩ := box8_all q2
      go_simp
      clear s0 s1 s2 s3 s4 s5 s6 s7
      refine hKK.out _ _ ?_ (fun hHeld => ?_)
      · exact hb.size
      clear hKK KK
      try simp only [Act.put, List.setIfInBounds_toArray, List.set_cons_zero, List.set_cons_succ]
      refine wpAnyH_ready (rs := [1]) (by kernel_rfl) (by simp) ?_
      refine AllReadyH.cons (by simp only [List.getElem?_toArray, List.getElem?_cons_succ, List.getElem?_cons_zero]; rfl) (fun KK hKK => ?_) AllReadyH.nil
      rw [if_pos (by kernel_rfl)]
      obtain ⟨s0, s1, s2, s3, s4, s5, s6, s7⟩ := box8_all q1
      go_simp
      clear s0 s1 s2 s3 s4 s5 s6 s7
      refine hKK.out _ _ ?_ (fun hHeld => ?_)
      · exact hb.size
      clear hKK KK
      try simp only [Act.put, List.setIfInBounds_toArray, List.set_cons_zero, List.set_cons_succ]
      refine wpAnyH_ready (rs := [2]) (by kernel_rfl) (by simp) ?_
      refine AllReadyH.cons (by simp only [List.getElem?_toArray, List.getElem?_cons_succ, List.getElem?_cons_zero]; rfl) (fun KK hKK => ?_) AllReadyH.nil
      rw [if_pos (by kernel_rfl)]
      have hlq := box_lt q2
      go_simp
      (with_reducible refine (Cut_calls AF F.data F.data.length cF bF 80 _ hsF rfl hFl (by simp only [List.length_take]; omega)).mono ?_)
      rintro e wc29 ⟨v2, rfl, hrow, g28⟩
      replace q1 := box_ext q1 g28
      replace q2 := box_ext q2 g28
      replace hsF := Sl.ext hsF g28
      replace hsG := Sl.ext hsG g28
      replace hsR := Sl.ext hsR g28
      replace hb := hb.trans (g28.mono hb.size)
      clear g28
      rw [show (80 : Int).toNat = 80 from rfl, ← HD.out.1] at hrow
      obtain ⟨A2, c2, b2, rfl, hc2, -, -, hB2, hn2s, -⟩ := hrow.sl
      have hn2 : w.heap.size + 1 < b2 := by omega
      clear hrow hB2
      go_wp2_with fail
      refine hKK.out _ _ ?_ (fun hHeld => ?_)
      · exact hb.size
      clear hKK KK
      try simp only [Act.put, List.setIfInBounds_toArray, List.set_cons_zero, List.set_cons_succ]
      refine wpAnyH_take (i := 8) (v := ?vt130) (by simp only [List.getElem?_toArray, List.getElem?_cons_succ, List.getElem?_cons_zero]; rfl) (by kernel_rfl) (by kernel_rfl) (by kernel_rfl) (by exact fun _ _ _ h => h) (Or.inl ⟨by kernel_rfl, ?yt130⟩) hHeld ?_
      case yt130 => (intro ww hSw; (try dsimp only at hSw); clear hSw; go_simp; try (with_reducible rfl))
      try simp only [Act.put, List.setIfInBounds_toArray, List.set_cons_zero, List.set_cons_succ]
      refine wpAnyH_ready (rs := [5]) (by kernel_rfl) (by simp) ?_
      refine AllReadyH.cons (by simp only [List.getElem?_toArray, List.getElem?_cons_succ, List.getElem?_cons_zero]; rfl) (fun KK hKK => ?_) AllReadyH.nil
      rw [if_pos (by kernel_rfl)]
      have hlq := box_lt q2
      go_simp
      (with_reducible refine (Cut_calls AG G.data G.data.length cG bG 80 _ hsG rfl hGl (by simp only [List.length_take]; omega)).mono ?_)
      rintro e wc32 ⟨v3, rfl, hrow, g31⟩
      replace q1 := box_ext q1 g31
      replace q2 := box_ext q2 g31
      replace hsF := Sl.ext hsF g31
      replace hsG := Sl.ext hsG g31
      replace hsR := Sl.ext hsR g31
      replace hn2s := Sl.ext hn2s g31
      replace hb := hb.trans (g31.mono hb.size)
      clear g31
      rw [show (80 : Int).toNat = 80 from rfl, ← HD.out.2.1] at hrow
      obtain ⟨A3, c3, b3, rfl, hc3, -, -, hB3, hn3s, -⟩ := hrow.sl
      have hn3 : w.heap.size + 1 < b3 := by omega
      clear hrow hB3
      go_wp2_with fail
      refine hKK.out _ _ ?_ (fun hHeld => ?_)
      · exact hb.size
      clear hKK KK
      try simp only [Act.put, List.setIfInBounds_toArray, List.set_cons_zero, List.set_cons_succ]
      refine wpAnyH_ready (rs := [7]) (by kernel_rfl) (by simp) ?_
      refine AllReadyH.cons (by simp only [List.getElem?_toArray, List.getElem?_cons_succ, List.getElem?_cons_zero]; rfl) (fun KK hKK => ?_) AllReadyH.nil
      rw [if_pos (by kernel_rfl)]
      have hlq := box_lt q2
      go_simp
      (with_reducible refine (Cut_calls Ar rw_ nr cr br 60 _ hsR HRN.out hRm (by simp only [List.length_take]; omega)).mono ?_)
      rintro e wc34 ⟨v4, rfl, hrow, g33⟩
      replace q1 := box_ext q1 g33
      replace q2 := box_ext q2 g33
      replace hsF := Sl.ext hsF g33
      replace hsG := Sl.ext hsG g33
      replace hsR := Sl.ext hsR g33
      replace hn2s := Sl.ext hn2s g33
      replace hn3s := Sl.ext hn3s g33
      replace hb := hb.trans (g33.mono hb.size)
      clear g33
      rw [show (60 : Int).toNat = 60 from rfl, ← HD.out.2.2] at hrow
      obtain ⟨A4, c4, b4, rfl, hc4, -, -, hB4, hn4s, -⟩ := hrow.sl
      have hn4 : w.heap.size + 1 < b4 := by omega
      clear hrow hB4
      go_wp2_with fail
      refine hKK.out _ _ ?_ (fun hHeld => ?_)
      · exact hb.size
      clear hKK KK
      try simp only [Act.put, List.setIfInBounds_toArray, List.set_cons_zero, List.set_cons_succ]
      refine wpAnyH_ready (rs := [9]) (by kernel_rfl) (by simp) ?_
      refine AllReadyH.cons (by simp only [List.getElem?_toArray, List.getElem?_cons_succ, List.getElem?_cons_zero]; rfl) (fun KK hKK => ?_) AllReadyH.nil
      rw [if_pos (by kernel_rfl)]
      obtain ⟨s0, s1, s2, s3, s4, s5, s6, s7⟩ := box8_all q1
      have hff := fun j => frozen_of_row _ (w.heap.size) j _ _ q1
      go_simp
      clear s0 s1 s2 s3 s4 s5 s6 s7 hff
      have hsm := Mod.setCell wc34 ⟨w.heap.size, 7, none⟩ (.slice A2 dF.length c2)
      replace q1 := heap_setCell_same wc34 (w.heap.size) 7 _ _ (.slice A2 dF.length c2) q1
      rw [show (#[.int .u16 (F.epoch : Int), .int .u16 (F.seq : Int), .int .u16 (F.next : Int), .int .u32 (F.bits : Int), .bool F.first, .bool F.last, .bool F.alone, .slice AF F.data.length cF] : Array Value).setIfInBounds 7 (.slice A2 dF.length c2) = #[.int .u16 (F.epoch : Int), .int .u16 (F.seq : Int), .int .u16 (F.next : Int), .int .u32 (F.bits : Int), .bool F.first, .bool F.last, .bool F.alone, .slice A2 dF.length c2] from rfl] at q1
      replace q2 := (hsm.block _ (box_lt q2) (fun e => by have e : w.heap.size + 1 = w.heap.size := e; omega)).trans q2
      replace hn2s := Bs.modne hn2s hsm (fun _ e => by have e : b2 = w.heap.size := e; omega)
      replace hn3s := Bs.modne hn3s hsm (fun _ e => by have e : b3 = w.heap.size := e; omega)
      replace hn4s := Bs.modne hn4s hsm (fun _ e => by have e : b4 = w.heap.size := e; omega)
      replace hb := hb.trans (hsm.below hb.size (fun i hi e => by have e : i = w.heap.size := e; omega))
      obtain ⟨ws35, hws35⟩ : ∃ ws35, ws35 = wc34.setCell ⟨w.heap.size, 7, none⟩ (.slice A2 dF.length c2) := ⟨_, rfl⟩
      rw [← hws35] at q1 q2 hn2s hn3s hn4s hb ⊢
      clear hws35 hsm
      refine hKK.out _ _ ?_ (fun hHeld => ?_)
      · exact hb.size
      clear hKK KK
      try simp only [Act.put, List.setIfInBounds_toArray, List.set_cons_zero, List.set_cons_succ]
      refine wpAnyH_take (i := 10) (v := ?vt136) (by simp only [List.getElem?_toArray, List.getElem?_cons_succ, List.getElem?_cons_zero]; rfl) (by kernel_rfl) (by kernel_rfl) (by kernel_rfl) (by exact fun _ _ _ h => h) (Or.inl ⟨by kernel_rfl, ?yt136⟩) hHeld ?_
      case yt136 => (intro ww hSw; (try dsimp only at hSw); clear hSw; go_simp; try (with_reducible rfl))
      try simp only [Act.put, List.setIfInBounds_toArray, List.set_cons_zero, List.set_cons_succ]
      refine wpAnyH_ready (rs := [11]) (by kernel_rfl) (by simp) ?_
      refine AllReadyH.cons (by simp only [List.getElem?_toArray, List.getElem?_cons_succ, List.getElem?_cons_zero]; rfl) (fun KK hKK => ?_) AllReadyH.nil
      rw [if_pos (by kernel_rfl)]
      obtain ⟨s0, s1, s2, s3, s4, s5, s6, s7⟩ := box8_all q2
      have hff := fun j => frozen_of_row _ (w.heap.size + 1) j _ _ q2
      go_simp
      clear s0 s1 s2 s3 s4 s5 s6 s7 hff
      have hsm := Mod.setCell ws35 ⟨w.heap.size + 1, 7, none⟩ (.slice A3 dG.length c3)
      replace q2 := heap_setCell_same ws35 (w.heap.size + 1) 7 _ _ (.slice A3 dG.length c3) q2
      rw [show (#[.int .u16 (G.epoch : Int), .int .u16 (G.seq : Int), .int .u16 (G.next : Int), .int .u32 (G.bits : Int), .bool G.first, .bool G.last, .bool G.alone, .slice AG G.data.length cG] : Array Value).setIfInBounds 7 (.slice A3 dG.length c3) = #[.int .u16 (G.epoch : Int), .int .u16 (G.seq : Int), .int .u16 (G.next : Int), .int .u32 (G.bits : Int), .bool G.first, .bool G.last, .bool G.alone, .slice A3 dG.length c3] from rfl] at q2
      replace q1 := (hsm.block _ (box_lt q1) (fun e => by have e : w.heap.size = w.heap.size + 1 := e; omega)).trans q1
      replace hn2s := Bs.modne hn2s hsm (fun _ e => by have e : b2 = w.heap.size + 1 := e; omega)
      replace hn3s := Bs.modne hn3s hsm (fun _ e => by have e : b3 = w.heap.size + 1 := e; omega)
      replace hn4s := Bs.modne hn4s hsm (fun _ e => by have e : b4 = w.heap.size + 1 := e; omega)
      replace hb := hb.trans (hsm.below hb.size (fun i hi e => by have e : i = w.heap.size + 1 := e; omega))
      obtain ⟨ws37, hws37⟩ : ∃ ws37, ws37 = ws35.setCell ⟨w.heap.size + 1, 7, none⟩ (.slice A3 dG.length c3) := ⟨_, rfl⟩
      rw [← hws37] at q1 q2 hn2s hn3s hn4s hb ⊢
      clear hws37 hsm
      refine hKK.out _ _ ?_ (fun hHeld => ?_)
      · exact hb.size
      clear hKK KK
      try simp only [Act.put, List.setIfInBounds_toArray, List.set_cons_zero, List.set_cons_succ]
      refine wpAnyH_take (i := 12) (v := ?vt138) (by simp only [List.getElem?_toArray, List.getElem?_cons_succ, List.getElem?_cons_zero]; rfl) (by kernel_rfl) (by kernel_rfl) (by kernel_rfl) (by exact fun _ _ _ h => h) (Or.inl ⟨by kernel_rfl, ?yt138⟩) hHeld ?_
      case yt138 => (intro ww hSw; (try dsimp only at hSw); clear hSw; go_simp; try (with_reducible rfl))
      try simp only [Act.put, List.setIfInBounds_toArray, List.set_cons_zero, List.set_cons_succ]
      refine wpAnyH_done (by kernel_rfl) ?_ _
      go_wp2_with fail
      go_meet
      exact ⟨_, A2, c2, b2, A3, c3, b3, A4, c4, b4, rfl, rfl, q1, q2, hn2s, hn3s, hn4s, hc4, hb⟩
  case rest =>
    clear q1 q2 hsF hsR hsG hb
    obtain ⟨w2, A2, c2, b2, A3, c3, b3, A4, c4, b4, rfl, rfl, q1, q2, hsF, hsG, hsR, hrc, hb⟩ := hcut
    obtain ⟨f, hf⟩ : ∃ f : Fr, f = ⟨F.epoch, F.seq, F.next, F.bits, F.first, F.last, F.alone, dF⟩ := ⟨_, rfl⟩
    obtain ⟨g, hg⟩ : ∃ g : Fr, g = ⟨G.epoch, G.seq, G.next, G.bits, G.first, G.last, G.alone, dG⟩ := ⟨_, rfl⟩
    replace q1 : w2.heap[w.heap.size]? = some (.cells (f.cells A2 c2) 29 (0, 0)) := by rw [hf]; exact q1
    replace q2 : w2.heap[w.heap.size + 1]? = some (.cells (g.cells A3 c3) 29 (0, 0)) := by rw [hg]; exact q2
    have hfo : f.Ok := by rw [hf]; exact ⟨hOF.e, hOF.s, hOF.n, hOF.b⟩
    replace hsF : Bs w2 b2 A2 f.data := by rw [hf]; exact hsF
    replace hsG : Bs w2 b3 A3 g.data := by rw [hg]; exact hsG
    have hfl : f.data.length ≤ 80 := by rw [hf]; exact hdFl
    have hgl : g.data.length ≤ 80 := by rw [hg]; exact hdGl
    clear hf hg hdFl hdGl hOF hOG hFl hGl HD HRN
    obtain ⟨k0, k1, k2, k3, k4, k5, k6, k7⟩ := boxg_all q1
    have hFB := fun W h => FBytes_any f A2 c2 b2 W hfo h (by omega)
    have hOw := fun W => Own_calls f A2 c2 W
    have hRR := fun W => RRight_calls f A2 c2 W
    go_wp2_with fail
    refine (hFB _ hsF).mono ?_
    rintro e w3 ⟨v, rfl, hrow, h1⟩
    obtain ⟨P, hP⟩ : ∃ P, P = f.bytes := ⟨_, rfl⟩
    rw [← hP] at hrow
    obtain ⟨m, hm⟩ : ∃ m, m = P.length := ⟨_, rfl⟩
    obtain ⟨Ap, cp, bp, rfl, hcp, -, -, -, hsP, -⟩ := hrow.sl
    rw [← hm] at hcp ⊢
    have hml : m = if f.right then 17 + f.data.length else 0 := by rw [hm, hP]; exact bytes_len f
    have hm100 : m ≤ 100 := by rw [hml]; split <;> omega
    replace q1 := box_ext q1 h1
    replace q2 := box_ext q2 h1
    replace hsF := Sl.ext hsF h1
    replace hsG := Sl.ext hsG h1
    replace hsR := Sl.ext hsR h1
    replace hb := hb.trans (h1.mono hb.size)
    clear h1 hrow k0 k1 k2 k3 k4 k5 k6 k7
    obtain ⟨k0, k1, k2, k3, k4, k5, k6, k7⟩ := boxg_all q1
    obtain ⟨z, hz⟩ : ∃ z, z = f.right := ⟨_, rfl⟩
    rw [← hz] at hRR
    have e1 : decide ((m : Int) > 0) = z := by rw [hz, hml, Bool.eq_iff_iff]; cases f.right <;> simp <;> omega
    have e2 : decide (0 < m) = z := by rw [← e1, Bool.eq_iff_iff]; simp
    have e3 : decide (0 < (m : Int)) = z := by rw [← e1]
    have HP := Lib.hid (And.intro hP (And.intro hm hml))
    have HZ := Lib.hid hz
    clear hP hm hml hz
    go_wp2_with fail
    refine (hOw _).mono ?_
    rintro e w4 ⟨rfl, h1⟩
    replace q1 := box_ext q1 h1
    replace q2 := box_ext q2 h1
    replace hsF := Sl.ext hsF h1
    replace hsG := Sl.ext hsG h1
    replace hsR := Sl.ext hsR h1
    replace hsP := Sl.ext hsP h1
    replace hb := hb.trans (h1.mono hb.size)
    clear h1
    go_wp2_with fail
    refine (hRR _).mono ?_
    rintro e w5 ⟨rfl, h1⟩
    replace q1 := box_ext q1 h1
    replace q2 := box_ext q2 h1
    replace hsF := Sl.ext hsF h1
    replace hsG := Sl.ext hsG h1
    replace hsR := Sl.ext hsR h1
    replace hsP := Sl.ext hsP h1
    replace hb := hb.trans (h1.mono hb.size)
    clear h1 k0 k1 k2 k3 k4 k5 k6 k7
    obtain ⟨k0, k1, k2, k3, k4, k5, k6, k7⟩ := boxg_all q1
    have hzz : (z != z) = false := by cases z <;> rfl
    go_upto_if 47 with fail
    go_cut [14] (fun s14 wx => ∃ (wz : World) (T : List UInt8) (A5 : Option Addr) (n5 c5 b5 : Nat), wz = wx ∧ s14 = .slice A5 n5 c5 ∧ T.length = n5 ∧ wz.heap[w.heap.size]? = some (.cells (f.cells A2 c2) 29 (0, 0)) ∧ wz.heap[w.heap.size + 1]? = some (.cells (g.cells A3 c3) 29 (0, 0)) ∧ Bs wz b2 A2 f.data ∧ Bs wz b3 A3 g.data ∧ Bs wz b4 A4 ra ∧ Bs wz bp Ap P ∧ Bs wz b5 A5 T ∧ n5 ≤ c5 ∧ n5 ≤ 200 ∧ Below w.heap.size w wz)
    case first =>
      cases z with
      | false =>
        go_wp2_with fail
        go_meet
        exact ⟨_, ra, A4, _, c4, b4, rfl, rfl, rfl, q1, q2, hsF, hsG, hsR, hsP, hsR, hrc, by omega, hb⟩
      | true =>
        have hfr : f.right = true := HZ.out.symm
        have hPs : P = sealedL f.raw := by rw [HP.out.1]; unfold Fr.bytes; rw [if_pos hfr]
        have hPl : P.length = m := HP.out.2.1.symm
        have hm17 : 17 ≤ m := by have h := HP.out.2.2; rw [if_pos hfr] at h; omega
        have hPO := fun W A c b h hc => FParse_own f P A m c b W hfo hfr h hPs hPl hc
        have hRB := fun W h => RBytes_calls f A2 c2 b2 W hfo hfr h
        clear hPs
        go_wp2_with fail
        refine (hPO _ Ap cp bp hsP hcp).mono ?_
        rintro e w6 ⟨A6, c6, b6, rfl, hsX, h1⟩
        replace q1 := box_ext q1 h1
        replace q2 := box_ext q2 h1
        replace hsF := Sl.ext hsF h1
        replace hsG := Sl.ext hsG h1
        replace hsR := Sl.ext hsR h1
        replace hsP := Sl.ext hsP h1
        replace hb := hb.trans (h1.mono hb.size)
        clear h1 k0 k1 k2 k3 k4 k5 k6 k7
        have h1 := below_alloc1 w6 (.cells #[.int .u16 (f.epoch : Int), .int .u16 (f.seq : Int), .int .u16 (f.next : Int), .int .u32 (f.bits : Int), .bool f.first, .bool f.last, .bool f.alone, .slice A6 f.data.length c6] 29)
        have q3 : (w6.alloc (.cells #[.int .u16 (f.epoch : Int), .int .u16 (f.seq : Int), .int .u16 (f.next : Int), .int .u32 (f.bits : Int), .bool f.first, .bool f.last, .bool f.alone, .slice A6 f.data.length c6] 29)).heap[w6.heap.size]? = some (.cells #[.int .u16 (f.epoch : Int), .int .u16 (f.seq : Int), .int .u16 (f.next : Int), .int .u32 (f.bits : Int), .bool f.first, .bool f.last, .bool f.alone, .slice A6 f.data.length c6] 29 (0, 0)) := heap_alloc_new w6 _
        replace q1 := box_ext q1 h1
        replace q2 := box_ext q2 h1
        replace hsF := Sl.ext hsF h1
        replace hsG := Sl.ext hsG h1
        replace hsR := Sl.ext hsR h1
        replace hsP := Sl.ext hsP h1
        replace hb := hb.trans (h1.mono hb.size)
        replace hsX := Sl.ext hsX h1
        clear h1
        obtain ⟨k0, k1, k2, k3, k4, k5, k6, k7⟩ := boxg_all q1
        go_wp2_with fail
        refine (hOw _).mono ?_
        rintro e w7 ⟨rfl, h1⟩
        replace q1 := box_ext q1 h1
        replace q2 := box_ext q2 h1
        replace hsF := Sl.ext hsF h1
        replace hsG := Sl.ext hsG h1
        replace hsR := Sl.ext hsR h1
        replace hsP := Sl.ext hsP h1
        replace hb := hb.trans (h1.mono hb.size)
        replace hsX := Sl.ext hsX h1
        replace q3 := box_ext q3 h1
        clear h1 k0 k1 k2 k3 k4 k5 k6 k7
        go_wp2_with fail
        refine (hRB _ hsF).mono ?_
        rintro e w8 ⟨v, rfl, hrow, h1⟩
        rw [← show P = sealedL f.raw by rw [HP.out.1]; unfold Fr.bytes; rw [if_pos hfr]] at hrow
        obtain ⟨A8, c8, b8, rfl, hc8, -, -, -, hs8, -⟩ := hrow.sl
        rw [hPl] at hc8 ⊢
        replace q1 := box_ext q1 h1
        replace q2 := box_ext q2 h1
        replace hsF := Sl.ext hsF h1
        replace hsG := Sl.ext hsG h1
        replace hsR := Sl.ext hsR h1
        replace hsP := Sl.ext hsP h1
        replace hb := hb.trans (h1.mono hb.size)
        replace hsX := Sl.ext hsX h1
        replace q3 := box_ext q3 h1
        clear h1 hrow
        have hSm := fun W h1 h2 => Same_yes Ap A8 P m cp c8 bp b8 W h1 h2 hPl (by omega)
        clear hPO hRB hOw hFB
        go_wp2_with fail
        refine (hSm _ hsP hs8).mono ?_
        rintro e w9 ⟨rfl, h1⟩
        replace q1 := box_ext q1 h1
        replace q2 := box_ext q2 h1
        replace hsF := Sl.ext hsF h1
        replace hsG := Sl.ext hsG h1
        replace hsR := Sl.ext hsR h1
        replace hsP := Sl.ext hsP h1
        replace hb := hb.trans (h1.mono hb.size)
        replace hsX := Sl.ext hsX h1
        replace q3 := box_ext q3 h1
        clear h1 hs8 hSm
        obtain ⟨k0, k1, k2, k3, k4, k5, k6, k7⟩ := boxg_all q1
        obtain ⟨j0, j1, j2, j3, j4, j5, j6, j7⟩ := box8_all q3
        have hFS := fun W h1 h2 => FSame_calls f f A6 A2 c6 c2 b6 b2 W h1 h2
        rw [Fr.same_self] at hFS
        go_wp2_with fail
        refine (hFS _ hsX hsF).mono ?_
        rintro e w10 ⟨rfl, h1⟩
        replace q1 := box_ext q1 h1
        replace q2 := box_ext q2 h1
        replace hsF := Sl.ext hsF h1
        replace hsG := Sl.ext hsG h1
        replace hsR := Sl.ext hsR h1
        replace hsP := Sl.ext hsP h1
        replace hb := hb.trans (h1.mono hb.size)
        clear h1 k0 k1 k2 k3 k4 k5 k6 k7 j0 j1 j2 j3 j4 j5 j6 j7 q3 hsX hFS
        have HLT := Lib.hid (And.intro (Bs.lt hsF) (And.intro (Bs.lt hsG) (And.intro (Bs.lt hsR) (Bs.lt hsP))))
        have h1 := below_alloc1 w10 (.cells #[.slice Ap m cp] 27)
        go_wp2_with fail
        refine (Join_calls _ [.slice Ap m cp] [P] 1 1 w10.heap.size _ (Sl.cells_new w10 _ _) ((Bss.cons hsP hPl (Bss.nil_ _)).ext h1) rfl (by simp [maxLen]) (by simp; omega)).mono ?_
        rintro e w11 ⟨v8, rfl, hrow, h8⟩
        have hwl : w10.heap.size ≤ (w10.alloc (.cells #[.slice Ap m cp] 27)).heap.size := by simp
        replace hrow := (hrow.low hwl).cast (show [P].flatten = P by simp)
        have h9 := h1.trans (h8.mono h1.size)
        clear h1
        have h1 := h9
        have hwb := hb.size
        have u1 := box_lt q1
        have u2 := box_lt q2
        replace q1 := box_ext q1 h1
        replace q2 := box_ext q2 h1
        replace hsF := Sl.ext hsF h1
        replace hsG := Sl.ext hsG h1
        replace hsR := Sl.ext hsR h1
        replace hsP := Sl.ext hsP h1
        replace hb := hb.trans (h1.mono hb.size)
        obtain ⟨I, hI⟩ : ∃ I, I = at_ % m := ⟨_, rfl⟩
        have hIl : I < P.length := by rw [hI, hPl]; exact Nat.mod_lt _ (by omega)
        have hIt : (at_ : Int).tmod (m : Int) = (I : Int) := by rw [hI, Int.tmod_eq_emod_of_nonneg (Int.natCast_nonneg _)]; simp
        have hIt2 : (at_ : Int) % (m : Int) = (I : Int) := by rw [hI]; simp
        have hIm : I < m := by rw [← hPl]; exact hIl
        obtain ⟨gg, cap, hv, hBg, hgl, hc, hf, hset⟩ := Row.set_ hrow (k := I) hIl
        rw [hPl] at hv
        subst hv
        have hnc0 : m ≤ cap := (Row.bs_ hrow).2.1
        obtain ⟨x, hx⟩ : ∃ x, x = P[I] := ⟨_, rfl⟩
        rw [← hx] at hc
        have x8 := x.toNat_lt
        have hxo : bits .xor .u8 (x.toNat : Int) (tn : Int) = ((x.toNat ^^^ tn : Nat) : Int) := u8_xor_nat x.toNat tn (by omega) (by omega)
        have HSet := Lib.hid hset
        have HX := Lib.hid hx
        have HG := Lib.hid (And.intro hBg (And.intro hgl (And.intro hwb (And.intro u1 u2))))
        clear hset hrow hx hI h8 h9 hBg hgl hwb u1 u2
        cases md with
        | false =>
          go_wp2_with fail
          obtain ⟨W, hW⟩ : ∃ W, W = w11.setCell ⟨gg, I, none⟩ (.int .u8 ((x.toNat ^^^ tn : Nat) : Int)) := ⟨_, rfl⟩
          rw [← hW]
          obtain ⟨u, hu8⟩ : ∃ u : UInt8, u.toNat = tn := ⟨UInt8.ofNat tn, by simp; omega⟩
          have hrow9 : Row W w10.heap.size (.slice (some ⟨gg, 0, none⟩) m cap) (P.set I (x ^^^ u)) := HSet.out (x ^^^ u) (x.toNat ^^^ tn) W (by rw [UInt8.toNat_xor, hu8]) (by rw [hW])
          obtain ⟨hl9, hnc9, hs9⟩ := Row.bs_ hrow9
          obtain ⟨q, hq⟩ : ∃ q, q = P.set I (x ^^^ u) := ⟨_, rfl⟩
          rw [← hq] at hl9 hs9
          have hsm := Mod.setCell w11 ⟨gg, I, none⟩ (.int .u8 ((x.toNat ^^^ tn : Nat) : Int))
          rw [← hW] at hsm
          obtain ⟨hBg, hgl, hwb, u1, u2⟩ := HG.out
          obtain ⟨y1, y2, y3, y4⟩ := HLT.out
          replace q1 := (hsm.block _ (box_lt q1) (fun e => by have e : w.heap.size = gg := e; omega)).trans q1
          replace q2 := (hsm.block _ (box_lt q2) (fun e => by have e : w.heap.size + 1 = gg := e; omega)).trans q2
          replace hsF := Bs.modne hsF hsm (fun hne e => by have e : b2 = gg := e; have := y1 hne; omega)
          replace hsG := Bs.modne hsG hsm (fun hne e => by have e : b3 = gg := e; have := y2 hne; omega)
          replace hsR := Bs.modne hsR hsm (fun hne e => by have e : b4 = gg := e; have := y3 hne; omega)
          replace hsP := Bs.modne hsP hsm (fun hne e => by have e : bp = gg := e; have := y4 hne; omega)
          replace hb : Below w.heap.size w W := by rw [hW]; exact hb.setCell (by show w.heap.size ≤ gg; omega) _
          clear hW hrow9 hq hsm hc hf hxo hu8 y1 y2 y3 y4
          go_meet
          exact ⟨W, q, _, m, cap, gg, rfl, rfl, hl9, q1, q2, hsF, hsG, hsR, hsP, hs9, hnc9, by omega, hb⟩
        | true =>
          have hm4 : 4 ≤ m := by omega
          obtain ⟨K, hK⟩ : ∃ K, m = K + 4 := ⟨m - 4, by omega⟩
          have hKm : (m : Int) - 4 = (K : Int) := by omega
          have hKc : K ≤ cap := by omega
          have HK := Lib.hid hK
          clear hK
          go_wp2_with fail
          obtain ⟨W, hW⟩ : ∃ W, W = w11.setCell ⟨gg, I, none⟩ (.int .u8 ((x.toNat ^^^ tn : Nat) : Int)) := ⟨_, rfl⟩
          rw [← hW]
          obtain ⟨u, hu8⟩ : ∃ u : UInt8, u.toNat = tn := ⟨UInt8.ofNat tn, by simp; omega⟩
          have hrow9 : Row W w10.heap.size (.slice (some ⟨gg, 0, none⟩) m cap) (P.set I (x ^^^ u)) := HSet.out (x ^^^ u) (x.toNat ^^^ tn) W (by rw [UInt8.toNat_xor, hu8]) (by rw [hW])
          obtain ⟨hl9, hnc9, hs9⟩ := Row.bs_ hrow9
          obtain ⟨q, hq⟩ : ∃ q, q = P.set I (x ^^^ u) := ⟨_, rfl⟩
          rw [← hq] at hl9 hs9
          have hsm := Mod.setCell w11 ⟨gg, I, none⟩ (.int .u8 ((x.toNat ^^^ tn : Nat) : Int))
          rw [← hW] at hsm
          obtain ⟨hBg, hgl, hwb, u1, u2⟩ := HG.out
          obtain ⟨y1, y2, y3, y4⟩ := HLT.out
          replace q1 := (hsm.block _ (box_lt q1) (fun e => by have e : w.heap.size = gg := e; omega)).trans q1
          replace q2 := (hsm.block _ (box_lt q2) (fun e => by have e : w.heap.size + 1 = gg := e; omega)).trans q2
          replace hsF := Bs.modne hsF hsm (fun hne e => by have e : b2 = gg := e; have := y1 hne; omega)
          replace hsG := Bs.modne hsG hsm (fun hne e => by have e : b3 = gg := e; have := y2 hne; omega)
          replace hsR := Bs.modne hsR hsm (fun hne e => by have e : b4 = gg := e; have := y3 hne; omega)
          replace hsP := Bs.modne hsP hsm (fun hne e => by have e : bp = gg := e; have := y4 hne; omega)
          replace hb : Below w.heap.size w W := by rw [hW]; exact hb.setCell (by show w.heap.size ≤ gg; omega) _
          clear hW hrow9 hq hsm hc hf hxo hu8 y1 y2 y3 y4
          have hsK : Bs W gg (some ⟨gg, 0, none⟩) (q.take K) := by have h := Sl.take hs9 K; rwa [bv_take] at h
          have hKl : (q.take K).length = K := by rw [List.length_take, hl9]; have := HK.out; omega
          refine (RefSeal_calls (some ⟨gg, 0, none⟩) (q.take K) K cap gg _ hsK hKl (by omega)).mono ?_
          rintro e w12 ⟨v, rfl, hrow, h1⟩
          obtain ⟨S, hS⟩ : ∃ S, S = sealedL (q.take K) := ⟨_, rfl⟩
          have hSl : S.length ≤ 200 := by rw [hS, sealedL_length, hKl]; omega
          rw [← hS] at hrow
          obtain ⟨A9, c9, b9, rfl, hc9, -, -, -, hs9', -⟩ := hrow.sl
          replace q1 := box_ext q1 h1
          replace q2 := box_ext q2 h1
          replace hsF := Sl.ext hsF h1
          replace hsG := Sl.ext hsG h1
          replace hsR := Sl.ext hsR h1
          replace hsP := Sl.ext hsP h1
          replace hb := hb.trans (h1.mono hb.size)
          clear h1 hrow hS
          go_wp2_with fail
          go_meet
          exact ⟨_, S, A9, _, c9, b9, rfl, rfl, rfl, q1, q2, hsF, hsG, hsR, hsP, hs9', hc9, hSl, hb⟩
    case rest =>
      clear q1 q2 hsF hsG hsR hsP hb k0 k1 k2 k3 k4 k5 k6 k7
      obtain ⟨w6, T, A5, n5, c5, b5, rfl, rfl, hT5, q1, q2, hsF, hsG, hsR, hsP, hsT, hTc, hTl, hb⟩ := hcut
      have ha := below_alloc1 w6 (.cells #[.slice Ap m cp, .slice A4 ra.length c4] 27)
      go_wp2_with fail
      refine (Join_calls _ [.slice Ap m cp, .slice A4 ra.length c4] [P, ra] 2 2 w6.heap.size _ (Sl.cells_new w6 _ _) ((Bss.cons hsP HP.out.2.1.symm (Bss.cons hsR rfl (Bss.nil_ _))).ext ha) rfl (by simp [maxLen]) (by simp; have := HP.out.2.1; omega)).mono ?_
      rintro e w7 ⟨v, rfl, hrow, h1⟩
      obtain ⟨J, hJ⟩ : ∃ J, J = P ++ ra := ⟨_, rfl⟩
      replace hrow := hrow.cast (show [P, ra].flatten = J by simp [hJ])
      have hJl : J.length ≤ 200 := by rw [hJ, List.length_append]; have := HP.out.2.1; omega
      obtain ⟨A7, c7, b7, rfl, hJc, -, -, -, hsJ, -⟩ := hrow.sl
      have h2 := ha.trans (h1.mono ha.size)
      replace q1 := box_ext q1 h2
      replace q2 := box_ext q2 h2
      replace hsF := Sl.ext hsF h2
      replace hsG := Sl.ext hsG h2
      replace hsR := Sl.ext hsR h2
      replace hsT := Sl.ext hsT h2
      replace hb := hb.trans (h2.mono hb.size)
      clear h1 h2 ha hrow hJ hsP
      go_wp2_with fail
      refine (RefSeal_calls A4 ra ra.length c4 b4 _ hsR rfl (by omega)).mono ?_
      rintro e w8 ⟨v, rfl, hrow, h1⟩
      obtain ⟨S, hS⟩ : ∃ S, S = sealedL ra := ⟨_, rfl⟩
      have hSl : S.length ≤ 200 := by rw [hS, sealedL_length]; omega
      rw [← hS] at hrow
      obtain ⟨A8, c8, b8, rfl, hSc, -, -, -, hsS, -⟩ := hrow.sl
      replace q1 := box_ext q1 h1
      replace q2 := box_ext q2 h1
      replace hsF := Sl.ext hsF h1
      replace hsG := Sl.ext hsG h1
      replace hsR := Sl.ext hsR h1
      replace hsT := Sl.ext hsT h1
      replace hsJ := Sl.ext hsJ h1
      replace hb := hb.trans (h1.mono hb.size)
      clear h1 hrow hS
      have ha := below_alloc1 w8 (.cells #[.slice A5 n5 c5, .slice A4 ra.length c4, .slice A7 J.length c7, .slice A8 S.length c8] 27)
      have hqV := heap_alloc_new w8 (.cells #[.slice A5 n5 c5, .slice A4 ra.length c4, .slice A7 J.length c7, .slice A8 S.length c8] 27)
      replace q1 := box_ext q1 ha
      replace q2 := box_ext q2 ha
      replace hsF := Sl.ext hsF ha
      replace hsG := Sl.ext hsG ha
      replace hsR := Sl.ext hsR ha
      replace hsT := Sl.ext hsT ha
      replace hsJ := Sl.ext hsJ ha
      replace hsS := Sl.ext hsS ha
      replace hb := hb.trans (ha.mono hb.size)
      clear ha
      go_wp2_with fail
      obtain ⟨w9, hw9⟩ : ∃ w9, w9 = w8.alloc (.cells #[.slice A5 n5 c5, .slice A4 ra.length c4, .slice A7 J.length c7, .slice A8 S.length c8] 27) := ⟨_, rfl⟩
      obtain ⟨vb, hvb⟩ : ∃ vb, vb = w8.heap.size := ⟨_, rfl⟩
      rw [← hw9] at q1 q2 hsF hsG hsR hsT hsJ hsS hb hqV ⊢
      rw [← hvb] at hqV ⊢
      clear hw9 hvb
      have HT4 : TextsAt w9 vb := TextsAt.mk4 hqV hsT hsR hsJ hsS ⟨hT5, hTc, by omega⟩ ⟨rfl, hrc, by omega⟩ ⟨rfl, hJc, by omega⟩ ⟨rfl, hSc, by omega⟩
      have hOw := fun W => Own_calls f A2 c2 W
      clear hsR hsT hsJ hsS hqV hFB hRR HP HZ hrc hJc hJl hSc hSl hcp hm100 e1 e2 e3 hzz hral hat htn hT5 hTc hTl
      go_loopw [100] (fun i wr => ∃ k : Nat, k ≤ 4 ∧ i = .int .i64 (k : Int) ∧ wr.heap[w.heap.size]? = some (.cells (f.cells A2 c2) 29 (0, 0)) ∧ wr.heap[w.heap.size + 1]? = some (.cells (g.cells A3 c3) 29 (0, 0)) ∧ Bs wr b2 A2 f.data ∧ Bs wr b3 A3 g.data ∧ TextsAt wr vb ∧ Below w.heap.size w wr) (fun i _ => 4 - (intOf i).toNat)
      case atStart => exact ⟨0, by omega, rfl, q1, q2, hsF, hsG, HT4, hb⟩
      case round =>
        obtain ⟨k, hk, rfl, q1, q2, hsF, hsG, hT, hb⟩ := hrel
        by_cases hlt : k < 4
        · obtain ⟨A, l, n, c, b, hcell, hsl, hln, hnc, hn4⟩ := hT.2 k hlt
          obtain ⟨rf, re, hR⟩ : ∃ rf re, (rf, re) = parseF l := ⟨_, _, rfl⟩
          have hPA := fun W h => Parse_lit A l n c b W h hln hnc (by omega) rf re hR
          have hRP := fun W h => RParse_lit A l n c b W h hln hnc (by omega) rf re hR
          have hrl : rf.data.length ≤ 64 := by have h := parseF_len l; rw [← hR] at h; exact h
          have hne : ((re : Int) != (re : Int)) = false := by simp
          have hlt' : (k : Int) < 4 := by omega
          have HL := Lib.hid (And.intro hln (And.intro hnc hn4))
          clear hln hnc hn4 hR HT4
          go_wp2_with fail
          refine (hPA _ hsl).mono ?_
          rintro e w10 ⟨A6, c6, b6, rfl, hsX, h1⟩
          replace q1 := box_ext q1 h1
          replace q2 := box_ext q2 h1
          replace hsF := Sl.ext hsF h1
          replace hsG := Sl.ext hsG h1
          replace hsl := Sl.ext hsl h1
          replace hT := hT.ext h1
          replace hb := hb.trans (h1.mono hb.size)
          clear h1 hcell hPA
          have h1 := below_alloc1 w10 (.cells #[.int .u16 (rf.epoch : Int), .int .u16 (rf.seq : Int), .int .u16 (rf.next : Int), .int .u32 (rf.bits : Int), .bool rf.first, .bool rf.last, .bool rf.alone, .slice A6 rf.data.length c6] 29)
          have q3 : (w10.alloc (.cells #[.int .u16 (rf.epoch : Int), .int .u16 (rf.seq : Int), .int .u16 (rf.next : Int), .int .u32 (rf.bits : Int), .bool rf.first, .bool rf.last, .bool rf.alone, .slice A6 rf.data.length c6] 29)).heap[w10.heap.size]? = some (.cells #[.int .u16 (rf.epoch : Int), .int .u16 (rf.seq : Int), .int .u16 (rf.next : Int), .int .u32 (rf.bits : Int), .bool rf.first, .bool rf.last, .bool rf.alone, .slice A6 rf.data.length c6] 29 (0, 0)) := heap_alloc_new w10 _
          replace q1 := box_ext q1 h1
          replace q2 := box_ext q2 h1
          replace hsF := Sl.ext hsF h1
          replace hsG := Sl.ext hsG h1
          replace hsl := Sl.ext hsl h1
          replace hsX := Sl.ext hsX h1
          replace hT := hT.ext h1
          replace hb := hb.trans (h1.mono hb.size)
          clear h1
          go_wp2_with fail
          obtain ⟨xb, hxb⟩ : ∃ xb, xb = w10.heap.size := ⟨_, rfl⟩
          obtain ⟨w11, hw11⟩ : ∃ w11, w11 = w10.alloc (.cells #[.int .u16 (rf.epoch : Int), .int .u16 (rf.seq : Int), .int .u16 (rf.next : Int), .int .u32 (rf.bits : Int), .bool rf.first, .bool rf.last, .bool rf.alone, .slice A6 rf.data.length c6] 29) := ⟨_, rfl⟩
          rw [← hw11] at q1 q2 q3 hsF hsG hsl hsX hT hb ⊢
          rw [← hxb] at q3 ⊢
          clear hw11 hxb
          refine (hRP _ hsl).mono ?_
          rintro e w12 ⟨A7, c7, b7, rfl, hsY, h1⟩
          replace q1 := box_ext q1 h1
          replace q2 := box_ext q2 h1
          replace q3 := box_ext q3 h1
          replace hsF := Sl.ext hsF h1
          replace hsG := Sl.ext hsG h1
          replace hsX := Sl.ext hsX h1
          replace hT := hT.ext h1
          replace hb := hb.trans (h1.mono hb.size)
          clear h1 hsl hRP
          have h1 := below_alloc1 w12 (.cells #[.int .u16 (rf.epoch : Int), .int .u16 (rf.seq : Int), .int .u16 (rf.next : Int), .int .u32 (rf.bits : Int), .bool rf.first, .bool rf.last, .bool rf.alone, .slice A7 rf.data.length c7] 35)
          have q4 : (w12.alloc (.cells #[.int .u16 (rf.epoch : Int), .int .u16 (rf.seq : Int), .int .u16 (rf.next : Int), .int .u32 (rf.bits : Int), .bool rf.first, .bool rf.last, .bool rf.alone, .slice A7 rf.data.length c7] 35)).heap[w12.heap.size]? = some (.cells #[.int .u16 (rf.epoch : Int), .int .u16 (rf.seq : Int), .int .u16 (rf.next : Int), .int .u32 (rf.bits : Int), .bool rf.first, .bool rf.last, .bool rf.alone, .slice A7 rf.data.length c7] 35 (0, 0)) := heap_alloc_new w12 _
          replace q1 := box_ext q1 h1
          replace q2 := box_ext q2 h1
          replace q3 := box_ext q3 h1
          replace hsF := Sl.ext hsF h1
          replace hsG := Sl.ext hsG h1
          replace hsX := Sl.ext hsX h1
          replace hsY := Sl.ext hsY h1
          replace hT := hT.ext h1
          replace hb := hb.trans (h1.mono hb.size)
          clear h1
          have hOX := fun W => Own_calls rf A6 c6 W
          have hSX := fun W h1 h2 => RSame_calls rf rf A6 A7 c6 c7 b6 b7 W h1 h2 (by have := hrl; simp only [maxLen]; omega) (by have := hrl; simp only [maxLen]; omega)
          rw [Fr.same_self] at hSX
          go_wp2_with fail
          obtain ⟨yb, hyb⟩ : ∃ yb, yb = w12.heap.size := ⟨_, rfl⟩
          obtain ⟨w13, hw13⟩ : ∃ w13, w13 = w12.alloc (.cells #[.int .u16 (rf.epoch : Int), .int .u16 (rf.seq : Int), .int .u16 (rf.next : Int), .int .u32 (rf.bits : Int), .bool rf.first, .bool rf.last, .bool rf.alone, .slice A7 rf.data.length c7] 35) := ⟨_, rfl⟩
          rw [← hw13] at q1 q2 q3 q4 hsF hsG hsX hsY hT hb ⊢
          rw [← hyb] at q4 ⊢
          clear hw13 hyb
          refine wp_region_held_drew (S := fun w0 => w0.heap[xb]? = some (.cells #[.int .u16 (rf.epoch : Int), .int .u16 (rf.seq : Int), .int .u16 (rf.next : Int), .int .u32 (rf.bits : Int), .bool rf.first, .bool rf.last, .bool rf.alone, .slice A6 rf.data.length c6] 29 (0, 0)) ∧ w0.heap[yb]? = some (.cells #[.int .u16 (rf.epoch : Int), .int .u16 (rf.seq : Int), .int .u16 (rf.next : Int), .int .u32 (rf.bits : Int), .bool rf.first, .bool rf.last, .bool rf.alone, .slice A7 rf.data.length c7] 35 (0, 0))) (by kernel_rfl) ?_ (fun hHeld => ?_)
          · exact And.intro q3 q4
          obtain ⟨wd40, hwd40⟩ : ∃ wd40, wd40 = World.drew w13 := ⟨_, rfl⟩
          have h9 : Below w13.heap.size w13 wd40 := by rw [hwd40]; exact below_drew (Below.refl _ _)
          rw [← hwd40] at hHeld ⊢
          replace q1 := box_ext q1 h9
          replace q2 := box_ext q2 h9
          replace q3 := box_ext q3 h9
          replace q4 := box_ext q4 h9
          replace hsF := Sl.ext hsF h9
          replace hsG := Sl.ext hsG h9
          replace hsX := Sl.ext hsX h9
          replace hsY := Sl.ext hsY h9
          replace hT := hT.ext h9
          replace hb := hb.trans (h9.mono hb.size)
          clear h9
          clear hwd40
          refine wpAnyH_take (i := 0) (v := ?vt3941) (by simp only [List.getElem?_toArray, List.getElem?_cons_zero]; rfl) (by kernel_rfl) (by kernel_rfl) (by kernel_rfl) (by exact fun _ _ _ h => h) (Or.inl ⟨by kernel_rfl, ?yt3941⟩) hHeld ?_
          case yt3941 => (intro ww hSw; (try dsimp only at hSw); clear hSw; go_simp; try (with_reducible rfl))
          try simp only [Act.put, List.setIfInBounds_toArray, List.set_cons_zero, List.set_cons_succ]
          refine wpAnyH_take (i := 1) (v := ?vt3942) (by simp only [List.getElem?_toArray, List.getElem?_cons_succ, List.getElem?_cons_zero]; rfl) (by kernel_rfl) (by kernel_rfl) (by kernel_rfl) (by exact fun _ _ _ h => h) (Or.inl ⟨by kernel_rfl, ?yt3942⟩) hHeld ?_
          case yt3942 => (intro ww hSw; (try dsimp only at hSw); clear hSw; go_simp; try (with_reducible rfl))
          try simp only [Act.put, List.setIfInBounds_toArray, List.set_cons_zero, List.set_cons_succ]
          refine wpAnyH_take (i := 2) (v := ?vt3943) (by simp only [List.getElem?_toArray, List.getElem?_cons_succ, List.getElem?_cons_zero]; rfl) (by kernel_rfl) (by kernel_rfl) (by kernel_rfl) (by exact fun _ _ _ h => h) (Or.inl ⟨by kernel_rfl, ?yt3943⟩) hHeld ?_
          case yt3943 => (intro ww hSw; (try dsimp only at hSw); clear hSw; go_simp; try (with_reducible rfl))
          try simp only [Act.put, List.setIfInBounds_toArray, List.set_cons_zero, List.set_cons_succ]
          refine wpAnyH_take (i := 3) (v := ?vt3944) (by simp only [List.getElem?_toArray, List.getElem?_cons_succ, List.getElem?_cons_zero]; rfl) (by kernel_rfl) (by kernel_rfl) (by kernel_rfl) (by exact fun _ _ _ h => h) (Or.inl ⟨by kernel_rfl, ?yt3944⟩) hHeld ?_
          case yt3944 => (intro ww hSw; (try dsimp only at hSw); clear hSw; go_simp; try (with_reducible rfl))
          try simp only [Act.put, List.setIfInBounds_toArray, List.set_cons_zero, List.set_cons_succ]
          refine wpAnyH_take (i := 4) (v := ?vt3945) (by simp only [List.getElem?_toArray, List.getElem?_cons_succ, List.getElem?_cons_zero]; rfl) (by kernel_rfl) (by kernel_rfl) (by kernel_rfl) (by exact fun _ _ _ h => h) (Or.inl ⟨by kernel_rfl, ?yt3945⟩) hHeld ?_
          case yt3945 => (intro ww hSw; (try dsimp only at hSw); obtain ⟨s0, s1, s2, s3, s4, s5, s6, s7⟩ := box8_all hSw.1; obtain ⟨z0, z1, z2, z3, z4, z5, z6, z7⟩ := box8_all hSw.2; go_simp; try (with_reducible rfl))
          try simp only [Act.put, List.setIfInBounds_toArray, List.set_cons_zero, List.set_cons_succ]
          refine wpAnyH_take (i := 6) (v := ?vt3946) (by simp only [List.getElem?_toArray, List.getElem?_cons_succ, List.getElem?_cons_zero]; rfl) (by kernel_rfl) (by kernel_rfl) (by kernel_rfl) (by exact fun _ _ _ h => h) (Or.inl ⟨by kernel_rfl, ?yt3946⟩) hHeld ?_
          case yt3946 => (intro ww hSw; (try dsimp only at hSw); obtain ⟨s0, s1, s2, s3, s4, s5, s6, s7⟩ := box8_all hSw.1; obtain ⟨z0, z1, z2, z3, z4, z5, z6, z7⟩ := box8_all hSw.2; go_simp; try (with_reducible rfl))
          try simp only [Act.put, List.setIfInBounds_toArray, List.set_cons_zero, List.set_cons_succ]
          refine wpAnyH_ready (rs := [5]) (by kernel_rfl) (by simp) ?_
          refine AllReadyH.cons (by simp only [List.getElem?_toArray, List.getElem?_cons_succ, List.getElem?_cons_zero]; rfl) (fun KK hKK => ?_) AllReadyH.nil
          rw [if_pos (by kernel_rfl)]
          go_simp
          (with_reducible refine (hOX _).mono ?_)
          rintro e wc48 ⟨rfl, g47⟩
          replace q1 := box_ext q1 g47
          replace q2 := box_ext q2 g47
          replace q3 := box_ext q3 g47
          replace q4 := box_ext q4 g47
          replace hsF := Sl.ext hsF g47
          replace hsG := Sl.ext hsG g47
          replace hsX := Sl.ext hsX g47
          replace hsY := Sl.ext hsY g47
          replace hT := hT.ext g47
          replace hb := hb.trans (g47.mono hb.size)
          clear g47
          go_wp2_with fail
          refine hKK.out _ _ ?_ (fun hHeld => ?_)
          · exact And.intro q3 q4
          clear hKK KK
          try simp only [Act.put, List.setIfInBounds_toArray, List.set_cons_zero, List.set_cons_succ]
          refine wpAnyH_ready (rs := [7]) (by kernel_rfl) (by simp) ?_
          refine AllReadyH.cons (by simp only [List.getElem?_toArray, List.getElem?_cons_succ, List.getElem?_cons_zero]; rfl) (fun KK hKK => ?_) AllReadyH.nil
          rw [if_pos (by kernel_rfl)]
          go_simp
          (with_reducible refine (hSX _ hsX hsY).mono ?_)
          rintro e wc50 ⟨rfl, g49⟩
          replace q1 := box_ext q1 g49
          replace q2 := box_ext q2 g49
          replace q3 := box_ext q3 g49
          replace q4 := box_ext q4 g49
          replace hsF := Sl.ext hsF g49
          replace hsG := Sl.ext hsG g49
          replace hsX := Sl.ext hsX g49
          replace hsY := Sl.ext hsY g49
          replace hT := hT.ext g49
          replace hb := hb.trans (g49.mono hb.size)
          clear g49
          go_wp2_with fail
          refine hKK.out _ _ ?_ (fun hHeld => ?_)
          · exact And.intro q3 q4
          clear hKK KK
          try simp only [Act.put, List.setIfInBounds_toArray, List.set_cons_zero, List.set_cons_succ]
          refine wpAnyH_take (i := 8) (v := ?vt3951) (by simp only [List.getElem?_toArray, List.getElem?_cons_succ, List.getElem?_cons_zero]; rfl) (by kernel_rfl) (by kernel_rfl) (by kernel_rfl) (by exact fun _ _ _ h => h) (Or.inl ⟨by kernel_rfl, ?yt3951⟩) hHeld ?_
          case yt3951 => (intro ww hSw; (try dsimp only at hSw); clear hSw; go_simp; try (with_reducible rfl))
          try simp only [Act.put, List.setIfInBounds_toArray, List.set_cons_zero, List.set_cons_succ]
          refine wpAnyH_take (i := 9) (v := ?vt3952) (by simp only [List.getElem?_toArray, List.getElem?_cons_succ, List.getElem?_cons_zero]; rfl) (by kernel_rfl) (by kernel_rfl) (by kernel_rfl) (by exact fun _ _ _ h => h) (Or.inl ⟨by kernel_rfl, ?yt3952⟩) hHeld ?_
          case yt3952 => (intro ww hSw; (try dsimp only at hSw); clear hSw; go_simp; try (with_reducible rfl))
          try simp only [Act.put, List.setIfInBounds_toArray, List.set_cons_zero, List.set_cons_succ]
          refine wpAnyH_done (by kernel_rfl) ?_ _
          go_wp2_with fail
          refine ⟨⟨k + 1, by omega, by go_num, q1, q2, hsF, hsG, hT, hb⟩, by simp [intOf]; omega⟩
        · obtain rfl : k = 4 := by omega
          clear hT HT4
          obtain ⟨Z, hZ⟩ : ∃ Z, Z = f.same g := ⟨_, rfl⟩
          have hOg := fun W => Own_calls g A3 c3 W
          have hFS := fun W h1 h2 => FSame_calls f g A2 A3 c2 c3 b2 b3 W h1 h2
          have hRS := fun W h1 h2 => RSame_calls f g A2 A3 c2 c3 b2 b3 W h1 h2 (by simp only [maxLen]; omega) (by simp only [maxLen]; omega)
          rw [← hZ] at hFS hRS
          have hzz : (Z == Z) = true := by simp
          clear hZ hlt
          go_wp2_with fail
          refine wp_region_held_drew (S := fun w0 => w0.heap[w.heap.size]? = some (.cells (f.cells A2 c2) 29 (0, 0)) ∧ w0.heap[w.heap.size + 1]? = some (.cells (g.cells A3 c3) 29 (0, 0))) (by kernel_rfl) ?_ (fun hHeld => ?_)
          · exact And.intro q1 q2
          obtain ⟨wd54, hwd54⟩ : ∃ wd54, wd54 = World.drew wr := ⟨_, rfl⟩
          have h9 : Below wr.heap.size wr wd54 := by rw [hwd54]; exact below_drew (Below.refl _ _)
          rw [← hwd54] at hHeld ⊢
          replace q1 := box_ext q1 h9
          replace q2 := box_ext q2 h9
          replace hsF := Sl.ext hsF h9
          replace hsG := Sl.ext hsG h9
          replace hb := hb.trans (h9.mono hb.size)
          clear h9
          clear hwd54
          refine wpAnyH_take (i := 0) (v := ?vt5355) (by simp only [List.getElem?_toArray, List.getElem?_cons_zero]; rfl) (by kernel_rfl) (by kernel_rfl) (by kernel_rfl) (by exact fun _ _ _ h => h) (Or.inl ⟨by kernel_rfl, ?yt5355⟩) hHeld ?_
          case yt5355 => (intro ww hSw; (try dsimp only at hSw); obtain ⟨s0, s1, s2, s3, s4, s5, s6, s7⟩ := boxg_all hSw.1; obtain ⟨z0, z1, z2, z3, z4, z5, z6, z7⟩ := boxg_all hSw.2; go_simp; try (with_reducible rfl))
          try simp only [Act.put, List.setIfInBounds_toArray, List.set_cons_zero, List.set_cons_succ]
          refine wpAnyH_take (i := 1) (v := ?vt5356) (by simp only [List.getElem?_toArray, List.getElem?_cons_succ, List.getElem?_cons_zero]; rfl) (by kernel_rfl) (by kernel_rfl) (by kernel_rfl) (by exact fun _ _ _ h => h) (Or.inl ⟨by kernel_rfl, ?yt5356⟩) hHeld ?_
          case yt5356 => (intro ww hSw; (try dsimp only at hSw); obtain ⟨s0, s1, s2, s3, s4, s5, s6, s7⟩ := boxg_all hSw.1; obtain ⟨z0, z1, z2, z3, z4, z5, z6, z7⟩ := boxg_all hSw.2; go_simp; try (with_reducible rfl))
          try simp only [Act.put, List.setIfInBounds_toArray, List.set_cons_zero, List.set_cons_succ]
          refine wpAnyH_take (i := 3) (v := ?vt5357) (by simp only [List.getElem?_toArray, List.getElem?_cons_succ, List.getElem?_cons_zero]; rfl) (by kernel_rfl) (by kernel_rfl) (by kernel_rfl) (by exact fun _ _ _ h => h) (Or.inl ⟨by kernel_rfl, ?yt5357⟩) hHeld ?_
          case yt5357 => (intro ww hSw; (try dsimp only at hSw); obtain ⟨s0, s1, s2, s3, s4, s5, s6, s7⟩ := boxg_all hSw.1; obtain ⟨z0, z1, z2, z3, z4, z5, z6, z7⟩ := boxg_all hSw.2; go_simp; try (with_reducible rfl))
          try simp only [Act.put, List.setIfInBounds_toArray, List.set_cons_zero, List.set_cons_succ]
          refine wpAnyH_take (i := 5) (v := ?vt5358) (by simp only [List.getElem?_toArray, List.getElem?_cons_succ, List.getElem?_cons_zero]; rfl) (by kernel_rfl) (by kernel_rfl) (by kernel_rfl) (by exact fun _ _ _ h => h) (Or.inl ⟨by kernel_rfl, ?yt5358⟩) hHeld ?_
          case yt5358 => (intro ww hSw; (try dsimp only at hSw); obtain ⟨s0, s1, s2, s3, s4, s5, s6, s7⟩ := boxg_all hSw.1; obtain ⟨z0, z1, z2, z3, z4, z5, z6, z7⟩ := boxg_all hSw.2; go_simp; try (with_reducible rfl))
          try simp only [Act.put, List.setIfInBounds_toArray, List.set_cons_zero, List.set_cons_succ]
          refine wpAnyH_ready (rs := [2]) (by kernel_rfl) (by simp) ?_
          refine AllReadyH.cons (by simp only [List.getElem?_toArray, List.getElem?_cons_succ, List.getElem?_cons_zero]; rfl) (fun KK hKK => ?_) AllReadyH.nil
          rw [if_pos (by kernel_rfl)]
          go_simp
          (with_reducible refine (hFS _ hsF hsG).mono ?_)
          rintro e wc60 ⟨rfl, g59⟩
          replace q1 := box_ext q1 g59
          replace q2 := box_ext q2 g59
          replace hsF := Sl.ext hsF g59
          replace hsG := Sl.ext hsG g59
          replace hb := hb.trans (g59.mono hb.size)
          clear g59
          go_wp2_with fail
          refine hKK.out _ _ ?_ (fun hHeld => ?_)
          · exact And.intro q1 q2
          clear hKK KK
          try simp only [Act.put, List.setIfInBounds_toArray, List.set_cons_zero, List.set_cons_succ]
          refine wpAnyH_ready (rs := [4]) (by kernel_rfl) (by simp) ?_
          refine AllReadyH.cons (by simp only [List.getElem?_toArray, List.getElem?_cons_succ, List.getElem?_cons_zero]; rfl) (fun KK hKK => ?_) AllReadyH.nil
          rw [if_pos (by kernel_rfl)]
          go_simp
          (with_reducible refine (hOw _).mono ?_)
          rintro e wc62 ⟨rfl, g61⟩
          replace q1 := box_ext q1 g61
          replace q2 := box_ext q2 g61
          replace hsF := Sl.ext hsF g61
          replace hsG := Sl.ext hsG g61
          replace hb := hb.trans (g61.mono hb.size)
          clear g61
          go_wp2_with fail
          refine hKK.out _ _ ?_ (fun hHeld => ?_)
          · exact And.intro q1 q2
          clear hKK KK
          try simp only [Act.put, List.setIfInBounds_toArray, List.set_cons_zero, List.set_cons_succ]
          refine wpAnyH_ready (rs := [6]) (by kernel_rfl) (by simp) ?_
          refine AllReadyH.cons (by simp only [List.getElem?_toArray, List.getElem?_cons_succ, List.getElem?_cons_zero]; rfl) (fun KK hKK => ?_) AllReadyH.nil
          rw [if_pos (by kernel_rfl)]
          go_simp
          (with_reducible refine (hOg _).mono ?_)
          rintro e wc64 ⟨rfl, g63⟩
          replace q1 := box_ext q1 g63
          replace q2 := box_ext q2 g63
          replace hsF := Sl.ext hsF g63
          replace hsG := Sl.ext hsG g63
          replace hb := hb.trans (g63.mono hb.size)
          clear g63
          go_wp2_with fail
          refine hKK.out _ _ ?_ (fun hHeld => ?_)
          · exact And.intro q1 q2
          clear hKK KK
          try simp only [Act.put, List.setIfInBounds_toArray, List.set_cons_zero, List.set_cons_succ]
          refine wpAnyH_ready (rs := [7]) (by kernel_rfl) (by simp) ?_
          refine AllReadyH.cons (by simp only [List.getElem?_toArray, List.getElem?_cons_succ, List.getElem?_cons_zero]; rfl) (fun KK hKK => ?_) AllReadyH.nil
          rw [if_pos (by kernel_rfl)]
          go_simp
          (with_reducible refine (hRS _ hsF hsG).mono ?_)
          rintro e wc66 ⟨rfl, g65⟩
          replace q1 := box_ext q1 g65
          replace q2 := box_ext q2 g65
          replace hsF := Sl.ext hsF g65
          replace hsG := Sl.ext hsG g65
          replace hb := hb.trans (g65.mono hb.size)
          clear g65
          go_wp2_with fail
          refine hKK.out _ _ ?_ (fun hHeld => ?_)
          · exact And.intro q1 q2
          clear hKK KK
          try simp only [Act.put, List.setIfInBounds_toArray, List.set_cons_zero, List.set_cons_succ]
          refine wpAnyH_take (i := 8) (v := ?vt5367) (by simp only [List.getElem?_toArray, List.getElem?_cons_succ, List.getElem?_cons_zero]; rfl) (by kernel_rfl) (by kernel_rfl) (by kernel_rfl) (by exact fun _ _ _ h => h) (Or.inl ⟨by kernel_rfl, ?yt5367⟩) hHeld ?_
          case yt5367 => (intro ww hSw; (try dsimp only at hSw); clear hSw; go_simp; try (with_reducible rfl))
          try simp only [Act.put, List.setIfInBounds_toArray, List.set_cons_zero, List.set_cons_succ]
          refine wpAnyH_take (i := 9) (v := ?vt5368) (by simp only [List.getElem?_toArray, List.getElem?_cons_succ, List.getElem?_cons_zero]; rfl) (by kernel_rfl) (by kernel_rfl) (by kernel_rfl) (by exact fun _ _ _ h => h) (Or.inl ⟨by kernel_rfl, ?yt5368⟩) hHeld ?_
          case yt5368 => (intro ww hSw; (try dsimp only at hSw); clear hSw; go_simp; try (with_reducible rfl))
          try simp only [Act.put, List.setIfInBounds_toArray, List.set_cons_zero, List.set_cons_succ]
          refine wpAnyH_done (by kernel_rfl) ?_ _
          go_wp2_with fail
          go_ret
          exact ⟨rfl, hb⟩
end Go.Proofs.Ytbkimknfhpbcfaa
