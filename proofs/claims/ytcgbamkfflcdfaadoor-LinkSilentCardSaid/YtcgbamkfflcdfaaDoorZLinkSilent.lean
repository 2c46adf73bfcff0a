/- LinkSilent: the walk. Conditions: the numbers fit; the library's table lies as it lays it. -/
import Derived.Test.YtcgbamkfflcdfaaDoorZLkBasf
import Derived.Test.YtcgbamkfflcdfaaDoorZRefCut
import Derived.Laws.BitsAllLaws
namespace Go.Proofs.YtcgbamkfflcdfaaDoor
open Go.RowKit
set_option linter.unusedVariables false

theorem same_yes (A B : Option Addr) (l : List UInt8) (n ca cb ba bb : Nat) (w : World) (ha : Bs w ba A l) (hb : Bs w bb B l) (hn : l.length = n) (h1 : n ≤ 2000) :
    Calls Tryd.prog 21 #[.slice A n ca, .slice B n cb] w fun e w' => e = .returned (.bool true) ∧ ∃ k, w' = w.drewN k := by
  have h := Same_calls A B l l n n ca cb ba bb w ha hb hn hn (by simp only [maxLen]; omega) (by simp only [maxLen]; omega)
  rw [decide_eq_true (rfl : l = l)] at h
  exact h
theorem rowsIn_le {w : World} {B : Nat} {us : List Value} {ls : List (List UInt8)} (h : RowsIn w B us ls) : ∀ l ∈ ls, l.length ≤ maxLen := by
  intro l hl
  obtain ⟨i, hi, rfl⟩ := List.getElem_of_mem hl
  obtain ⟨u, -, hr⟩ := h.2 i _ (List.getElem?_eq_getElem hi)
  obtain ⟨A, c, b, -, h1, h2, -⟩ := hr.sl
  omega
theorem same_rows {w : World} {C C' D D' n c c' : Nat} {A A' : Option Addr} {us us' : List Value} {ls : List (List UInt8)} (h : RowS w C (.slice A n c) us) (hI : RowsIn w D us ls) (h' : RowS w C' (.slice A' n c') us') (hI' : RowsIn w D' us' ls) (hn : ls.length = n) (hm : n ≤ 1000000) :
    Calls Tryd.prog 19 #[.slice A n c, .slice A' n c'] w fun e w' => e = .returned (.bool true) ∧ ∃ k, w' = w.drewN k := by
  obtain ⟨A1, c1, b1, hv1, -, -, -, hs1, -⟩ := RowS.sl h
  obtain ⟨A2, c2, b2, hv2, -, -, -, hs2, -⟩ := RowS.sl h'
  injection hv1 with e1
  injection hv2 with e2
  subst e1 e2
  have h9 := SameL_calls A A' us us' ls ls n n c c' b1 b2 w hs1 hs2 hI.bss hI'.bss hn hn hm (rowsIn_le hI) (rowsIn_le hI)
  rw [decide_eq_true rfl] at h9
  exact h9
theorem drain_len (s : Kp) (t m : Nat) : (drainK s t m).out.length ≤ s.out.length + m := by
  induction m with
  | zero => exact Nat.le_refl _
  | succ m ih =>
    show (putK (drainK s t m) ((t + m) % 65536)).out.length ≤ _
    unfold putK
    simp only
    split
    · simp only [List.length_append, List.length_cons, List.length_nil]; omega
    · omega
theorem take_len (p : Pk) (f : Fr) : (takeP p f).2.1.length ≤ 65536 := by
  unfold takeP
  split
  · simp
  · split
    · simp
    · have h := drain_len (firstK p f) p.L.cn (aheadN p.L.cn (by assumption))
      rename_i x y heq
      have h := drain_len (firstK p f) p.L.cn (aheadN p.L.cn x)
      have h2 : aheadN p.L.cn x < 65536 := by unfold aheadN; exact Nat.mod_lt _ (by decide)
      have h3 : (firstK p f).out.length = 0 := rfl
      simp only
      omega
theorem ToldZ.capM {w : World} {Z : Nat → Prop} {A : Option Addr} {n c : Nat} {us : List Value} {fs : List Fr} (h : ToldZ w Z A n c us fs) : n ≤ maxLen := by
  obtain ⟨C, t⟩ := h.t
  obtain ⟨A3, c3, b, hv, h1, h2, -⟩ := RowS.sl t.row
  injection hv with e1 e2 e3
  omega
/-- An act in a variable. -/
def ActX (w : World) (g : Nat) (x : AV) : Prop := w.heap[g]? = some (.cells x.cells.toArray 49 (0, 0))
theorem ActX.lt {w : World} {g : Nat} {x : AV} (h : ActX w g x) : g < w.heap.size := (Array.getElem?_eq_some_iff.1 h).1
theorem ActX.ext {w w' : World} {g : Nat} {x : AV} (h : ActX w g x) (hm : Below w.heap.size w w') : ActX w' g x := (hm.block g h.lt).trans h
theorem ActX.kept {w w' : World} {g B : Nat} {Z : Nat → Prop} {x : AV} (h : ActX w g x) (hk : Kept B Z w w') (hz : Z g) : ActX w' g x := by
  obtain ⟨S, hm, h1, -⟩ := hk.out
  exact (hm.block g h.lt (fun hh => h1 g hh hz)).trans h
theorem ActX.n {w : World} {g : Nat} {x : AV} (h : ActX w g x) : w.cell? ⟨g, 1, none⟩ = some (.int .u16 (x.n : Int)) := by rw [cell_of_row w g 1 _ _ _ h]; rfl
theorem ActX.b {w : World} {g : Nat} {x : AV} (h : ActX w g x) : w.cell? ⟨g, 2, none⟩ = some (.int .u8 (x.b : Int)) := by rw [cell_of_row w g 2 _ _ _ h]; rfl
theorem L2.fence1 {w w' : World} {Ba ga na Bb gb nb : Nat} {pa pb : Pk} {Z : Nat → Prop} (h : L2 w Ba ga pa na Bb gb pb nb Z Z) (hm : Below w.heap.size w w') : ∃ Z' : Nat → Prop, L2 w' Ba ga pa na Bb gb pb nb Z' Z' ∧ (∀ i, Z i → Z' i) ∧ (∀ i, w.heap.size ≤ i → i < w'.heap.size → Z' i) :=
  ⟨_, h.fence hm, fun i hi => .inl hi, fun i h1 h2 => .inr ⟨h1, h2⟩⟩
theorem Kept.rowS {B C : Nat} {Z : Nat → Prop} {w w' : World} {v : Value} {us : List Value} (hk : Kept B Z w w') (h : RowS w C v us) (hz : ∀ k, v.ownBlock = some k → Z k) : RowS w' C v us := by
  obtain ⟨S, hm, h1, -⟩ := hk.out
  exact h.mod hm (fun k hk hh => h1 k hh (hz k hk))
theorem Kept.rowsIn {B C : Nat} {Z : Nat → Prop} {w w' : World} {us : List Value} {ls : List (List UInt8)} (hk : Kept B Z w w') (h : RowsIn w C us ls) (hz : ∀ u ∈ us, ∀ k, u.ownBlock = some k → Z k) : RowsIn w' C us ls := by
  obtain ⟨S, hm, h1, -⟩ := hk.out
  exact ⟨h.1, fun i l hl => by
    obtain ⟨u, k1, k2⟩ := h.2 i l hl
    exact ⟨u, k1, k2.mod hm (fun k hk hh => h1 k hh (hz u (List.mem_of_getElem? k1) k hk))⟩⟩
theorem bytesG_at (n b : Nat) (J : Int) (hJ : J = (b : Int)) (w : World) (hn : n ≤ 65535) (hb : b ≤ 255) :
    Calls Tryd.prog 14 #[.int .u16 (n : Int), .int .u8 J] w fun e w' => ∃ c bb, e = .returned (.slice (some ⟨bb, 0, none⟩) (n % 1100) c) ∧ n % 1100 ≤ c ∧ c ≤ maxLen ∧ Bs w' bb (some ⟨bb, 0, none⟩) (bytesN (n % 1100) b) ∧ w.heap.size ≤ bb ∧ Below w.heap.size w w' := by
  subst hJ
  exact bytesF_calls n b w hn hb
section
variable {ops : Array Oper} {S : World → Prop} {op : Oper} {a : Act}
theorem yk_ld8 (hw : Region.wanted op (yielded ops a.tmps) = true) (x : Operand) (ho : op.op = .load 5 x) (p : Addr) (v : Value) (hx : a.eval x = .pointer (some p)) (hS : ∀ w, S w → w.cell? p = some v) : YieldsIf Tryd.prog ops S op v a :=
  .inl ⟨hw, fun w h => by
    have hc := hS w h
    unfold execOp
    simp only [ho, hx]
    go_simp⟩
end
set_option maxHeartbeats 16000000 in
set_option maxRecDepth 20000 in
theorem LinkSilent_walk (ep : Nat) (A : Option Addr) (xs : List AV) (N c b : Nat) (turn : Nat) (w : World) (hTab : Tab w) (h1 : ep ≤ 65535) (hO : ∀ x ∈ xs, AV.In w x) (hl : xs.length = N) (hm : N ≤ maxLen) (hs : Sl w b A (avv xs)) (h3 : turn ≤ 255) :
    Calls Tryd.prog 4 #[.int .u16 (ep : Int), .slice A N c, .int .u8 (turn : Int)] w fun e w' => e = .returned (.bool true) ∧ Below w.heap.size w w' := by
  have HT0 := Lib.hid hTab
  have HSX := Lib.hid hs
  have HIN := Lib.hid hO
  have HL := Lib.hid hl
  clear hTab hs hO hl
  go_enter Tryd.func4, Tryd.ntmps4
  go_wp2_with fail
  refine (awake_calls w).mono ?_
  rintro e w1 ⟨rfl, hb⟩
  go_wp2_with fail
  refine (LrNew_calls ep _ rfl w1).mono ?_
  rintro e w2 ⟨ga, rfl, hla, hb2⟩
  have ht1 := Tab.ext HT0.out hb
  have ht2 := Tab.ext ht1 hb2
  have hs1 := hb.size
  replace hb := hb.trans (hb2.mono hb.size)
  clear hb2
  go_wp2_with fail
  refine (LrNew_calls ep _ rfl w2).mono ?_
  rintro e w3 ⟨gb, rfl, hlb, hb3⟩
  have hP := L2.new ht2 (tab_lt ht1) hla hb3 hlb
  have hs2 := hb.size
  replace hb := hb.trans (hb3.mono hb.size)
  clear hb3 hla hlb ht1 ht2
  obtain ⟨Ba, hBa⟩ : ∃ Ba, Ba = w1.heap.size := ⟨_, rfl⟩
  obtain ⟨Bb, hBb⟩ : ∃ Bb, Bb = w2.heap.size := ⟨_, rfl⟩
  rw [← hBa, ← hBb] at hP
  rw [← hBa] at hs1
  rw [← hBb] at hs2
  clear hBa hBb
  have hok0 := newP_ok (ep := ep) (by omega)
  have HP := Lib.hid hP
  have HB := Lib.hid hb
  clear hP hb
  go_wp2_with fail
  go_loopw [9, 29] (fun nw i wr => ∃ (k t : Nat) (pa pb : Pk) (na nb : Nat), k ≤ N ∧ k ≤ 40 ∧ i = .int .i64 k ∧ nw = .int .i64 (t : Int) ∧ t ≤ 4 * k ∧ Sim pa pb ∧ pa.Ok (16 * k) ∧ pb.Ok (16 * k) ∧ pa.L.ep = ep ∧ na ≤ k ∧ nb ≤ k ∧ L2 wr Ba ga pa na Bb gb pb nb noZ noZ ∧ Below w.heap.size w wr) (fun _ i _ => N - (intOf i).toNat)
  case atStart => exact ⟨0, 0, newP ep, newP ep, 0, 0, Nat.zero_le _, by omega, rfl, rfl, by omega, Sim.refl _, hok0, hok0, rfl, Nat.le_refl _, Nat.le_refl _, HP.out, HB.out⟩
  case round =>
    clear HP HB
    obtain ⟨k, t, pa, pb, na, nb, hk, hk40, rfl, rfl, ht, hSim, hoka, hokb, hep, hna, hnb, hP, hb⟩ := hrel
    by_cases hlt : k < N
    · have hkx : k < xs.length := by rw [HL.out]; exact hlt
      have hsl : Sl wr b A (avv xs) := Sl.ext HSX.out hb
      obtain ⟨oa, hA, hca⟩ := hsl (by intro h0; have h9 := avv_length xs; rw [h0] at h9; simp at h9; omega)
      subst hA
      have c0 := hca (k * 13 + 0) _ (avv_at xs k hkx 0 (by omega))
      rw [Nat.add_zero] at c0
      have c1 := hca (k * 13 + 1) _ (avv_at xs k hkx 1 (by omega))
      rw [← Nat.add_assoc] at c1
      have c2 := hca (k * 13 + 2) _ (avv_at xs k hkx 2 (by omega))
      rw [← Nat.add_assoc] at c2
      have c3 := hca (k * 13 + 3) _ (avv_at xs k hkx 3 (by omega))
      rw [← Nat.add_assoc] at c3
      have c4 := hca (k * 13 + 4) _ (avv_at xs k hkx 4 (by omega))
      rw [← Nat.add_assoc] at c4
      have c5 := hca (k * 13 + 5) _ (avv_at xs k hkx 5 (by omega))
      rw [← Nat.add_assoc] at c5
      have c6 := hca (k * 13 + 6) _ (avv_at xs k hkx 6 (by omega))
      rw [← Nat.add_assoc] at c6
      have c7 := hca (k * 13 + 7) _ (avv_at xs k hkx 7 (by omega))
      rw [← Nat.add_assoc] at c7
      have c8 := hca (k * 13 + 8) _ (avv_at xs k hkx 8 (by omega))
      rw [← Nat.add_assoc] at c8
      have c9 := hca (k * 13 + 9) _ (avv_at xs k hkx 9 (by omega))
      rw [← Nat.add_assoc] at c9
      have c10 := hca (k * 13 + 10) _ (avv_at xs k hkx 10 (by omega))
      rw [← Nat.add_assoc] at c10
      have c11 := hca (k * 13 + 11) _ (avv_at xs k hkx 11 (by omega))
      rw [← Nat.add_assoc] at c11
      have c12 := hca (k * 13 + 12) _ (avv_at xs k hkx 12 (by omega))
      rw [← Nat.add_assoc] at c12
      have hIn : AV.In wr xs[k] := (HIN.out _ (List.getElem_mem hkx)).ext hb
      obtain ⟨y, hy⟩ : ∃ y, y = xs[k] := ⟨_, rfl⟩
      rw [← hy] at c0 c1 c2 c3 c4 c5 c6 c7 c8 c9 c10 c11 c12 hIn
      clear hca hsl hy
      have ha := below_alloc1 wr (.cells y.cells.toArray 49)
      by_cases h40 : k < 40
      · have hi40 : ¬ (40 : Int) ≤ (k : Int) := by omega
        have hD : y.d % 5 = 0 ∨ y.d % 5 = 1 ∨ y.d % 5 = 2 ∨ y.d % 5 = 3 ∨ y.d % 5 = 4 := by omega
        rcases hD with hD | hD | hD | hD | hD
        · have hDi : (y.d : Int) % 5 = 0 := by omega
          clear hD
          obtain ⟨X, hX⟩ : ∃ X, X = y.b ^^^ turn := ⟨_, rfl⟩
          have hXi : bits .xor .u8 (y.b : Int) (turn : Int) = (X : Int) := by rw [hX]; exact u8_xor_nat y.b turn (by have := hIn.b; omega) (by omega)
          have hX255 : X ≤ 255 := by
            have h9 : y.b ^^^ turn < 2 ^ 8 := Nat.xor_lt_two_pow (by have := hIn.b; omega) (by omega)
            omega
          obtain ⟨m, hm⟩ : ∃ m, m = y.n % 1100 := ⟨_, rfl⟩
          have hm11 : m < 1100 := by omega
          obtain ⟨hQs, hQe⟩ := hSim.qsend (l := bytesN m y.b) (l' := bytesN m X) (by simp)
          have hokc := sendQ_ok hoka (bytesN m y.b)
          have hokd := sendQ_ok hokb (bytesN m X)
          obtain ⟨pc, hpc⟩ : ∃ pc, pc = (sendQ pa (bytesN m y.b)).1 := ⟨_, rfl⟩
          obtain ⟨pd, hpd⟩ : ∃ pd, pd = (sendQ pb (bytesN m X)).1 := ⟨_, rfl⟩
          obtain ⟨E, hE⟩ : ∃ E, E = (sendQ pa (bytesN m y.b)).2 := ⟨_, rfl⟩
          have hRa : sendQ pa (bytesN m y.b) = (pc, E) := by rw [hpc, hE]
          have hRb : sendQ pb (bytesN m X) = (pd, E) := by rw [hpd, hE, hQe]
          have hcep : pc.L.ep = ep := by rw [hpc]; unfold sendQ; split; exact hep; split; exact hep; exact hep
          rw [← hpc] at hQs hokc
          rw [← hpd] at hQs hokd
          have hwa : pa.ws.length ≤ 1000 := by have := hoka.len; omega
          have hwb : pb.ws.length ≤ 1000 := by have := hokb.len; omega
          have HST := Lib.hid (And.intro hQs (And.intro hokc (And.intro hokd hcep)))
          have hBY1 := fun W => bytesG_at y.n y.b (y.b : Int) rfl W hIn.n hIn.b
          have hBY2 := fun W => bytesG_at y.n X (bits .xor .u8 (y.b : Int) (turn : Int)) hXi W hIn.n hX255
          rw [← hm] at hBY1 hBY2
          obtain ⟨wz, hwz⟩ : ∃ wz, wz = wr.alloc (.cells y.cells.toArray 49) := ⟨_, rfl⟩
          obtain ⟨ab, hab⟩ : ∃ ab, ab = wr.heap.size := ⟨_, rfl⟩
          have hx : ActX wz ab y := by rw [hwz, hab]; exact heap_alloc_new wr _
          obtain ⟨Z, hP', -, hZn⟩ := hP.fence1 ha
          rw [← hwz] at hP' hZn
          have hza : Z ab := hZn ab (by omega) (by have := hx.lt; omega)
          have hb' := hb.trans (ha.mono hb.size)
          rw [← hwz] at hb'
          replace hP := hP'
          replace hb := hb'
          clear hQs hQe hokc hokd hpc hpd hE hcep hX hXi hm hSim hoka hokb hep hIn ha hP' hb' hZn
          go_wp2_with fail
          rw [← hwz, ← hab]
          clear hwz hab
          refine wp_region_E (fun j => false) (fun w9 => ActX w9 ab y) (by kernel_rfl) ?_ (fun hHeld => ?_)
          · exact (by exact hx)
          obtain ⟨wd5', hwd⟩ : ∃ wd5', wd5' = World.drew wz := ⟨_, rfl⟩
          have h9 : Below wz.heap.size wz wd5' := by rw [hwd]; exact below_drew (Below.refl _ _)
          rw [← hwd] at hHeld ⊢
          clear hwd
          replace hx := hx.ext h9
          replace hP := hP.ext h9
          replace hb := hb.trans (h9.mono hb.size)
          clear h9
          refine wpAnyE_take (i := 0) (by simp only [List.getElem?_toArray]; rfl) (by kernel_rfl) (by kernel_rfl) (by kernel_rfl) (by kernel_rfl) (by kernel_rfl) (by exact fun _ _ _ h => h) (by exact yk (.pointer (some ⟨ga, 0, none⟩)) (by kernel_rfl) (fun _ => by kernel_rfl)) hHeld ?_
          refine wpAnyE_take (i := 1) (by simp only [List.getElem?_toArray]; rfl) (by kernel_rfl) (by kernel_rfl) (by kernel_rfl) (by kernel_rfl) (by kernel_rfl) (by exact fun _ _ _ h => h) (by exact yk (.pointer (some ⟨ab, 1, none⟩)) (by kernel_rfl) (fun _ => by kernel_rfl)) hHeld ?_
          refine wpAnyE_take (i := 2) (by simp only [List.getElem?_toArray]; rfl) (by kernel_rfl) (by kernel_rfl) (by kernel_rfl) (by kernel_rfl) (by kernel_rfl) (by exact fun _ _ _ h => h) (by exact yk_ldU (by kernel_rfl) (.tmp 40) rfl ⟨ab, 1, none⟩ (.int .u16 (y.n : Int)) (by kernel_rfl) (fun w hh => hh.n)) hHeld ?_
          refine wpAnyE_take (i := 3) (by simp only [List.getElem?_toArray]; rfl) (by kernel_rfl) (by kernel_rfl) (by kernel_rfl) (by kernel_rfl) (by kernel_rfl) (by exact fun _ _ _ h => h) (by exact yk (.pointer (some ⟨ab, 2, none⟩)) (by kernel_rfl) (fun _ => by kernel_rfl)) hHeld ?_
          refine wpAnyE_take (i := 4) (by simp only [List.getElem?_toArray]; rfl) (by kernel_rfl) (by kernel_rfl) (by kernel_rfl) (by kernel_rfl) (by kernel_rfl) (by exact fun _ _ _ h => h) (by exact yk_ld8 (by kernel_rfl) (.tmp 42) rfl ⟨ab, 2, none⟩ (.int .u8 (y.b : Int)) (by kernel_rfl) (fun w hh => hh.b)) hHeld ?_
          refine wpAnyE_take (i := 7) (by simp only [List.getElem?_toArray]; rfl) (by kernel_rfl) (by kernel_rfl) (by kernel_rfl) (by kernel_rfl) (by kernel_rfl) (by exact fun _ _ _ h => h) (by exact yk (.pointer (some ⟨gb, 0, none⟩)) (by kernel_rfl) (fun _ => by kernel_rfl)) hHeld ?_
          refine wpAnyE_take (i := 8) (by simp only [List.getElem?_toArray]; rfl) (by kernel_rfl) (by kernel_rfl) (by kernel_rfl) (by kernel_rfl) (by kernel_rfl) (by exact fun _ _ _ h => h) (by exact yk (.pointer (some ⟨ab, 1, none⟩)) (by kernel_rfl) (fun _ => by kernel_rfl)) hHeld ?_
          refine wpAnyE_take (i := 9) (by simp only [List.getElem?_toArray]; rfl) (by kernel_rfl) (by kernel_rfl) (by kernel_rfl) (by kernel_rfl) (by kernel_rfl) (by exact fun _ _ _ h => h) (by exact yk_ldU (by kernel_rfl) (.tmp 47) rfl ⟨ab, 1, none⟩ (.int .u16 (y.n : Int)) (by kernel_rfl) (fun w hh => hh.n)) hHeld ?_
          refine wpAnyE_take (i := 10) (by simp only [List.getElem?_toArray]; rfl) (by kernel_rfl) (by kernel_rfl) (by kernel_rfl) (by kernel_rfl) (by kernel_rfl) (by exact fun _ _ _ h => h) (by exact yk (.pointer (some ⟨ab, 2, none⟩)) (by kernel_rfl) (fun _ => by kernel_rfl)) hHeld ?_
          refine wpAnyE_take (i := 11) (by simp only [List.getElem?_toArray]; rfl) (by kernel_rfl) (by kernel_rfl) (by kernel_rfl) (by kernel_rfl) (by kernel_rfl) (by exact fun _ _ _ h => h) (by exact yk_ld8 (by kernel_rfl) (.tmp 49) rfl ⟨ab, 2, none⟩ (.int .u8 (y.b : Int)) (by kernel_rfl) (fun w hh => hh.b)) hHeld ?_
          refine wpAnyE_take (i := 12) (by simp only [List.getElem?_toArray]; rfl) (by kernel_rfl) (by kernel_rfl) (by kernel_rfl) (by kernel_rfl) (by kernel_rfl) (by exact fun _ _ _ h => h) (by exact yk (.int .u8 (turn : Int)) (by kernel_rfl) (fun _ => by kernel_rfl)) hHeld ?_
          refine wpAnyE_take (i := 13) (by simp only [List.getElem?_toArray]; rfl) (by kernel_rfl) (by kernel_rfl) (by kernel_rfl) (by kernel_rfl) (by kernel_rfl) (by exact fun _ _ _ h => h) (by exact yk (.int .u8 (bits .xor .u8 (y.b : Int) (turn : Int))) (by kernel_rfl) (fun _ => by kernel_rfl)) hHeld ?_
          try simp only [Act.put, List.setIfInBounds_toArray, List.set_cons_zero, List.set_cons_succ]
          refine wpAnyE_ready (rs := [5]) (by kernel_rfl) (by simp) ?_
          refine EachE.cons (by rfl) (by simp only [List.getElem?_toArray]; rfl) (fun KK hKK => ?_) EachE.nil
          rw [if_pos (by kernel_rfl)]
          refine wp_callF 14 #[.int .u16 (y.n : Int), .int .u8 (y.b : Int)] (by kernel_rfl) ?_
          refine (hBY1 _).mono ?_
          rintro e w6' ⟨d1, bq1, rfl, hd1, hdm1, hq1, hbw1, h9⟩
          refine ⟨_, rfl, ?_⟩
          obtain ⟨Z', hP', hZm, hZn⟩ := hP.fence1 h9
          have hzq1 : bytesN m y.b ≠ [] → Z' bq1 := fun h0 => hZn bq1 hbw1 (Bs.lt hq1 h0)
          replace hza := hZm ab hza
          replace hP := hP'
          replace hx := hx.ext h9
          replace hb := hb.trans (h9.mono hb.size)
          clear hP' hZm hZn h9 hbw1 Z
          obtain ⟨Z, hZe⟩ : ∃ Z, Z = Z' := ⟨_, rfl⟩
          subst hZe
          refine hKK.out _ _ ?_ (fun hHeld => ?_)
          · exact (by exact hx)
          clear hKK KK
          try simp only [Act.put, List.setIfInBounds_toArray, List.set_cons_zero, List.set_cons_succ]
          refine wpAnyE_ready (rs := [6]) (by kernel_rfl) (by simp) ?_
          refine EachE.cons (by rfl) (by simp only [List.getElem?_toArray]; rfl) (fun KK hKK => ?_) EachE.nil
          rw [if_pos (by kernel_rfl)]
          have hAx := hP.hA
          refine wp_callF 15 #[.pointer (some ⟨ga, 0, none⟩), .slice (some ⟨bq1, 0, none⟩) m d1] (by kernel_rfl) ?_
          refine (L2SendQ hP (some ⟨bq1, 0, none⟩) (bytesN m y.b) m d1 bq1 hq1 (by simp) (by omega) hd1 hdm1 hwa _ hRa).mono ?_
          rintro e w7' ⟨rfl, hP', hK⟩
          refine ⟨_, rfl, ?_⟩
          replace hP := hP'
          replace hx := hx.kept hK hza
          replace hb := hb.trans ((hK.below hAx).mono hs1)
          clear hP' hK hAx hq1
          refine hKK.out _ _ ?_ (fun hHeld => ?_)
          · exact (by exact hx)
          clear hKK KK
          try simp only [Act.put, List.setIfInBounds_toArray, List.set_cons_zero, List.set_cons_succ]
          refine wpAnyE_ready (rs := [14]) (by kernel_rfl) (by simp) ?_
          refine EachE.cons (by rfl) (by simp only [List.getElem?_toArray]; rfl) (fun KK hKK => ?_) EachE.nil
          rw [if_pos (by kernel_rfl)]
          refine wp_callF 14 #[.int .u16 (y.n : Int), .int .u8 (bits .xor .u8 (y.b : Int) (turn : Int))] (by kernel_rfl) ?_
          refine (hBY2 _).mono ?_
          rintro e w8' ⟨d2, bq2, rfl, hd2, hdm2, hq2, hbw2, h9⟩
          refine ⟨_, rfl, ?_⟩
          obtain ⟨Z', hP', hZm, hZn⟩ := hP.fence1 h9
          have hzq2 : bytesN m X ≠ [] → Z' bq2 := fun h0 => hZn bq2 hbw2 (Bs.lt hq2 h0)
          replace hza := hZm ab hza
          replace hzq1 := fun h0 => hZm bq1 (hzq1 h0)
          replace hP := hP'
          replace hx := hx.ext h9
          replace hb := hb.trans (h9.mono hb.size)
          clear hP' hZm hZn h9 hbw2 Z
          obtain ⟨Z, hZe⟩ : ∃ Z, Z = Z' := ⟨_, rfl⟩
          subst hZe
          refine hKK.out _ _ ?_ (fun hHeld => ?_)
          · exact (by exact hx)
          clear hKK KK
          try simp only [Act.put, List.setIfInBounds_toArray, List.set_cons_zero, List.set_cons_succ]
          refine wpAnyE_ready (rs := [15]) (by kernel_rfl) (by simp) ?_
          refine EachE.cons (by rfl) (by simp only [List.getElem?_toArray]; rfl) (fun KK hKK => ?_) EachE.nil
          rw [if_pos (by kernel_rfl)]
          have hAx := hP.symm.hA
          refine wp_callF 15 #[.pointer (some ⟨gb, 0, none⟩), .slice (some ⟨bq2, 0, none⟩) m d2] (by kernel_rfl) ?_
          refine (L2SendQ hP.symm (some ⟨bq2, 0, none⟩) (bytesN m X) m d2 bq2 hq2 (by simp) (by omega) hd2 hdm2 hwb _ hRb).mono ?_
          rintro e w9' ⟨rfl, hP', hK⟩
          refine ⟨_, rfl, ?_⟩
          replace hP := hP'.symm
          replace hx := hx.kept hK hza
          replace hb := hb.trans ((hK.below hAx).mono hs2)
          clear hP' hK hAx hq2
          refine hKK.out _ _ ?_ (fun hHeld => ?_)
          · exact (by exact hx)
          clear hKK KK
          refine wpAnyE_take (i := 16) (v := .bool false) (by simp only [List.getElem?_toArray]; rfl) (by kernel_rfl) (by kernel_rfl) (by kernel_rfl) (by kernel_rfl) (by kernel_rfl) (by exact fun _ _ _ h => h) (.inl ⟨by kernel_rfl, fun ww hSw => by clear hSw; go_simp⟩) hHeld ?_
          refine wpAnyE_done (by kernel_rfl) ?_ _
          have hPf := hP.free
          clear hP hx hBY1 hBY2 hza
          go_wp2_with fail
          go_roundw
          case rel => exact ⟨k + 1, t, pc, pd, na, nb, by omega, by omega, by go_num, rfl, by omega, HST.out.1, HST.out.2.1.mono (by omega), HST.out.2.2.1.mono (by omega), HST.out.2.2.2, by omega, by omega, hPf, hb⟩
          case measure => simp [intOf]; omega
        · have hDi : (y.d : Int) % 5 = 1 := by omega
          clear hD
          obtain ⟨X, hX⟩ : ∃ X, X = y.b ^^^ turn := ⟨_, rfl⟩
          have hXi : bits .xor .u8 (y.b : Int) (turn : Int) = (X : Int) := by rw [hX]; exact u8_xor_nat y.b turn (by have := hIn.b; omega) (by omega)
          have hX255 : X ≤ 255 := by
            have h9 : y.b ^^^ turn < 2 ^ 8 := Nat.xor_lt_two_pow (by have := hIn.b; omega) (by omega)
            omega
          obtain ⟨m, hm⟩ : ∃ m, m = y.n % 1100 := ⟨_, rfl⟩
          have hm11 : m < 1100 := by omega
          obtain ⟨hQs, hQe⟩ := hSim.qsend (l := bytesN m y.b) (l' := bytesN m X) (by simp)
          have hokc := sendQ_ok hoka (bytesN m y.b)
          have hokd := sendQ_ok hokb (bytesN m X)
          obtain ⟨pc, hpc⟩ : ∃ pc, pc = (sendQ pa (bytesN m y.b)).1 := ⟨_, rfl⟩
          obtain ⟨pd, hpd⟩ : ∃ pd, pd = (sendQ pb (bytesN m X)).1 := ⟨_, rfl⟩
          obtain ⟨E, hE⟩ : ∃ E, E = (sendQ pa (bytesN m y.b)).2 := ⟨_, rfl⟩
          have hRa : sendQ pa (bytesN m y.b) = (pc, E) := by rw [hpc, hE]
          have hRb : sendQ pb (bytesN m X) = (pd, E) := by rw [hpd, hE, hQe]
          have hcep : pc.L.ep = ep := by rw [hpc]; unfold sendQ; split; exact hep; split; exact hep; exact hep
          rw [← hpc] at hQs hokc
          rw [← hpd] at hQs hokd
          have hwa : pa.ws.length ≤ 1000 := by have := hoka.len; omega
          have hwb : pb.ws.length ≤ 1000 := by have := hokb.len; omega
          have HST := Lib.hid (And.intro hQs (And.intro hokc (And.intro hokd hcep)))
          have hBY1 := fun W => bytesG_at y.n y.b (y.b : Int) rfl W hIn.n hIn.b
          have hBY2 := fun W => bytesG_at y.n X (bits .xor .u8 (y.b : Int) (turn : Int)) hXi W hIn.n hX255
          rw [← hm] at hBY1 hBY2
          obtain ⟨wz, hwz⟩ : ∃ wz, wz = wr.alloc (.cells y.cells.toArray 49) := ⟨_, rfl⟩
          obtain ⟨ab, hab⟩ : ∃ ab, ab = wr.heap.size := ⟨_, rfl⟩
          have hx : ActX wz ab y := by rw [hwz, hab]; exact heap_alloc_new wr _
          obtain ⟨Z, hP', -, hZn⟩ := hP.fence1 ha
          rw [← hwz] at hP' hZn
          have hza : Z ab := hZn ab (by omega) (by have := hx.lt; omega)
          have hb' := hb.trans (ha.mono hb.size)
          rw [← hwz] at hb'
          replace hP := hP'
          replace hb := hb'
          clear hQs hQe hokc hokd hpc hpd hE hcep hX hXi hm hSim hoka hokb hep hIn ha hP' hb' hZn
          go_wp2_with fail
          rw [← hwz, ← hab]
          clear hwz hab
          refine wp_region_E (fun j => false) (fun w9 => ActX w9 ab y) (by kernel_rfl) ?_ (fun hHeld => ?_)
          · exact (by exact hx)
          obtain ⟨wd5', hwd⟩ : ∃ wd5', wd5' = World.drew wz := ⟨_, rfl⟩
          have h9 : Below wz.heap.size wz wd5' := by rw [hwd]; exact below_drew (Below.refl _ _)
          rw [← hwd] at hHeld ⊢
          clear hwd
          replace hx := hx.ext h9
          replace hP := hP.ext h9
          replace hb := hb.trans (h9.mono hb.size)
          clear h9
          refine wpAnyE_take (i := 0) (by simp only [List.getElem?_toArray]; rfl) (by kernel_rfl) (by kernel_rfl) (by kernel_rfl) (by kernel_rfl) (by kernel_rfl) (by exact fun _ _ _ h => h) (by exact yk (.pointer (some ⟨ga, 0, none⟩)) (by kernel_rfl) (fun _ => by kernel_rfl)) hHeld ?_
          refine wpAnyE_take (i := 1) (by simp only [List.getElem?_toArray]; rfl) (by kernel_rfl) (by kernel_rfl) (by kernel_rfl) (by kernel_rfl) (by kernel_rfl) (by exact fun _ _ _ h => h) (by exact yk (.pointer (some ⟨ab, 1, none⟩)) (by kernel_rfl) (fun _ => by kernel_rfl)) hHeld ?_
          refine wpAnyE_take (i := 2) (by simp only [List.getElem?_toArray]; rfl) (by kernel_rfl) (by kernel_rfl) (by kernel_rfl) (by kernel_rfl) (by kernel_rfl) (by exact fun _ _ _ h => h) (by exact yk_ldU (by kernel_rfl) (.tmp 40) rfl ⟨ab, 1, none⟩ (.int .u16 (y.n : Int)) (by kernel_rfl) (fun w hh => hh.n)) hHeld ?_
          refine wpAnyE_take (i := 3) (by simp only [List.getElem?_toArray]; rfl) (by kernel_rfl) (by kernel_rfl) (by kernel_rfl) (by kernel_rfl) (by kernel_rfl) (by exact fun _ _ _ h => h) (by exact yk (.pointer (some ⟨ab, 2, none⟩)) (by kernel_rfl) (fun _ => by kernel_rfl)) hHeld ?_
          refine wpAnyE_take (i := 4) (by simp only [List.getElem?_toArray]; rfl) (by kernel_rfl) (by kernel_rfl) (by kernel_rfl) (by kernel_rfl) (by kernel_rfl) (by exact fun _ _ _ h => h) (by exact yk_ld8 (by kernel_rfl) (.tmp 42) rfl ⟨ab, 2, none⟩ (.int .u8 (y.b : Int)) (by kernel_rfl) (fun w hh => hh.b)) hHeld ?_
          refine wpAnyE_take (i := 7) (by simp only [List.getElem?_toArray]; rfl) (by kernel_rfl) (by kernel_rfl) (by kernel_rfl) (by kernel_rfl) (by kernel_rfl) (by exact fun _ _ _ h => h) (by exact yk (.pointer (some ⟨gb, 0, none⟩)) (by kernel_rfl) (fun _ => by kernel_rfl)) hHeld ?_
          refine wpAnyE_take (i := 8) (by simp only [List.getElem?_toArray]; rfl) (by kernel_rfl) (by kernel_rfl) (by kernel_rfl) (by kernel_rfl) (by kernel_rfl) (by exact fun _ _ _ h => h) (by exact yk (.pointer (some ⟨ab, 1, none⟩)) (by kernel_rfl) (fun _ => by kernel_rfl)) hHeld ?_
          refine wpAnyE_take (i := 9) (by simp only [List.getElem?_toArray]; rfl) (by kernel_rfl) (by kernel_rfl) (by kernel_rfl) (by kernel_rfl) (by kernel_rfl) (by exact fun _ _ _ h => h) (by exact yk_ldU (by kernel_rfl) (.tmp 47) rfl ⟨ab, 1, none⟩ (.int .u16 (y.n : Int)) (by kernel_rfl) (fun w hh => hh.n)) hHeld ?_
          refine wpAnyE_take (i := 10) (by simp only [List.getElem?_toArray]; rfl) (by kernel_rfl) (by kernel_rfl) (by kernel_rfl) (by kernel_rfl) (by kernel_rfl) (by exact fun _ _ _ h => h) (by exact yk (.pointer (some ⟨ab, 2, none⟩)) (by kernel_rfl) (fun _ => by kernel_rfl)) hHeld ?_
          refine wpAnyE_take (i := 11) (by simp only [List.getElem?_toArray]; rfl) (by kernel_rfl) (by kernel_rfl) (by kernel_rfl) (by kernel_rfl) (by kernel_rfl) (by exact fun _ _ _ h => h) (by exact yk_ld8 (by kernel_rfl) (.tmp 49) rfl ⟨ab, 2, none⟩ (.int .u8 (y.b : Int)) (by kernel_rfl) (fun w hh => hh.b)) hHeld ?_
          refine wpAnyE_take (i := 12) (by simp only [List.getElem?_toArray]; rfl) (by kernel_rfl) (by kernel_rfl) (by kernel_rfl) (by kernel_rfl) (by kernel_rfl) (by exact fun _ _ _ h => h) (by exact yk (.int .u8 (turn : Int)) (by kernel_rfl) (fun _ => by kernel_rfl)) hHeld ?_
          refine wpAnyE_take (i := 13) (by simp only [List.getElem?_toArray]; rfl) (by kernel_rfl) (by kernel_rfl) (by kernel_rfl) (by kernel_rfl) (by kernel_rfl) (by exact fun _ _ _ h => h) (by exact yk (.int .u8 (bits .xor .u8 (y.b : Int) (turn : Int))) (by kernel_rfl) (fun _ => by kernel_rfl)) hHeld ?_
          try simp only [Act.put, List.setIfInBounds_toArray, List.set_cons_zero, List.set_cons_succ]
          refine wpAnyE_ready (rs := [5]) (by kernel_rfl) (by simp) ?_
          refine EachE.cons (by rfl) (by simp only [List.getElem?_toArray]; rfl) (fun KK hKK => ?_) EachE.nil
          rw [if_pos (by kernel_rfl)]
          refine wp_callF 14 #[.int .u16 (y.n : Int), .int .u8 (y.b : Int)] (by kernel_rfl) ?_
          refine (hBY1 _).mono ?_
          rintro e w6' ⟨d1, bq1, rfl, hd1, hdm1, hq1, hbw1, h9⟩
          refine ⟨_, rfl, ?_⟩
          obtain ⟨Z', hP', hZm, hZn⟩ := hP.fence1 h9
          have hzq1 : bytesN m y.b ≠ [] → Z' bq1 := fun h0 => hZn bq1 hbw1 (Bs.lt hq1 h0)
          replace hza := hZm ab hza
          replace hP := hP'
          replace hx := hx.ext h9
          replace hb := hb.trans (h9.mono hb.size)
          clear hP' hZm hZn h9 hbw1 Z
          obtain ⟨Z, hZe⟩ : ∃ Z, Z = Z' := ⟨_, rfl⟩
          subst hZe
          refine hKK.out _ _ ?_ (fun hHeld => ?_)
          · exact (by exact hx)
          clear hKK KK
          try simp only [Act.put, List.setIfInBounds_toArray, List.set_cons_zero, List.set_cons_succ]
          refine wpAnyE_ready (rs := [6]) (by kernel_rfl) (by simp) ?_
          refine EachE.cons (by rfl) (by simp only [List.getElem?_toArray]; rfl) (fun KK hKK => ?_) EachE.nil
          rw [if_pos (by kernel_rfl)]
          have hAx := hP.hA
          refine wp_callF 15 #[.pointer (some ⟨ga, 0, none⟩), .slice (some ⟨bq1, 0, none⟩) m d1] (by kernel_rfl) ?_
          refine (L2SendQ hP (some ⟨bq1, 0, none⟩) (bytesN m y.b) m d1 bq1 hq1 (by simp) (by omega) hd1 hdm1 hwa _ hRa).mono ?_
          rintro e w7' ⟨rfl, hP', hK⟩
          refine ⟨_, rfl, ?_⟩
          replace hP := hP'
          replace hx := hx.kept hK hza
          replace hb := hb.trans ((hK.below hAx).mono hs1)
          clear hP' hK hAx hq1
          refine hKK.out _ _ ?_ (fun hHeld => ?_)
          · exact (by exact hx)
          clear hKK KK
          try simp only [Act.put, List.setIfInBounds_toArray, List.set_cons_zero, List.set_cons_succ]
          refine wpAnyE_ready (rs := [14]) (by kernel_rfl) (by simp) ?_
          refine EachE.cons (by rfl) (by simp only [List.getElem?_toArray]; rfl) (fun KK hKK => ?_) EachE.nil
          rw [if_pos (by kernel_rfl)]
          refine wp_callF 14 #[.int .u16 (y.n : Int), .int .u8 (bits .xor .u8 (y.b : Int) (turn : Int))] (by kernel_rfl) ?_
          refine (hBY2 _).mono ?_
          rintro e w8' ⟨d2, bq2, rfl, hd2, hdm2, hq2, hbw2, h9⟩
          refine ⟨_, rfl, ?_⟩
          obtain ⟨Z', hP', hZm, hZn⟩ := hP.fence1 h9
          have hzq2 : bytesN m X ≠ [] → Z' bq2 := fun h0 => hZn bq2 hbw2 (Bs.lt hq2 h0)
          replace hza := hZm ab hza
          replace hzq1 := fun h0 => hZm bq1 (hzq1 h0)
          replace hP := hP'
          replace hx := hx.ext h9
          replace hb := hb.trans (h9.mono hb.size)
          clear hP' hZm hZn h9 hbw2 Z
          obtain ⟨Z, hZe⟩ : ∃ Z, Z = Z' := ⟨_, rfl⟩
          subst hZe
          refine hKK.out _ _ ?_ (fun hHeld => ?_)
          · exact (by exact hx)
          clear hKK KK
          try simp only [Act.put, List.setIfInBounds_toArray, List.set_cons_zero, List.set_cons_succ]
          refine wpAnyE_ready (rs := [15]) (by kernel_rfl) (by simp) ?_
          refine EachE.cons (by rfl) (by simp only [List.getElem?_toArray]; rfl) (fun KK hKK => ?_) EachE.nil
          rw [if_pos (by kernel_rfl)]
          have hAx := hP.symm.hA
          refine wp_callF 15 #[.pointer (some ⟨gb, 0, none⟩), .slice (some ⟨bq2, 0, none⟩) m d2] (by kernel_rfl) ?_
          refine (L2SendQ hP.symm (some ⟨bq2, 0, none⟩) (bytesN m X) m d2 bq2 hq2 (by simp) (by omega) hd2 hdm2 hwb _ hRb).mono ?_
          rintro e w9' ⟨rfl, hP', hK⟩
          refine ⟨_, rfl, ?_⟩
          replace hP := hP'.symm
          replace hx := hx.kept hK hza
          replace hb := hb.trans ((hK.below hAx).mono hs2)
          clear hP' hK hAx hq2
          refine hKK.out _ _ ?_ (fun hHeld => ?_)
          · exact (by exact hx)
          clear hKK KK
          refine wpAnyE_take (i := 16) (v := .bool false) (by simp only [List.getElem?_toArray]; rfl) (by kernel_rfl) (by kernel_rfl) (by kernel_rfl) (by kernel_rfl) (by kernel_rfl) (by exact fun _ _ _ h => h) (.inl ⟨by kernel_rfl, fun ww hSw => by clear hSw; go_simp⟩) hHeld ?_
          refine wpAnyE_done (by kernel_rfl) ?_ _
          have hPf := hP.free
          clear hP hx hBY1 hBY2 hza
          go_wp2_with fail
          go_roundw
          case rel => exact ⟨k + 1, t, pc, pd, na, nb, by omega, by omega, by go_num, rfl, by omega, HST.out.1, HST.out.2.1.mono (by omega), HST.out.2.2.1.mono (by omega), HST.out.2.2.2, by omega, by omega, hPf, hb⟩
          case measure => simp [intOf]; omega
        · have hDi : (y.d : Int) % 5 = 2 := by omega
          clear hD
          obtain ⟨T2, hT2⟩ : ∃ T2, T2 = t + y.t % 5 := ⟨_, rfl⟩
          have hT2i : (t : Int) + (y.t : Int) % 5 = (T2 : Int) := by omega
          have hT2b : T2 ≤ 4 * (k + 1) := by omega
          obtain ⟨hSt, hSr⟩ := hSim.tick (T2 : Int)
          obtain ⟨fs, hfs⟩ : ∃ fs, fs = toldP (T2 : Int) pa := ⟨_, rfl⟩
          obtain ⟨gs, hgs⟩ : ∃ gs, gs = toldP (T2 : Int) pb := ⟨_, rfl⟩
          have hfo := told_ok hoka (T2 : Int)
          have hgo := told_ok hokb (T2 : Int)
          rw [← hfs] at hSr hfo
          rw [← hgs] at hSr hgo
          obtain ⟨n1, hn1⟩ : ∃ n1, n1 = fs.length := ⟨_, rfl⟩
          have hn2 : gs.length = n1 := by have := congrArg List.length hSr; simp only [List.length_map] at this; omega
          have HKA := Lib.hid (L2Tick (hP.ext ha) (16 * k) (T2 : Int) hoka (by omega) (by omega) n1 fs hfs.symm hn1.symm)
          have HKB := Lib.hid (fun W (h : L2 W Bb gb pb nb Ba ga (tickP (T2 : Int) pa) na noZ noZ) => L2Tick h (16 * k) (T2 : Int) hokb (by omega) (by omega) n1 gs hgs.symm hn2)
          have HOKA := Lib.hid (tickP_ok hoka (T2 : Int) (by omega))
          have HOKB := Lib.hid (tickP_ok hokb (T2 : Int) (by omega))
          obtain ⟨pc, hpc⟩ : ∃ pc, pc = tickP (T2 : Int) pa := ⟨_, rfl⟩
          obtain ⟨pd, hpd⟩ : ∃ pd, pd = tickP (T2 : Int) pb := ⟨_, rfl⟩
          rw [← hpc] at HKA HKB HOKA hSt
          rw [← hpd] at HKB HOKB hSt
          have hcep : pc.L.ep = ep := by rw [hpc]; exact hep
          have HSR := Lib.hid hSr
          have HFO := Lib.hid hfo
          have HGO := Lib.hid hgo
          have HST := Lib.hid (And.intro hSt hcep)
          have HB := Lib.hid (hb.trans (ha.mono hb.size))
          have HN1 := Lib.hid hn1
          have HN2 := Lib.hid hn2
          clear hP hb hSim hSt hSr hfs hgs hfo hgo hn1 hn2 hpc hpd hcep hoka hokb hep hIn ha hT2
          go_wp2_with fail
          refine HKA.out.mono ?_
          rintro e w5 ⟨A1, c1, us1, rfl, hP, hTo, hT⟩
          replace HB := Lib.hid (HB.out.trans (hT.bel.mono hs1))
          have HTO := Lib.hid hTo
          have HK2 := Lib.hid (HKB.out w5 hP.free.symm)
          clear HKA HKB hP hTo hT
          go_wp2_with fail
          refine HK2.out.mono ?_
          rintro e w6 ⟨A2, c2, us2, rfl, hP, hTo2, hT⟩
          replace HB := Lib.hid (HB.out.trans (hT.bel.mono hs2))
          have hTo1 := HTO.out.keepT hT
          have HP := Lib.hid hP.free.symm
          have HTO1 := Lib.hid hTo1
          have HTO2 := Lib.hid hTo2
          have hcap1 := hTo1.cap
          have hcapM := hTo1.capM
          simp only [maxLen] at hcapM
          have hcap2 := hTo2.cap
          clear HK2 hP hT hTo1 hTo2 HTO
          go_wp2_with fail
          go_loopw [78] (fun i wr => ∃ q : Nat, q ≤ n1 ∧ i = .int .i64 q ∧ Below w6.heap.size w6 wr) (fun i _ => n1 - (intOf i).toNat)
          case atStart => exact ⟨0, Nat.zero_le _, rfl, Below.refl _ _⟩
          case round =>
            obtain ⟨q, hq, rfl, hbq⟩ := hrel
            by_cases hql : q < n1
            · have hqf : q < fs.length := by rw [← HN1.out]; exact hql
              have hqg : q < gs.length := by rw [HN2.out]; exact hql
              obtain ⟨gx, ox, A5, m5, c5, b5, hA5, ca5, hl5, hc5, hs5⟩ := (HTO1.out.ext hbq).at_ hql hqf
              obtain ⟨gy, oy, A6, m6, c6, b6, hA6, ca6, hl6, hc6, hs6⟩ := (HTO2.out.ext hbq).at_ hql hqg
              subst hA5 hA6
              have hsh : shR fs[q] = shR gs[q] := by
                have h9 := congrArg (fun l => l[q]?) HSR.out
                simp only [List.getElem?_map, List.getElem?_eq_getElem hqf, List.getElem?_eq_getElem hqg, Option.map_some] at h9
                exact Option.some.inj h9
              obtain ⟨fo, fr⟩ := HFO.out _ (List.getElem_mem hqf)
              obtain ⟨go, gr⟩ := HGO.out _ (List.getElem_mem hqg)
              have hmm : m6 = m5 := by rw [← hl5, ← hl6]; exact (seal_len_sh hsh fr gr).symm
              subst hmm
              have hm12 : 17 ≤ m6 := by rw [← hl5, raw_length _ fr]; omega
              have hpre := pre_sh hsh
              have hx11 := seal_at fs[q]
              have hy11 := seal_at gs[q]
              rw [← hpre] at hy11
              have hx0 := seal_take fs[q]
              have hy0 := seal_take gs[q]
              rw [← hpre] at hy0
              obtain ⟨lx, hlx⟩ : ∃ lx, lx = sealedL fs[q].raw := ⟨_, rfl⟩
              obtain ⟨ly, hly⟩ : ∃ ly, ly = sealedL gs[q].raw := ⟨_, rfl⟩
              rw [← hlx] at hl5 hs5 hx11 hx0
              rw [← hly] at hl6 hs6 hy11 hy0
              obtain ⟨v, hv⟩ : ∃ v : UInt8, (pre12 fs[q])[11]? = some v := ⟨(pre12 fs[q])[11]'(by rw [pre12_len]; decide), List.getElem?_eq_getElem _⟩
              rw [hv] at hx11 hy11
              obtain ⟨l11, hl11⟩ : ∃ l11, l11 = (pre12 fs[q]).take 11 := ⟨_, rfl⟩
              have h11 : l11.length = 11 := by rw [hl11, List.length_take, pre12_len]; rfl
              rw [← hl11] at hx0 hy0
              obtain ⟨oa, hoa, hca⟩ := Bs.at_ hs5 (k := 11) (by omega)
              obtain ⟨ob, hob, hcb⟩ := Bs.at_ hs6 (k := 11) (by omega)
              subst hoa hob
              have cx := hca 11 (by omega)
              have cy := hcb 11 (by omega)
              have ex : lx[11]'(by omega) = v := by have h9 := List.getElem?_eq_getElem (l := lx) (i := 11) (by omega); rw [h9] at hx11; exact Option.some.inj hx11
              have ey : ly[11]'(by omega) = v := by have h9 := List.getElem?_eq_getElem (l := ly) (i := 11) (by omega); rw [h9] at hy11; exact Option.some.inj hy11
              rw [ex] at cx
              rw [ey] at cy
              have sx : Bs wr b5 (some ⟨b5, oa, none⟩) l11 := by rw [← hx0]; have h9 := Sl.take hs5 11; rwa [show (bv lx).take 11 = bv (lx.take 11) by simp [bv]] at h9
              have sy : Bs wr b6 (some ⟨b6, ob, none⟩) l11 := by rw [← hy0]; have h9 := Sl.take hs6 11; rwa [show (bv ly).take 11 = bv (ly.take 11) by simp [bv]] at h9
              have hSm := fun j => same_yes (some ⟨b5, oa, none⟩) (some ⟨b6, ob, none⟩) l11 11 c5 c6 b5 b6 (wr.drewN j) (sx.drewN j) (sy.drewN j) h11 (by omega)
              have HBQ := Lib.hid hbq
              have hc5' : (11 : Int) ≤ (c5 : Int) := by omega
              have hc6' : (11 : Int) ≤ (c6 : Int) := by omega
              have hm11 : (11 : Int) < (m6 : Int) := by omega
              clear hl5 hl6 hs5 hs6 hsh fo fr go gr hpre hx11 hy11 hx0 hy0 hlx hly hv hl11 h11 hca hcb ex ey sx sy hbq
              go_wp2_with fail
              go_quiet ((go_at_call 21; exact Calls.quiet_of (hSm _)))
              have hbz := below_drewN HBQ.out nq
              clear hSm HBQ cx cy ca5 ca6
              go_wp2_with fail
              go_roundw
              case rel => exact ⟨q + 1, by omega, by go_num, hbz⟩
              case measure => simp [intOf]; omega
            · obtain rfl : q = n1 := by omega
              have hP := HP.out.ext hbq
              have hb := HB.out.trans (hbq.mono HB.out.size)
              clear HP HB HTO1 HTO2 hbq
              go_wp2_with fail
              go_roundw
              case rel => exact ⟨k + 1, T2, pc, pd, na, nb, by omega, by omega, by go_num, rfl, by omega, HST.out.1, HOKA.out.mono (by omega), HOKB.out.mono (by omega), HST.out.2, by omega, by omega, hP, hb⟩
              case measure => simp [intOf]; omega
        · have hDi : (y.d : Int) % 5 = 3 := by omega
          clear hD
          obtain ⟨T2, hT2⟩ : ∃ T2, T2 = t + y.t % 5 := ⟨_, rfl⟩
          have hT2i : (t : Int) + (y.t : Int) % 5 = (T2 : Int) := by omega
          have hT2b : T2 ≤ 4 * (k + 1) := by omega
          obtain ⟨hSt, hSr⟩ := hSim.tick (T2 : Int)
          obtain ⟨fs, hfs⟩ : ∃ fs, fs = toldP (T2 : Int) pa := ⟨_, rfl⟩
          obtain ⟨gs, hgs⟩ : ∃ gs, gs = toldP (T2 : Int) pb := ⟨_, rfl⟩
          have hfo := told_ok hoka (T2 : Int)
          have hgo := told_ok hokb (T2 : Int)
          rw [← hfs] at hSr hfo
          rw [← hgs] at hSr hgo
          obtain ⟨n1, hn1⟩ : ∃ n1, n1 = fs.length := ⟨_, rfl⟩
          have hn2 : gs.length = n1 := by have := congrArg List.length hSr; simp only [List.length_map] at this; omega
          have HKA := Lib.hid (L2Tick (hP.ext ha) (16 * k) (T2 : Int) hoka (by omega) (by omega) n1 fs hfs.symm hn1.symm)
          have HKB := Lib.hid (fun W (h : L2 W Bb gb pb nb Ba ga (tickP (T2 : Int) pa) na noZ noZ) => L2Tick h (16 * k) (T2 : Int) hokb (by omega) (by omega) n1 gs hgs.symm hn2)
          have HOKA := Lib.hid (tickP_ok hoka (T2 : Int) (by omega))
          have HOKB := Lib.hid (tickP_ok hokb (T2 : Int) (by omega))
          obtain ⟨pc, hpc⟩ : ∃ pc, pc = tickP (T2 : Int) pa := ⟨_, rfl⟩
          obtain ⟨pd, hpd⟩ : ∃ pd, pd = tickP (T2 : Int) pb := ⟨_, rfl⟩
          rw [← hpc] at HKA HKB HOKA hSt
          rw [← hpd] at HKB HOKB hSt
          have hcep : pc.L.ep = ep := by rw [hpc]; exact hep
          have HSR := Lib.hid hSr
          have HFO := Lib.hid hfo
          have HGO := Lib.hid hgo
          have HST := Lib.hid (And.intro hSt hcep)
          have HB := Lib.hid (hb.trans (ha.mono hb.size))
          have HN1 := Lib.hid hn1
          have HN2 := Lib.hid hn2
          clear hP hb hSim hSt hSr hfs hgs hfo hgo hn1 hn2 hpc hpd hcep hoka hokb hep hIn ha hT2
          go_wp2_with fail
          refine HKA.out.mono ?_
          rintro e w5 ⟨A1, c1, us1, rfl, hP, hTo, hT⟩
          replace HB := Lib.hid (HB.out.trans (hT.bel.mono hs1))
          have HTO := Lib.hid hTo
          have HK2 := Lib.hid (HKB.out w5 hP.free.symm)
          clear HKA HKB hP hTo hT
          go_wp2_with fail
          refine HK2.out.mono ?_
          rintro e w6 ⟨A2, c2, us2, rfl, hP, hTo2, hT⟩
          replace HB := Lib.hid (HB.out.trans (hT.bel.mono hs2))
          have hTo1 := HTO.out.keepT hT
          have HP := Lib.hid hP.free.symm
          have HTO1 := Lib.hid hTo1
          have HTO2 := Lib.hid hTo2
          have hcap1 := hTo1.cap
          have hcapM := hTo1.capM
          simp only [maxLen] at hcapM
          have hcap2 := hTo2.cap
          clear HK2 hP hT hTo1 hTo2 HTO
          go_wp2_with fail
          go_loopw [78] (fun i wr => ∃ q : Nat, q ≤ n1 ∧ i = .int .i64 q ∧ Below w6.heap.size w6 wr) (fun i _ => n1 - (intOf i).toNat)
          case atStart => exact ⟨0, Nat.zero_le _, rfl, Below.refl _ _⟩
          case round =>
            obtain ⟨q, hq, rfl, hbq⟩ := hrel
            by_cases hql : q < n1
            · have hqf : q < fs.length := by rw [← HN1.out]; exact hql
              have hqg : q < gs.length := by rw [HN2.out]; exact hql
              obtain ⟨gx, ox, A5, m5, c5, b5, hA5, ca5, hl5, hc5, hs5⟩ := (HTO1.out.ext hbq).at_ hql hqf
              obtain ⟨gy, oy, A6, m6, c6, b6, hA6, ca6, hl6, hc6, hs6⟩ := (HTO2.out.ext hbq).at_ hql hqg
              subst hA5 hA6
              have hsh : shR fs[q] = shR gs[q] := by
                have h9 := congrArg (fun l => l[q]?) HSR.out
                simp only [List.getElem?_map, List.getElem?_eq_getElem hqf, List.getElem?_eq_getElem hqg, Option.map_some] at h9
                exact Option.some.inj h9
              obtain ⟨fo, fr⟩ := HFO.out _ (List.getElem_mem hqf)
              obtain ⟨go, gr⟩ := HGO.out _ (List.getElem_mem hqg)
              have hmm : m6 = m5 := by rw [← hl5, ← hl6]; exact (seal_len_sh hsh fr gr).symm
              subst hmm
              have hm12 : 17 ≤ m6 := by rw [← hl5, raw_length _ fr]; omega
              have hpre := pre_sh hsh
              have hx11 := seal_at fs[q]
              have hy11 := seal_at gs[q]
              rw [← hpre] at hy11
              have hx0 := seal_take fs[q]
              have hy0 := seal_take gs[q]
              rw [← hpre] at hy0
              obtain ⟨lx, hlx⟩ : ∃ lx, lx = sealedL fs[q].raw := ⟨_, rfl⟩
              obtain ⟨ly, hly⟩ : ∃ ly, ly = sealedL gs[q].raw := ⟨_, rfl⟩
              rw [← hlx] at hl5 hs5 hx11 hx0
              rw [← hly] at hl6 hs6 hy11 hy0
              obtain ⟨v, hv⟩ : ∃ v : UInt8, (pre12 fs[q])[11]? = some v := ⟨(pre12 fs[q])[11]'(by rw [pre12_len]; decide), List.getElem?_eq_getElem _⟩
              rw [hv] at hx11 hy11
              obtain ⟨l11, hl11⟩ : ∃ l11, l11 = (pre12 fs[q]).take 11 := ⟨_, rfl⟩
              have h11 : l11.length = 11 := by rw [hl11, List.length_take, pre12_len]; rfl
              rw [← hl11] at hx0 hy0
              obtain ⟨oa, hoa, hca⟩ := Bs.at_ hs5 (k := 11) (by omega)
              obtain ⟨ob, hob, hcb⟩ := Bs.at_ hs6 (k := 11) (by omega)
              subst hoa hob
              have cx := hca 11 (by omega)
              have cy := hcb 11 (by omega)
              have ex : lx[11]'(by omega) = v := by have h9 := List.getElem?_eq_getElem (l := lx) (i := 11) (by omega); rw [h9] at hx11; exact Option.some.inj hx11
              have ey : ly[11]'(by omega) = v := by have h9 := List.getElem?_eq_getElem (l := ly) (i := 11) (by omega); rw [h9] at hy11; exact Option.some.inj hy11
              rw [ex] at cx
              rw [ey] at cy
              have sx : Bs wr b5 (some ⟨b5, oa, none⟩) l11 := by rw [← hx0]; have h9 := Sl.take hs5 11; rwa [show (bv lx).take 11 = bv (lx.take 11) by simp [bv]] at h9
              have sy : Bs wr b6 (some ⟨b6, ob, none⟩) l11 := by rw [← hy0]; have h9 := Sl.take hs6 11; rwa [show (bv ly).take 11 = bv (ly.take 11) by simp [bv]] at h9
              have hSm := fun j => same_yes (some ⟨b5, oa, none⟩) (some ⟨b6, ob, none⟩) l11 11 c5 c6 b5 b6 (wr.drewN j) (sx.drewN j) (sy.drewN j) h11 (by omega)
              have HBQ := Lib.hid hbq
              have hc5' : (11 : Int) ≤ (c5 : Int) := by omega
              have hc6' : (11 : Int) ≤ (c6 : Int) := by omega
              have hm11 : (11 : Int) < (m6 : Int) := by omega
              clear hl5 hl6 hs5 hs6 hsh fo fr go gr hpre hx11 hy11 hx0 hy0 hlx hly hv hl11 h11 hca hcb ex ey sx sy hbq
              go_wp2_with fail
              go_quiet ((go_at_call 21; exact Calls.quiet_of (hSm _)))
              have hbz := below_drewN HBQ.out nq
              clear hSm HBQ cx cy ca5 ca6
              go_wp2_with fail
              go_roundw
              case rel => exact ⟨q + 1, by omega, by go_num, hbz⟩
              case measure => simp [intOf]; omega
            · obtain rfl : q = n1 := by omega
              have hP := HP.out.ext hbq
              have hb := HB.out.trans (hbq.mono HB.out.size)
              clear HP HB HTO1 HTO2 hbq
              go_wp2_with fail
              go_roundw
              case rel => exact ⟨k + 1, T2, pc, pd, na, nb, by omega, by omega, by go_num, rfl, by omega, HST.out.1, HOKA.out.mono (by omega), HOKB.out.mono (by omega), HST.out.2, by omega, by omega, hP, hb⟩
              case measure => simp [intOf]; omega
        · have hDi : (y.d : Int) % 5 = 4 := by omega
          clear hD
          obtain ⟨F2, hF2⟩ : ∃ F2 : Fr, F2 = { y.f with epoch := ep, data := y.f.data.take 64 } := ⟨_, rfl⟩
          have hFo : F2.Ok := by rw [hF2]; exact ⟨by show ep < 65536; omega, hIn.ok.s, hIn.ok.n, hIn.ok.b⟩
          have hFd : F2.data = y.f.data.take 64 := by rw [hF2]
          have hFl : F2.data.length ≤ 64 := by rw [hFd, List.length_take]; omega
          have hFe : F2.epoch = ep := by rw [hF2]
          obtain ⟨hSt, hSr⟩ := hSim.take F2
          obtain ⟨W2, hW2⟩ : ∃ W2, W2 = (wr.alloc (.cells y.cells.toArray 49)).alloc (.cells (y.f.cells y.A y.c) 47) := ⟨_, rfl⟩
          have hbW : Below wr.heap.size wr W2 := by rw [hW2]; exact below_alloc2 wr _ _
          obtain ⟨fb, hfb⟩ : ∃ fb, fb = wr.heap.size + 1 := ⟨_, rfl⟩
          have hzf : W2.heap[fb]? = some (.cells (y.f.cells y.A y.c) 47 (0, 0)) := by
            have h9 := heap_alloc_new (wr.alloc (.cells y.cells.toArray 49)) (.cells (y.f.cells y.A y.c) 47)
            rwa [show (wr.alloc (.cells y.cells.toArray 49)).heap.size = fb by rw [hfb]; simp, ← hW2] at h9
          have HCut := Lib.hid (Cut_calls y.A y.f.data y.f.data.length y.c y.bb 64 W2 (Sl.ext hIn.hs hbW) rfl hIn.dl (by rw [List.length_take]; show min 64 _ ≤ _; omega))
          have HW2 := Lib.hid hW2
          have HFB := Lib.hid hfb
          have HZF := Lib.hid hzf
          have HBW := Lib.hid hbW
          have HP := Lib.hid hP
          have HB := Lib.hid hb
          have HF := Lib.hid (And.intro hF2 (And.intro hFo (And.intro hFd (And.intro hFl hFe))))
          have HS := Lib.hid (And.intro hSt hSr)
          have HOK := Lib.hid (And.intro hoka (And.intro hokb hep))
          have HSI := Lib.hid hSim
          clear hF2 hFo hFd hFl hFe hSt hSr hW2 hbW hfb hzf hP hb hSim hoka hokb hep hIn ha
          go_wp2_with fail
          rw [← HW2.out]
          refine HCut.out.mono ?_
          rintro e w3 ⟨v3, rfl, hrow3, hb3⟩
          rw [show (64 : Int).toNat = 64 from rfl, ← HF.out.2.2.1] at hrow3
          obtain ⟨A3, c3, b3, hv3, -, -, -, -, hs3, -⟩ := hrow3.sl
          obtain ⟨n3, hn3⟩ : ∃ n3, n3 = F2.data.length := ⟨_, rfl⟩
          rw [← hn3] at hv3
          subst hv3
          have hzf3 := (hb3.block fb (Array.getElem?_eq_some_iff.1 HZF.out).1).trans HZF.out
          have hap : (Value.slice A3 n3 c3).ownBlock ≠ some fb := row_apart hrow3 hzf3 (by decide)
          have z0 := (cell_of_row _ fb 0 _ _ _ hzf3).trans (show _ = some (.int .u16 (y.f.epoch : Int)) from rfl)
          have z1 := (cell_of_row _ fb 1 _ _ _ hzf3).trans (show _ = some (.int .u16 (y.f.seq : Int)) from rfl)
          have z2 := (cell_of_row _ fb 2 _ _ _ hzf3).trans (show _ = some (.int .u16 (y.f.next : Int)) from rfl)
          have z3 := (cell_of_row _ fb 3 _ _ _ hzf3).trans (show _ = some (.int .u32 (y.f.bits : Int)) from rfl)
          have z4 := (cell_of_row _ fb 4 _ _ _ hzf3).trans (show _ = some (.bool y.f.first) from rfl)
          have z5 := (cell_of_row _ fb 5 _ _ _ hzf3).trans (show _ = some (.bool y.f.last) from rfl)
          have z6 := (cell_of_row _ fb 6 _ _ _ hzf3).trans (show _ = some (.bool y.f.alone) from rfl)
          have z7 := (cell_of_row _ fb 7 _ _ _ hzf3).trans (show _ = some (.slice y.A y.f.data.length y.c) from rfl)
          have f0 := frozen_of_row _ fb 0 _ _ hzf3
          have f7 := frozen_of_row _ fb 7 _ _ hzf3
          obtain ⟨w4, hw4⟩ : ∃ w4, w4 = (w3.setCell ⟨fb, 7, none⟩ (.slice A3 n3 c3)).setCell ⟨fb, 0, none⟩ (.int .u16 (ep : Int)) := ⟨_, rfl⟩
          have hm4 : Mod (fun i => i = fb) w3 w4 := by rw [hw4]; exact (Mod.setCell w3 ⟨fb, 7, none⟩ _).trans (Mod.setCell _ ⟨fb, 0, none⟩ _) (fun _ _ h => h) (fun _ _ h => h)
          have hb4 : Below wr.heap.size wr w4 := (HBW.out.trans (hb3.mono HBW.out.size)).trans (hm4.below (Nat.le_trans HBW.out.size hb3.size) (fun i hi hh => by have h8 : i = fb := hh; have := HFB.out; omega))
          have hrow4 := Row.mod hrow3 hm4 (fun k hk hh => hap (by rw [← show k = fb from hh]; exact hk))
          obtain ⟨A4, c4, b4, hv4, -, -, -, -, hs4, -⟩ := hrow4.sl
          rw [← hn3] at hv4
          injection hv4 with e1 e2 e3
          subst e1 e3
          obtain ⟨Z, hP4, -, -⟩ := HP.out.fence1 hb4
          have HB4 := Lib.hid (HB.out.trans (hb4.mono HB.out.size))
          have HP4 := Lib.hid hP4
          have HS4 := Lib.hid hs4
          have HW4 := Lib.hid hw4
          have hcE : F2.cells A3 c3 = #[.int .u16 (ep : Int), .int .u16 (y.f.seq : Int), .int .u16 (y.f.next : Int), .int .u32 (y.f.bits : Int), .bool y.f.first, .bool y.f.last, .bool y.f.alone, .slice A3 n3 c3] := by rw [hn3, HF.out.1]
          have HCE := Lib.hid hcE
          have HFBs := HFB.out
          have HR3 := Lib.hid hn3
          clear HCut hrow3 hb3 hzf3 hap hs3 hm4 hb4 hrow4 hs4 hw4 hP4 hcE hn3 e2 HZF HBW HP HB HW2 HFBs
          rw [show wr.heap.size + 1 = fb from HFB.out.symm]
          cases hR : F2.right
          · have hBy := FBytes_no F2 A3 c3 w4 hR
            rw [HCE.out] at hBy
            have HBy := Lib.hid hBy
            clear hBy hR
            go_wp2_with fail
            rw [← HW4.out]
            refine HBy.out.mono ?_
            rintro e w5 ⟨rfl, hb5⟩
            have HP5 := Lib.hid (HP4.out.ext hb5)
            have HB5 := Lib.hid (HB4.out.trans (hb5.mono HB4.out.size))
            have hTa := fun W => Take_none ga W
            have hTb := fun W => Take_none gb W
            clear HBy hb5 HP4 HB4 z0 z1 z2 z3 z4 z5 z6 z7 f0 f7
            go_wp2_with fail
            refine (hTa _).mono ?_
            rintro e w6 ⟨rfl, hb6⟩
            have HP6 := Lib.hid (HP5.out.ext hb6)
            have HB6 := Lib.hid (HB5.out.trans (hb6.mono HB5.out.size))
            clear hb6 HP5 HB5 hTa
            go_wp2_with fail
            refine (hTb _).mono ?_
            rintro e w7 ⟨rfl, hb7⟩
            have HP7 := Lib.hid (HP6.out.ext hb7)
            have HB7 := Lib.hid (HB6.out.trans (hb7.mono HB6.out.size))
            have hSm := fun W => same_rows (w := W) (C := 0) (C' := 0) (D := 0) (D' := 0) (RowS.nil_ W 0) (RowsIn.nil_ W 0) (RowS.nil_ W 0) (RowsIn.nil_ W 0) rfl (by omega)
            clear hb7 HP6 HB6 hTb
            go_wp2_with fail
            refine (hSm _).mono ?_
            rintro e w8 ⟨rfl, nk, rfl⟩
            have hbz := below_drewN (Below.refl w7.heap.size w7) nk
            have hP := HP7.out.free.ext hbz
            have hb := HB7.out.trans (hbz.mono HB7.out.size)
            clear hSm HP7 HB7 hbz
            go_wp2_with fail
            go_roundw
            case rel => exact ⟨k + 1, t, pa, pb, na, nb, by omega, by omega, by go_num, rfl, by omega, HSI.out, HOK.out.1.mono (by omega), HOK.out.2.1.mono (by omega), HOK.out.2.2, by omega, by omega, hP, hb⟩
            case measure => simp [intOf]; omega
          · have hBy := FBytes_yes F2 A3 c3 b4 w4 HF.out.2.1 HS4.out (by have := HF.out.2.2.2.1; omega) hR
            rw [HCE.out] at hBy
            have HBy := Lib.hid hBy
            have HRT := Lib.hid hR
            clear hBy hR
            go_wp2_with fail
            rw [← HW4.out]
            refine HBy.out.mono ?_
            rintro e w5 ⟨v5, rfl, hrow5, hb5⟩
            obtain ⟨A5, c5, b5, hv5, hc5, -, -, hb5w, hs5, -⟩ := hrow5.sl
            obtain ⟨Z5, hP5, -, hZn⟩ := HP4.out.fence1 hb5
            obtain ⟨m5, hm5⟩ : ∃ m5, m5 = (sealedL F2.raw).length := ⟨_, rfl⟩
            rw [← hm5] at hv5 hc5
            subst hv5
            have hzp : sealedL F2.raw ≠ [] → Z5 b5 := fun h0 => hZn b5 hb5w (Bs.lt hs5 h0)
            have HB5 := Lib.hid (HB4.out.trans (hb5.mono HB4.out.size))
            obtain ⟨pc, hpc⟩ : ∃ pc, pc = (takeP pa F2).1 := ⟨_, rfl⟩
            obtain ⟨pd, hpd⟩ : ∃ pd, pd = (takeP pb F2).1 := ⟨_, rfl⟩
            obtain ⟨out, hout⟩ : ∃ out, out = (takeP pa F2).2.1 := ⟨_, rfl⟩
            obtain ⟨er, her⟩ : ∃ er, er = (takeP pa F2).2.2 := ⟨_, rfl⟩
            have hRa : takeP pa F2 = (pc, out, er) := by rw [hpc, hout, her]
            have hRb : takeP pb F2 = (pd, out, er) := by rw [hpd, hout, her, HS.out.2]
            have hol : out.length ≤ 65536 := by rw [hout]; exact take_len pa F2
            have hSt := HS.out.1
            rw [← hpc, ← hpd] at hSt
            have hokc := takeP_ok HOK.out.1 F2
            have hokd := takeP_ok HOK.out.2.1 F2
            rw [← hpc] at hokc
            rw [← hpd] at hokd
            have hepc : pc.L.ep = ep := by rw [hpc]; have h9 := takesP_ep pa [F2]; exact h9.trans HOK.out.2.2
            have HTa := Lib.hid (L2TakeM hP5 (16 * k) F2 A5 m5 c5 b5 HOK.out.1 (by omega) (by omega) HF.out.2.1 HRT.out hs5 hm5.symm hc5 (by rw [HF.out.2.2.2.2, HOK.out.2.2]) _ hRa)
            have HTb := Lib.hid (fun W (Zx : Nat → Prop) (h : L2 W Bb gb pb nb Ba ga pc (na + 1) Zx Z5) (hs : Bs W b5 A5 (sealedL F2.raw)) => L2TakeM h (16 * k) F2 A5 m5 c5 b5 HOK.out.2.1 (by omega) (by omega) HF.out.2.1 HRT.out hs hm5.symm hc5 (by rw [HF.out.2.2.2.2, ← HSI.out.L, HOK.out.2.2]) _ hRb)
            have HS5 := Lib.hid hs5
            have HZP := Lib.hid hzp
            have HST := Lib.hid (And.intro hSt (And.intro hokc (And.intro hokd hepc)))
            have HAb := Lib.hid hP5.hA
            have HOL := Lib.hid hol
            clear HBy hb5 hrow5 hs5 hb5w hP5 hZn hm5 hzp hpc hpd hout her hRa hRb hSt hokc hokd hepc hol HP4 HB4 HS4 z0 z1 z2 z3 z4 z5 z6 z7 f0 f7
            go_wp2_with fail
            refine HTa.out.mono ?_
            rintro e w6 ⟨A6, c6, us6, M, rfl, hP6, hrs6, hI6, hM1, hM2, hK6⟩
            have hs6 := hK6.bs HS5.out HZP.out
            have HB6 := Lib.hid (HB5.out.trans ((hK6.below HAb.out).mono hs1))
            have HT2 := Lib.hid (HTb.out w6 _ hP6.symm hs6)
            have HBb := Lib.hid hP6.symm.hA
            obtain ⟨no, hno⟩ : ∃ no, no = out.length := ⟨_, rfl⟩
            have hno2 : (pc, out, er).2.1.length = no := hno.symm
            have hno3 : (pd, out, er).2.1.length = no := hno.symm
            rw [hno2] at hrs6 hM1 ⊢
            rw [hno3] at HT2
            have HR6 := Lib.hid (And.intro hrs6 (And.intro hI6 (And.intro hM1 hM2)))
            have HNO := Lib.hid hno
            clear HTa HTb hK6 hP6 hs6 hrs6 hI6 hM1 hM2 hno hno2 hno3 HB5 HS5
            go_wp2_with fail
            refine HT2.out.mono ?_
            rintro e w7 ⟨A7, c7, us7, M7, rfl, hP7, hrs7, hI7, -, -, hK7⟩
            obtain ⟨hrs6, hI6, hM1, hM2⟩ := HR6.out
            have hrs6' := hK7.rowS hrs6 (fun k hk => .inr (hM1 k hk))
            have hI6' := hK7.rowsIn hI6 (fun u hu k hk => .inr (hM2 u hu k hk))
            have HB7 := Lib.hid (HB6.out.trans ((hK7.below HBb.out).mono hs2))
            have HP7 := Lib.hid hP7.free.symm
            have HSM := Lib.hid (same_rows hrs6' hI6' hrs7 hI7 HNO.out.symm (by have := HOL.out; have := HNO.out; omega))
            clear HT2 hK7 hP7 hrs7 hI7 hrs6 hI6 hM1 hM2 hrs6' hI6' HR6 HB6 HBb
            go_wp2_with fail
            refine HSM.out.mono ?_
            rintro e w8 ⟨rfl, nk, rfl⟩
            have hbz := below_drewN (Below.refl w7.heap.size w7) nk
            have hP := HP7.out.ext hbz
            have hb := HB7.out.trans (hbz.mono HB7.out.size)
            clear HSM HP7 HB7 hbz
            go_wp2_with fail
            go_roundw
            case rel => exact ⟨k + 1, t, pc, pd, na + 1, nb + 1, by omega, by omega, by go_num, rfl, by omega, HST.out.1, HST.out.2.1.mono (by omega), HST.out.2.2.1.mono (by omega), HST.out.2.2.2, by omega, by omega, hP, hb⟩
            case measure => simp [intOf]; omega
      · obtain rfl : k = 40 := by omega
        have hb := hb.trans (ha.mono hb.size)
        have hP := hP.ext ha
        clear h40 ha hIn
        have hwl := hSim.wl
        have hxl := hSim.xl
        obtain ⟨n1, hn1⟩ : ∃ n1, n1 = pa.ws.length := ⟨_, rfl⟩
        obtain ⟨n2, hn2⟩ : ∃ n2, n2 = pa.xs.length := ⟨_, rfl⟩
        have HW1 := Lib.hid (L2Waiting hP (n := n1) hn1.symm)
        have HW2 := Lib.hid (L2Waiting hP.symm (n := n1) (by rw [← hwl]; exact hn1.symm))
        have HF1 := Lib.hid (L2Flying hP (n := n2) hn2.symm)
        have HF2 := Lib.hid (L2Flying hP.symm (n := n2) (by rw [← hxl]; exact hn2.symm))
        have HBE := Lib.hid hb
        clear hP hb hSim hwl hxl hn1 hn2
        go_wp2_with fail
        refine HW1.out.mono ?_
        rintro e wf ⟨rfl, e7⟩
        subst e7
        clear HW1
        go_wp2_with fail
        refine HW2.out.mono ?_
        rintro e wf ⟨rfl, e7⟩
        subst e7
        clear HW2
        go_wp2_with fail
        refine HF1.out.mono ?_
        rintro e wf ⟨rfl, e7⟩
        subst e7
        clear HF1
        go_wp2_with fail
        refine HF2.out.mono ?_
        rintro e wf ⟨rfl, e7⟩
        subst e7
        clear HF2
        go_wp2_with fail
        go_ret
        exact ⟨rfl, HBE.out⟩
    · obtain rfl : k = N := by omega
      clear hlt
      have hwl := hSim.wl
      have hxl := hSim.xl
      obtain ⟨n1, hn1⟩ : ∃ n1, n1 = pa.ws.length := ⟨_, rfl⟩
      obtain ⟨n2, hn2⟩ : ∃ n2, n2 = pa.xs.length := ⟨_, rfl⟩
      have HW1 := Lib.hid (L2Waiting hP (n := n1) hn1.symm)
      have HW2 := Lib.hid (L2Waiting hP.symm (n := n1) (by rw [← hwl]; exact hn1.symm))
      have HF1 := Lib.hid (L2Flying hP (n := n2) hn2.symm)
      have HF2 := Lib.hid (L2Flying hP.symm (n := n2) (by rw [← hxl]; exact hn2.symm))
      have HBE := Lib.hid hb
      clear hP hb hSim hwl hxl hn1 hn2
      go_wp2_with fail
      refine HW1.out.mono ?_
      rintro e wf ⟨rfl, e7⟩
      subst e7
      clear HW1
      go_wp2_with fail
      refine HW2.out.mono ?_
      rintro e wf ⟨rfl, e7⟩
      subst e7
      clear HW2
      go_wp2_with fail
      refine HF1.out.mono ?_
      rintro e wf ⟨rfl, e7⟩
      subst e7
      clear HF1
      go_wp2_with fail
      refine HF2.out.mono ?_
      rintro e wf ⟨rfl, e7⟩
      subst e7
      clear HF2
      go_wp2_with fail
      go_ret
      exact ⟨rfl, HBE.out⟩
end Go.Proofs.YtcgbamkfflcdfaaDoor
