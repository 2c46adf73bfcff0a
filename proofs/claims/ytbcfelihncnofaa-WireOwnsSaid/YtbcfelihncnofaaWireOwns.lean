/- WireOwns: what was handed in, and what is told, is nobody else's; a nil wire. No condition. -/
import Derived.Test.YtbcfelihncnofaaWiH
import Derived.Test.YtbcfelihncnofaaRowSet
namespace Go.Proofs.Ytbcfelihncnofaa
open Go.RowKit
set_option linter.unusedVariables false

theorem PutNil_calls (A1 : Option Addr) (n1 c1 : Nat) (A2 : Option Addr) (n2 c2 : Nat) (w : World) :
    Calls Try.prog 11 #[.pointer none, .slice A1 n1 c1, .slice A2 n2 c2] w fun e w' => e = .returned (.tuple #[]) ∧ w' = w := by
  go_enter Try.func11, Try.ntmps11
  go_wp2_with fail
  first | go_end0 | refine bodyPost_ret (results_none rfl _ _ _) rfl ?_
  exact ⟨rfl, rfl⟩
theorem TakeNil_calls (w : World) : Calls Try.prog 16 #[.pointer none] w fun e w' => e = .returned (.slice none 0 0) ∧ w' = w := by
  go_enter Try.func16, Try.ntmps16
  go_wp2_with fail
  go_ret
  exact ⟨rfl, rfl⟩
theorem WaitNil_calls (w : World) : Calls Try.prog 13 #[.pointer none] w fun e w' => e = .returned (.int .i64 0) ∧ w' = w := by
  go_enter Try.func13, Try.ntmps13
  go_wp2_with fail
  go_ret
  exact ⟨rfl, rfl⟩
theorem bump (x : UInt8) : ((x.toNat : Int) + 1) % 256 = ((x + 1).toNat : Int) := by rw [UInt8.toNat_add]; simp
theorem SlT.ne {e : TypeId} {w w' : World} {b : Nat} {A : Option Addr} {xs : List Value} (h : SlT e w b A xs) {S : Nat → Prop} (hm : Mod S w w') (hs : b < w.heap.size → ¬ S b) : SlT e w' b A xs :=
  h.mod hm (fun cur fr hc => hs (Array.getElem?_eq_some_iff.1 hc).1)
theorem SlT.ne2 {e : TypeId} {w w' : World} {b : Nat} {A : Option Addr} {xs : List Value} (h : SlT e w b A xs) {S : Nat → Prop} (hm : Mod S w w') (hs : xs ≠ [] → ¬ S b) : SlT e w' b A xs := by
  by_cases h0 : xs = []
  · subst h0; exact SlT.nil_ _ _ _ _
  · exact h.mod hm (fun _ _ _ => hs h0)
/-- Somebody else's bytes turn: a wire stays. -/
theorem Wi.bump {B D g C : Nat} {w w' : World} {ks : List (List UInt8 × Int)} {m : Value} {l : List UInt8} (h : Wi B D g w ks) (hr : Row w C m l) (hlt : ∀ k, m.ownBlock = some k → k < D) (hm : Mod (fun i => m.ownBlock = some i) w w') : Wi B D g w' ks := by
  obtain ⟨v, ps, q, hrow, hk, hx, ha⟩ := h.out
  exact ⟨v, ps, q.mod hm (row_apart hr q (by decide)), own_mod hrow hm (fun k h1 h2 => own_apart hr hrow (by decide) h2 h1), hk, fun x hx2 => (hx x hx2).mod hm (fun k h1 h2 => by have := ((hx x hx2).lt k h1).1; have := hlt k h2; omega), ha⟩
set_option maxHeartbeats 8000000 in
set_option maxRecDepth 20000 in
theorem WireOwns_walk (A1 : Option Addr) (l1 : List UInt8) (n1 c1 b1 : Nat) (w : World) (hs1 : Bs w b1 A1 l1) (hn1 : l1.length = n1) (hm1 : n1 ≤ maxLen) :
    Calls Try.prog 5 #[.slice A1 n1 c1] w fun e w' => e = .returned (.bool true) ∧ Below w.heap.size w w' := by
  have HN1 := Lib.hid hn1
  clear hn1
  go_enter Try.func5, Try.ntmps5
  go_wp2_with fail
  refine (awake_calls _).mono ?_
  rintro e w1 ⟨rfl, hb⟩
  replace hs1 := Sl.ext hs1 hb
  go_wp2_with fail
  refine (Cut_calls A1 l1 n1 c1 b1 20 _ hs1 HN1.out hm1 (by simp only [List.length_take]; omega)).mono ?_
  rintro e w2 ⟨v2, rfl, hrow2, hb2⟩
  obtain ⟨p, hp⟩ : ∃ p, p = l1.take (20 : Int).toNat := ⟨_, rfl⟩
  have hpl : p.length ≤ 20 := by rw [hp]; simp only [List.length_take]; omega
  rw [← hp] at hrow2
  replace hb := hb.trans (hb2.mono hb.size)
  have hlt2 := hrow2.lt
  obtain ⟨A3, c3, b3, rfl, -, -, -, hs3, hk3⟩ := SlT.of_own hrow2
  obtain ⟨pn, hpn⟩ : ∃ pn, p.length = pn := ⟨_, rfl⟩
  have hb3lt : pn ≠ 0 → b3 < w2.heap.size := fun h0 => hs3.1.lt (by rw [ne_eq, bv_nil_iff]; rintro rfl; exact h0 hpn.symm)
  rw [hpn]
  have HPN := Lib.hid hpn
  rw [hpn] at hpl
  clear hb2 hs1 hp hrow2 hlt2 hk3 hpn
  have xs0 : w2.heap.size = w2.heap.size := rfl
  have xb1 := below_alloc1 w2 (.cells #[.slice A3 pn c3] 46)
  have xf1 := SlT.new2 w2 #[.slice A3 pn c3] 46 _ xs0
  have xs1 : (w2.alloc (.cells #[.slice A3 pn c3] 46)).heap.size = w2.heap.size + 1 := by simp
  obtain ⟨xw1, xe1⟩ : ∃ xw1, xw1 = w2.alloc (.cells #[.slice A3 pn c3] 46) := ⟨_, rfl⟩
  rw [← xe1] at xb1 xf1 xs1
  have xB := xb1
  clear xb1
  have hJ := Join_calls _ [.slice A3 pn c3] [p] 1 1 _ xw1 xf1.1 (Bss.cons (hs3.ext xB).1 HPN.out (Bss.nil_ _)) rfl (by simp [maxLen]) (by have := HPN.out; simp; omega)
  replace hs3 := hs3.ext xB
  replace hb := hb.trans (xB.mono hb.size)
  have HBX := Lib.hid (show w.heap.size ≤ xw1.heap.size from hb.size)
  have hb3l : pn ≠ 0 → b3 < xw1.heap.size := fun h => Nat.lt_of_lt_of_le (hb3lt h) xB.size
  clear xf1 xB hb3lt
  go_wp2_with fail
  rw [← xe1]
  refine hJ.mono ?_
  rintro e w3 ⟨v3, rfl, hmine, hb3⟩
  clear hJ
  clear xe1 xs1 xs0
  rw [show ([p] : List (List UInt8)).flatten = p by simp] at hmine
  replace hs3 := hs3.ext hb3
  replace hb := hb.trans (hb3.mono hb.size)
  obtain ⟨A4, c4, b4, hv4, -, -, hb4, hs4, hk4⟩ := SlT.of_own hmine
  rw [HPN.out] at hv4
  have hap : pn ≠ 0 → b3 ≠ b4 := fun h e => by have := hb3l h; omega
  have hlt4 := hmine.lt
  subst hv4
  have HK4 := Lib.hid hk4
  have HB4 := Lib.hid hb4
  have HB3 := Lib.hid (show w.heap.size ≤ w3.heap.size from hb.size)
  have hb3w : pn ≠ 0 → b3 < w3.heap.size := fun h => Nat.lt_of_lt_of_le (hb3l h) hb3.size
  clear hb3 hb4 hb3l hk4
  have ys0 : w3.heap.size = w3.heap.size := rfl
  have yb1 := below_alloc1 w3 (.cells #[.slice none 0 0] 26)
  have yf1 := SlT.new2 w3 #[.slice none 0 0] 26 _ ys0
  have ys1 : (w3.alloc (.cells #[.slice none 0 0] 26)).heap.size = w3.heap.size + 1 := by simp
  obtain ⟨yw1, ye1⟩ : ∃ yw1, yw1 = w3.alloc (.cells #[.slice none 0 0] 26) := ⟨_, rfl⟩
  rw [← ye1] at yb1 yf1 ys1
  have yB := yb1
  have yb2 := below_alloc1 yw1 (.cells #[.slice A4 pn c4, .slice A4 pn c4] 46)
  have yf2 := SlT.new2 yw1 #[.slice A4 pn c4, .slice A4 pn c4] 46 _ ys1
  have ys2 : (yw1.alloc (.cells #[.slice A4 pn c4, .slice A4 pn c4] 46)).heap.size = w3.heap.size + 1 + 1 := by simp [ys1]
  obtain ⟨yw2, ye2⟩ : ∃ yw2, yw2 = yw1.alloc (.cells #[.slice A4 pn c4, .slice A4 pn c4] 46) := ⟨_, rfl⟩
  rw [← ye2] at yb2 yf2 ys2
  replace yf1 := yf1.ext yb2
  replace yB := yB.trans (yb2.mono yB.size)
  have yb3 := below_alloc1 yw2 (.cells #[.int .u8 2, .int .u16 0, .int .u32 0] 50)
  have yf3 := SlT.new2 yw2 #[.int .u8 2, .int .u16 0, .int .u32 0] 50 _ ys2
  have ys3 : (yw2.alloc (.cells #[.int .u8 2, .int .u16 0, .int .u32 0] 50)).heap.size = w3.heap.size + 1 + 1 + 1 := by simp [ys2]
  obtain ⟨yw3, ye3⟩ : ∃ yw3, yw3 = yw2.alloc (.cells #[.int .u8 2, .int .u16 0, .int .u32 0] 50) := ⟨_, rfl⟩
  rw [← ye3] at yb3 yf3 ys3
  replace yf1 := yf1.ext yb3
  replace yf2 := yf2.ext yb3
  replace yB := yB.trans (yb3.mono yB.size)
  clear yb1 yb2 yb3
  have hq0 : Wi w3.heap.size yw3.heap.size w3.heap.size yw3 [] := Wi.new_ (by
    have h1 : Box yw1 w3.heap.size (.slice none 0 0) 26 := by rw [ye1]; exact Box.new_ _ _ _
    have h2 : Below yw1.heap.size yw1 yw3 := by rw [ye3, ye2]; exact below_alloc2 _ _ _
    exact h1.ext h2)
  have hLp : ∀ l ∈ [p, p], l.length ≤ 1000000 := by
    have h1 := HPN.out
    intro l hl
    simp at hl
    subst hl
    omega
  have hP := WPut_calls w3.heap.size yw3.heap.size w3.heap.size [] _ _ [p, p] 2 2 _ _ [⟨2, 0, 0⟩] 1 1 _ yw3 hq0 yf2 (BssT.cons (hs4.ext yB) HPN.out (BssT.cons (hs4.ext yB) HPN.out (BssT.nil_ _))) rfl hLp (show SlT 50 yw3 _ _ (ftv [⟨2, 0, 0⟩]) from yf3) rfl (by decide) (by decide) (by decide) yB.size (Nat.le_refl _) (Nat.le_refl _)
  rw [show ([] ++ putsN [p, p] [⟨2, 0, 0⟩] 2 : List (List UInt8 × Int)) = [(p, 1), (p, 1), (p, 1)] from rfl] at hP
  replace hs3 := hs3.ext yB
  replace hmine := hmine.ext yB
  replace hb := hb.trans (yB.mono hb.size)
  have hlt4' : ∀ k, (Value.slice A4 pn c4).ownBlock = some k → k < yw3.heap.size := fun k hk => Nat.lt_of_lt_of_le (hlt4 k hk).2 yB.size
  have hw3y := yB.size
  have HY := Lib.hid (Nat.le_trans HB3.out yB.size)
  have hb3D : pn ≠ 0 → b3 < yw3.heap.size := fun h => Nat.lt_of_lt_of_le (hb3w h) yB.size
  clear hq0 yf1 yf2 yf3 yB hs4 hlt4
  go_wp2_with fail
  rw [← ye1, ← ye2, ← ye3]
  refine hP.mono ?_
  rintro e w5 ⟨rfl, hw, hm⟩
  clear hP
  clear ye1 ys1 ye2 ys2 ye3 ys3 ys0
  replace hs3 := hm.slT hs3 (by decide) (by decide)
  replace hmine := hm.own hmine (by decide) (by decide)
  replace hb := hb.trans (hm.bel.mono HB3.out)
  have hB5 := Nat.le_trans hw3y hm.bel.size
  have hy5 := hm.bel.size
  clear hm
  go_wp2_with fail
  go_loopw [24] (fun i wr => ∃ (k : Nat) (l : List UInt8), k ≤ pn ∧ i = .int .i64 k ∧ l.length = pn ∧ Row wr xw1.heap.size (.slice A4 pn c4) l ∧ Mod (fun i => (Value.slice A4 pn c4).ownBlock = some i) w5 wr) (fun i _ => pn - (intOf i).toNat)
  case atStart => exact ⟨0, p, Nat.zero_le _, rfl, HPN.out, hmine, Mod.refl _ _⟩
  case round =>
    obtain ⟨k, l, hk, rfl, hl, hr, hmr⟩ := hrel
    by_cases hlt : k < pn
    · have hkl : k < l.length := by omega
      obtain ⟨g, cap, hv, hBg, hgl, hc, hf, hset⟩ := Row.set_ hr (k := k) hkl
      injection hv with hA e1 e2
      subst hA
      obtain ⟨x, hx⟩ : ∃ x, x = l[k] := ⟨_, rfl⟩
      rw [← hx] at hc
      have hxo := bump x
      obtain ⟨y, hy⟩ : ∃ y, y = x + 1 := ⟨_, rfl⟩
      rw [← hy] at hxo
      have hm1 := Mod.setCell wr ⟨g, k, none⟩ (.int .u8 (y.toNat : Int))
      have HR := Lib.hid (hset y y.toNat _ rfl rfl)
      have HM := Lib.hid (hmr.trans hm1 (S := fun i => (Value.slice (some ⟨g, 0, none⟩) pn c4).ownBlock = some i) (fun i hi h => h) (fun i hi h => by rw [show i = g from h]; rfl))
      have HL := Lib.hid hl
      clear hset hx hy hm1 hr hmr hmine hl e1 e2 hkl
      go_wp2_with fail
      go_roundw
      case rel => exact ⟨k + 1, l.set k y, by omega, by go_num, by rw [List.length_set]; exact HL.out, HR.out, HM.out⟩
      case measure => simp [intOf]; omega
    · obtain rfl : k = pn := by omega
      have hbp : bv p ≠ [] → k ≠ 0 := fun h h0 => h (by have h1 := HPN.out; rw [h0] at h1; rw [List.eq_nil_of_length_eq_zero h1]; rfl)
      replace hs3 := hs3.ne2 hmr (fun h hh => hap (hbp h) (HK4.out _ hh))
      replace hw := hw.bump hmine hlt4' hmr
      replace hb := hb.trans (hmr.below (B := w.heap.size) hb.size (fun i hi hh => by have := HK4.out i hh; have := HB4.out; have := HBX.out; omega))
      replace hB5 := Nat.le_trans hB5 hmr.size
      replace hy5 := Nat.le_trans hy5 hmr.size
      clear hr hmr hmine hl hlt4'
      have hT := WTake_calls w3.heap.size yw3.heap.size w3.heap.size [(p, 1), (p, 1), (p, 1)] wr hw (by simp) (by simp) hB5 (Nat.le_refl _)
      clear hw
      go_wp2_with fail
      refine hT.mono ?_
      rintro e w7 ⟨vo7, rfl, ⟨us7, hr7, hi7, hpw, -, hm⟩⟩
      rw [show nowK [(p, (1 : Int)), (p, 1), (p, 1)] = [p, p, p] from rfl] at hi7
      have hul : us7.length = 3 := hi7.1
      obtain ⟨u0, hu0, r0⟩ := hi7.2 0 p rfl
      obtain ⟨u1, hu1, r1⟩ := hi7.2 1 p rfl
      obtain ⟨u2, hu2, r2⟩ := hi7.2 2 p rfl
      have hus : us7 = [u0, u1, u2] := by
        match us7, hul with
        | [a, b, c], _ => simp at hu0 hu1 hu2; rw [hu0, hu1, hu2]
      subst hus
      have h01 : ApV u0 u1 := by simp at hpw; exact hpw.1.1
      have hr7' : w7.ownsRow wr.heap.size 46 1 vo7 3 [u0, u1, u2] := hr7
      obtain ⟨b7, c7, rfl, -, hb7l, -, hc7⟩ := own_first hr7' (by omega)
      have d0 := hc7 0 _ rfl
      have d1 := hc7 1 _ rfl
      have d2 := hc7 2 _ rfl
      replace hs3 := hm.slT hs3 (by decide) (by decide)
      replace hb := hb.trans (hm.bel.mono HB3.out)
      have hy7 := Nat.le_trans hy5 hm.bel.size
      obtain ⟨A0, cc0, bb0, hv0, -, -, -, s0, k0⟩ := SlT.of_own r0
      obtain ⟨A5, cc5, bb5, hv5, -, -, -, s5, k5⟩ := SlT.of_own r1
      obtain ⟨A6, cc6, bb6, hv6, -, -, -, s6, -⟩ := SlT.of_own r2
      rw [HPN.out] at hv0 hv5 hv6
      subst hv0 hv5 hv6
      have hS := fun (A' : Option Addr) (c' b' : Nat) W (h1 : Bs W b' A' p) (h2 : Bs W b3 A3 p) => Same_calls A' A3 p p k k c' c3 b' b3 W h1 h2 HPN.out HPN.out (by simp only [maxLen]; omega) (by simp only [maxLen]; omega)
      simp only [decide_true] at hS
      have hS0 := hS A0 cc0 bb0 w7 s0.1 hs3.1
      have HR0 := Lib.hid r0
      have HR1 := Lib.hid r1
      have H01 := Lib.hid h01
      have HR7 := Lib.hid hr7'
      clear hT hm hi7 hpw hul hu0 hu1 hu2 hr7 hr7' r0 r1 r2 h01 hc7
      go_wp2_with fail
      refine hS0.mono ?_
      rintro e w8 ⟨rfl, kd, rfl⟩
      have hS1 := hS A6 cc6 bb6 (w7.drewN kd) (Sl.drewN s6.1 kd) (Sl.drewN hs3.1 kd)
      clear hS0
      go_wp2_with fail
      refine hS1.mono ?_
      rintro e w9 ⟨rfl, ke, e9⟩
      have hb9 : Below w7.heap.size w7 w9 := by rw [e9]; exact below_drewN (below_drewN (Below.refl _ _) kd) ke
      clear hS1 e9
      replace d0 := sl_same hb9 d0
      replace d1 := sl_same hb9 d1
      replace hs3 := hs3.ext hb9
      replace s5 := s5.ext hb9
      have r0 := HR0.out.ext hb9
      have r1 := HR1.out.ext hb9
      have r7 := own_ext HR7.out hb9
      replace hb := hb.trans (hb9.mono hb.size)
      replace hy7 := Nat.le_trans hy7 hb9.size
      clear HR0 HR1 HR7 hb9 s0 s6 d2
      go_wp2_with fail
      go_loopw [58] (fun i wr => ∃ (j : Nat) (l : List UInt8), j ≤ k ∧ i = .int .i64 j ∧ l.length = k ∧ Row wr yw3.heap.size (.slice A0 k cc0) l ∧ Mod (fun i => (Value.slice A0 k cc0).ownBlock = some i) w9 wr) (fun i _ => k - (intOf i).toNat)
      case atStart => exact ⟨0, p, Nat.zero_le _, rfl, HPN.out, r0, Mod.refl _ _⟩
      case round =>
        obtain ⟨j, l, hj, rfl, hl, hr, hmr⟩ := hrel
        have d0' : World.cell? wr ⟨b7, 0, none⟩ = some (.slice A0 k cc0) := by
          have hh := hmr.block b7 (World.block_lt_of_cell? w9 _ d0) (fun h => own_apart r0 r7 (by decide) h rfl)
          exact (World.cell?_of_block hh).trans d0
        by_cases hlt : j < k
        · have hkl : j < l.length := by omega
          obtain ⟨g, cap, hv, hBg, hgl, hc, hf, hset⟩ := Row.set_ hr (k := j) hkl
          injection hv with hA e1 e2
          subst hA
          obtain ⟨x, hx⟩ : ∃ x, x = l[j] := ⟨_, rfl⟩
          rw [← hx] at hc
          have hxo := bump x
          obtain ⟨y, hy⟩ : ∃ y, y = x + 1 := ⟨_, rfl⟩
          rw [← hy] at hxo
          have hm1 := Mod.setCell wr ⟨g, j, none⟩ (.int .u8 (y.toNat : Int))
          have HR := Lib.hid (hset y y.toNat _ rfl rfl)
          have HM := Lib.hid (hmr.trans hm1 (S := fun i => (Value.slice (some ⟨g, 0, none⟩) k cc0).ownBlock = some i) (fun i hi h => h) (fun i hi h => by rw [show i = g from h]; rfl))
          have HL := Lib.hid hl
          clear hset hx hy hm1 hr hmr hl e1 e2 hkl r0 r1 r7 d0
          go_wp2_with fail
          go_roundw
          case rel => exact ⟨j + 1, l.set j y, by omega, by go_num, by rw [List.length_set]; exact HL.out, HR.out, HM.out⟩
          case measure => simp [intOf]; omega
        · obtain rfl : j = k := by omega
          replace hs3 := hs3.ne2 hmr (fun h hh => by have h1 := k0 _ hh; have h2 := hb3D (hbp h); have h3 := ((r0.lt _ hh)).1; omega)
          have s5' : SlT 5 wr bb5 A5 (bv p) := s5.ne2 hmr (fun h hh => by
            obtain ⟨kk, hkk⟩ : ∃ kk, (Value.slice A5 j cc5).ownBlock = some kk := by
              obtain ⟨off, hA, _⟩ := s5.1 h
              exact ⟨_, by rw [hA]; rfl⟩
            have h1 := k5 _ hkk
            rw [h1] at hkk
            exact H01.out _ hh hkk)
          have d1' : World.cell? wr ⟨b7, 1, none⟩ = some (.slice A5 j cc5) := by
            have hh := hmr.block b7 (World.block_lt_of_cell? w9 _ d1) (fun h => own_apart r0 r7 (by decide) h rfl)
            exact (World.cell?_of_block hh).trans d1
          replace hb := hb.trans (hmr.below hb.size (fun i hi hh => by have := (r0.lt i hh).1; have := HY.out; omega))
          have HHB := Lib.hid hb
          have hx1 := below_alloc1 wr (.cells #[.slice A3 j c3] 46)
          have hS2 := fun W (hW : Below wr.heap.size wr W) => hS A5 cc5 bb5 W (s5'.ext hW).1 (hs3.ext hW).1
          have hP1 := fun W => PutNil_calls (some ⟨wr.heap.size, 0, none⟩) 1 1 none 0 0 W
          have HS2 := Lib.hid hS2
          have HX1 := Lib.hid hx1
          have D1 := sl_same hx1 d1'
          clear hS2 hx1 r0 r1 r7 hr hmr hl d0 d1 d0' d1' hb hs3 s5 s5' k0 k5 hS
          go_wp2_with fail
          refine (hP1 _).mono ?_
          rintro e w11 ⟨rfl, e11⟩
          subst e11
          have hS3 := HS2.out _ HX1.out
          have HB11 := Lib.hid (HHB.out.trans (HX1.out.mono HHB.out.size))
          clear hP1
          go_wp2_with fail
          refine hS3.mono ?_
          rintro e w12 ⟨rfl, kf, e12⟩
          have HB12 : Hid (Below w.heap.size w w12) := Lib.hid (by rw [e12]; exact below_drewN HB11.out kf)
          clear hS3 e12
          have hT1 := TakeNil_calls w12
          have hW1 := WaitNil_calls w12
          go_wp2_with fail
          refine hT1.mono ?_
          rintro e w13 ⟨rfl, rfl⟩
          go_wp2_with fail
          refine hW1.mono ?_
          rintro e w14 ⟨rfl, rfl⟩
          go_wp2_with fail
          go_ret
          exact ⟨rfl, HB12.out⟩
end Go.Proofs.Ytbcfelihncnofaa
