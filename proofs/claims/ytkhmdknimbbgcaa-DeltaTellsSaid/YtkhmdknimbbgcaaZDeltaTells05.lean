/- Parts of one proof, in their order. -/
import Derived.Test.YtkhmdknimbbgcaaZDeltaTells04
import Derived.Deep.DeepCutAuto
/- The document's Of. Conditions: forty-eight cells at most; the numbers fit. -/
namespace Go.Proofs.Ytkhmdknimbbgcaa
open Go.RowKit
set_option linter.unusedVariables false

theorem four_set (w : World) (g : Nat) {t h : Nat} {vp vc : Value} (a b c d : Value) (q : BoxE w g t h vp vc) : ((((w.setCell ⟨g, 0, none⟩ a).setCell ⟨g, 1, none⟩ b).setCell ⟨g, 2, none⟩ c).setCell ⟨g, 3, none⟩ d).heap[g]? = some (.cells #[a, b, c, d] 44 (0, 0)) := by
  have h0 := heap_setCell_same w g 0 _ _ a q
  have h1 := heap_setCell_same _ g 1 _ _ b h0
  have h2 := heap_setCell_same _ g 2 _ _ c h1
  exact heap_setCell_same _ g 3 _ _ d h2
/-- What holds within the region. -/
structure FO (w : World) (K Bx wB bV tick H : Nat) (x : Int) (y : Nat) (AV : Option Addr) (V : List (Int × Nat)) (W : World) (up uc vp : Value) (ps : List UInt8) (vc : Value) (cs : List (Int × Nat)) : Prop where
  z : BoxE W K tick H up uc
  kx : BoxR6 W Bx x y
  rp : Row W wB vp ps
  rc : RowC 83 W wB vc cs
  q : BoxE W w.heap.size 0 0 (.slice none 0 0) (.slice none 0 0)
  sV : Sl W bV AV (cv V)
  b : Below w.heap.size w W
  zB : wB ≤ W.heap.size
  n : w.heap.size < K ∧ K < wB ∧ wB ≤ Bx ∧ bV < K
namespace FO
variable {w W W' : World} {K Bx wB bV tick H : Nat} {x : Int} {y : Nat} {AV : Option Addr} {V : List (Int × Nat)} {up uc vp vc : Value} {ps ps' : List UInt8} {cs cs' : List (Int × Nat)}
theorem ext (f : FO w K Bx wB bV tick H x y AV V W up uc vp ps vc cs) (h : Below W.heap.size W W') : FO w K Bx wB bV tick H x y AV V W' up uc vp ps vc cs :=
  ⟨f.z.ext h, f.kx.ext h, Row.ext f.rp h, RowC.ext f.rc h, f.q.ext h, Sl.ext f.sV h, f.b.trans (h.mono f.b.size), Nat.le_trans f.zB h.size, f.n⟩
theorem app1 (f : FO w K Bx wB bV tick H x y AV V W up uc vp ps vc cs) {vp' : Value} (hl : ∀ i, vp.ownBlock = some i → wB ≤ i ∧ i < Bx) (rp : Row W' wB vp' ps') (hm : Mod (fun i => vp.ownBlock = some i) W W') : FO w K Bx wB bV tick H x y AV V W' up uc vp' ps' vc cs :=
  have n := f.n
  ⟨f.z.mod hm (fun h => by have := (hl _ h).1; omega), f.kx.mod hm (fun h => by have := (hl _ h).2; omega), rp, RowC.mod f.rc hm (fun i hi h => rowsR_ne f.rp f.rc h hi), f.q.mod hm (fun h => by have := (hl _ h).1; omega), Sl.mod f.sV hm (fun h => by have := (hl _ h).1; omega), f.b.trans (hm.below (B := w.heap.size) f.b.size (fun i hi h => by have := (hl _ h).1; omega)), Nat.le_trans f.zB hm.size, n⟩
theorem app2 (f : FO w K Bx wB bV tick H x y AV V W up uc vp ps vc cs) {vc' : Value} (hl : ∀ i, vc.ownBlock = some i → wB ≤ i ∧ i < Bx) (rc : RowC 83 W' wB vc' cs') (hm : Mod (fun i => vc.ownBlock = some i) W W') : FO w K Bx wB bV tick H x y AV V W' up uc vp ps vc' cs' :=
  have n := f.n
  ⟨f.z.mod hm (fun h => by have := (hl _ h).1; omega), f.kx.mod hm (fun h => by have := (hl _ h).2; omega), Row.mod f.rp hm (fun i hi h => rowsR_ne f.rp f.rc hi h), rc, f.q.mod hm (fun h => by have := (hl _ h).1; omega), Sl.mod f.sV hm (fun h => by have := (hl _ h).1; omega), f.b.trans (hm.below (B := w.heap.size) f.b.size (fun i hi h => by have := (hl _ h).1; omega)), Nat.le_trans f.zB hm.size, n⟩
theorem set2 (f : FO w K Bx wB bV tick H x y AV V W up uc vp ps vc cs) (v : Value) : FO w K Bx wB bV tick H x y AV V (W.setCell ⟨K, 2, none⟩ v) v uc vp ps vc cs :=
  have n := f.n
  have hm := Mod.setCell W ⟨K, 2, none⟩ v
  ⟨f.z.set2 v, f.kx.mod hm (by show ¬ Bx = K; omega), Row.mod f.rp hm (fun i hi h => by have := (World.ownsRow.lt f.rp i hi).1; have h : i = K := h; omega), RowC.mod f.rc hm (fun i hi h => by have := (World.ownsRow.lt f.rc i hi).1; have h : i = K := h; omega), f.q.mod hm (by show ¬ w.heap.size = K; omega), Sl.mod f.sV hm (by show ¬ bV = K; omega), f.b.setCell (p := ⟨K, 2, none⟩) (by show w.heap.size ≤ K; omega) v, Nat.le_trans f.zB hm.size, n⟩
theorem set3 (f : FO w K Bx wB bV tick H x y AV V W up uc vp ps vc cs) (v : Value) : FO w K Bx wB bV tick H x y AV V (W.setCell ⟨K, 3, none⟩ v) up v vp ps vc cs :=
  have n := f.n
  have hm := Mod.setCell W ⟨K, 3, none⟩ v
  ⟨f.z.set3 v, f.kx.mod hm (by show ¬ Bx = K; omega), Row.mod f.rp hm (fun i hi h => by have := (World.ownsRow.lt f.rp i hi).1; have h : i = K := h; omega), RowC.mod f.rc hm (fun i hi h => by have := (World.ownsRow.lt f.rc i hi).1; have h : i = K := h; omega), f.q.mod hm (by show ¬ w.heap.size = K; omega), Sl.mod f.sV hm (by show ¬ bV = K; omega), f.b.setCell (p := ⟨K, 3, none⟩) (by show w.heap.size ≤ K; omega) v, Nat.le_trans f.zB hm.size, n⟩
end FO
theorem sl_far {W W' : World} {b Bx wB : Nat} {A : Option Addr} {xs : List Value} {v : Value} (h : Sl W b A xs) (hb : Bx < b) (hl : ∀ i, v.ownBlock = some i → wB ≤ i ∧ i < Bx) (hm : Mod (fun i => v.ownBlock = some i) W W') : Sl W' b A xs := Sl.mod h hm (fun h => by have := (hl _ h).2; omega)
set_option maxHeartbeats 16000000 in
set_option maxRecDepth 40000 in
theorem ROf_calls (A : Option Addr) (L : List (Int × Nat)) (n c b : Nat) (t : Nat) (o : Int) (tick : Nat) (w : World) (hs : Sl w b A (cv L)) (hn : L.length = n) (h48 : n ≤ 48) (hok : okC L) (ht : t ≤ 18446744073709551615) (htk : tick < 4294967296) :
    Calls Try.prog 15 #[.slice A n c, .int .u64 (t : Int), .int .i64 o, .int .u32 (tick : Int)] w fun e w' => ∃ vp vc, e = .returned (.agg #[.int .u32 (tick : Int), .int .u32 (hashL (viewL o L) : Nat), vp, vc]) ∧ Row w' w.heap.size vp (placesB t n) ∧ RowC 83 w' w.heap.size vc (cellsTo (viewL o L) t n) ∧ Below w.heap.size w w' := by
  have hb := below_alloc1 w (.cells #[.int .u32 0, .int .u32 0, .slice none 0 0, .slice none 0 0] 44)
  have q := BoxE.new_ w 0 0 (.slice none 0 0) (.slice none 0 0)
  have hs1 := Sl.ext hs hb
  have hV := fun W h => RefView_calls A L n c b o W h hn (by omega) hok
  obtain ⟨V, hVe⟩ : ∃ V, V = viewL o L := ⟨_, rfl⟩
  have hVl : V.length = n := by rw [hVe]; simp; exact hn
  have oV : okC V := by rw [hVe]; exact okC_view hok o
  rw [← hVe] at hV ⊢
  obtain ⟨H, hHe⟩ : ∃ H, H = hashL V := ⟨_, rfl⟩
  have hH := fun W AV cV bV h => RefHash_calls AV V n cV bV W h hVl (by omega) oV
  rw [← hHe] at hH ⊢
  obtain ⟨nV, hnV⟩ : ∃ nV, nV = n := ⟨_, rfl⟩
  rw [← hnV] at hV hH hVl h48 ⊢
  have HNV := Lib.hid hVl.symm
  clear hVe hs hok hHe hn hnV
  go_enter Try.func15, Try.ntmps15
  go_wp2_with fail
  refine (hV _ hs1).mono ?_
  rintro e w1 ⟨v, rfl, hv, h1⟩
  replace q := q.ext h1
  replace hb := hb.trans (h1.mono hb.size)
  obtain ⟨AV, cV, bV, hve, -, -, -, -, hsV, -⟩ := hv.sl
  rw [hVl] at hve
  subst hve
  have hbVl : 0 < nV → bV < w1.heap.size := fun h => Sl.lt hsV (by intro h0; have h5 := congrArg List.length h0; rw [cv_length, List.length_nil] at h5; omega)
  have hH := hH w1 AV cV bV hsV
  clear hV hs1 h1 hv hVl
  go_wp2_with fail
  refine hH.mono ?_
  rintro e w2 ⟨rfl, h2⟩
  replace q := q.ext h2
  replace hb := hb.trans (h2.mono hb.size)
  replace hsV := Sl.ext hsV h2
  have h12 := h2.size
  clear hH h2
  have z := BoxE.new_ w2 tick H (.slice none 0 0) (.slice none 0 0)
  have h3 := below_alloc1 w2 (.cells #[.int .u32 (tick : Int), .int .u32 (H : Int), .slice none 0 0, .slice none 0 0] 44)
  have hql := q.lt
  go_upto_region 3 with fail
  replace q := q.ext h3
  replace hb := hb.trans (h3.mono hb.size)
  replace hsV := Sl.ext hsV h3
  obtain ⟨K, hK⟩ : ∃ K, K = w2.heap.size := ⟨_, rfl⟩
  obtain ⟨w3, hw3⟩ : ∃ w3, w3 = w2.alloc (.cells #[.int .u32 (tick : Int), .int .u32 (H : Int), .slice none 0 0, .slice none 0 0] 44) := ⟨_, rfl⟩
  rw [← hw3] at q hb hsV z ⊢
  rw [← hK] at z hql h12 ⊢
  have hKl := z.lt
  obtain ⟨wB, hwB⟩ : ∃ wB, wB = w3.heap.size := ⟨_, rfl⟩
  rw [← hwB] at hKl
  have HWB := Lib.hid (show wB ≤ w3.heap.size by rw [hwB]; exact Nat.le_refl _)
  clear hw3 hK h3 hwB
  go_wp2_with fail
  go_loopw [1, 11, 12, 22] (fun tv _ _ i wr => ∃ (k : Nat) (vp vc : Value), k ≤ nV ∧ i = .int .i64 k ∧ tv = .int .u64 ((t / 2 ^ k : Nat) : Int) ∧ BoxE wr K tick H vp vc ∧ Row wr wB vp (placesB t k) ∧ RowC 83 wr wB vc (cellsTo V t k) ∧ BoxE wr w.heap.size 0 0 (.slice none 0 0) (.slice none 0 0) ∧ Sl wr bV AV (cv V) ∧ Below w.heap.size w wr ∧ wB ≤ wr.heap.size) (fun _ _ _ i _ => nV - (intOf i).toNat)
  case atStart => exact ⟨0, _, _, Nat.zero_le _, rfl, by simp, z, Row.nil_ _ _, RowC.nil_ _ _ _, q, hsV, hb, HWB.out⟩
  case round =>
    clear z q hsV hb
    obtain ⟨k, vp, vc, hk, rfl, rfl, z, rp, rc, q, hsV, hb, hzB⟩ := hrel
    by_cases hlt : k < nV
    · have hkV : k < V.length := by rw [← HNV.out]; exact hlt
      obtain ⟨off, rfl, f0, f1⟩ := sl_off hsV hkV
      have ph := placesB_hit (t := t) (k := k)
      have pm := placesB_miss (t := t) (k := k)
      have ch := cellsTo_hit (t := t) hkV
      have cm := cellsTo_miss (V := V) (t := t) (k := k)
      have hpl := placesTo_len t k
      obtain ⟨Tk, hTk⟩ : ∃ Tk, Tk = t / 2 ^ k := ⟨_, rfl⟩
      have hbit : ((Tk : Int) % 2 == 1) = t.testBit k := by
        rw [Nat.testBit_eq_decide_div_mod_eq, ← hTk, Bool.eq_iff_iff]
        simp only [beq_iff_eq, decide_eq_true_eq]
        omega
      have hbit2 : ((Tk : Int).tmod 2 == 1) = t.testBit k := by rw [Int.tmod_eq_emod_of_nonneg (by omega)]; exact hbit
      have HT2 := Lib.hid (show ((t / 2 ^ (k + 1) : Nat) : Int) = (Tk : Int) / 2 by rw [hTk, Nat.pow_succ, ← Nat.div_div_eq_div_mul]; simp)
      have hTl : Tk ≤ 18446744073709551615 := by rw [hTk]; exact Nat.le_trans (Nat.div_le_self _ _) ht
      rw [← hTk]
      obtain ⟨d, hd⟩ : ∃ d, d = t.testBit k := ⟨_, rfl⟩
      rw [← hd] at hbit hbit2 ph pm ch cm
      obtain ⟨⟨x, y⟩, hxy⟩ : ∃ p, p = V[k] := ⟨_, rfl⟩
      rw [← hxy] at f0 f1 ch
      simp only at f0 f1
      have PH := Lib.hid ph
      have PM := Lib.hid pm
      have CH := Lib.hid ch
      have CM := Lib.hid cm
      have ej : (k : Int) < (nV : Int) := by omega
      have hbVw := hbVl (by omega)
      have h9 := below_alloc1 wr (.cells #[.int .i32 x, .int .u32 (y : Int)] 83)
      have hplt := fun i h => World.ownsRow.lt rp i h
      have hclt := fun i h => World.ownsRow.lt rc i h
      have kx := BoxR6.new_ wr x y
      have HZ0 := Lib.hid hzB
      clear hd hxy ph pm ch cm hTk hkV
      replace z := z.ext h9
      replace rp := Row.ext rp h9
      replace rc := RowC.ext rc h9
      replace q := q.ext h9
      replace hsV := Sl.ext hsV h9
      replace hb := hb.trans (h9.mono hb.size)
      replace hzB := Nat.le_trans hzB h9.size
      clear h9
      go_upto_region 6 with fail
      clear f0 f1
      obtain ⟨wz, hwz⟩ : ∃ wz, wz = wr.alloc (.cells #[.int .i32 x, .int .u32 (y : Int)] 83) := ⟨_, rfl⟩
      obtain ⟨Bx, hBx⟩ : ∃ Bx, Bx = wr.heap.size := ⟨_, rfl⟩
      have hzBx : wB ≤ Bx := by rw [hBx]; exact HZ0.out
      rw [← hwz] at z rp rc q hsV hb hzB kx ⊢
      rw [← hBx] at kx hplt hclt ⊢
      clear hwz hBx
      cases d with
      | false =>
        go_wp2_with fail
        go_roundw
        case rel => exact ⟨k + 1, _, _, by omega, by go_num, by rw [HT2.out], z, by rw [PM.out (by trivial)]; exact rp, by rw [CM.out (by trivial)]; exact rc, q, hsV, hb, hzB⟩
        case measure => simp [intOf]; omega
      | true =>
        have hcvB : IntKind.u8.wrap (k : Int) = (k : Int) := IntWalk.u8_in _ (by omega)
        have HBY := Lib.hid (fun W => show Bs (World.alloc W (.cells #[.int .u8 (k : Int)] 5)) W.heap.size (some ⟨W.heap.size, 0, none⟩) [UInt8.ofNat k] by
          have hu : (Value.int .u8 (k : Int)) = .int .u8 ((UInt8.ofNat k).toNat : Int) := by rw [u8_ofNat]; congr 1; omega
          unfold Bs
          rw [show bv [UInt8.ofNat k] = [.int .u8 (k : Int)] by rw [hu]; rfl]
          exact Sl.one_new W _ _)
        obtain ⟨N7, hN7⟩ : ∃ N7, (placesB t k ++ [UInt8.ofNat k]).length = N7 := ⟨_, rfl⟩
        obtain ⟨N8, hN8⟩ : ∃ N8, (cellsTo V t k ++ [(x, y)]).length = N8 := ⟨_, rfl⟩
        have HN7 := Lib.hid hN7
        have HN8 := Lib.hid hN8
        have hl7 : (placesB t k).length + 1 ≤ 1000000 := by simp; omega
        have hl8 : (cellsTo V t k).length + 1 ≤ 1000000 := by simp; omega
        have HL7 := Lib.hid hl7
        have HL8 := Lib.hid hl8
        clear hN7 hN8 hl7 hl8 hpl
        go_upto_region 7 with fail
        clear hbit hbit2
        go_cut [35] (fun _ w9 => ∃ (vp' vc' : Value) (wy : World), wy = w9 ∧ BoxE wy K tick H vp' vc' ∧ Row wy wB vp' (placesB t k ++ [UInt8.ofNat k]) ∧ RowC 83 wy wB vc' (cellsTo V t k ++ [(x, y)]) ∧ BoxE wy w.heap.size 0 0 (.slice none 0 0) (.slice none 0 0) ∧ Sl wy bV (some ⟨bV, off, none⟩) (cv V) ∧ Below w.heap.size w wy ∧ wB ≤ wy.heap.size)
        case first =>
         have f : FO w K Bx wB bV tick H x y (some ⟨bV, off, none⟩) V wz vp vc vp (placesB t k) vc (cellsTo V t k) := ⟨z, kx, rp, rc, q, hsV, hb, hzB, ⟨by omega, by omega, by omega, by omega⟩⟩
         have HA1 := Lib.hid (fun (W : World) (f : BoxR6 W Bx x y) => show ∃ (b1 : Nat) (wn : World), b1 = W.heap.size ∧ wn = W.alloc (.cells #[.int .u8 (k : Int)] 5) ∧ Bx < b1 ∧ Bs wn b1 (some ⟨b1, 0, none⟩) [UInt8.ofNat k] ∧ Below W.heap.size W wn from ⟨_, _, rfl, rfl, f.lt, HBY.out W, below_alloc1 _ _⟩)
         have HA2 := Lib.hid (fun (W : World) (f : BoxR6 W Bx x y) => show ∃ (b2 : Nat) (wn : World), b2 = W.heap.size ∧ wn = W.alloc (.cells #[.int .i32 x, .int .u32 (y : Int)] 83) ∧ Bx < b2 ∧ Sl wn b2 (some ⟨b2, 0, none⟩) (cv [(x, y)]) ∧ Below W.heap.size W wn from ⟨_, _, rfl, rfl, f.lt, Sl.cell_new W (x, y) 83, below_alloc1 _ _⟩)
         clear z kx rp rc q hsV hb hzB
         go_wp2_with fail
         refine wp_region_held_drew (S := fun w9 => BoxR6 w9 Bx x y) (by kernel_rfl) ?_ (fun hHeld => ?_)
         · exact (by first | exact f.kx | exact f.kx.ext (below_drew (Below.refl _ _)))
         obtain ⟨wd2, hwd2⟩ : ∃ wd2, wd2 = World.drew wz := ⟨_, rfl⟩
         have h9 : Below wz.heap.size wz wd2 := by rw [hwd2]; exact below_drew (Below.refl _ _)
         rw [← hwd2] at hHeld ⊢
         replace f := f.ext h9
         clear h9
         clear hwd2
         refine wpAnyH_take (i := 0) (by simp only [List.getElem?_toArray]; rfl) (by kernel_rfl) (by kernel_rfl) (by kernel_rfl) (by exact fun _ _ _ h => h) (by exact yk (.pointer (some ⟨K, 2, none⟩)) (by kernel_rfl) (fun _ => by kernel_rfl)) hHeld ?_
         refine wpAnyH_take (i := 2) (by simp only [List.getElem?_toArray]; rfl) (by kernel_rfl) (by kernel_rfl) (by kernel_rfl) (by exact fun _ _ _ h => h) (by exact yk (.int .i64 (k : Int)) (by kernel_rfl) (fun _ => by kernel_rfl)) hHeld ?_
         refine wpAnyH_take (i := 3) (by simp only [List.getElem?_toArray]; rfl) (by kernel_rfl) (by kernel_rfl) (by kernel_rfl) (by exact fun _ _ _ h => h) (by exact yk_cvB (by kernel_rfl) (.tmp 32) rfl (k : Int) (by kernel_rfl) hcvB) hHeld ?_
         refine wpAnyH_take (i := 6) (by simp only [List.getElem?_toArray]; rfl) (by kernel_rfl) (by kernel_rfl) (by kernel_rfl) (by exact fun _ _ _ h => h) (by exact yk (.pointer (some ⟨K, 3, none⟩)) (by kernel_rfl) (fun _ => by kernel_rfl)) hHeld ?_
         refine wpAnyH_take (i := 8) (by simp only [List.getElem?_toArray]; rfl) (by kernel_rfl) (by kernel_rfl) (by kernel_rfl) (by exact fun _ _ _ h => h) (by exact yk_ldRC (by kernel_rfl) (.tmp 12) rfl Bx x y (by kernel_rfl) (fun _ h => h.c0) (fun _ h => h.c1)) hHeld ?_
         refine wpAnyH_ready (rs := [1, 4, 7, 9]) (by kernel_rfl) (by simp) ?_
         refine AllReadyH.cons (by simp only [List.getElem?_toArray]; rfl) (fun KK hKK => ?_) (AllReadyH.cons (by simp only [List.getElem?_toArray]; rfl) (fun KK hKK => ?_) (AllReadyH.cons (by simp only [List.getElem?_toArray]; rfl) (fun KK hKK => ?_) (AllReadyH.cons (by simp only [List.getElem?_toArray]; rfl) (fun KK hKK => ?_) AllReadyH.nil)))
         ·
          rw [if_pos (by kernel_rfl)]
          refine wp_ldP (.tmp 30) rfl ⟨K, 2, none⟩ vp (by kernel_rfl) f.z.c2 ?_
          refine hKK.out _ _ ?_ (fun hHeld => ?_)
          · exact (by first | exact f.kx | exact f.kx.ext (below_drew (Below.refl _ _)))
          clear hKK KK
          try simp only [Act.put, List.setIfInBounds_toArray, List.set_cons_zero, List.set_cons_succ]
          refine wpAnyH_ready (rs := [4, 7, 9]) (by kernel_rfl) (by simp) ?_
          refine AllReadyH.cons (by simp only [List.getElem?_toArray]; rfl) (fun KK hKK => ?_) (AllReadyH.cons (by simp only [List.getElem?_toArray]; rfl) (fun KK hKK => ?_) (AllReadyH.cons (by simp only [List.getElem?_toArray]; rfl) (fun KK hKK => ?_) AllReadyH.nil))
          ·
           rw [if_pos (by kernel_rfl)]
           refine wp_bsB (.tmp 33) rfl (k : Int) (by kernel_rfl) ?_
           obtain ⟨b1, w3, e1, e2, hx1, k1, h⟩ := HA1.out wd2 f.kx
           rw [← e1, ← e2]
           replace f := f.ext h
           clear e1 e2 h
           refine hKK.out _ _ ?_ (fun hHeld => ?_)
           · exact (by first | exact f.kx | exact f.kx.ext (below_drew (Below.refl _ _)))
           clear hKK KK
           try simp only [Act.put, List.setIfInBounds_toArray, List.set_cons_zero, List.set_cons_succ]
           refine wpAnyH_ready (rs := [5, 7, 9]) (by kernel_rfl) (by simp) ?_
           refine AllReadyH.cons (by simp only [List.getElem?_toArray]; rfl) (fun KK hKK => ?_) (AllReadyH.cons (by simp only [List.getElem?_toArray]; rfl) (fun KK hKK => ?_) (AllReadyH.cons (by simp only [List.getElem?_toArray]; rfl) (fun KK hKK => ?_) AllReadyH.nil))
           ·
            rw [if_pos (by kernel_rfl)]
            refine wp_appB (.tmp 31) (.tmp 34) rfl wB vp _ (by kernel_rfl) f.rp b1 (some ⟨b1, 0, none⟩) 1 1 [UInt8.ofNat k] (by kernel_rfl) k1 rfl HL7.out f.zB ?_
            intro v7 w4 rp' hm
            obtain ⟨A7, c7, b7, hv7, -⟩ := Row.sl rp'
            rw [HN7.out] at hv7
            subst hv7
            replace f := f.app1 hplt rp' hm
            clear k1 hm rp'
            refine hKK.out _ _ ?_ (fun hHeld => ?_)
            · exact (by first | exact f.kx | exact f.kx.ext (below_drew (Below.refl _ _)))
            clear hKK KK
            try simp only [Act.put, List.setIfInBounds_toArray, List.set_cons_zero, List.set_cons_succ]
            refine wpAnyH_ready (rs := [7, 9]) (by kernel_rfl) (by simp) ?_
            refine AllReadyH.cons (by simp only [List.getElem?_toArray]; rfl) (fun KK hKK => ?_) (AllReadyH.cons (by simp only [List.getElem?_toArray]; rfl) (fun KK hKK => ?_) AllReadyH.nil)
            ·
             rw [if_pos (by kernel_rfl)]
             refine wp_ldCs (.tmp 36) rfl ⟨K, 3, none⟩ vc (by kernel_rfl) f.z.c3 ?_
             refine hKK.out _ _ ?_ (fun hHeld => ?_)
             · exact (by first | exact f.kx | exact f.kx.ext (below_drew (Below.refl _ _)))
             clear hKK KK
             try simp only [Act.put, List.setIfInBounds_toArray, List.set_cons_zero, List.set_cons_succ]
             refine wpAnyH_take (i := 11) (by simp only [List.getElem?_toArray]; rfl) (by kernel_rfl) (by kernel_rfl) (by kernel_rfl) (by exact fun _ _ _ h => h) (by exact yk (.pointer (some ⟨K, 2, none⟩)) (by kernel_rfl) (fun _ => by kernel_rfl)) hHeld ?_
             refine wpAnyH_ready (rs := [9]) (by kernel_rfl) (by simp) ?_
             refine AllReadyH.cons (by simp only [List.getElem?_toArray]; rfl) (fun KK hKK => ?_) AllReadyH.nil
             rw [if_pos (by kernel_rfl)]
             refine wp_bsRC (.tmp 38) rfl x y (by kernel_rfl) ?_
             obtain ⟨b2, w5, e1, e2, hx2, k2, h⟩ := HA2.out w4 f.kx
             rw [← e1, ← e2]
             replace f := f.ext h
             clear e1 e2 h
             refine hKK.out _ _ ?_ (fun hHeld => ?_)
             · exact (by first | exact f.kx | exact f.kx.ext (below_drew (Below.refl _ _)))
             clear hKK KK
             try simp only [Act.put, List.setIfInBounds_toArray, List.set_cons_zero, List.set_cons_succ]
             refine wpAnyH_ready (rs := [10]) (by kernel_rfl) (by simp) ?_
             refine AllReadyH.cons (by simp only [List.getElem?_toArray]; rfl) (fun KK hKK => ?_) AllReadyH.nil
             rw [if_pos (by kernel_rfl)]
             refine wp_appRC (.tmp 37) (.tmp 39) rfl wB vc _ (by kernel_rfl) f.rc b2 (some ⟨b2, 0, none⟩) 1 1 [(x, y)] (by kernel_rfl) k2 rfl HL8.out f.zB ?_
             intro v8 w6 rc' hm
             obtain ⟨A8, c8, b8, hv8, -⟩ := RowC.sl rc'
             rw [HN8.out] at hv8
             subst hv8
             replace f := f.app2 hclt rc' hm
             clear k2 hm rc'
             refine hKK.out _ _ ?_ (fun hHeld => ?_)
             · exact (by first | exact f.kx | exact f.kx.ext (below_drew (Below.refl _ _)))
             clear hKK KK
             try simp only [Act.put, List.setIfInBounds_toArray, List.set_cons_zero, List.set_cons_succ]
             refine wpAnyH_ready (rs := [12]) (by kernel_rfl) (by simp) ?_
             refine AllReadyH.cons (by simp only [List.getElem?_toArray]; rfl) (fun KK hKK => ?_) AllReadyH.nil
             rw [if_pos (by kernel_rfl)]
             refine wp_stP (.tmp 41) (.tmp 35) rfl ⟨K, 2, none⟩ A7 N7 c7 (by kernel_rfl) (by kernel_rfl) _ f.z.c2 (f.z.fr 2) ?_
             replace f := f.set2 (.slice A7 N7 c7)
             obtain ⟨w7, e⟩ : ∃ w7, w7 = w6.setCell ⟨K, 2, none⟩ (.slice A7 N7 c7) := ⟨_, rfl⟩
             rw [← e] at f ⊢
             clear e
             refine hKK.out _ _ ?_ (fun hHeld => ?_)
             · exact (by first | exact f.kx | exact f.kx.ext (below_drew (Below.refl _ _)))
             clear hKK KK
             try simp only [Act.put]
             refine wpAnyH_take (i := 13) (by simp only [List.getElem?_toArray]; rfl) (by kernel_rfl) (by kernel_rfl) (by kernel_rfl) (by exact fun _ _ _ h => h) (by exact yk (.pointer (some ⟨K, 3, none⟩)) (by kernel_rfl) (fun _ => by kernel_rfl)) hHeld ?_
             refine wpAnyH_ready (rs := [14]) (by kernel_rfl) (by simp) ?_
             refine AllReadyH.cons (by simp only [List.getElem?_toArray]; rfl) (fun KK hKK => ?_) AllReadyH.nil
             rw [if_pos (by kernel_rfl)]
             refine wp_stCs (.tmp 42) (.tmp 40) rfl ⟨K, 3, none⟩ A8 N8 c8 (by kernel_rfl) (by kernel_rfl) _ f.z.c3 (f.z.fr 3) ?_
             replace f := f.set3 (.slice A8 N8 c8)
             obtain ⟨w8, e⟩ : ∃ w8, w8 = w7.setCell ⟨K, 3, none⟩ (.slice A8 N8 c8) := ⟨_, rfl⟩
             rw [← e] at f ⊢
             clear e
             refine hKK.out _ _ ?_ (fun hHeld => ?_)
             · exact (by first | exact f.kx | exact f.kx.ext (below_drew (Below.refl _ _)))
             clear hKK KK
             try simp only [Act.put]
             refine wpAnyH_done (by kernel_rfl) ?_ _
             go_wp2_with fail
             go_meet
             exact ⟨_, _, _, rfl, f.z, f.rp, f.rc, f.q, f.sV, f.b, f.zB⟩
            ·
             rw [if_pos (by kernel_rfl)]
             refine wp_bsRC (.tmp 38) rfl x y (by kernel_rfl) ?_
             obtain ⟨b2, w9, e1, e2, hx2, k2, h⟩ := HA2.out w4 f.kx
             rw [← e1, ← e2]
             replace f := f.ext h
             clear e1 e2 h
             refine hKK.out _ _ ?_ (fun hHeld => ?_)
             · exact (by first | exact f.kx | exact f.kx.ext (below_drew (Below.refl _ _)))
             clear hKK KK
             try simp only [Act.put, List.setIfInBounds_toArray, List.set_cons_zero, List.set_cons_succ]
             refine wpAnyH_ready (rs := [7]) (by kernel_rfl) (by simp) ?_
             refine AllReadyH.cons (by simp only [List.getElem?_toArray]; rfl) (fun KK hKK => ?_) AllReadyH.nil
             rw [if_pos (by kernel_rfl)]
             refine wp_ldCs (.tmp 36) rfl ⟨K, 3, none⟩ vc (by kernel_rfl) f.z.c3 ?_
             refine hKK.out _ _ ?_ (fun hHeld => ?_)
             · exact (by first | exact f.kx | exact f.kx.ext (below_drew (Below.refl _ _)))
             clear hKK KK
             try simp only [Act.put, List.setIfInBounds_toArray, List.set_cons_zero, List.set_cons_succ]
             refine wpAnyH_take (i := 11) (by simp only [List.getElem?_toArray]; rfl) (by kernel_rfl) (by kernel_rfl) (by kernel_rfl) (by exact fun _ _ _ h => h) (by exact yk (.pointer (some ⟨K, 2, none⟩)) (by kernel_rfl) (fun _ => by kernel_rfl)) hHeld ?_
             refine wpAnyH_ready (rs := [10]) (by kernel_rfl) (by simp) ?_
             refine AllReadyH.cons (by simp only [List.getElem?_toArray]; rfl) (fun KK hKK => ?_) AllReadyH.nil
             rw [if_pos (by kernel_rfl)]
             refine wp_appRC (.tmp 37) (.tmp 39) rfl wB vc _ (by kernel_rfl) f.rc b2 (some ⟨b2, 0, none⟩) 1 1 [(x, y)] (by kernel_rfl) k2 rfl HL8.out f.zB ?_
             intro v8 w10 rc' hm
             obtain ⟨A8, c8, b8, hv8, -⟩ := RowC.sl rc'
             rw [HN8.out] at hv8
             subst hv8
             replace f := f.app2 hclt rc' hm
             clear k2 hm rc'
             refine hKK.out _ _ ?_ (fun hHeld => ?_)
             · exact (by first | exact f.kx | exact f.kx.ext (below_drew (Below.refl _ _)))
             clear hKK KK
             try simp only [Act.put, List.setIfInBounds_toArray, List.set_cons_zero, List.set_cons_succ]
             refine wpAnyH_ready (rs := [12]) (by kernel_rfl) (by simp) ?_
             refine AllReadyH.cons (by simp only [List.getElem?_toArray]; rfl) (fun KK hKK => ?_) AllReadyH.nil
             rw [if_pos (by kernel_rfl)]
             refine wp_stP (.tmp 41) (.tmp 35) rfl ⟨K, 2, none⟩ A7 N7 c7 (by kernel_rfl) (by kernel_rfl) _ f.z.c2 (f.z.fr 2) ?_
             replace f := f.set2 (.slice A7 N7 c7)
             obtain ⟨w11, e⟩ : ∃ w11, w11 = w10.setCell ⟨K, 2, none⟩ (.slice A7 N7 c7) := ⟨_, rfl⟩
             rw [← e] at f ⊢
             clear e
             refine hKK.out _ _ ?_ (fun hHeld => ?_)
             · exact (by first | exact f.kx | exact f.kx.ext (below_drew (Below.refl _ _)))
             clear hKK KK
             try simp only [Act.put]
             refine wpAnyH_take (i := 13) (by simp only [List.getElem?_toArray]; rfl) (by kernel_rfl) (by kernel_rfl) (by kernel_rfl) (by exact fun _ _ _ h => h) (by exact yk (.pointer (some ⟨K, 3, none⟩)) (by kernel_rfl) (fun _ => by kernel_rfl)) hHeld ?_
             refine wpAnyH_ready (rs := [14]) (by kernel_rfl) (by simp) ?_
             refine AllReadyH.cons (by simp only [List.getElem?_toArray]; rfl) (fun KK hKK => ?_) AllReadyH.nil
             rw [if_pos (by kernel_rfl)]
             refine wp_stCs (.tmp 42) (.tmp 40) rfl ⟨K, 3, none⟩ A8 N8 c8 (by kernel_rfl) (by kernel_rfl) _ f.z.c3 (f.z.fr 3) ?_
             replace f := f.set3 (.slice A8 N8 c8)
             obtain ⟨w12, e⟩ : ∃ w12, w12 = w11.setCell ⟨K, 3, none⟩ (.slice A8 N8 c8) := ⟨_, rfl⟩
             rw [← e] at f ⊢
             clear e
             refine hKK.out _ _ ?_ (fun hHeld => ?_)
             · exact (by first | exact f.kx | exact f.kx.ext (below_drew (Below.refl _ _)))
             clear hKK KK
             try simp only [Act.put]
             refine wpAnyH_done (by kernel_rfl) ?_ _
             go_wp2_with fail
             go_meet
             exact ⟨_, _, _, rfl, f.z, f.rp, f.rc, f.q, f.sV, f.b, f.zB⟩
           ·
            rw [if_pos (by kernel_rfl)]
            refine wp_ldCs (.tmp 36) rfl ⟨K, 3, none⟩ vc (by kernel_rfl) f.z.c3 ?_
            refine hKK.out _ _ ?_ (fun hHeld => ?_)
            · exact (by first | exact f.kx | exact f.kx.ext (below_drew (Below.refl _ _)))
            clear hKK KK
            try simp only [Act.put, List.setIfInBounds_toArray, List.set_cons_zero, List.set_cons_succ]
            refine wpAnyH_ready (rs := [5, 9]) (by kernel_rfl) (by simp) ?_
            refine AllReadyH.cons (by simp only [List.getElem?_toArray]; rfl) (fun KK hKK => ?_) (AllReadyH.cons (by simp only [List.getElem?_toArray]; rfl) (fun KK hKK => ?_) AllReadyH.nil)
            ·
             rw [if_pos (by kernel_rfl)]
             refine wp_appB (.tmp 31) (.tmp 34) rfl wB vp _ (by kernel_rfl) f.rp b1 (some ⟨b1, 0, none⟩) 1 1 [UInt8.ofNat k] (by kernel_rfl) k1 rfl HL7.out f.zB ?_
             intro v7 w13 rp' hm
             obtain ⟨A7, c7, b7, hv7, -⟩ := Row.sl rp'
             rw [HN7.out] at hv7
             subst hv7
             replace f := f.app1 hplt rp' hm
             clear k1 hm rp'
             refine hKK.out _ _ ?_ (fun hHeld => ?_)
             · exact (by first | exact f.kx | exact f.kx.ext (below_drew (Below.refl _ _)))
             clear hKK KK
             try simp only [Act.put, List.setIfInBounds_toArray, List.set_cons_zero, List.set_cons_succ]
             refine wpAnyH_take (i := 11) (by simp only [List.getElem?_toArray]; rfl) (by kernel_rfl) (by kernel_rfl) (by kernel_rfl) (by exact fun _ _ _ h => h) (by exact yk (.pointer (some ⟨K, 2, none⟩)) (by kernel_rfl) (fun _ => by kernel_rfl)) hHeld ?_
             refine wpAnyH_ready (rs := [9]) (by kernel_rfl) (by simp) ?_
             refine AllReadyH.cons (by simp only [List.getElem?_toArray]; rfl) (fun KK hKK => ?_) AllReadyH.nil
             rw [if_pos (by kernel_rfl)]
             refine wp_bsRC (.tmp 38) rfl x y (by kernel_rfl) ?_
             obtain ⟨b2, w14, e1, e2, hx2, k2, h⟩ := HA2.out w13 f.kx
             rw [← e1, ← e2]
             replace f := f.ext h
             clear e1 e2 h
             refine hKK.out _ _ ?_ (fun hHeld => ?_)
             · exact (by first | exact f.kx | exact f.kx.ext (below_drew (Below.refl _ _)))
             clear hKK KK
             try simp only [Act.put, List.setIfInBounds_toArray, List.set_cons_zero, List.set_cons_succ]
             refine wpAnyH_ready (rs := [10]) (by kernel_rfl) (by simp) ?_
             refine AllReadyH.cons (by simp only [List.getElem?_toArray]; rfl) (fun KK hKK => ?_) AllReadyH.nil
             rw [if_pos (by kernel_rfl)]
             refine wp_appRC (.tmp 37) (.tmp 39) rfl wB vc _ (by kernel_rfl) f.rc b2 (some ⟨b2, 0, none⟩) 1 1 [(x, y)] (by kernel_rfl) k2 rfl HL8.out f.zB ?_
             intro v8 w15 rc' hm
             obtain ⟨A8, c8, b8, hv8, -⟩ := RowC.sl rc'
             rw [HN8.out] at hv8
             subst hv8
             replace f := f.app2 hclt rc' hm
             clear k2 hm rc'
             refine hKK.out _ _ ?_ (fun hHeld => ?_)
             · exact (by first | exact f.kx | exact f.kx.ext (below_drew (Below.refl _ _)))
             clear hKK KK
             try simp only [Act.put, List.setIfInBounds_toArray, List.set_cons_zero, List.set_cons_succ]
             refine wpAnyH_ready (rs := [12]) (by kernel_rfl) (by simp) ?_
             refine AllReadyH.cons (by simp only [List.getElem?_toArray]; rfl) (fun KK hKK => ?_) AllReadyH.nil
             rw [if_pos (by kernel_rfl)]
             refine wp_stP (.tmp 41) (.tmp 35) rfl ⟨K, 2, none⟩ A7 N7 c7 (by kernel_rfl) (by kernel_rfl) _ f.z.c2 (f.z.fr 2) ?_
             replace f := f.set2 (.slice A7 N7 c7)
             obtain ⟨w16, e⟩ : ∃ w16, w16 = w15.setCell ⟨K, 2, none⟩ (.slice A7 N7 c7) := ⟨_, rfl⟩
             rw [← e] at f ⊢
             clear e
             refine hKK.out _ _ ?_ (fun hHeld => ?_)
             · exact (by first | exact f.kx | exact f.kx.ext (below_drew (Below.refl _ _)))
             clear hKK KK
             try simp only [Act.put]
             refine wpAnyH_take (i := 13) (by simp only [List.getElem?_toArray]; rfl) (by kernel_rfl) (by kernel_rfl) (by kernel_rfl) (by exact fun _ _ _ h => h) (by exact yk (.pointer (some ⟨K, 3, none⟩)) (by kernel_rfl) (fun _ => by kernel_rfl)) hHeld ?_
             refine wpAnyH_ready (rs := [14]) (by kernel_rfl) (by simp) ?_
             refine AllReadyH.cons (by simp only [List.getElem?_toArray]; rfl) (fun KK hKK => ?_) AllReadyH.nil
             rw [if_pos (by kernel_rfl)]
             refine wp_stCs (.tmp 42) (.tmp 40) rfl ⟨K, 3, none⟩ A8 N8 c8 (by kernel_rfl) (by kernel_rfl) _ f.z.c3 (f.z.fr 3) ?_
             replace f := f.set3 (.slice A8 N8 c8)
             obtain ⟨w17, e⟩ : ∃ w17, w17 = w16.setCell ⟨K, 3, none⟩ (.slice A8 N8 c8) := ⟨_, rfl⟩
             rw [← e] at f ⊢
             clear e
             refine hKK.out _ _ ?_ (fun hHeld => ?_)
             · exact (by first | exact f.kx | exact f.kx.ext (below_drew (Below.refl _ _)))
             clear hKK KK
             try simp only [Act.put]
             refine wpAnyH_done (by kernel_rfl) ?_ _
             go_wp2_with fail
             go_meet
             exact ⟨_, _, _, rfl, f.z, f.rp, f.rc, f.q, f.sV, f.b, f.zB⟩
            ·
             rw [if_pos (by kernel_rfl)]
             refine wp_bsRC (.tmp 38) rfl x y (by kernel_rfl) ?_
             obtain ⟨b2, w18, e1, e2, hx2, k2, h⟩ := HA2.out w3 f.kx
             rw [← e1, ← e2]
             replace k1 := Sl.ext k1 h
             replace f := f.ext h
             clear e1 e2 h
             refine hKK.out _ _ ?_ (fun hHeld => ?_)
             · exact (by first | exact f.kx | exact f.kx.ext (below_drew (Below.refl _ _)))
             clear hKK KK
             try simp only [Act.put, List.setIfInBounds_toArray, List.set_cons_zero, List.set_cons_succ]
             refine wpAnyH_ready (rs := [5]) (by kernel_rfl) (by simp) ?_
             refine AllReadyH.cons (by simp only [List.getElem?_toArray]; rfl) (fun KK hKK => ?_) AllReadyH.nil
             rw [if_pos (by kernel_rfl)]
             refine wp_appB (.tmp 31) (.tmp 34) rfl wB vp _ (by kernel_rfl) f.rp b1 (some ⟨b1, 0, none⟩) 1 1 [UInt8.ofNat k] (by kernel_rfl) k1 rfl HL7.out f.zB ?_
             intro v7 w19 rp' hm
             obtain ⟨A7, c7, b7, hv7, -⟩ := Row.sl rp'
             rw [HN7.out] at hv7
             subst hv7
             replace k2 := sl_far k2 hx2 hplt hm
             replace f := f.app1 hplt rp' hm
             clear k1 hm rp'
             refine hKK.out _ _ ?_ (fun hHeld => ?_)
             · exact (by first | exact f.kx | exact f.kx.ext (below_drew (Below.refl _ _)))
             clear hKK KK
             try simp only [Act.put, List.setIfInBounds_toArray, List.set_cons_zero, List.set_cons_succ]
             refine wpAnyH_take (i := 11) (by simp only [List.getElem?_toArray]; rfl) (by kernel_rfl) (by kernel_rfl) (by kernel_rfl) (by exact fun _ _ _ h => h) (by exact yk (.pointer (some ⟨K, 2, none⟩)) (by kernel_rfl) (fun _ => by kernel_rfl)) hHeld ?_
             refine wpAnyH_ready (rs := [10]) (by kernel_rfl) (by simp) ?_
             refine AllReadyH.cons (by simp only [List.getElem?_toArray]; rfl) (fun KK hKK => ?_) AllReadyH.nil
             rw [if_pos (by kernel_rfl)]
             refine wp_appRC (.tmp 37) (.tmp 39) rfl wB vc _ (by kernel_rfl) f.rc b2 (some ⟨b2, 0, none⟩) 1 1 [(x, y)] (by kernel_rfl) k2 rfl HL8.out f.zB ?_
             intro v8 w20 rc' hm
             obtain ⟨A8, c8, b8, hv8, -⟩ := RowC.sl rc'
             rw [HN8.out] at hv8
             subst hv8
             replace f := f.app2 hclt rc' hm
             clear k2 hm rc'
             refine hKK.out _ _ ?_ (fun hHeld => ?_)
             · exact (by first | exact f.kx | exact f.kx.ext (below_drew (Below.refl _ _)))
             clear hKK KK
             try simp only [Act.put, List.setIfInBounds_toArray, List.set_cons_zero, List.set_cons_succ]
             refine wpAnyH_ready (rs := [12]) (by kernel_rfl) (by simp) ?_
             refine AllReadyH.cons (by simp only [List.getElem?_toArray]; rfl) (fun KK hKK => ?_) AllReadyH.nil
             rw [if_pos (by kernel_rfl)]
             refine wp_stP (.tmp 41) (.tmp 35) rfl ⟨K, 2, none⟩ A7 N7 c7 (by kernel_rfl) (by kernel_rfl) _ f.z.c2 (f.z.fr 2) ?_
             replace f := f.set2 (.slice A7 N7 c7)
             obtain ⟨w21, e⟩ : ∃ w21, w21 = w20.setCell ⟨K, 2, none⟩ (.slice A7 N7 c7) := ⟨_, rfl⟩
             rw [← e] at f ⊢
             clear e
             refine hKK.out _ _ ?_ (fun hHeld => ?_)
             · exact (by first | exact f.kx | exact f.kx.ext (below_drew (Below.refl _ _)))
             clear hKK KK
             try simp only [Act.put]
             refine wpAnyH_take (i := 13) (by simp only [List.getElem?_toArray]; rfl) (by kernel_rfl) (by kernel_rfl) (by kernel_rfl) (by exact fun _ _ _ h => h) (by exact yk (.pointer (some ⟨K, 3, none⟩)) (by kernel_rfl) (fun _ => by kernel_rfl)) hHeld ?_
             refine wpAnyH_ready (rs := [14]) (by kernel_rfl) (by simp) ?_
             refine AllReadyH.cons (by simp only [List.getElem?_toArray]; rfl) (fun KK hKK => ?_) AllReadyH.nil
             rw [if_pos (by kernel_rfl)]
             refine wp_stCs (.tmp 42) (.tmp 40) rfl ⟨K, 3, none⟩ A8 N8 c8 (by kernel_rfl) (by kernel_rfl) _ f.z.c3 (f.z.fr 3) ?_
             replace f := f.set3 (.slice A8 N8 c8)
             obtain ⟨w22, e⟩ : ∃ w22, w22 = w21.setCell ⟨K, 3, none⟩ (.slice A8 N8 c8) := ⟨_, rfl⟩
             rw [← e] at f ⊢
             clear e
             refine hKK.out _ _ ?_ (fun hHeld => ?_)
             · exact (by first | exact f.kx | exact f.kx.ext (below_drew (Below.refl _ _)))
             clear hKK KK
             try simp only [Act.put]
             refine wpAnyH_done (by kernel_rfl) ?_ _
             go_wp2_with fail
             go_meet
             exact ⟨_, _, _, rfl, f.z, f.rp, f.rc, f.q, f.sV, f.b, f.zB⟩
           ·
            rw [if_pos (by kernel_rfl)]
            refine wp_bsRC (.tmp 38) rfl x y (by kernel_rfl) ?_
            obtain ⟨b2, w23, e1, e2, hx2, k2, h⟩ := HA2.out w3 f.kx
            rw [← e1, ← e2]
            replace k1 := Sl.ext k1 h
            replace f := f.ext h
            clear e1 e2 h
            refine hKK.out _ _ ?_ (fun hHeld => ?_)
            · exact (by first | exact f.kx | exact f.kx.ext (below_drew (Below.refl _ _)))
            clear hKK KK
            try simp only [Act.put, List.setIfInBounds_toArray, List.set_cons_zero, List.set_cons_succ]
            refine wpAnyH_ready (rs := [5, 7]) (by kernel_rfl) (by simp) ?_
            refine AllReadyH.cons (by simp only [List.getElem?_toArray]; rfl) (fun KK hKK => ?_) (AllReadyH.cons (by simp only [List.getElem?_toArray]; rfl) (fun KK hKK => ?_) AllReadyH.nil)
            ·
             rw [if_pos (by kernel_rfl)]
             refine wp_appB (.tmp 31) (.tmp 34) rfl wB vp _ (by kernel_rfl) f.rp b1 (some ⟨b1, 0, none⟩) 1 1 [UInt8.ofNat k] (by kernel_rfl) k1 rfl HL7.out f.zB ?_
             intro v7 w24 rp' hm
             obtain ⟨A7, c7, b7, hv7, -⟩ := Row.sl rp'
             rw [HN7.out] at hv7
             subst hv7
             replace k2 := sl_far k2 hx2 hplt hm
             replace f := f.app1 hplt rp' hm
             clear k1 hm rp'
             refine hKK.out _ _ ?_ (fun hHeld => ?_)
             · exact (by first | exact f.kx | exact f.kx.ext (below_drew (Below.refl _ _)))
             clear hKK KK
             try simp only [Act.put, List.setIfInBounds_toArray, List.set_cons_zero, List.set_cons_succ]
             refine wpAnyH_ready (rs := [7]) (by kernel_rfl) (by simp) ?_
             refine AllReadyH.cons (by simp only [List.getElem?_toArray]; rfl) (fun KK hKK => ?_) AllReadyH.nil
             rw [if_pos (by kernel_rfl)]
             refine wp_ldCs (.tmp 36) rfl ⟨K, 3, none⟩ vc (by kernel_rfl) f.z.c3 ?_
             refine hKK.out _ _ ?_ (fun hHeld => ?_)
             · exact (by first | exact f.kx | exact f.kx.ext (below_drew (Below.refl _ _)))
             clear hKK KK
             try simp only [Act.put, List.setIfInBounds_toArray, List.set_cons_zero, List.set_cons_succ]
             refine wpAnyH_take (i := 11) (by simp only [List.getElem?_toArray]; rfl) (by kernel_rfl) (by kernel_rfl) (by kernel_rfl) (by exact fun _ _ _ h => h) (by exact yk (.pointer (some ⟨K, 2, none⟩)) (by kernel_rfl) (fun _ => by kernel_rfl)) hHeld ?_
             refine wpAnyH_ready (rs := [10]) (by kernel_rfl) (by simp) ?_
             refine AllReadyH.cons (by simp only [List.getElem?_toArray]; rfl) (fun KK hKK => ?_) AllReadyH.nil
             rw [if_pos (by kernel_rfl)]
             refine wp_appRC (.tmp 37) (.tmp 39) rfl wB vc _ (by kernel_rfl) f.rc b2 (some ⟨b2, 0, none⟩) 1 1 [(x, y)] (by kernel_rfl) k2 rfl HL8.out f.zB ?_
             intro v8 w25 rc' hm
             obtain ⟨A8, c8, b8, hv8, -⟩ := RowC.sl rc'
             rw [HN8.out] at hv8
             subst hv8
             replace f := f.app2 hclt rc' hm
             clear k2 hm rc'
             refine hKK.out _ _ ?_ (fun hHeld => ?_)
             · exact (by first | exact f.kx | exact f.kx.ext (below_drew (Below.refl _ _)))
             clear hKK KK
             try simp only [Act.put, List.setIfInBounds_toArray, List.set_cons_zero, List.set_cons_succ]
             refine wpAnyH_ready (rs := [12]) (by kernel_rfl) (by simp) ?_
             refine AllReadyH.cons (by simp only [List.getElem?_toArray]; rfl) (fun KK hKK => ?_) AllReadyH.nil
             rw [if_pos (by kernel_rfl)]
             refine wp_stP (.tmp 41) (.tmp 35) rfl ⟨K, 2, none⟩ A7 N7 c7 (by kernel_rfl) (by kernel_rfl) _ f.z.c2 (f.z.fr 2) ?_
             replace f := f.set2 (.slice A7 N7 c7)
             obtain ⟨w26, e⟩ : ∃ w26, w26 = w25.setCell ⟨K, 2, none⟩ (.slice A7 N7 c7) := ⟨_, rfl⟩
             rw [← e] at f ⊢
             clear e
             refine hKK.out _ _ ?_ (fun hHeld => ?_)
             · exact (by first | exact f.kx | exact f.kx.ext (below_drew (Below.refl _ _)))
             clear hKK KK
             try simp only [Act.put]
             refine wpAnyH_take (i := 13) (by simp only [List.getElem?_toArray]; rfl) (by kernel_rfl) (by kernel_rfl) (by kernel_rfl) (by exact fun _ _ _ h => h) (by exact yk (.pointer (some ⟨K, 3, none⟩)) (by kernel_rfl) (fun _ => by kernel_rfl)) hHeld ?_
             refine wpAnyH_ready (rs := [14]) (by kernel_rfl) (by simp) ?_
             refine AllReadyH.cons (by simp only [List.getElem?_toArray]; rfl) (fun KK hKK => ?_) AllReadyH.nil
             rw [if_pos (by kernel_rfl)]
             refine wp_stCs (.tmp 42) (.tmp 40) rfl ⟨K, 3, none⟩ A8 N8 c8 (by kernel_rfl) (by kernel_rfl) _ f.z.c3 (f.z.fr 3) ?_
             replace f := f.set3 (.slice A8 N8 c8)
             obtain ⟨w27, e⟩ : ∃ w27, w27 = w26.setCell ⟨K, 3, none⟩ (.slice A8 N8 c8) := ⟨_, rfl⟩
             rw [← e] at f ⊢
             clear e
             refine hKK.out _ _ ?_ (fun hHeld => ?_)
             · exact (by first | exact f.kx | exact f.kx.ext (below_drew (Below.refl _ _)))
             clear hKK KK
             try simp only [Act.put]
             refine wpAnyH_done (by kernel_rfl) ?_ _
             go_wp2_with fail
             go_meet
             exact ⟨_, _, _, rfl, f.z, f.rp, f.rc, f.q, f.sV, f.b, f.zB⟩
            ·
             rw [if_pos (by kernel_rfl)]
             refine wp_ldCs (.tmp 36) rfl ⟨K, 3, none⟩ vc (by kernel_rfl) f.z.c3 ?_
             refine hKK.out _ _ ?_ (fun hHeld => ?_)
             · exact (by first | exact f.kx | exact f.kx.ext (below_drew (Below.refl _ _)))
             clear hKK KK
             try simp only [Act.put, List.setIfInBounds_toArray, List.set_cons_zero, List.set_cons_succ]
             refine wpAnyH_ready (rs := [5]) (by kernel_rfl) (by simp) ?_
             refine AllReadyH.cons (by simp only [List.getElem?_toArray]; rfl) (fun KK hKK => ?_) AllReadyH.nil
             rw [if_pos (by kernel_rfl)]
             refine wp_appB (.tmp 31) (.tmp 34) rfl wB vp _ (by kernel_rfl) f.rp b1 (some ⟨b1, 0, none⟩) 1 1 [UInt8.ofNat k] (by kernel_rfl) k1 rfl HL7.out f.zB ?_
             intro v7 w28 rp' hm
             obtain ⟨A7, c7, b7, hv7, -⟩ := Row.sl rp'
             rw [HN7.out] at hv7
             subst hv7
             replace k2 := sl_far k2 hx2 hplt hm
             replace f := f.app1 hplt rp' hm
             clear k1 hm rp'
             refine hKK.out _ _ ?_ (fun hHeld => ?_)
             · exact (by first | exact f.kx | exact f.kx.ext (below_drew (Below.refl _ _)))
             clear hKK KK
             try simp only [Act.put, List.setIfInBounds_toArray, List.set_cons_zero, List.set_cons_succ]
             refine wpAnyH_take (i := 11) (by simp only [List.getElem?_toArray]; rfl) (by kernel_rfl) (by kernel_rfl) (by kernel_rfl) (by exact fun _ _ _ h => h) (by exact yk (.pointer (some ⟨K, 2, none⟩)) (by kernel_rfl) (fun _ => by kernel_rfl)) hHeld ?_
             refine wpAnyH_ready (rs := [10]) (by kernel_rfl) (by simp) ?_
             refine AllReadyH.cons (by simp only [List.getElem?_toArray]; rfl) (fun KK hKK => ?_) AllReadyH.nil
             rw [if_pos (by kernel_rfl)]
             refine wp_appRC (.tmp 37) (.tmp 39) rfl wB vc _ (by kernel_rfl) f.rc b2 (some ⟨b2, 0, none⟩) 1 1 [(x, y)] (by kernel_rfl) k2 rfl HL8.out f.zB ?_
             intro v8 w29 rc' hm
             obtain ⟨A8, c8, b8, hv8, -⟩ := RowC.sl rc'
             rw [HN8.out] at hv8
             subst hv8
             replace f := f.app2 hclt rc' hm
             clear k2 hm rc'
             refine hKK.out _ _ ?_ (fun hHeld => ?_)
             · exact (by first | exact f.kx | exact f.kx.ext (below_drew (Below.refl _ _)))
             clear hKK KK
             try simp only [Act.put, List.setIfInBounds_toArray, List.set_cons_zero, List.set_cons_succ]
             refine wpAnyH_ready (rs := [12]) (by kernel_rfl) (by simp) ?_
             refine AllReadyH.cons (by simp only [List.getElem?_toArray]; rfl) (fun KK hKK => ?_) AllReadyH.nil
             rw [if_pos (by kernel_rfl)]
             refine wp_stP (.tmp 41) (.tmp 35) rfl ⟨K, 2, none⟩ A7 N7 c7 (by kernel_rfl) (by kernel_rfl) _ f.z.c2 (f.z.fr 2) ?_
             replace f := f.set2 (.slice A7 N7 c7)
             obtain ⟨w30, e⟩ : ∃ w30, w30 = w29.setCell ⟨K, 2, none⟩ (.slice A7 N7 c7) := ⟨_, rfl⟩
             rw [← e] at f ⊢
             clear e
             refine hKK.out _ _ ?_ (fun hHeld => ?_)
             · exact (by first | exact f.kx | exact f.kx.ext (below_drew (Below.refl _ _)))
             clear hKK KK
             try simp only [Act.put]
             refine wpAnyH_take (i := 13) (by simp only [List.getElem?_toArray]; rfl) (by kernel_rfl) (by kernel_rfl) (by kernel_rfl) (by exact fun _ _ _ h => h) (by exact yk (.pointer (some ⟨K, 3, none⟩)) (by kernel_rfl) (fun _ => by kernel_rfl)) hHeld ?_
             refine wpAnyH_ready (rs := [14]) (by kernel_rfl) (by simp) ?_
             refine AllReadyH.cons (by simp only [List.getElem?_toArray]; rfl) (fun KK hKK => ?_) AllReadyH.nil
             rw [if_pos (by kernel_rfl)]
             refine wp_stCs (.tmp 42) (.tmp 40) rfl ⟨K, 3, none⟩ A8 N8 c8 (by kernel_rfl) (by kernel_rfl) _ f.z.c3 (f.z.fr 3) ?_
             replace f := f.set3 (.slice A8 N8 c8)
             obtain ⟨w31, e⟩ : ∃ w31, w31 = w30.setCell ⟨K, 3, none⟩ (.slice A8 N8 c8) := ⟨_, rfl⟩
             rw [← e] at f ⊢
             clear e
             refine hKK.out _ _ ?_ (fun hHeld => ?_)
             · exact (by first | exact f.kx | exact f.kx.ext (below_drew (Below.refl _ _)))
             clear hKK KK
             try simp only [Act.put]
             refine wpAnyH_done (by kernel_rfl) ?_ _
             go_wp2_with fail
             go_meet
             exact ⟨_, _, _, rfl, f.z, f.rp, f.rc, f.q, f.sV, f.b, f.zB⟩
          ·
           rw [if_pos (by kernel_rfl)]
           refine wp_ldCs (.tmp 36) rfl ⟨K, 3, none⟩ vc (by kernel_rfl) f.z.c3 ?_
           refine hKK.out _ _ ?_ (fun hHeld => ?_)
           · exact (by first | exact f.kx | exact f.kx.ext (below_drew (Below.refl _ _)))
           clear hKK KK
           try simp only [Act.put, List.setIfInBounds_toArray, List.set_cons_zero, List.set_cons_succ]
           refine wpAnyH_ready (rs := [4, 9]) (by kernel_rfl) (by simp) ?_
           refine AllReadyH.cons (by simp only [List.getElem?_toArray]; rfl) (fun KK hKK => ?_) (AllReadyH.cons (by simp only [List.getElem?_toArray]; rfl) (fun KK hKK => ?_) AllReadyH.nil)
           ·
            rw [if_pos (by kernel_rfl)]
            refine wp_bsB (.tmp 33) rfl (k : Int) (by kernel_rfl) ?_
            obtain ⟨b1, w32, e1, e2, hx1, k1, h⟩ := HA1.out wd2 f.kx
            rw [← e1, ← e2]
            replace f := f.ext h
            clear e1 e2 h
            refine hKK.out _ _ ?_ (fun hHeld => ?_)
            · exact (by first | exact f.kx | exact f.kx.ext (below_drew (Below.refl _ _)))
            clear hKK KK
            try simp only [Act.put, List.setIfInBounds_toArray, List.set_cons_zero, List.set_cons_succ]
            refine wpAnyH_ready (rs := [5, 9]) (by kernel_rfl) (by simp) ?_
            refine AllReadyH.cons (by simp only [List.getElem?_toArray]; rfl) (fun KK hKK => ?_) (AllReadyH.cons (by simp only [List.getElem?_toArray]; rfl) (fun KK hKK => ?_) AllReadyH.nil)
            ·
             rw [if_pos (by kernel_rfl)]
             refine wp_appB (.tmp 31) (.tmp 34) rfl wB vp _ (by kernel_rfl) f.rp b1 (some ⟨b1, 0, none⟩) 1 1 [UInt8.ofNat k] (by kernel_rfl) k1 rfl HL7.out f.zB ?_
             intro v7 w33 rp' hm
             obtain ⟨A7, c7, b7, hv7, -⟩ := Row.sl rp'
             rw [HN7.out] at hv7
             subst hv7
             replace f := f.app1 hplt rp' hm
             clear k1 hm rp'
             refine hKK.out _ _ ?_ (fun hHeld => ?_)
             · exact (by first | exact f.kx | exact f.kx.ext (below_drew (Below.refl _ _)))
             clear hKK KK
             try simp only [Act.put, List.setIfInBounds_toArray, List.set_cons_zero, List.set_cons_succ]
             refine wpAnyH_take (i := 11) (by simp only [List.getElem?_toArray]; rfl) (by kernel_rfl) (by kernel_rfl) (by kernel_rfl) (by exact fun _ _ _ h => h) (by exact yk (.pointer (some ⟨K, 2, none⟩)) (by kernel_rfl) (fun _ => by kernel_rfl)) hHeld ?_
             refine wpAnyH_ready (rs := [9]) (by kernel_rfl) (by simp) ?_
             refine AllReadyH.cons (by simp only [List.getElem?_toArray]; rfl) (fun KK hKK => ?_) AllReadyH.nil
             rw [if_pos (by kernel_rfl)]
             refine wp_bsRC (.tmp 38) rfl x y (by kernel_rfl) ?_
             obtain ⟨b2, w34, e1, e2, hx2, k2, h⟩ := HA2.out w33 f.kx
             rw [← e1, ← e2]
             replace f := f.ext h
             clear e1 e2 h
             refine hKK.out _ _ ?_ (fun hHeld => ?_)
             · exact (by first | exact f.kx | exact f.kx.ext (below_drew (Below.refl _ _)))
             clear hKK KK
             try simp only [Act.put, List.setIfInBounds_toArray, List.set_cons_zero, List.set_cons_succ]
             refine wpAnyH_ready (rs := [10]) (by kernel_rfl) (by simp) ?_
             refine AllReadyH.cons (by simp only [List.getElem?_toArray]; rfl) (fun KK hKK => ?_) AllReadyH.nil
             rw [if_pos (by kernel_rfl)]
             refine wp_appRC (.tmp 37) (.tmp 39) rfl wB vc _ (by kernel_rfl) f.rc b2 (some ⟨b2, 0, none⟩) 1 1 [(x, y)] (by kernel_rfl) k2 rfl HL8.out f.zB ?_
             intro v8 w35 rc' hm
             obtain ⟨A8, c8, b8, hv8, -⟩ := RowC.sl rc'
             rw [HN8.out] at hv8
             subst hv8
             replace f := f.app2 hclt rc' hm
             clear k2 hm rc'
             refine hKK.out _ _ ?_ (fun hHeld => ?_)
             · exact (by first | exact f.kx | exact f.kx.ext (below_drew (Below.refl _ _)))
             clear hKK KK
             try simp only [Act.put, List.setIfInBounds_toArray, List.set_cons_zero, List.set_cons_succ]
             refine wpAnyH_ready (rs := [12]) (by kernel_rfl) (by simp) ?_
             refine AllReadyH.cons (by simp only [List.getElem?_toArray]; rfl) (fun KK hKK => ?_) AllReadyH.nil
             rw [if_pos (by kernel_rfl)]
             refine wp_stP (.tmp 41) (.tmp 35) rfl ⟨K, 2, none⟩ A7 N7 c7 (by kernel_rfl) (by kernel_rfl) _ f.z.c2 (f.z.fr 2) ?_
             replace f := f.set2 (.slice A7 N7 c7)
             obtain ⟨w36, e⟩ : ∃ w36, w36 = w35.setCell ⟨K, 2, none⟩ (.slice A7 N7 c7) := ⟨_, rfl⟩
             rw [← e] at f ⊢
             clear e
             refine hKK.out _ _ ?_ (fun hHeld => ?_)
             · exact (by first | exact f.kx | exact f.kx.ext (below_drew (Below.refl _ _)))
             clear hKK KK
             try simp only [Act.put]
             refine wpAnyH_take (i := 13) (by simp only [List.getElem?_toArray]; rfl) (by kernel_rfl) (by kernel_rfl) (by kernel_rfl) (by exact fun _ _ _ h => h) (by exact yk (.pointer (some ⟨K, 3, none⟩)) (by kernel_rfl) (fun _ => by kernel_rfl)) hHeld ?_
             refine wpAnyH_ready (rs := [14]) (by kernel_rfl) (by simp) ?_
             refine AllReadyH.cons (by simp only [List.getElem?_toArray]; rfl) (fun KK hKK => ?_) AllReadyH.nil
             rw [if_pos (by kernel_rfl)]
             refine wp_stCs (.tmp 42) (.tmp 40) rfl ⟨K, 3, none⟩ A8 N8 c8 (by kernel_rfl) (by kernel_rfl) _ f.z.c3 (f.z.fr 3) ?_
             replace f := f.set3 (.slice A8 N8 c8)
             obtain ⟨w37, e⟩ : ∃ w37, w37 = w36.setCell ⟨K, 3, none⟩ (.slice A8 N8 c8) := ⟨_, rfl⟩
             rw [← e] at f ⊢
             clear e
             refine hKK.out _ _ ?_ (fun hHeld => ?_)
             · exact (by first | exact f.kx | exact f.kx.ext (below_drew (Below.refl _ _)))
             clear hKK KK
             try simp only [Act.put]
             refine wpAnyH_done (by kernel_rfl) ?_ _
             go_wp2_with fail
             go_meet
             exact ⟨_, _, _, rfl, f.z, f.rp, f.rc, f.q, f.sV, f.b, f.zB⟩
            ·
             rw [if_pos (by kernel_rfl)]
             refine wp_bsRC (.tmp 38) rfl x y (by kernel_rfl) ?_
             obtain ⟨b2, w38, e1, e2, hx2, k2, h⟩ := HA2.out w32 f.kx
             rw [← e1, ← e2]
             replace k1 := Sl.ext k1 h
             replace f := f.ext h
             clear e1 e2 h
             refine hKK.out _ _ ?_ (fun hHeld => ?_)
             · exact (by first | exact f.kx | exact f.kx.ext (below_drew (Below.refl _ _)))
             clear hKK KK
             try simp only [Act.put, List.setIfInBounds_toArray, List.set_cons_zero, List.set_cons_succ]
             refine wpAnyH_ready (rs := [5]) (by kernel_rfl) (by simp) ?_
             refine AllReadyH.cons (by simp only [List.getElem?_toArray]; rfl) (fun KK hKK => ?_) AllReadyH.nil
             rw [if_pos (by kernel_rfl)]
             refine wp_appB (.tmp 31) (.tmp 34) rfl wB vp _ (by kernel_rfl) f.rp b1 (some ⟨b1, 0, none⟩) 1 1 [UInt8.ofNat k] (by kernel_rfl) k1 rfl HL7.out f.zB ?_
             intro v7 w39 rp' hm
             obtain ⟨A7, c7, b7, hv7, -⟩ := Row.sl rp'
             rw [HN7.out] at hv7
             subst hv7
             replace k2 := sl_far k2 hx2 hplt hm
             replace f := f.app1 hplt rp' hm
             clear k1 hm rp'
             refine hKK.out _ _ ?_ (fun hHeld => ?_)
             · exact (by first | exact f.kx | exact f.kx.ext (below_drew (Below.refl _ _)))
             clear hKK KK
             try simp only [Act.put, List.setIfInBounds_toArray, List.set_cons_zero, List.set_cons_succ]
             refine wpAnyH_take (i := 11) (by simp only [List.getElem?_toArray]; rfl) (by kernel_rfl) (by kernel_rfl) (by kernel_rfl) (by exact fun _ _ _ h => h) (by exact yk (.pointer (some ⟨K, 2, none⟩)) (by kernel_rfl) (fun _ => by kernel_rfl)) hHeld ?_
             refine wpAnyH_ready (rs := [10]) (by kernel_rfl) (by simp) ?_
             refine AllReadyH.cons (by simp only [List.getElem?_toArray]; rfl) (fun KK hKK => ?_) AllReadyH.nil
             rw [if_pos (by kernel_rfl)]
             refine wp_appRC (.tmp 37) (.tmp 39) rfl wB vc _ (by kernel_rfl) f.rc b2 (some ⟨b2, 0, none⟩) 1 1 [(x, y)] (by kernel_rfl) k2 rfl HL8.out f.zB ?_
             intro v8 w40 rc' hm
             obtain ⟨A8, c8, b8, hv8, -⟩ := RowC.sl rc'
             rw [HN8.out] at hv8
             subst hv8
             replace f := f.app2 hclt rc' hm
             clear k2 hm rc'
             refine hKK.out _ _ ?_ (fun hHeld => ?_)
             · exact (by first | exact f.kx | exact f.kx.ext (below_drew (Below.refl _ _)))
             clear hKK KK
             try simp only [Act.put, List.setIfInBounds_toArray, List.set_cons_zero, List.set_cons_succ]
             refine wpAnyH_ready (rs := [12]) (by kernel_rfl) (by simp) ?_
             refine AllReadyH.cons (by simp only [List.getElem?_toArray]; rfl) (fun KK hKK => ?_) AllReadyH.nil
             rw [if_pos (by kernel_rfl)]
             refine wp_stP (.tmp 41) (.tmp 35) rfl ⟨K, 2, none⟩ A7 N7 c7 (by kernel_rfl) (by kernel_rfl) _ f.z.c2 (f.z.fr 2) ?_
             replace f := f.set2 (.slice A7 N7 c7)
             obtain ⟨w41, e⟩ : ∃ w41, w41 = w40.setCell ⟨K, 2, none⟩ (.slice A7 N7 c7) := ⟨_, rfl⟩
             rw [← e] at f ⊢
             clear e
             refine hKK.out _ _ ?_ (fun hHeld => ?_)
             · exact (by first | exact f.kx | exact f.kx.ext (below_drew (Below.refl _ _)))
             clear hKK KK
             try simp only [Act.put]
             refine wpAnyH_take (i := 13) (by simp only [List.getElem?_toArray]; rfl) (by kernel_rfl) (by kernel_rfl) (by kernel_rfl) (by exact fun _ _ _ h => h) (by exact yk (.pointer (some ⟨K, 3, none⟩)) (by kernel_rfl) (fun _ => by kernel_rfl)) hHeld ?_
             refine wpAnyH_ready (rs := [14]) (by kernel_rfl) (by simp) ?_
             refine AllReadyH.cons (by simp only [List.getElem?_toArray]; rfl) (fun KK hKK => ?_) AllReadyH.nil
             rw [if_pos (by kernel_rfl)]
             refine wp_stCs (.tmp 42) (.tmp 40) rfl ⟨K, 3, none⟩ A8 N8 c8 (by kernel_rfl) (by kernel_rfl) _ f.z.c3 (f.z.fr 3) ?_
             replace f := f.set3 (.slice A8 N8 c8)
             obtain ⟨w42, e⟩ : ∃ w42, w42 = w41.setCell ⟨K, 3, none⟩ (.slice A8 N8 c8) := ⟨_, rfl⟩
             rw [← e] at f ⊢
             clear e
             refine hKK.out _ _ ?_ (fun hHeld => ?_)
             · exact (by first | exact f.kx | exact f.kx.ext (below_drew (Below.refl _ _)))
             clear hKK KK
             try simp only [Act.put]
             refine wpAnyH_done (by kernel_rfl) ?_ _
             go_wp2_with fail
             go_meet
             exact ⟨_, _, _, rfl, f.z, f.rp, f.rc, f.q, f.sV, f.b, f.zB⟩
           ·
            rw [if_pos (by kernel_rfl)]
            refine wp_bsRC (.tmp 38) rfl x y (by kernel_rfl) ?_
            obtain ⟨b2, w43, e1, e2, hx2, k2, h⟩ := HA2.out wd2 f.kx
            rw [← e1, ← e2]
            replace f := f.ext h
            clear e1 e2 h
            refine hKK.out _ _ ?_ (fun hHeld => ?_)
            · exact (by first | exact f.kx | exact f.kx.ext (below_drew (Below.refl _ _)))
            clear hKK KK
            try simp only [Act.put, List.setIfInBounds_toArray, List.set_cons_zero, List.set_cons_succ]
            refine wpAnyH_ready (rs := [4]) (by kernel_rfl) (by simp) ?_
            refine AllReadyH.cons (by simp only [List.getElem?_toArray]; rfl) (fun KK hKK => ?_) AllReadyH.nil
            rw [if_pos (by kernel_rfl)]
            refine wp_bsB (.tmp 33) rfl (k : Int) (by kernel_rfl) ?_
            obtain ⟨b1, w44, e1, e2, hx1, k1, h⟩ := HA1.out w43 f.kx
            rw [← e1, ← e2]
            replace k2 := Sl.ext k2 h
            replace f := f.ext h
            clear e1 e2 h
            refine hKK.out _ _ ?_ (fun hHeld => ?_)
            · exact (by first | exact f.kx | exact f.kx.ext (below_drew (Below.refl _ _)))
            clear hKK KK
            try simp only [Act.put, List.setIfInBounds_toArray, List.set_cons_zero, List.set_cons_succ]
            refine wpAnyH_ready (rs := [5]) (by kernel_rfl) (by simp) ?_
            refine AllReadyH.cons (by simp only [List.getElem?_toArray]; rfl) (fun KK hKK => ?_) AllReadyH.nil
            rw [if_pos (by kernel_rfl)]
            refine wp_appB (.tmp 31) (.tmp 34) rfl wB vp _ (by kernel_rfl) f.rp b1 (some ⟨b1, 0, none⟩) 1 1 [UInt8.ofNat k] (by kernel_rfl) k1 rfl HL7.out f.zB ?_
            intro v7 w45 rp' hm
            obtain ⟨A7, c7, b7, hv7, -⟩ := Row.sl rp'
            rw [HN7.out] at hv7
            subst hv7
            replace k2 := sl_far k2 hx2 hplt hm
            replace f := f.app1 hplt rp' hm
            clear k1 hm rp'
            refine hKK.out _ _ ?_ (fun hHeld => ?_)
            · exact (by first | exact f.kx | exact f.kx.ext (below_drew (Below.refl _ _)))
            clear hKK KK
            try simp only [Act.put, List.setIfInBounds_toArray, List.set_cons_zero, List.set_cons_succ]
            refine wpAnyH_take (i := 11) (by simp only [List.getElem?_toArray]; rfl) (by kernel_rfl) (by kernel_rfl) (by kernel_rfl) (by exact fun _ _ _ h => h) (by exact yk (.pointer (some ⟨K, 2, none⟩)) (by kernel_rfl) (fun _ => by kernel_rfl)) hHeld ?_
            refine wpAnyH_ready (rs := [10]) (by kernel_rfl) (by simp) ?_
            refine AllReadyH.cons (by simp only [List.getElem?_toArray]; rfl) (fun KK hKK => ?_) AllReadyH.nil
            rw [if_pos (by kernel_rfl)]
            refine wp_appRC (.tmp 37) (.tmp 39) rfl wB vc _ (by kernel_rfl) f.rc b2 (some ⟨b2, 0, none⟩) 1 1 [(x, y)] (by kernel_rfl) k2 rfl HL8.out f.zB ?_
            intro v8 w46 rc' hm
            obtain ⟨A8, c8, b8, hv8, -⟩ := RowC.sl rc'
            rw [HN8.out] at hv8
            subst hv8
            replace f := f.app2 hclt rc' hm
            clear k2 hm rc'
            refine hKK.out _ _ ?_ (fun hHeld => ?_)
            · exact (by first | exact f.kx | exact f.kx.ext (below_drew (Below.refl _ _)))
            clear hKK KK
            try simp only [Act.put, List.setIfInBounds_toArray, List.set_cons_zero, List.set_cons_succ]
            refine wpAnyH_ready (rs := [12]) (by kernel_rfl) (by simp) ?_
            refine AllReadyH.cons (by simp only [List.getElem?_toArray]; rfl) (fun KK hKK => ?_) AllReadyH.nil
            rw [if_pos (by kernel_rfl)]
            refine wp_stP (.tmp 41) (.tmp 35) rfl ⟨K, 2, none⟩ A7 N7 c7 (by kernel_rfl) (by kernel_rfl) _ f.z.c2 (f.z.fr 2) ?_
            replace f := f.set2 (.slice A7 N7 c7)
            obtain ⟨w47, e⟩ : ∃ w47, w47 = w46.setCell ⟨K, 2, none⟩ (.slice A7 N7 c7) := ⟨_, rfl⟩
            rw [← e] at f ⊢
            clear e
            refine hKK.out _ _ ?_ (fun hHeld => ?_)
            · exact (by first | exact f.kx | exact f.kx.ext (below_drew (Below.refl _ _)))
            clear hKK KK
            try simp only [Act.put]
            refine wpAnyH_take (i := 13) (by simp only [List.getElem?_toArray]; rfl) (by kernel_rfl) (by kernel_rfl) (by kernel_rfl) (by exact fun _ _ _ h => h) (by exact yk (.pointer (some ⟨K, 3, none⟩)) (by kernel_rfl) (fun _ => by kernel_rfl)) hHeld ?_
            refine wpAnyH_ready (rs := [14]) (by kernel_rfl) (by simp) ?_
            refine AllReadyH.cons (by simp only [List.getElem?_toArray]; rfl) (fun KK hKK => ?_) AllReadyH.nil
            rw [if_pos (by kernel_rfl)]
            refine wp_stCs (.tmp 42) (.tmp 40) rfl ⟨K, 3, none⟩ A8 N8 c8 (by kernel_rfl) (by kernel_rfl) _ f.z.c3 (f.z.fr 3) ?_
            replace f := f.set3 (.slice A8 N8 c8)
            obtain ⟨w48, e⟩ : ∃ w48, w48 = w47.setCell ⟨K, 3, none⟩ (.slice A8 N8 c8) := ⟨_, rfl⟩
            rw [← e] at f ⊢
            clear e
            refine hKK.out _ _ ?_ (fun hHeld => ?_)
            · exact (by first | exact f.kx | exact f.kx.ext (below_drew (Below.refl _ _)))
            clear hKK KK
            try simp only [Act.put]
            refine wpAnyH_done (by kernel_rfl) ?_ _
            go_wp2_with fail
            go_meet
            exact ⟨_, _, _, rfl, f.z, f.rp, f.rc, f.q, f.sV, f.b, f.zB⟩
          ·
           rw [if_pos (by kernel_rfl)]
           refine wp_bsRC (.tmp 38) rfl x y (by kernel_rfl) ?_
           obtain ⟨b2, w49, e1, e2, hx2, k2, h⟩ := HA2.out wd2 f.kx
           rw [← e1, ← e2]
           replace f := f.ext h
           clear e1 e2 h
           refine hKK.out _ _ ?_ (fun hHeld => ?_)
           · exact (by first | exact f.kx | exact f.kx.ext (below_drew (Below.refl _ _)))
           clear hKK KK
           try simp only [Act.put, List.setIfInBounds_toArray, List.set_cons_zero, List.set_cons_succ]
           refine wpAnyH_ready (rs := [4, 7]) (by kernel_rfl) (by simp) ?_
           refine AllReadyH.cons (by simp only [List.getElem?_toArray]; rfl) (fun KK hKK => ?_) (AllReadyH.cons (by simp only [List.getElem?_toArray]; rfl) (fun KK hKK => ?_) AllReadyH.nil)
           ·
            rw [if_pos (by kernel_rfl)]
            refine wp_bsB (.tmp 33) rfl (k : Int) (by kernel_rfl) ?_
            obtain ⟨b1, w50, e1, e2, hx1, k1, h⟩ := HA1.out w49 f.kx
            rw [← e1, ← e2]
            replace k2 := Sl.ext k2 h
            replace f := f.ext h
            clear e1 e2 h
            refine hKK.out _ _ ?_ (fun hHeld => ?_)
            · exact (by first | exact f.kx | exact f.kx.ext (below_drew (Below.refl _ _)))
            clear hKK KK
            try simp only [Act.put, List.setIfInBounds_toArray, List.set_cons_zero, List.set_cons_succ]
            refine wpAnyH_ready (rs := [5, 7]) (by kernel_rfl) (by simp) ?_
            refine AllReadyH.cons (by simp only [List.getElem?_toArray]; rfl) (fun KK hKK => ?_) (AllReadyH.cons (by simp only [List.getElem?_toArray]; rfl) (fun KK hKK => ?_) AllReadyH.nil)
            ·
             rw [if_pos (by kernel_rfl)]
             refine wp_appB (.tmp 31) (.tmp 34) rfl wB vp _ (by kernel_rfl) f.rp b1 (some ⟨b1, 0, none⟩) 1 1 [UInt8.ofNat k] (by kernel_rfl) k1 rfl HL7.out f.zB ?_
             intro v7 w51 rp' hm
             obtain ⟨A7, c7, b7, hv7, -⟩ := Row.sl rp'
             rw [HN7.out] at hv7
             subst hv7
             replace k2 := sl_far k2 hx2 hplt hm
             replace f := f.app1 hplt rp' hm
             clear k1 hm rp'
             refine hKK.out _ _ ?_ (fun hHeld => ?_)
             · exact (by first | exact f.kx | exact f.kx.ext (below_drew (Below.refl _ _)))
             clear hKK KK
             try simp only [Act.put, List.setIfInBounds_toArray, List.set_cons_zero, List.set_cons_succ]
             refine wpAnyH_ready (rs := [7]) (by kernel_rfl) (by simp) ?_
             refine AllReadyH.cons (by simp only [List.getElem?_toArray]; rfl) (fun KK hKK => ?_) AllReadyH.nil
             rw [if_pos (by kernel_rfl)]
             refine wp_ldCs (.tmp 36) rfl ⟨K, 3, none⟩ vc (by kernel_rfl) f.z.c3 ?_
             refine hKK.out _ _ ?_ (fun hHeld => ?_)
             · exact (by first | exact f.kx | exact f.kx.ext (below_drew (Below.refl _ _)))
             clear hKK KK
             try simp only [Act.put, List.setIfInBounds_toArray, List.set_cons_zero, List.set_cons_succ]
             refine wpAnyH_take (i := 11) (by simp only [List.getElem?_toArray]; rfl) (by kernel_rfl) (by kernel_rfl) (by kernel_rfl) (by exact fun _ _ _ h => h) (by exact yk (.pointer (some ⟨K, 2, none⟩)) (by kernel_rfl) (fun _ => by kernel_rfl)) hHeld ?_
             refine wpAnyH_ready (rs := [10]) (by kernel_rfl) (by simp) ?_
             refine AllReadyH.cons (by simp only [List.getElem?_toArray]; rfl) (fun KK hKK => ?_) AllReadyH.nil
             rw [if_pos (by kernel_rfl)]
             refine wp_appRC (.tmp 37) (.tmp 39) rfl wB vc _ (by kernel_rfl) f.rc b2 (some ⟨b2, 0, none⟩) 1 1 [(x, y)] (by kernel_rfl) k2 rfl HL8.out f.zB ?_
             intro v8 w52 rc' hm
             obtain ⟨A8, c8, b8, hv8, -⟩ := RowC.sl rc'
             rw [HN8.out] at hv8
             subst hv8
             replace f := f.app2 hclt rc' hm
             clear k2 hm rc'
             refine hKK.out _ _ ?_ (fun hHeld => ?_)
             · exact (by first | exact f.kx | exact f.kx.ext (below_drew (Below.refl _ _)))
             clear hKK KK
             try simp only [Act.put, List.setIfInBounds_toArray, List.set_cons_zero, List.set_cons_succ]
             refine wpAnyH_ready (rs := [12]) (by kernel_rfl) (by simp) ?_
             refine AllReadyH.cons (by simp only [List.getElem?_toArray]; rfl) (fun KK hKK => ?_) AllReadyH.nil
             rw [if_pos (by kernel_rfl)]
             refine wp_stP (.tmp 41) (.tmp 35) rfl ⟨K, 2, none⟩ A7 N7 c7 (by kernel_rfl) (by kernel_rfl) _ f.z.c2 (f.z.fr 2) ?_
             replace f := f.set2 (.slice A7 N7 c7)
             obtain ⟨w53, e⟩ : ∃ w53, w53 = w52.setCell ⟨K, 2, none⟩ (.slice A7 N7 c7) := ⟨_, rfl⟩
             rw [← e] at f ⊢
             clear e
             refine hKK.out _ _ ?_ (fun hHeld => ?_)
             · exact (by first | exact f.kx | exact f.kx.ext (below_drew (Below.refl _ _)))
             clear hKK KK
             try simp only [Act.put]
             refine wpAnyH_take (i := 13) (by simp only [List.getElem?_toArray]; rfl) (by kernel_rfl) (by kernel_rfl) (by kernel_rfl) (by exact fun _ _ _ h => h) (by exact yk (.pointer (some ⟨K, 3, none⟩)) (by kernel_rfl) (fun _ => by kernel_rfl)) hHeld ?_
             refine wpAnyH_ready (rs := [14]) (by kernel_rfl) (by simp) ?_
             refine AllReadyH.cons (by simp only [List.getElem?_toArray]; rfl) (fun KK hKK => ?_) AllReadyH.nil
             rw [if_pos (by kernel_rfl)]
             refine wp_stCs (.tmp 42) (.tmp 40) rfl ⟨K, 3, none⟩ A8 N8 c8 (by kernel_rfl) (by kernel_rfl) _ f.z.c3 (f.z.fr 3) ?_
             replace f := f.set3 (.slice A8 N8 c8)
             obtain ⟨w54, e⟩ : ∃ w54, w54 = w53.setCell ⟨K, 3, none⟩ (.slice A8 N8 c8) := ⟨_, rfl⟩
             rw [← e] at f ⊢
             clear e
             refine hKK.out _ _ ?_ (fun hHeld => ?_)
             · exact (by first | exact f.kx | exact f.kx.ext (below_drew (Below.refl _ _)))
             clear hKK KK
             try simp only [Act.put]
             refine wpAnyH_done (by kernel_rfl) ?_ _
             go_wp2_with fail
             go_meet
             exact ⟨_, _, _, rfl, f.z, f.rp, f.rc, f.q, f.sV, f.b, f.zB⟩
            ·
             rw [if_pos (by kernel_rfl)]
             refine wp_ldCs (.tmp 36) rfl ⟨K, 3, none⟩ vc (by kernel_rfl) f.z.c3 ?_
             refine hKK.out _ _ ?_ (fun hHeld => ?_)
             · exact (by first | exact f.kx | exact f.kx.ext (below_drew (Below.refl _ _)))
             clear hKK KK
             try simp only [Act.put, List.setIfInBounds_toArray, List.set_cons_zero, List.set_cons_succ]
             refine wpAnyH_ready (rs := [5]) (by kernel_rfl) (by simp) ?_
             refine AllReadyH.cons (by simp only [List.getElem?_toArray]; rfl) (fun KK hKK => ?_) AllReadyH.nil
             rw [if_pos (by kernel_rfl)]
             refine wp_appB (.tmp 31) (.tmp 34) rfl wB vp _ (by kernel_rfl) f.rp b1 (some ⟨b1, 0, none⟩) 1 1 [UInt8.ofNat k] (by kernel_rfl) k1 rfl HL7.out f.zB ?_
             intro v7 w55 rp' hm
             obtain ⟨A7, c7, b7, hv7, -⟩ := Row.sl rp'
             rw [HN7.out] at hv7
             subst hv7
             replace k2 := sl_far k2 hx2 hplt hm
             replace f := f.app1 hplt rp' hm
             clear k1 hm rp'
             refine hKK.out _ _ ?_ (fun hHeld => ?_)
             · exact (by first | exact f.kx | exact f.kx.ext (below_drew (Below.refl _ _)))
             clear hKK KK
             try simp only [Act.put, List.setIfInBounds_toArray, List.set_cons_zero, List.set_cons_succ]
             refine wpAnyH_take (i := 11) (by simp only [List.getElem?_toArray]; rfl) (by kernel_rfl) (by kernel_rfl) (by kernel_rfl) (by exact fun _ _ _ h => h) (by exact yk (.pointer (some ⟨K, 2, none⟩)) (by kernel_rfl) (fun _ => by kernel_rfl)) hHeld ?_
             refine wpAnyH_ready (rs := [10]) (by kernel_rfl) (by simp) ?_
             refine AllReadyH.cons (by simp only [List.getElem?_toArray]; rfl) (fun KK hKK => ?_) AllReadyH.nil
             rw [if_pos (by kernel_rfl)]
             refine wp_appRC (.tmp 37) (.tmp 39) rfl wB vc _ (by kernel_rfl) f.rc b2 (some ⟨b2, 0, none⟩) 1 1 [(x, y)] (by kernel_rfl) k2 rfl HL8.out f.zB ?_
             intro v8 w56 rc' hm
             obtain ⟨A8, c8, b8, hv8, -⟩ := RowC.sl rc'
             rw [HN8.out] at hv8
             subst hv8
             replace f := f.app2 hclt rc' hm
             clear k2 hm rc'
             refine hKK.out _ _ ?_ (fun hHeld => ?_)
             · exact (by first | exact f.kx | exact f.kx.ext (below_drew (Below.refl _ _)))
             clear hKK KK
             try simp only [Act.put, List.setIfInBounds_toArray, List.set_cons_zero, List.set_cons_succ]
             refine wpAnyH_ready (rs := [12]) (by kernel_rfl) (by simp) ?_
             refine AllReadyH.cons (by simp only [List.getElem?_toArray]; rfl) (fun KK hKK => ?_) AllReadyH.nil
             rw [if_pos (by kernel_rfl)]
             refine wp_stP (.tmp 41) (.tmp 35) rfl ⟨K, 2, none⟩ A7 N7 c7 (by kernel_rfl) (by kernel_rfl) _ f.z.c2 (f.z.fr 2) ?_
             replace f := f.set2 (.slice A7 N7 c7)
             obtain ⟨w57, e⟩ : ∃ w57, w57 = w56.setCell ⟨K, 2, none⟩ (.slice A7 N7 c7) := ⟨_, rfl⟩
             rw [← e] at f ⊢
             clear e
             refine hKK.out _ _ ?_ (fun hHeld => ?_)
             · exact (by first | exact f.kx | exact f.kx.ext (below_drew (Below.refl _ _)))
             clear hKK KK
             try simp only [Act.put]
             refine wpAnyH_take (i := 13) (by simp only [List.getElem?_toArray]; rfl) (by kernel_rfl) (by kernel_rfl) (by kernel_rfl) (by exact fun _ _ _ h => h) (by exact yk (.pointer (some ⟨K, 3, none⟩)) (by kernel_rfl) (fun _ => by kernel_rfl)) hHeld ?_
             refine wpAnyH_ready (rs := [14]) (by kernel_rfl) (by simp) ?_
             refine AllReadyH.cons (by simp only [List.getElem?_toArray]; rfl) (fun KK hKK => ?_) AllReadyH.nil
             rw [if_pos (by kernel_rfl)]
             refine wp_stCs (.tmp 42) (.tmp 40) rfl ⟨K, 3, none⟩ A8 N8 c8 (by kernel_rfl) (by kernel_rfl) _ f.z.c3 (f.z.fr 3) ?_
             replace f := f.set3 (.slice A8 N8 c8)
             obtain ⟨w58, e⟩ : ∃ w58, w58 = w57.setCell ⟨K, 3, none⟩ (.slice A8 N8 c8) := ⟨_, rfl⟩
             rw [← e] at f ⊢
             clear e
             refine hKK.out _ _ ?_ (fun hHeld => ?_)
             · exact (by first | exact f.kx | exact f.kx.ext (below_drew (Below.refl _ _)))
             clear hKK KK
             try simp only [Act.put]
             refine wpAnyH_done (by kernel_rfl) ?_ _
             go_wp2_with fail
             go_meet
             exact ⟨_, _, _, rfl, f.z, f.rp, f.rc, f.q, f.sV, f.b, f.zB⟩
           ·
            rw [if_pos (by kernel_rfl)]
            refine wp_ldCs (.tmp 36) rfl ⟨K, 3, none⟩ vc (by kernel_rfl) f.z.c3 ?_
            refine hKK.out _ _ ?_ (fun hHeld => ?_)
            · exact (by first | exact f.kx | exact f.kx.ext (below_drew (Below.refl _ _)))
            clear hKK KK
            try simp only [Act.put, List.setIfInBounds_toArray, List.set_cons_zero, List.set_cons_succ]
            refine wpAnyH_ready (rs := [4]) (by kernel_rfl) (by simp) ?_
            refine AllReadyH.cons (by simp only [List.getElem?_toArray]; rfl) (fun KK hKK => ?_) AllReadyH.nil
            rw [if_pos (by kernel_rfl)]
            refine wp_bsB (.tmp 33) rfl (k : Int) (by kernel_rfl) ?_
            obtain ⟨b1, w59, e1, e2, hx1, k1, h⟩ := HA1.out w49 f.kx
            rw [← e1, ← e2]
            replace k2 := Sl.ext k2 h
            replace f := f.ext h
            clear e1 e2 h
            refine hKK.out _ _ ?_ (fun hHeld => ?_)
            · exact (by first | exact f.kx | exact f.kx.ext (below_drew (Below.refl _ _)))
            clear hKK KK
            try simp only [Act.put, List.setIfInBounds_toArray, List.set_cons_zero, List.set_cons_succ]
            refine wpAnyH_ready (rs := [5]) (by kernel_rfl) (by simp) ?_
            refine AllReadyH.cons (by simp only [List.getElem?_toArray]; rfl) (fun KK hKK => ?_) AllReadyH.nil
            rw [if_pos (by kernel_rfl)]
            refine wp_appB (.tmp 31) (.tmp 34) rfl wB vp _ (by kernel_rfl) f.rp b1 (some ⟨b1, 0, none⟩) 1 1 [UInt8.ofNat k] (by kernel_rfl) k1 rfl HL7.out f.zB ?_
            intro v7 w60 rp' hm
            obtain ⟨A7, c7, b7, hv7, -⟩ := Row.sl rp'
            rw [HN7.out] at hv7
            subst hv7
            replace k2 := sl_far k2 hx2 hplt hm
            replace f := f.app1 hplt rp' hm
            clear k1 hm rp'
            refine hKK.out _ _ ?_ (fun hHeld => ?_)
            · exact (by first | exact f.kx | exact f.kx.ext (below_drew (Below.refl _ _)))
            clear hKK KK
            try simp only [Act.put, List.setIfInBounds_toArray, List.set_cons_zero, List.set_cons_succ]
            refine wpAnyH_take (i := 11) (by simp only [List.getElem?_toArray]; rfl) (by kernel_rfl) (by kernel_rfl) (by kernel_rfl) (by exact fun _ _ _ h => h) (by exact yk (.pointer (some ⟨K, 2, none⟩)) (by kernel_rfl) (fun _ => by kernel_rfl)) hHeld ?_
            refine wpAnyH_ready (rs := [10]) (by kernel_rfl) (by simp) ?_
            refine AllReadyH.cons (by simp only [List.getElem?_toArray]; rfl) (fun KK hKK => ?_) AllReadyH.nil
            rw [if_pos (by kernel_rfl)]
            refine wp_appRC (.tmp 37) (.tmp 39) rfl wB vc _ (by kernel_rfl) f.rc b2 (some ⟨b2, 0, none⟩) 1 1 [(x, y)] (by kernel_rfl) k2 rfl HL8.out f.zB ?_
            intro v8 w61 rc' hm
            obtain ⟨A8, c8, b8, hv8, -⟩ := RowC.sl rc'
            rw [HN8.out] at hv8
            subst hv8
            replace f := f.app2 hclt rc' hm
            clear k2 hm rc'
            refine hKK.out _ _ ?_ (fun hHeld => ?_)
            · exact (by first | exact f.kx | exact f.kx.ext (below_drew (Below.refl _ _)))
            clear hKK KK
            try simp only [Act.put, List.setIfInBounds_toArray, List.set_cons_zero, List.set_cons_succ]
            refine wpAnyH_ready (rs := [12]) (by kernel_rfl) (by simp) ?_
            refine AllReadyH.cons (by simp only [List.getElem?_toArray]; rfl) (fun KK hKK => ?_) AllReadyH.nil
            rw [if_pos (by kernel_rfl)]
            refine wp_stP (.tmp 41) (.tmp 35) rfl ⟨K, 2, none⟩ A7 N7 c7 (by kernel_rfl) (by kernel_rfl) _ f.z.c2 (f.z.fr 2) ?_
            replace f := f.set2 (.slice A7 N7 c7)
            obtain ⟨w62, e⟩ : ∃ w62, w62 = w61.setCell ⟨K, 2, none⟩ (.slice A7 N7 c7) := ⟨_, rfl⟩
            rw [← e] at f ⊢
            clear e
            refine hKK.out _ _ ?_ (fun hHeld => ?_)
            · exact (by first | exact f.kx | exact f.kx.ext (below_drew (Below.refl _ _)))
            clear hKK KK
            try simp only [Act.put]
            refine wpAnyH_take (i := 13) (by simp only [List.getElem?_toArray]; rfl) (by kernel_rfl) (by kernel_rfl) (by kernel_rfl) (by exact fun _ _ _ h => h) (by exact yk (.pointer (some ⟨K, 3, none⟩)) (by kernel_rfl) (fun _ => by kernel_rfl)) hHeld ?_
            refine wpAnyH_ready (rs := [14]) (by kernel_rfl) (by simp) ?_
            refine AllReadyH.cons (by simp only [List.getElem?_toArray]; rfl) (fun KK hKK => ?_) AllReadyH.nil
            rw [if_pos (by kernel_rfl)]
            refine wp_stCs (.tmp 42) (.tmp 40) rfl ⟨K, 3, none⟩ A8 N8 c8 (by kernel_rfl) (by kernel_rfl) _ f.z.c3 (f.z.fr 3) ?_
            replace f := f.set3 (.slice A8 N8 c8)
            obtain ⟨w63, e⟩ : ∃ w63, w63 = w62.setCell ⟨K, 3, none⟩ (.slice A8 N8 c8) := ⟨_, rfl⟩
            rw [← e] at f ⊢
            clear e
            refine hKK.out _ _ ?_ (fun hHeld => ?_)
            · exact (by first | exact f.kx | exact f.kx.ext (below_drew (Below.refl _ _)))
            clear hKK KK
            try simp only [Act.put]
            refine wpAnyH_done (by kernel_rfl) ?_ _
            go_wp2_with fail
            go_meet
            exact ⟨_, _, _, rfl, f.z, f.rp, f.rc, f.q, f.sV, f.b, f.zB⟩
         ·
          rw [if_pos (by kernel_rfl)]
          refine wp_bsB (.tmp 33) rfl (k : Int) (by kernel_rfl) ?_
          obtain ⟨b1, w64, e1, e2, hx1, k1, h⟩ := HA1.out wd2 f.kx
          rw [← e1, ← e2]
          replace f := f.ext h
          clear e1 e2 h
          refine hKK.out _ _ ?_ (fun hHeld => ?_)
          · exact (by first | exact f.kx | exact f.kx.ext (below_drew (Below.refl _ _)))
          clear hKK KK
          try simp only [Act.put, List.setIfInBounds_toArray, List.set_cons_zero, List.set_cons_succ]
          refine wpAnyH_ready (rs := [1, 7, 9]) (by kernel_rfl) (by simp) ?_
          refine AllReadyH.cons (by simp only [List.getElem?_toArray]; rfl) (fun KK hKK => ?_) (AllReadyH.cons (by simp only [List.getElem?_toArray]; rfl) (fun KK hKK => ?_) (AllReadyH.cons (by simp only [List.getElem?_toArray]; rfl) (fun KK hKK => ?_) AllReadyH.nil))
          ·
           rw [if_pos (by kernel_rfl)]
           refine wp_ldP (.tmp 30) rfl ⟨K, 2, none⟩ vp (by kernel_rfl) f.z.c2 ?_
           refine hKK.out _ _ ?_ (fun hHeld => ?_)
           · exact (by first | exact f.kx | exact f.kx.ext (below_drew (Below.refl _ _)))
           clear hKK KK
           try simp only [Act.put, List.setIfInBounds_toArray, List.set_cons_zero, List.set_cons_succ]
           refine wpAnyH_ready (rs := [5, 7, 9]) (by kernel_rfl) (by simp) ?_
           refine AllReadyH.cons (by simp only [List.getElem?_toArray]; rfl) (fun KK hKK => ?_) (AllReadyH.cons (by simp only [List.getElem?_toArray]; rfl) (fun KK hKK => ?_) (AllReadyH.cons (by simp only [List.getElem?_toArray]; rfl) (fun KK hKK => ?_) AllReadyH.nil))
           ·
            rw [if_pos (by kernel_rfl)]
            refine wp_appB (.tmp 31) (.tmp 34) rfl wB vp _ (by kernel_rfl) f.rp b1 (some ⟨b1, 0, none⟩) 1 1 [UInt8.ofNat k] (by kernel_rfl) k1 rfl HL7.out f.zB ?_
            intro v7 w65 rp' hm
            obtain ⟨A7, c7, b7, hv7, -⟩ := Row.sl rp'
            rw [HN7.out] at hv7
            subst hv7
            replace f := f.app1 hplt rp' hm
            clear k1 hm rp'
            refine hKK.out _ _ ?_ (fun hHeld => ?_)
            · exact (by first | exact f.kx | exact f.kx.ext (below_drew (Below.refl _ _)))
            clear hKK KK
            try simp only [Act.put, List.setIfInBounds_toArray, List.set_cons_zero, List.set_cons_succ]
            refine wpAnyH_ready (rs := [7, 9]) (by kernel_rfl) (by simp) ?_
            refine AllReadyH.cons (by simp only [List.getElem?_toArray]; rfl) (fun KK hKK => ?_) (AllReadyH.cons (by simp only [List.getElem?_toArray]; rfl) (fun KK hKK => ?_) AllReadyH.nil)
            ·
             rw [if_pos (by kernel_rfl)]
             refine wp_ldCs (.tmp 36) rfl ⟨K, 3, none⟩ vc (by kernel_rfl) f.z.c3 ?_
             refine hKK.out _ _ ?_ (fun hHeld => ?_)
             · exact (by first | exact f.kx | exact f.kx.ext (below_drew (Below.refl _ _)))
             clear hKK KK
             try simp only [Act.put, List.setIfInBounds_toArray, List.set_cons_zero, List.set_cons_succ]
             refine wpAnyH_take (i := 11) (by simp only [List.getElem?_toArray]; rfl) (by kernel_rfl) (by kernel_rfl) (by kernel_rfl) (by exact fun _ _ _ h => h) (by exact yk (.pointer (some ⟨K, 2, none⟩)) (by kernel_rfl) (fun _ => by kernel_rfl)) hHeld ?_
             refine wpAnyH_ready (rs := [9]) (by kernel_rfl) (by simp) ?_
             refine AllReadyH.cons (by simp only [List.getElem?_toArray]; rfl) (fun KK hKK => ?_) AllReadyH.nil
             rw [if_pos (by kernel_rfl)]
             refine wp_bsRC (.tmp 38) rfl x y (by kernel_rfl) ?_
             obtain ⟨b2, w66, e1, e2, hx2, k2, h⟩ := HA2.out w65 f.kx
             rw [← e1, ← e2]
             replace f := f.ext h
             clear e1 e2 h
             refine hKK.out _ _ ?_ (fun hHeld => ?_)
             · exact (by first | exact f.kx | exact f.kx.ext (below_drew (Below.refl _ _)))
             clear hKK KK
             try simp only [Act.put, List.setIfInBounds_toArray, List.set_cons_zero, List.set_cons_succ]
             refine wpAnyH_ready (rs := [10]) (by kernel_rfl) (by simp) ?_
             refine AllReadyH.cons (by simp only [List.getElem?_toArray]; rfl) (fun KK hKK => ?_) AllReadyH.nil
             rw [if_pos (by kernel_rfl)]
             refine wp_appRC (.tmp 37) (.tmp 39) rfl wB vc _ (by kernel_rfl) f.rc b2 (some ⟨b2, 0, none⟩) 1 1 [(x, y)] (by kernel_rfl) k2 rfl HL8.out f.zB ?_
             intro v8 w67 rc' hm
             obtain ⟨A8, c8, b8, hv8, -⟩ := RowC.sl rc'
             rw [HN8.out] at hv8
             subst hv8
             replace f := f.app2 hclt rc' hm
             clear k2 hm rc'
             refine hKK.out _ _ ?_ (fun hHeld => ?_)
             · exact (by first | exact f.kx | exact f.kx.ext (below_drew (Below.refl _ _)))
             clear hKK KK
             try simp only [Act.put, List.setIfInBounds_toArray, List.set_cons_zero, List.set_cons_succ]
             refine wpAnyH_ready (rs := [12]) (by kernel_rfl) (by simp) ?_
             refine AllReadyH.cons (by simp only [List.getElem?_toArray]; rfl) (fun KK hKK => ?_) AllReadyH.nil
             rw [if_pos (by kernel_rfl)]
             refine wp_stP (.tmp 41) (.tmp 35) rfl ⟨K, 2, none⟩ A7 N7 c7 (by kernel_rfl) (by kernel_rfl) _ f.z.c2 (f.z.fr 2) ?_
             replace f := f.set2 (.slice A7 N7 c7)
             obtain ⟨w68, e⟩ : ∃ w68, w68 = w67.setCell ⟨K, 2, none⟩ (.slice A7 N7 c7) := ⟨_, rfl⟩
             rw [← e] at f ⊢
             clear e
             refine hKK.out _ _ ?_ (fun hHeld => ?_)
             · exact (by first | exact f.kx | exact f.kx.ext (below_drew (Below.refl _ _)))
             clear hKK KK
             try simp only [Act.put]
             refine wpAnyH_take (i := 13) (by simp only [List.getElem?_toArray]; rfl) (by kernel_rfl) (by kernel_rfl) (by kernel_rfl) (by exact fun _ _ _ h => h) (by exact yk (.pointer (some ⟨K, 3, none⟩)) (by kernel_rfl) (fun _ => by kernel_rfl)) hHeld ?_
             refine wpAnyH_ready (rs := [14]) (by kernel_rfl) (by simp) ?_
             refine AllReadyH.cons (by simp only [List.getElem?_toArray]; rfl) (fun KK hKK => ?_) AllReadyH.nil
             rw [if_pos (by kernel_rfl)]
             refine wp_stCs (.tmp 42) (.tmp 40) rfl ⟨K, 3, none⟩ A8 N8 c8 (by kernel_rfl) (by kernel_rfl) _ f.z.c3 (f.z.fr 3) ?_
             replace f := f.set3 (.slice A8 N8 c8)
             obtain ⟨w69, e⟩ : ∃ w69, w69 = w68.setCell ⟨K, 3, none⟩ (.slice A8 N8 c8) := ⟨_, rfl⟩
             rw [← e] at f ⊢
             clear e
             refine hKK.out _ _ ?_ (fun hHeld => ?_)
             · exact (by first | exact f.kx | exact f.kx.ext (below_drew (Below.refl _ _)))
             clear hKK KK
             try simp only [Act.put]
             refine wpAnyH_done (by kernel_rfl) ?_ _
             go_wp2_with fail
             go_meet
             exact ⟨_, _, _, rfl, f.z, f.rp, f.rc, f.q, f.sV, f.b, f.zB⟩
            ·
             rw [if_pos (by kernel_rfl)]
             refine wp_bsRC (.tmp 38) rfl x y (by kernel_rfl) ?_
             obtain ⟨b2, w70, e1, e2, hx2, k2, h⟩ := HA2.out w65 f.kx
             rw [← e1, ← e2]
             replace f := f.ext h
             clear e1 e2 h
             refine hKK.out _ _ ?_ (fun hHeld => ?_)
             · exact (by first | exact f.kx | exact f.kx.ext (below_drew (Below.refl _ _)))
             clear hKK KK
             try simp only [Act.put, List.setIfInBounds_toArray, List.set_cons_zero, List.set_cons_succ]
             refine wpAnyH_ready (rs := [7]) (by kernel_rfl) (by simp) ?_
             refine AllReadyH.cons (by simp only [List.getElem?_toArray]; rfl) (fun KK hKK => ?_) AllReadyH.nil
             rw [if_pos (by kernel_rfl)]
             refine wp_ldCs (.tmp 36) rfl ⟨K, 3, none⟩ vc (by kernel_rfl) f.z.c3 ?_
             refine hKK.out _ _ ?_ (fun hHeld => ?_)
             · exact (by first | exact f.kx | exact f.kx.ext (below_drew (Below.refl _ _)))
             clear hKK KK
             try simp only [Act.put, List.setIfInBounds_toArray, List.set_cons_zero, List.set_cons_succ]
             refine wpAnyH_take (i := 11) (by simp only [List.getElem?_toArray]; rfl) (by kernel_rfl) (by kernel_rfl) (by kernel_rfl) (by exact fun _ _ _ h => h) (by exact yk (.pointer (some ⟨K, 2, none⟩)) (by kernel_rfl) (fun _ => by kernel_rfl)) hHeld ?_
             refine wpAnyH_ready (rs := [10]) (by kernel_rfl) (by simp) ?_
             refine AllReadyH.cons (by simp only [List.getElem?_toArray]; rfl) (fun KK hKK => ?_) AllReadyH.nil
             rw [if_pos (by kernel_rfl)]
             refine wp_appRC (.tmp 37) (.tmp 39) rfl wB vc _ (by kernel_rfl) f.rc b2 (some ⟨b2, 0, none⟩) 1 1 [(x, y)] (by kernel_rfl) k2 rfl HL8.out f.zB ?_
             intro v8 w71 rc' hm
             obtain ⟨A8, c8, b8, hv8, -⟩ := RowC.sl rc'
             rw [HN8.out] at hv8
             subst hv8
             replace f := f.app2 hclt rc' hm
             clear k2 hm rc'
             refine hKK.out _ _ ?_ (fun hHeld => ?_)
             · exact (by first | exact f.kx | exact f.kx.ext (below_drew (Below.refl _ _)))
             clear hKK KK
             try simp only [Act.put, List.setIfInBounds_toArray, List.set_cons_zero, List.set_cons_succ]
             refine wpAnyH_ready (rs := [12]) (by kernel_rfl) (by simp) ?_
             refine AllReadyH.cons (by simp only [List.getElem?_toArray]; rfl) (fun KK hKK => ?_) AllReadyH.nil
             rw [if_pos (by kernel_rfl)]
             refine wp_stP (.tmp 41) (.tmp 35) rfl ⟨K, 2, none⟩ A7 N7 c7 (by kernel_rfl) (by kernel_rfl) _ f.z.c2 (f.z.fr 2) ?_
             replace f := f.set2 (.slice A7 N7 c7)
             obtain ⟨w72, e⟩ : ∃ w72, w72 = w71.setCell ⟨K, 2, none⟩ (.slice A7 N7 c7) := ⟨_, rfl⟩
             rw [← e] at f ⊢
             clear e
             refine hKK.out _ _ ?_ (fun hHeld => ?_)
             · exact (by first | exact f.kx | exact f.kx.ext (below_drew (Below.refl _ _)))
             clear hKK KK
             try simp only [Act.put]
             refine wpAnyH_take (i := 13) (by simp only [List.getElem?_toArray]; rfl) (by kernel_rfl) (by kernel_rfl) (by kernel_rfl) (by exact fun _ _ _ h => h) (by exact yk (.pointer (some ⟨K, 3, none⟩)) (by kernel_rfl) (fun _ => by kernel_rfl)) hHeld ?_
             refine wpAnyH_ready (rs := [14]) (by kernel_rfl) (by simp) ?_
             refine AllReadyH.cons (by simp only [List.getElem?_toArray]; rfl) (fun KK hKK => ?_) AllReadyH.nil
             rw [if_pos (by kernel_rfl)]
             refine wp_stCs (.tmp 42) (.tmp 40) rfl ⟨K, 3, none⟩ A8 N8 c8 (by kernel_rfl) (by kernel_rfl) _ f.z.c3 (f.z.fr 3) ?_
             replace f := f.set3 (.slice A8 N8 c8)
             obtain ⟨w73, e⟩ : ∃ w73, w73 = w72.setCell ⟨K, 3, none⟩ (.slice A8 N8 c8) := ⟨_, rfl⟩
             rw [← e] at f ⊢
             clear e
             refine hKK.out _ _ ?_ (fun hHeld => ?_)
             · exact (by first | exact f.kx | exact f.kx.ext (below_drew (Below.refl _ _)))
             clear hKK KK
             try simp only [Act.put]
             refine wpAnyH_done (by kernel_rfl) ?_ _
             go_wp2_with fail
             go_meet
             exact ⟨_, _, _, rfl, f.z, f.rp, f.rc, f.q, f.sV, f.b, f.zB⟩
           ·
            rw [if_pos (by kernel_rfl)]
            refine wp_ldCs (.tmp 36) rfl ⟨K, 3, none⟩ vc (by kernel_rfl) f.z.c3 ?_
            refine hKK.out _ _ ?_ (fun hHeld => ?_)
            · exact (by first | exact f.kx | exact f.kx.ext (below_drew (Below.refl _ _)))
            clear hKK KK
            try simp only [Act.put, List.setIfInBounds_toArray, List.set_cons_zero, List.set_cons_succ]
            refine wpAnyH_ready (rs := [5, 9]) (by kernel_rfl) (by simp) ?_
            refine AllReadyH.cons (by simp only [List.getElem?_toArray]; rfl) (fun KK hKK => ?_) (AllReadyH.cons (by simp only [List.getElem?_toArray]; rfl) (fun KK hKK => ?_) AllReadyH.nil)
            ·
             rw [if_pos (by kernel_rfl)]
             refine wp_appB (.tmp 31) (.tmp 34) rfl wB vp _ (by kernel_rfl) f.rp b1 (some ⟨b1, 0, none⟩) 1 1 [UInt8.ofNat k] (by kernel_rfl) k1 rfl HL7.out f.zB ?_
             intro v7 w74 rp' hm
             obtain ⟨A7, c7, b7, hv7, -⟩ := Row.sl rp'
             rw [HN7.out] at hv7
             subst hv7
             replace f := f.app1 hplt rp' hm
             clear k1 hm rp'
             refine hKK.out _ _ ?_ (fun hHeld => ?_)
             · exact (by first | exact f.kx | exact f.kx.ext (below_drew (Below.refl _ _)))
             clear hKK KK
             try simp only [Act.put, List.setIfInBounds_toArray, List.set_cons_zero, List.set_cons_succ]
             refine wpAnyH_take (i := 11) (by simp only [List.getElem?_toArray]; rfl) (by kernel_rfl) (by kernel_rfl) (by kernel_rfl) (by exact fun _ _ _ h => h) (by exact yk (.pointer (some ⟨K, 2, none⟩)) (by kernel_rfl) (fun _ => by kernel_rfl)) hHeld ?_
             refine wpAnyH_ready (rs := [9]) (by kernel_rfl) (by simp) ?_
             refine AllReadyH.cons (by simp only [List.getElem?_toArray]; rfl) (fun KK hKK => ?_) AllReadyH.nil
             rw [if_pos (by kernel_rfl)]
             refine wp_bsRC (.tmp 38) rfl x y (by kernel_rfl) ?_
             obtain ⟨b2, w75, e1, e2, hx2, k2, h⟩ := HA2.out w74 f.kx
             rw [← e1, ← e2]
             replace f := f.ext h
             clear e1 e2 h
             refine hKK.out _ _ ?_ (fun hHeld => ?_)
             · exact (by first | exact f.kx | exact f.kx.ext (below_drew (Below.refl _ _)))
             clear hKK KK
             try simp only [Act.put, List.setIfInBounds_toArray, List.set_cons_zero, List.set_cons_succ]
             refine wpAnyH_ready (rs := [10]) (by kernel_rfl) (by simp) ?_
             refine AllReadyH.cons (by simp only [List.getElem?_toArray]; rfl) (fun KK hKK => ?_) AllReadyH.nil
             rw [if_pos (by kernel_rfl)]
             refine wp_appRC (.tmp 37) (.tmp 39) rfl wB vc _ (by kernel_rfl) f.rc b2 (some ⟨b2, 0, none⟩) 1 1 [(x, y)] (by kernel_rfl) k2 rfl HL8.out f.zB ?_
             intro v8 w76 rc' hm
             obtain ⟨A8, c8, b8, hv8, -⟩ := RowC.sl rc'
             rw [HN8.out] at hv8
             subst hv8
             replace f := f.app2 hclt rc' hm
             clear k2 hm rc'
             refine hKK.out _ _ ?_ (fun hHeld => ?_)
             · exact (by first | exact f.kx | exact f.kx.ext (below_drew (Below.refl _ _)))
             clear hKK KK
             try simp only [Act.put, List.setIfInBounds_toArray, List.set_cons_zero, List.set_cons_succ]
             refine wpAnyH_ready (rs := [12]) (by kernel_rfl) (by simp) ?_
             refine AllReadyH.cons (by simp only [List.getElem?_toArray]; rfl) (fun KK hKK => ?_) AllReadyH.nil
             rw [if_pos (by kernel_rfl)]
             refine wp_stP (.tmp 41) (.tmp 35) rfl ⟨K, 2, none⟩ A7 N7 c7 (by kernel_rfl) (by kernel_rfl) _ f.z.c2 (f.z.fr 2) ?_
             replace f := f.set2 (.slice A7 N7 c7)
             obtain ⟨w77, e⟩ : ∃ w77, w77 = w76.setCell ⟨K, 2, none⟩ (.slice A7 N7 c7) := ⟨_, rfl⟩
             rw [← e] at f ⊢
             clear e
             refine hKK.out _ _ ?_ (fun hHeld => ?_)
             · exact (by first | exact f.kx | exact f.kx.ext (below_drew (Below.refl _ _)))
             clear hKK KK
             try simp only [Act.put]
             refine wpAnyH_take (i := 13) (by simp only [List.getElem?_toArray]; rfl) (by kernel_rfl) (by kernel_rfl) (by kernel_rfl) (by exact fun _ _ _ h => h) (by exact yk (.pointer (some ⟨K, 3, none⟩)) (by kernel_rfl) (fun _ => by kernel_rfl)) hHeld ?_
             refine wpAnyH_ready (rs := [14]) (by kernel_rfl) (by simp) ?_
             refine AllReadyH.cons (by simp only [List.getElem?_toArray]; rfl) (fun KK hKK => ?_) AllReadyH.nil
             rw [if_pos (by kernel_rfl)]
             refine wp_stCs (.tmp 42) (.tmp 40) rfl ⟨K, 3, none⟩ A8 N8 c8 (by kernel_rfl) (by kernel_rfl) _ f.z.c3 (f.z.fr 3) ?_
             replace f := f.set3 (.slice A8 N8 c8)
             obtain ⟨w78, e⟩ : ∃ w78, w78 = w77.setCell ⟨K, 3, none⟩ (.slice A8 N8 c8) := ⟨_, rfl⟩
             rw [← e] at f ⊢
             clear e
             refine hKK.out _ _ ?_ (fun hHeld => ?_)
             · exact (by first | exact f.kx | exact f.kx.ext (below_drew (Below.refl _ _)))
             clear hKK KK
             try simp only [Act.put]
             refine wpAnyH_done (by kernel_rfl) ?_ _
             go_wp2_with fail
             go_meet
             exact ⟨_, _, _, rfl, f.z, f.rp, f.rc, f.q, f.sV, f.b, f.zB⟩
            ·
             rw [if_pos (by kernel_rfl)]
             refine wp_bsRC (.tmp 38) rfl x y (by kernel_rfl) ?_
             obtain ⟨b2, w79, e1, e2, hx2, k2, h⟩ := HA2.out w64 f.kx
             rw [← e1, ← e2]
             replace k1 := Sl.ext k1 h
             replace f := f.ext h
             clear e1 e2 h
             refine hKK.out _ _ ?_ (fun hHeld => ?_)
             · exact (by first | exact f.kx | exact f.kx.ext (below_drew (Below.refl _ _)))
             clear hKK KK
             try simp only [Act.put, List.setIfInBounds_toArray, List.set_cons_zero, List.set_cons_succ]
             refine wpAnyH_ready (rs := [5]) (by kernel_rfl) (by simp) ?_
             refine AllReadyH.cons (by simp only [List.getElem?_toArray]; rfl) (fun KK hKK => ?_) AllReadyH.nil
             rw [if_pos (by kernel_rfl)]
             refine wp_appB (.tmp 31) (.tmp 34) rfl wB vp _ (by kernel_rfl) f.rp b1 (some ⟨b1, 0, none⟩) 1 1 [UInt8.ofNat k] (by kernel_rfl) k1 rfl HL7.out f.zB ?_
             intro v7 w80 rp' hm
             obtain ⟨A7, c7, b7, hv7, -⟩ := Row.sl rp'
             rw [HN7.out] at hv7
             subst hv7
             replace k2 := sl_far k2 hx2 hplt hm
             replace f := f.app1 hplt rp' hm
             clear k1 hm rp'
             refine hKK.out _ _ ?_ (fun hHeld => ?_)
             · exact (by first | exact f.kx | exact f.kx.ext (below_drew (Below.refl _ _)))
             clear hKK KK
             try simp only [Act.put, List.setIfInBounds_toArray, List.set_cons_zero, List.set_cons_succ]
             refine wpAnyH_take (i := 11) (by simp only [List.getElem?_toArray]; rfl) (by kernel_rfl) (by kernel_rfl) (by kernel_rfl) (by exact fun _ _ _ h => h) (by exact yk (.pointer (some ⟨K, 2, none⟩)) (by kernel_rfl) (fun _ => by kernel_rfl)) hHeld ?_
             refine wpAnyH_ready (rs := [10]) (by kernel_rfl) (by simp) ?_
             refine AllReadyH.cons (by simp only [List.getElem?_toArray]; rfl) (fun KK hKK => ?_) AllReadyH.nil
             rw [if_pos (by kernel_rfl)]
             refine wp_appRC (.tmp 37) (.tmp 39) rfl wB vc _ (by kernel_rfl) f.rc b2 (some ⟨b2, 0, none⟩) 1 1 [(x, y)] (by kernel_rfl) k2 rfl HL8.out f.zB ?_
             intro v8 w81 rc' hm
             obtain ⟨A8, c8, b8, hv8, -⟩ := RowC.sl rc'
             rw [HN8.out] at hv8
             subst hv8
             replace f := f.app2 hclt rc' hm
             clear k2 hm rc'
             refine hKK.out _ _ ?_ (fun hHeld => ?_)
             · exact (by first | exact f.kx | exact f.kx.ext (below_drew (Below.refl _ _)))
             clear hKK KK
             try simp only [Act.put, List.setIfInBounds_toArray, List.set_cons_zero, List.set_cons_succ]
             refine wpAnyH_ready (rs := [12]) (by kernel_rfl) (by simp) ?_
             refine AllReadyH.cons (by simp only [List.getElem?_toArray]; rfl) (fun KK hKK => ?_) AllReadyH.nil
             rw [if_pos (by kernel_rfl)]
             refine wp_stP (.tmp 41) (.tmp 35) rfl ⟨K, 2, none⟩ A7 N7 c7 (by kernel_rfl) (by kernel_rfl) _ f.z.c2 (f.z.fr 2) ?_
             replace f := f.set2 (.slice A7 N7 c7)
             obtain ⟨w82, e⟩ : ∃ w82, w82 = w81.setCell ⟨K, 2, none⟩ (.slice A7 N7 c7) := ⟨_, rfl⟩
             rw [← e] at f ⊢
             clear e
             refine hKK.out _ _ ?_ (fun hHeld => ?_)
             · exact (by first | exact f.kx | exact f.kx.ext (below_drew (Below.refl _ _)))
             clear hKK KK
             try simp only [Act.put]
             refine wpAnyH_take (i := 13) (by simp only [List.getElem?_toArray]; rfl) (by kernel_rfl) (by kernel_rfl) (by kernel_rfl) (by exact fun _ _ _ h => h) (by exact yk (.pointer (some ⟨K, 3, none⟩)) (by kernel_rfl) (fun _ => by kernel_rfl)) hHeld ?_
             refine wpAnyH_ready (rs := [14]) (by kernel_rfl) (by simp) ?_
             refine AllReadyH.cons (by simp only [List.getElem?_toArray]; rfl) (fun KK hKK => ?_) AllReadyH.nil
             rw [if_pos (by kernel_rfl)]
             refine wp_stCs (.tmp 42) (.tmp 40) rfl ⟨K, 3, none⟩ A8 N8 c8 (by kernel_rfl) (by kernel_rfl) _ f.z.c3 (f.z.fr 3) ?_
             replace f := f.set3 (.slice A8 N8 c8)
             obtain ⟨w83, e⟩ : ∃ w83, w83 = w82.setCell ⟨K, 3, none⟩ (.slice A8 N8 c8) := ⟨_, rfl⟩
             rw [← e] at f ⊢
             clear e
             refine hKK.out _ _ ?_ (fun hHeld => ?_)
             · exact (by first | exact f.kx | exact f.kx.ext (below_drew (Below.refl _ _)))
             clear hKK KK
             try simp only [Act.put]
             refine wpAnyH_done (by kernel_rfl) ?_ _
             go_wp2_with fail
             go_meet
             exact ⟨_, _, _, rfl, f.z, f.rp, f.rc, f.q, f.sV, f.b, f.zB⟩
           ·
            rw [if_pos (by kernel_rfl)]
            refine wp_bsRC (.tmp 38) rfl x y (by kernel_rfl) ?_
            obtain ⟨b2, w84, e1, e2, hx2, k2, h⟩ := HA2.out w64 f.kx
            rw [← e1, ← e2]
            replace k1 := Sl.ext k1 h
            replace f := f.ext h
            clear e1 e2 h
            refine hKK.out _ _ ?_ (fun hHeld => ?_)
            · exact (by first | exact f.kx | exact f.kx.ext (below_drew (Below.refl _ _)))
            clear hKK KK
            try simp only [Act.put, List.setIfInBounds_toArray, List.set_cons_zero, List.set_cons_succ]
            refine wpAnyH_ready (rs := [5, 7]) (by kernel_rfl) (by simp) ?_
            refine AllReadyH.cons (by simp only [List.getElem?_toArray]; rfl) (fun KK hKK => ?_) (AllReadyH.cons (by simp only [List.getElem?_toArray]; rfl) (fun KK hKK => ?_) AllReadyH.nil)
            ·
             rw [if_pos (by kernel_rfl)]
             refine wp_appB (.tmp 31) (.tmp 34) rfl wB vp _ (by kernel_rfl) f.rp b1 (some ⟨b1, 0, none⟩) 1 1 [UInt8.ofNat k] (by kernel_rfl) k1 rfl HL7.out f.zB ?_
             intro v7 w85 rp' hm
             obtain ⟨A7, c7, b7, hv7, -⟩ := Row.sl rp'
             rw [HN7.out] at hv7
             subst hv7
             replace k2 := sl_far k2 hx2 hplt hm
             replace f := f.app1 hplt rp' hm
             clear k1 hm rp'
             refine hKK.out _ _ ?_ (fun hHeld => ?_)
             · exact (by first | exact f.kx | exact f.kx.ext (below_drew (Below.refl _ _)))
             clear hKK KK
             try simp only [Act.put, List.setIfInBounds_toArray, List.set_cons_zero, List.set_cons_succ]
             refine wpAnyH_ready (rs := [7]) (by kernel_rfl) (by simp) ?_
             refine AllReadyH.cons (by simp only [List.getElem?_toArray]; rfl) (fun KK hKK => ?_) AllReadyH.nil
             rw [if_pos (by kernel_rfl)]
             refine wp_ldCs (.tmp 36) rfl ⟨K, 3, none⟩ vc (by kernel_rfl) f.z.c3 ?_
             refine hKK.out _ _ ?_ (fun hHeld => ?_)
             · exact (by first | exact f.kx | exact f.kx.ext (below_drew (Below.refl _ _)))
             clear hKK KK
             try simp only [Act.put, List.setIfInBounds_toArray, List.set_cons_zero, List.set_cons_succ]
             refine wpAnyH_take (i := 11) (by simp only [List.getElem?_toArray]; rfl) (by kernel_rfl) (by kernel_rfl) (by kernel_rfl) (by exact fun _ _ _ h => h) (by exact yk (.pointer (some ⟨K, 2, none⟩)) (by kernel_rfl) (fun _ => by kernel_rfl)) hHeld ?_
             refine wpAnyH_ready (rs := [10]) (by kernel_rfl) (by simp) ?_
             refine AllReadyH.cons (by simp only [List.getElem?_toArray]; rfl) (fun KK hKK => ?_) AllReadyH.nil
             rw [if_pos (by kernel_rfl)]
             refine wp_appRC (.tmp 37) (.tmp 39) rfl wB vc _ (by kernel_rfl) f.rc b2 (some ⟨b2, 0, none⟩) 1 1 [(x, y)] (by kernel_rfl) k2 rfl HL8.out f.zB ?_
             intro v8 w86 rc' hm
             obtain ⟨A8, c8, b8, hv8, -⟩ := RowC.sl rc'
             rw [HN8.out] at hv8
             subst hv8
             replace f := f.app2 hclt rc' hm
             clear k2 hm rc'
             refine hKK.out _ _ ?_ (fun hHeld => ?_)
             · exact (by first | exact f.kx | exact f.kx.ext (below_drew (Below.refl _ _)))
             clear hKK KK
             try simp only [Act.put, List.setIfInBounds_toArray, List.set_cons_zero, List.set_cons_succ]
             refine wpAnyH_ready (rs := [12]) (by kernel_rfl) (by simp) ?_
             refine AllReadyH.cons (by simp only [List.getElem?_toArray]; rfl) (fun KK hKK => ?_) AllReadyH.nil
             rw [if_pos (by kernel_rfl)]
             refine wp_stP (.tmp 41) (.tmp 35) rfl ⟨K, 2, none⟩ A7 N7 c7 (by kernel_rfl) (by kernel_rfl) _ f.z.c2 (f.z.fr 2) ?_
             replace f := f.set2 (.slice A7 N7 c7)
             obtain ⟨w87, e⟩ : ∃ w87, w87 = w86.setCell ⟨K, 2, none⟩ (.slice A7 N7 c7) := ⟨_, rfl⟩
             rw [← e] at f ⊢
             clear e
             refine hKK.out _ _ ?_ (fun hHeld => ?_)
             · exact (by first | exact f.kx | exact f.kx.ext (below_drew (Below.refl _ _)))
             clear hKK KK
             try simp only [Act.put]
             refine wpAnyH_take (i := 13) (by simp only [List.getElem?_toArray]; rfl) (by kernel_rfl) (by kernel_rfl) (by kernel_rfl) (by exact fun _ _ _ h => h) (by exact yk (.pointer (some ⟨K, 3, none⟩)) (by kernel_rfl) (fun _ => by kernel_rfl)) hHeld ?_
             refine wpAnyH_ready (rs := [14]) (by kernel_rfl) (by simp) ?_
             refine AllReadyH.cons (by simp only [List.getElem?_toArray]; rfl) (fun KK hKK => ?_) AllReadyH.nil
             rw [if_pos (by kernel_rfl)]
             refine wp_stCs (.tmp 42) (.tmp 40) rfl ⟨K, 3, none⟩ A8 N8 c8 (by kernel_rfl) (by kernel_rfl) _ f.z.c3 (f.z.fr 3) ?_
             replace f := f.set3 (.slice A8 N8 c8)
             obtain ⟨w88, e⟩ : ∃ w88, w88 = w87.setCell ⟨K, 3, none⟩ (.slice A8 N8 c8) := ⟨_, rfl⟩
             rw [← e] at f ⊢
             clear e
             refine hKK.out _ _ ?_ (fun hHeld => ?_)
             · exact (by first | exact f.kx | exact f.kx.ext (below_drew (Below.refl _ _)))
             clear hKK KK
             try simp only [Act.put]
             refine wpAnyH_done (by kernel_rfl) ?_ _
             go_wp2_with fail
             go_meet
             exact ⟨_, _, _, rfl, f.z, f.rp, f.rc, f.q, f.sV, f.b, f.zB⟩
            ·
             rw [if_pos (by kernel_rfl)]
             refine wp_ldCs (.tmp 36) rfl ⟨K, 3, none⟩ vc (by kernel_rfl) f.z.c3 ?_
             refine hKK.out _ _ ?_ (fun hHeld => ?_)
             · exact (by first | exact f.kx | exact f.kx.ext (below_drew (Below.refl _ _)))
             clear hKK KK
             try simp only [Act.put, List.setIfInBounds_toArray, List.set_cons_zero, List.set_cons_succ]
             refine wpAnyH_ready (rs := [5]) (by kernel_rfl) (by simp) ?_
             refine AllReadyH.cons (by simp only [List.getElem?_toArray]; rfl) (fun KK hKK => ?_) AllReadyH.nil
             rw [if_pos (by kernel_rfl)]
             refine wp_appB (.tmp 31) (.tmp 34) rfl wB vp _ (by kernel_rfl) f.rp b1 (some ⟨b1, 0, none⟩) 1 1 [UInt8.ofNat k] (by kernel_rfl) k1 rfl HL7.out f.zB ?_
             intro v7 w89 rp' hm
             obtain ⟨A7, c7, b7, hv7, -⟩ := Row.sl rp'
             rw [HN7.out] at hv7
             subst hv7
             replace k2 := sl_far k2 hx2 hplt hm
             replace f := f.app1 hplt rp' hm
             clear k1 hm rp'
             refine hKK.out _ _ ?_ (fun hHeld => ?_)
             · exact (by first | exact f.kx | exact f.kx.ext (below_drew (Below.refl _ _)))
             clear hKK KK
             try simp only [Act.put, List.setIfInBounds_toArray, List.set_cons_zero, List.set_cons_succ]
             refine wpAnyH_take (i := 11) (by simp only [List.getElem?_toArray]; rfl) (by kernel_rfl) (by kernel_rfl) (by kernel_rfl) (by exact fun _ _ _ h => h) (by exact yk (.pointer (some ⟨K, 2, none⟩)) (by kernel_rfl) (fun _ => by kernel_rfl)) hHeld ?_
             refine wpAnyH_ready (rs := [10]) (by kernel_rfl) (by simp) ?_
             refine AllReadyH.cons (by simp only [List.getElem?_toArray]; rfl) (fun KK hKK => ?_) AllReadyH.nil
             rw [if_pos (by kernel_rfl)]
             refine wp_appRC (.tmp 37) (.tmp 39) rfl wB vc _ (by kernel_rfl) f.rc b2 (some ⟨b2, 0, none⟩) 1 1 [(x, y)] (by kernel_rfl) k2 rfl HL8.out f.zB ?_
             intro v8 w90 rc' hm
             obtain ⟨A8, c8, b8, hv8, -⟩ := RowC.sl rc'
             rw [HN8.out] at hv8
             subst hv8
             replace f := f.app2 hclt rc' hm
             clear k2 hm rc'
             refine hKK.out _ _ ?_ (fun hHeld => ?_)
             · exact (by first | exact f.kx | exact f.kx.ext (below_drew (Below.refl _ _)))
             clear hKK KK
             try simp only [Act.put, List.setIfInBounds_toArray, List.set_cons_zero, List.set_cons_succ]
             refine wpAnyH_ready (rs := [12]) (by kernel_rfl) (by simp) ?_
             refine AllReadyH.cons (by simp only [List.getElem?_toArray]; rfl) (fun KK hKK => ?_) AllReadyH.nil
             rw [if_pos (by kernel_rfl)]
             refine wp_stP (.tmp 41) (.tmp 35) rfl ⟨K, 2, none⟩ A7 N7 c7 (by kernel_rfl) (by kernel_rfl) _ f.z.c2 (f.z.fr 2) ?_
             replace f := f.set2 (.slice A7 N7 c7)
             obtain ⟨w91, e⟩ : ∃ w91, w91 = w90.setCell ⟨K, 2, none⟩ (.slice A7 N7 c7) := ⟨_, rfl⟩
             rw [← e] at f ⊢
             clear e
             refine hKK.out _ _ ?_ (fun hHeld => ?_)
             · exact (by first | exact f.kx | exact f.kx.ext (below_drew (Below.refl _ _)))
             clear hKK KK
             try simp only [Act.put]
             refine wpAnyH_take (i := 13) (by simp only [List.getElem?_toArray]; rfl) (by kernel_rfl) (by kernel_rfl) (by kernel_rfl) (by exact fun _ _ _ h => h) (by exact yk (.pointer (some ⟨K, 3, none⟩)) (by kernel_rfl) (fun _ => by kernel_rfl)) hHeld ?_
             refine wpAnyH_ready (rs := [14]) (by kernel_rfl) (by simp) ?_
             refine AllReadyH.cons (by simp only [List.getElem?_toArray]; rfl) (fun KK hKK => ?_) AllReadyH.nil
             rw [if_pos (by kernel_rfl)]
             refine wp_stCs (.tmp 42) (.tmp 40) rfl ⟨K, 3, none⟩ A8 N8 c8 (by kernel_rfl) (by kernel_rfl) _ f.z.c3 (f.z.fr 3) ?_
             replace f := f.set3 (.slice A8 N8 c8)
             obtain ⟨w92, e⟩ : ∃ w92, w92 = w91.setCell ⟨K, 3, none⟩ (.slice A8 N8 c8) := ⟨_, rfl⟩
             rw [← e] at f ⊢
             clear e
             refine hKK.out _ _ ?_ (fun hHeld => ?_)
             · exact (by first | exact f.kx | exact f.kx.ext (below_drew (Below.refl _ _)))
             clear hKK KK
             try simp only [Act.put]
             refine wpAnyH_done (by kernel_rfl) ?_ _
             go_wp2_with fail
             go_meet
             exact ⟨_, _, _, rfl, f.z, f.rp, f.rc, f.q, f.sV, f.b, f.zB⟩
          ·
           rw [if_pos (by kernel_rfl)]
           refine wp_ldCs (.tmp 36) rfl ⟨K, 3, none⟩ vc (by kernel_rfl) f.z.c3 ?_
           refine hKK.out _ _ ?_ (fun hHeld => ?_)
           · exact (by first | exact f.kx | exact f.kx.ext (below_drew (Below.refl _ _)))
           clear hKK KK
           try simp only [Act.put, List.setIfInBounds_toArray, List.set_cons_zero, List.set_cons_succ]
           refine wpAnyH_ready (rs := [1, 9]) (by kernel_rfl) (by simp) ?_
           refine AllReadyH.cons (by simp only [List.getElem?_toArray]; rfl) (fun KK hKK => ?_) (AllReadyH.cons (by simp only [List.getElem?_toArray]; rfl) (fun KK hKK => ?_) AllReadyH.nil)
           ·
            rw [if_pos (by kernel_rfl)]
            refine wp_ldP (.tmp 30) rfl ⟨K, 2, none⟩ vp (by kernel_rfl) f.z.c2 ?_
            refine hKK.out _ _ ?_ (fun hHeld => ?_)
            · exact (by first | exact f.kx | exact f.kx.ext (below_drew (Below.refl _ _)))
            clear hKK KK
            try simp only [Act.put, List.setIfInBounds_toArray, List.set_cons_zero, List.set_cons_succ]
            refine wpAnyH_ready (rs := [5, 9]) (by kernel_rfl) (by simp) ?_
            refine AllReadyH.cons (by simp only [List.getElem?_toArray]; rfl) (fun KK hKK => ?_) (AllReadyH.cons (by simp only [List.getElem?_toArray]; rfl) (fun KK hKK => ?_) AllReadyH.nil)
            ·
             rw [if_pos (by kernel_rfl)]
             refine wp_appB (.tmp 31) (.tmp 34) rfl wB vp _ (by kernel_rfl) f.rp b1 (some ⟨b1, 0, none⟩) 1 1 [UInt8.ofNat k] (by kernel_rfl) k1 rfl HL7.out f.zB ?_
             intro v7 w93 rp' hm
             obtain ⟨A7, c7, b7, hv7, -⟩ := Row.sl rp'
             rw [HN7.out] at hv7
             subst hv7
             replace f := f.app1 hplt rp' hm
             clear k1 hm rp'
             refine hKK.out _ _ ?_ (fun hHeld => ?_)
             · exact (by first | exact f.kx | exact f.kx.ext (below_drew (Below.refl _ _)))
             clear hKK KK
             try simp only [Act.put, List.setIfInBounds_toArray, List.set_cons_zero, List.set_cons_succ]
             refine wpAnyH_take (i := 11) (by simp only [List.getElem?_toArray]; rfl) (by kernel_rfl) (by kernel_rfl) (by kernel_rfl) (by exact fun _ _ _ h => h) (by exact yk (.pointer (some ⟨K, 2, none⟩)) (by kernel_rfl) (fun _ => by kernel_rfl)) hHeld ?_
             refine wpAnyH_ready (rs := [9]) (by kernel_rfl) (by simp) ?_
             refine AllReadyH.cons (by simp only [List.getElem?_toArray]; rfl) (fun KK hKK => ?_) AllReadyH.nil
             rw [if_pos (by kernel_rfl)]
             refine wp_bsRC (.tmp 38) rfl x y (by kernel_rfl) ?_
             obtain ⟨b2, w94, e1, e2, hx2, k2, h⟩ := HA2.out w93 f.kx
             rw [← e1, ← e2]
             replace f := f.ext h
             clear e1 e2 h
             refine hKK.out _ _ ?_ (fun hHeld => ?_)
             · exact (by first | exact f.kx | exact f.kx.ext (below_drew (Below.refl _ _)))
             clear hKK KK
             try simp only [Act.put, List.setIfInBounds_toArray, List.set_cons_zero, List.set_cons_succ]
             refine wpAnyH_ready (rs := [10]) (by kernel_rfl) (by simp) ?_
             refine AllReadyH.cons (by simp only [List.getElem?_toArray]; rfl) (fun KK hKK => ?_) AllReadyH.nil
             rw [if_pos (by kernel_rfl)]
             refine wp_appRC (.tmp 37) (.tmp 39) rfl wB vc _ (by kernel_rfl) f.rc b2 (some ⟨b2, 0, none⟩) 1 1 [(x, y)] (by kernel_rfl) k2 rfl HL8.out f.zB ?_
             intro v8 w95 rc' hm
             obtain ⟨A8, c8, b8, hv8, -⟩ := RowC.sl rc'
             rw [HN8.out] at hv8
             subst hv8
             replace f := f.app2 hclt rc' hm
             clear k2 hm rc'
             refine hKK.out _ _ ?_ (fun hHeld => ?_)
             · exact (by first | exact f.kx | exact f.kx.ext (below_drew (Below.refl _ _)))
             clear hKK KK
             try simp only [Act.put, List.setIfInBounds_toArray, List.set_cons_zero, List.set_cons_succ]
             refine wpAnyH_ready (rs := [12]) (by kernel_rfl) (by simp) ?_
             refine AllReadyH.cons (by simp only [List.getElem?_toArray]; rfl) (fun KK hKK => ?_) AllReadyH.nil
             rw [if_pos (by kernel_rfl)]
             refine wp_stP (.tmp 41) (.tmp 35) rfl ⟨K, 2, none⟩ A7 N7 c7 (by kernel_rfl) (by kernel_rfl) _ f.z.c2 (f.z.fr 2) ?_
             replace f := f.set2 (.slice A7 N7 c7)
             obtain ⟨w96, e⟩ : ∃ w96, w96 = w95.setCell ⟨K, 2, none⟩ (.slice A7 N7 c7) := ⟨_, rfl⟩
             rw [← e] at f ⊢
             clear e
             refine hKK.out _ _ ?_ (fun hHeld => ?_)
             · exact (by first | exact f.kx | exact f.kx.ext (below_drew (Below.refl _ _)))
             clear hKK KK
             try simp only [Act.put]
             refine wpAnyH_take (i := 13) (by simp only [List.getElem?_toArray]; rfl) (by kernel_rfl) (by kernel_rfl) (by kernel_rfl) (by exact fun _ _ _ h => h) (by exact yk (.pointer (some ⟨K, 3, none⟩)) (by kernel_rfl) (fun _ => by kernel_rfl)) hHeld ?_
             refine wpAnyH_ready (rs := [14]) (by kernel_rfl) (by simp) ?_
             refine AllReadyH.cons (by simp only [List.getElem?_toArray]; rfl) (fun KK hKK => ?_) AllReadyH.nil
             rw [if_pos (by kernel_rfl)]
             refine wp_stCs (.tmp 42) (.tmp 40) rfl ⟨K, 3, none⟩ A8 N8 c8 (by kernel_rfl) (by kernel_rfl) _ f.z.c3 (f.z.fr 3) ?_
             replace f := f.set3 (.slice A8 N8 c8)
             obtain ⟨w97, e⟩ : ∃ w97, w97 = w96.setCell ⟨K, 3, none⟩ (.slice A8 N8 c8) := ⟨_, rfl⟩
             rw [← e] at f ⊢
             clear e
             refine hKK.out _ _ ?_ (fun hHeld => ?_)
             · exact (by first | exact f.kx | exact f.kx.ext (below_drew (Below.refl _ _)))
             clear hKK KK
             try simp only [Act.put]
             refine wpAnyH_done (by kernel_rfl) ?_ _
             go_wp2_with fail
             go_meet
             exact ⟨_, _, _, rfl, f.z, f.rp, f.rc, f.q, f.sV, f.b, f.zB⟩
            ·
             rw [if_pos (by kernel_rfl)]
             refine wp_bsRC (.tmp 38) rfl x y (by kernel_rfl) ?_
             obtain ⟨b2, w98, e1, e2, hx2, k2, h⟩ := HA2.out w64 f.kx
             rw [← e1, ← e2]
             replace k1 := Sl.ext k1 h
             replace f := f.ext h
             clear e1 e2 h
             refine hKK.out _ _ ?_ (fun hHeld => ?_)
             · exact (by first | exact f.kx | exact f.kx.ext (below_drew (Below.refl _ _)))
             clear hKK KK
             try simp only [Act.put, List.setIfInBounds_toArray, List.set_cons_zero, List.set_cons_succ]
             refine wpAnyH_ready (rs := [5]) (by kernel_rfl) (by simp) ?_
             refine AllReadyH.cons (by simp only [List.getElem?_toArray]; rfl) (fun KK hKK => ?_) AllReadyH.nil
             rw [if_pos (by kernel_rfl)]
             refine wp_appB (.tmp 31) (.tmp 34) rfl wB vp _ (by kernel_rfl) f.rp b1 (some ⟨b1, 0, none⟩) 1 1 [UInt8.ofNat k] (by kernel_rfl) k1 rfl HL7.out f.zB ?_
             intro v7 w99 rp' hm
             obtain ⟨A7, c7, b7, hv7, -⟩ := Row.sl rp'
             rw [HN7.out] at hv7
             subst hv7
             replace k2 := sl_far k2 hx2 hplt hm
             replace f := f.app1 hplt rp' hm
             clear k1 hm rp'
             refine hKK.out _ _ ?_ (fun hHeld => ?_)
             · exact (by first | exact f.kx | exact f.kx.ext (below_drew (Below.refl _ _)))
             clear hKK KK
             try simp only [Act.put, List.setIfInBounds_toArray, List.set_cons_zero, List.set_cons_succ]
             refine wpAnyH_take (i := 11) (by simp only [List.getElem?_toArray]; rfl) (by kernel_rfl) (by kernel_rfl) (by kernel_rfl) (by exact fun _ _ _ h => h) (by exact yk (.pointer (some ⟨K, 2, none⟩)) (by kernel_rfl) (fun _ => by kernel_rfl)) hHeld ?_
             refine wpAnyH_ready (rs := [10]) (by kernel_rfl) (by simp) ?_
             refine AllReadyH.cons (by simp only [List.getElem?_toArray]; rfl) (fun KK hKK => ?_) AllReadyH.nil
             rw [if_pos (by kernel_rfl)]
             refine wp_appRC (.tmp 37) (.tmp 39) rfl wB vc _ (by kernel_rfl) f.rc b2 (some ⟨b2, 0, none⟩) 1 1 [(x, y)] (by kernel_rfl) k2 rfl HL8.out f.zB ?_
             intro v8 w100 rc' hm
             obtain ⟨A8, c8, b8, hv8, -⟩ := RowC.sl rc'
             rw [HN8.out] at hv8
             subst hv8
             replace f := f.app2 hclt rc' hm
             clear k2 hm rc'
             refine hKK.out _ _ ?_ (fun hHeld => ?_)
             · exact (by first | exact f.kx | exact f.kx.ext (below_drew (Below.refl _ _)))
             clear hKK KK
             try simp only [Act.put, List.setIfInBounds_toArray, List.set_cons_zero, List.set_cons_succ]
             refine wpAnyH_ready (rs := [12]) (by kernel_rfl) (by simp) ?_
             refine AllReadyH.cons (by simp only [List.getElem?_toArray]; rfl) (fun KK hKK => ?_) AllReadyH.nil
             rw [if_pos (by kernel_rfl)]
             refine wp_stP (.tmp 41) (.tmp 35) rfl ⟨K, 2, none⟩ A7 N7 c7 (by kernel_rfl) (by kernel_rfl) _ f.z.c2 (f.z.fr 2) ?_
             replace f := f.set2 (.slice A7 N7 c7)
             obtain ⟨w101, e⟩ : ∃ w101, w101 = w100.setCell ⟨K, 2, none⟩ (.slice A7 N7 c7) := ⟨_, rfl⟩
             rw [← e] at f ⊢
             clear e
             refine hKK.out _ _ ?_ (fun hHeld => ?_)
             · exact (by first | exact f.kx | exact f.kx.ext (below_drew (Below.refl _ _)))
             clear hKK KK
             try simp only [Act.put]
             refine wpAnyH_take (i := 13) (by simp only [List.getElem?_toArray]; rfl) (by kernel_rfl) (by kernel_rfl) (by kernel_rfl) (by exact fun _ _ _ h => h) (by exact yk (.pointer (some ⟨K, 3, none⟩)) (by kernel_rfl) (fun _ => by kernel_rfl)) hHeld ?_
             refine wpAnyH_ready (rs := [14]) (by kernel_rfl) (by simp) ?_
             refine AllReadyH.cons (by simp only [List.getElem?_toArray]; rfl) (fun KK hKK => ?_) AllReadyH.nil
             rw [if_pos (by kernel_rfl)]
             refine wp_stCs (.tmp 42) (.tmp 40) rfl ⟨K, 3, none⟩ A8 N8 c8 (by kernel_rfl) (by kernel_rfl) _ f.z.c3 (f.z.fr 3) ?_
             replace f := f.set3 (.slice A8 N8 c8)
             obtain ⟨w102, e⟩ : ∃ w102, w102 = w101.setCell ⟨K, 3, none⟩ (.slice A8 N8 c8) := ⟨_, rfl⟩
             rw [← e] at f ⊢
             clear e
             refine hKK.out _ _ ?_ (fun hHeld => ?_)
             · exact (by first | exact f.kx | exact f.kx.ext (below_drew (Below.refl _ _)))
             clear hKK KK
             try simp only [Act.put]
             refine wpAnyH_done (by kernel_rfl) ?_ _
             go_wp2_with fail
             go_meet
             exact ⟨_, _, _, rfl, f.z, f.rp, f.rc, f.q, f.sV, f.b, f.zB⟩
           ·
            rw [if_pos (by kernel_rfl)]
            refine wp_bsRC (.tmp 38) rfl x y (by kernel_rfl) ?_
            obtain ⟨b2, w103, e1, e2, hx2, k2, h⟩ := HA2.out w64 f.kx
            rw [← e1, ← e2]
            replace k1 := Sl.ext k1 h
            replace f := f.ext h
            clear e1 e2 h
            refine hKK.out _ _ ?_ (fun hHeld => ?_)
            · exact (by first | exact f.kx | exact f.kx.ext (below_drew (Below.refl _ _)))
            clear hKK KK
            try simp only [Act.put, List.setIfInBounds_toArray, List.set_cons_zero, List.set_cons_succ]
            refine wpAnyH_ready (rs := [1]) (by kernel_rfl) (by simp) ?_
            refine AllReadyH.cons (by simp only [List.getElem?_toArray]; rfl) (fun KK hKK => ?_) AllReadyH.nil
            rw [if_pos (by kernel_rfl)]
            refine wp_ldP (.tmp 30) rfl ⟨K, 2, none⟩ vp (by kernel_rfl) f.z.c2 ?_
            refine hKK.out _ _ ?_ (fun hHeld => ?_)
            · exact (by first | exact f.kx | exact f.kx.ext (below_drew (Below.refl _ _)))
            clear hKK KK
            try simp only [Act.put, List.setIfInBounds_toArray, List.set_cons_zero, List.set_cons_succ]
            refine wpAnyH_ready (rs := [5]) (by kernel_rfl) (by simp) ?_
            refine AllReadyH.cons (by simp only [List.getElem?_toArray]; rfl) (fun KK hKK => ?_) AllReadyH.nil
            rw [if_pos (by kernel_rfl)]
            refine wp_appB (.tmp 31) (.tmp 34) rfl wB vp _ (by kernel_rfl) f.rp b1 (some ⟨b1, 0, none⟩) 1 1 [UInt8.ofNat k] (by kernel_rfl) k1 rfl HL7.out f.zB ?_
            intro v7 w104 rp' hm
            obtain ⟨A7, c7, b7, hv7, -⟩ := Row.sl rp'
            rw [HN7.out] at hv7
            subst hv7
            replace k2 := sl_far k2 hx2 hplt hm
            replace f := f.app1 hplt rp' hm
            clear k1 hm rp'
            refine hKK.out _ _ ?_ (fun hHeld => ?_)
            · exact (by first | exact f.kx | exact f.kx.ext (below_drew (Below.refl _ _)))
            clear hKK KK
            try simp only [Act.put, List.setIfInBounds_toArray, List.set_cons_zero, List.set_cons_succ]
            refine wpAnyH_take (i := 11) (by simp only [List.getElem?_toArray]; rfl) (by kernel_rfl) (by kernel_rfl) (by kernel_rfl) (by exact fun _ _ _ h => h) (by exact yk (.pointer (some ⟨K, 2, none⟩)) (by kernel_rfl) (fun _ => by kernel_rfl)) hHeld ?_
            refine wpAnyH_ready (rs := [10]) (by kernel_rfl) (by simp) ?_
            refine AllReadyH.cons (by simp only [List.getElem?_toArray]; rfl) (fun KK hKK => ?_) AllReadyH.nil
            rw [if_pos (by kernel_rfl)]
            refine wp_appRC (.tmp 37) (.tmp 39) rfl wB vc _ (by kernel_rfl) f.rc b2 (some ⟨b2, 0, none⟩) 1 1 [(x, y)] (by kernel_rfl) k2 rfl HL8.out f.zB ?_
            intro v8 w105 rc' hm
            obtain ⟨A8, c8, b8, hv8, -⟩ := RowC.sl rc'
            rw [HN8.out] at hv8
            subst hv8
            replace f := f.app2 hclt rc' hm
            clear k2 hm rc'
            refine hKK.out _ _ ?_ (fun hHeld => ?_)
            · exact (by first | exact f.kx | exact f.kx.ext (below_drew (Below.refl _ _)))
            clear hKK KK
            try simp only [Act.put, List.setIfInBounds_toArray, List.set_cons_zero, List.set_cons_succ]
            refine wpAnyH_ready (rs := [12]) (by kernel_rfl) (by simp) ?_
            refine AllReadyH.cons (by simp only [List.getElem?_toArray]; rfl) (fun KK hKK => ?_) AllReadyH.nil
            rw [if_pos (by kernel_rfl)]
            refine wp_stP (.tmp 41) (.tmp 35) rfl ⟨K, 2, none⟩ A7 N7 c7 (by kernel_rfl) (by kernel_rfl) _ f.z.c2 (f.z.fr 2) ?_
            replace f := f.set2 (.slice A7 N7 c7)
            obtain ⟨w106, e⟩ : ∃ w106, w106 = w105.setCell ⟨K, 2, none⟩ (.slice A7 N7 c7) := ⟨_, rfl⟩
            rw [← e] at f ⊢
            clear e
            refine hKK.out _ _ ?_ (fun hHeld => ?_)
            · exact (by first | exact f.kx | exact f.kx.ext (below_drew (Below.refl _ _)))
            clear hKK KK
            try simp only [Act.put]
            refine wpAnyH_take (i := 13) (by simp only [List.getElem?_toArray]; rfl) (by kernel_rfl) (by kernel_rfl) (by kernel_rfl) (by exact fun _ _ _ h => h) (by exact yk (.pointer (some ⟨K, 3, none⟩)) (by kernel_rfl) (fun _ => by kernel_rfl)) hHeld ?_
            refine wpAnyH_ready (rs := [14]) (by kernel_rfl) (by simp) ?_
            refine AllReadyH.cons (by simp only [List.getElem?_toArray]; rfl) (fun KK hKK => ?_) AllReadyH.nil
            rw [if_pos (by kernel_rfl)]
            refine wp_stCs (.tmp 42) (.tmp 40) rfl ⟨K, 3, none⟩ A8 N8 c8 (by kernel_rfl) (by kernel_rfl) _ f.z.c3 (f.z.fr 3) ?_
            replace f := f.set3 (.slice A8 N8 c8)
            obtain ⟨w107, e⟩ : ∃ w107, w107 = w106.setCell ⟨K, 3, none⟩ (.slice A8 N8 c8) := ⟨_, rfl⟩
            rw [← e] at f ⊢
            clear e
            refine hKK.out _ _ ?_ (fun hHeld => ?_)
            · exact (by first | exact f.kx | exact f.kx.ext (below_drew (Below.refl _ _)))
            clear hKK KK
            try simp only [Act.put]
            refine wpAnyH_done (by kernel_rfl) ?_ _
            go_wp2_with fail
            go_meet
            exact ⟨_, _, _, rfl, f.z, f.rp, f.rc, f.q, f.sV, f.b, f.zB⟩
          ·
           rw [if_pos (by kernel_rfl)]
           refine wp_bsRC (.tmp 38) rfl x y (by kernel_rfl) ?_
           obtain ⟨b2, w108, e1, e2, hx2, k2, h⟩ := HA2.out w64 f.kx
           rw [← e1, ← e2]
           replace k1 := Sl.ext k1 h
           replace f := f.ext h
           clear e1 e2 h
           refine hKK.out _ _ ?_ (fun hHeld => ?_)
           · exact (by first | exact f.kx | exact f.kx.ext (below_drew (Below.refl _ _)))
           clear hKK KK
           try simp only [Act.put, List.setIfInBounds_toArray, List.set_cons_zero, List.set_cons_succ]
           refine wpAnyH_ready (rs := [1, 7]) (by kernel_rfl) (by simp) ?_
           refine AllReadyH.cons (by simp only [List.getElem?_toArray]; rfl) (fun KK hKK => ?_) (AllReadyH.cons (by simp only [List.getElem?_toArray]; rfl) (fun KK hKK => ?_) AllReadyH.nil)
           ·
            rw [if_pos (by kernel_rfl)]
            refine wp_ldP (.tmp 30) rfl ⟨K, 2, none⟩ vp (by kernel_rfl) f.z.c2 ?_
            refine hKK.out _ _ ?_ (fun hHeld => ?_)
            · exact (by first | exact f.kx | exact f.kx.ext (below_drew (Below.refl _ _)))
            clear hKK KK
            try simp only [Act.put, List.setIfInBounds_toArray, List.set_cons_zero, List.set_cons_succ]
            refine wpAnyH_ready (rs := [5, 7]) (by kernel_rfl) (by simp) ?_
            refine AllReadyH.cons (by simp only [List.getElem?_toArray]; rfl) (fun KK hKK => ?_) (AllReadyH.cons (by simp only [List.getElem?_toArray]; rfl) (fun KK hKK => ?_) AllReadyH.nil)
            ·
             rw [if_pos (by kernel_rfl)]
             refine wp_appB (.tmp 31) (.tmp 34) rfl wB vp _ (by kernel_rfl) f.rp b1 (some ⟨b1, 0, none⟩) 1 1 [UInt8.ofNat k] (by kernel_rfl) k1 rfl HL7.out f.zB ?_
             intro v7 w109 rp' hm
             obtain ⟨A7, c7, b7, hv7, -⟩ := Row.sl rp'
             rw [HN7.out] at hv7
             subst hv7
             replace k2 := sl_far k2 hx2 hplt hm
             replace f := f.app1 hplt rp' hm
             clear k1 hm rp'
             refine hKK.out _ _ ?_ (fun hHeld => ?_)
             · exact (by first | exact f.kx | exact f.kx.ext (below_drew (Below.refl _ _)))
             clear hKK KK
             try simp only [Act.put, List.setIfInBounds_toArray, List.set_cons_zero, List.set_cons_succ]
             refine wpAnyH_ready (rs := [7]) (by kernel_rfl) (by simp) ?_
             refine AllReadyH.cons (by simp only [List.getElem?_toArray]; rfl) (fun KK hKK => ?_) AllReadyH.nil
             rw [if_pos (by kernel_rfl)]
             refine wp_ldCs (.tmp 36) rfl ⟨K, 3, none⟩ vc (by kernel_rfl) f.z.c3 ?_
             refine hKK.out _ _ ?_ (fun hHeld => ?_)
             · exact (by first | exact f.kx | exact f.kx.ext (below_drew (Below.refl _ _)))
             clear hKK KK
             try simp only [Act.put, List.setIfInBounds_toArray, List.set_cons_zero, List.set_cons_succ]
             refine wpAnyH_take (i := 11) (by simp only [List.getElem?_toArray]; rfl) (by kernel_rfl) (by kernel_rfl) (by kernel_rfl) (by exact fun _ _ _ h => h) (by exact yk (.pointer (some ⟨K, 2, none⟩)) (by kernel_rfl) (fun _ => by kernel_rfl)) hHeld ?_
             refine wpAnyH_ready (rs := [10]) (by kernel_rfl) (by simp) ?_
             refine AllReadyH.cons (by simp only [List.getElem?_toArray]; rfl) (fun KK hKK => ?_) AllReadyH.nil
             rw [if_pos (by kernel_rfl)]
             refine wp_appRC (.tmp 37) (.tmp 39) rfl wB vc _ (by kernel_rfl) f.rc b2 (some ⟨b2, 0, none⟩) 1 1 [(x, y)] (by kernel_rfl) k2 rfl HL8.out f.zB ?_
             intro v8 w110 rc' hm
             obtain ⟨A8, c8, b8, hv8, -⟩ := RowC.sl rc'
             rw [HN8.out] at hv8
             subst hv8
             replace f := f.app2 hclt rc' hm
             clear k2 hm rc'
             refine hKK.out _ _ ?_ (fun hHeld => ?_)
             · exact (by first | exact f.kx | exact f.kx.ext (below_drew (Below.refl _ _)))
             clear hKK KK
             try simp only [Act.put, List.setIfInBounds_toArray, List.set_cons_zero, List.set_cons_succ]
             refine wpAnyH_ready (rs := [12]) (by kernel_rfl) (by simp) ?_
             refine AllReadyH.cons (by simp only [List.getElem?_toArray]; rfl) (fun KK hKK => ?_) AllReadyH.nil
             rw [if_pos (by kernel_rfl)]
             refine wp_stP (.tmp 41) (.tmp 35) rfl ⟨K, 2, none⟩ A7 N7 c7 (by kernel_rfl) (by kernel_rfl) _ f.z.c2 (f.z.fr 2) ?_
             replace f := f.set2 (.slice A7 N7 c7)
             obtain ⟨w111, e⟩ : ∃ w111, w111 = w110.setCell ⟨K, 2, none⟩ (.slice A7 N7 c7) := ⟨_, rfl⟩
             rw [← e] at f ⊢
             clear e
             refine hKK.out _ _ ?_ (fun hHeld => ?_)
             · exact (by first | exact f.kx | exact f.kx.ext (below_drew (Below.refl _ _)))
             clear hKK KK
             try simp only [Act.put]
             refine wpAnyH_take (i := 13) (by simp only [List.getElem?_toArray]; rfl) (by kernel_rfl) (by kernel_rfl) (by kernel_rfl) (by exact fun _ _ _ h => h) (by exact yk (.pointer (some ⟨K, 3, none⟩)) (by kernel_rfl) (fun _ => by kernel_rfl)) hHeld ?_
             refine wpAnyH_ready (rs := [14]) (by kernel_rfl) (by simp) ?_
             refine AllReadyH.cons (by simp only [List.getElem?_toArray]; rfl) (fun KK hKK => ?_) AllReadyH.nil
             rw [if_pos (by kernel_rfl)]
             refine wp_stCs (.tmp 42) (.tmp 40) rfl ⟨K, 3, none⟩ A8 N8 c8 (by kernel_rfl) (by kernel_rfl) _ f.z.c3 (f.z.fr 3) ?_
             replace f := f.set3 (.slice A8 N8 c8)
             obtain ⟨w112, e⟩ : ∃ w112, w112 = w111.setCell ⟨K, 3, none⟩ (.slice A8 N8 c8) := ⟨_, rfl⟩
             rw [← e] at f ⊢
             clear e
             refine hKK.out _ _ ?_ (fun hHeld => ?_)
             · exact (by first | exact f.kx | exact f.kx.ext (below_drew (Below.refl _ _)))
             clear hKK KK
             try simp only [Act.put]
             refine wpAnyH_done (by kernel_rfl) ?_ _
             go_wp2_with fail
             go_meet
             exact ⟨_, _, _, rfl, f.z, f.rp, f.rc, f.q, f.sV, f.b, f.zB⟩
            ·
             rw [if_pos (by kernel_rfl)]
             refine wp_ldCs (.tmp 36) rfl ⟨K, 3, none⟩ vc (by kernel_rfl) f.z.c3 ?_
             refine hKK.out _ _ ?_ (fun hHeld => ?_)
             · exact (by first | exact f.kx | exact f.kx.ext (below_drew (Below.refl _ _)))
             clear hKK KK
             try simp only [Act.put, List.setIfInBounds_toArray, List.set_cons_zero, List.set_cons_succ]
             refine wpAnyH_ready (rs := [5]) (by kernel_rfl) (by simp) ?_
             refine AllReadyH.cons (by simp only [List.getElem?_toArray]; rfl) (fun KK hKK => ?_) AllReadyH.nil
             rw [if_pos (by kernel_rfl)]
             refine wp_appB (.tmp 31) (.tmp 34) rfl wB vp _ (by kernel_rfl) f.rp b1 (some ⟨b1, 0, none⟩) 1 1 [UInt8.ofNat k] (by kernel_rfl) k1 rfl HL7.out f.zB ?_
             intro v7 w113 rp' hm
             obtain ⟨A7, c7, b7, hv7, -⟩ := Row.sl rp'
             rw [HN7.out] at hv7
             subst hv7
             replace k2 := sl_far k2 hx2 hplt hm
             replace f := f.app1 hplt rp' hm
             clear k1 hm rp'
             refine hKK.out _ _ ?_ (fun hHeld => ?_)
             · exact (by first | exact f.kx | exact f.kx.ext (below_drew (Below.refl _ _)))
             clear hKK KK
             try simp only [Act.put, List.setIfInBounds_toArray, List.set_cons_zero, List.set_cons_succ]
             refine wpAnyH_take (i := 11) (by simp only [List.getElem?_toArray]; rfl) (by kernel_rfl) (by kernel_rfl) (by kernel_rfl) (by exact fun _ _ _ h => h) (by exact yk (.pointer (some ⟨K, 2, none⟩)) (by kernel_rfl) (fun _ => by kernel_rfl)) hHeld ?_
             refine wpAnyH_ready (rs := [10]) (by kernel_rfl) (by simp) ?_
             refine AllReadyH.cons (by simp only [List.getElem?_toArray]; rfl) (fun KK hKK => ?_) AllReadyH.nil
             rw [if_pos (by kernel_rfl)]
             refine wp_appRC (.tmp 37) (.tmp 39) rfl wB vc _ (by kernel_rfl) f.rc b2 (some ⟨b2, 0, none⟩) 1 1 [(x, y)] (by kernel_rfl) k2 rfl HL8.out f.zB ?_
             intro v8 w114 rc' hm
             obtain ⟨A8, c8, b8, hv8, -⟩ := RowC.sl rc'
             rw [HN8.out] at hv8
             subst hv8
             replace f := f.app2 hclt rc' hm
             clear k2 hm rc'
             refine hKK.out _ _ ?_ (fun hHeld => ?_)
             · exact (by first | exact f.kx | exact f.kx.ext (below_drew (Below.refl _ _)))
             clear hKK KK
             try simp only [Act.put, List.setIfInBounds_toArray, List.set_cons_zero, List.set_cons_succ]
             refine wpAnyH_ready (rs := [12]) (by kernel_rfl) (by simp) ?_
             refine AllReadyH.cons (by simp only [List.getElem?_toArray]; rfl) (fun KK hKK => ?_) AllReadyH.nil
             rw [if_pos (by kernel_rfl)]
             refine wp_stP (.tmp 41) (.tmp 35) rfl ⟨K, 2, none⟩ A7 N7 c7 (by kernel_rfl) (by kernel_rfl) _ f.z.c2 (f.z.fr 2) ?_
             replace f := f.set2 (.slice A7 N7 c7)
             obtain ⟨w115, e⟩ : ∃ w115, w115 = w114.setCell ⟨K, 2, none⟩ (.slice A7 N7 c7) := ⟨_, rfl⟩
             rw [← e] at f ⊢
             clear e
             refine hKK.out _ _ ?_ (fun hHeld => ?_)
             · exact (by first | exact f.kx | exact f.kx.ext (below_drew (Below.refl _ _)))
             clear hKK KK
             try simp only [Act.put]
             refine wpAnyH_take (i := 13) (by simp only [List.getElem?_toArray]; rfl) (by kernel_rfl) (by kernel_rfl) (by kernel_rfl) (by exact fun _ _ _ h => h) (by exact yk (.pointer (some ⟨K, 3, none⟩)) (by kernel_rfl) (fun _ => by kernel_rfl)) hHeld ?_
             refine wpAnyH_ready (rs := [14]) (by kernel_rfl) (by simp) ?_
             refine AllReadyH.cons (by simp only [List.getElem?_toArray]; rfl) (fun KK hKK => ?_) AllReadyH.nil
             rw [if_pos (by kernel_rfl)]
             refine wp_stCs (.tmp 42) (.tmp 40) rfl ⟨K, 3, none⟩ A8 N8 c8 (by kernel_rfl) (by kernel_rfl) _ f.z.c3 (f.z.fr 3) ?_
             replace f := f.set3 (.slice A8 N8 c8)
             obtain ⟨w116, e⟩ : ∃ w116, w116 = w115.setCell ⟨K, 3, none⟩ (.slice A8 N8 c8) := ⟨_, rfl⟩
             rw [← e] at f ⊢
             clear e
             refine hKK.out _ _ ?_ (fun hHeld => ?_)
             · exact (by first | exact f.kx | exact f.kx.ext (below_drew (Below.refl _ _)))
             clear hKK KK
             try simp only [Act.put]
             refine wpAnyH_done (by kernel_rfl) ?_ _
             go_wp2_with fail
             go_meet
             exact ⟨_, _, _, rfl, f.z, f.rp, f.rc, f.q, f.sV, f.b, f.zB⟩
           ·
            rw [if_pos (by kernel_rfl)]
            refine wp_ldCs (.tmp 36) rfl ⟨K, 3, none⟩ vc (by kernel_rfl) f.z.c3 ?_
            refine hKK.out _ _ ?_ (fun hHeld => ?_)
            · exact (by first | exact f.kx | exact f.kx.ext (below_drew (Below.refl _ _)))
            clear hKK KK
            try simp only [Act.put, List.setIfInBounds_toArray, List.set_cons_zero, List.set_cons_succ]
            refine wpAnyH_ready (rs := [1]) (by kernel_rfl) (by simp) ?_
            refine AllReadyH.cons (by simp only [List.getElem?_toArray]; rfl) (fun KK hKK => ?_) AllReadyH.nil
            rw [if_pos (by kernel_rfl)]
            refine wp_ldP (.tmp 30) rfl ⟨K, 2, none⟩ vp (by kernel_rfl) f.z.c2 ?_
            refine hKK.out _ _ ?_ (fun hHeld => ?_)
            · exact (by first | exact f.kx | exact f.kx.ext (below_drew (Below.refl _ _)))
            clear hKK KK
            try simp only [Act.put, List.setIfInBounds_toArray, List.set_cons_zero, List.set_cons_succ]
            refine wpAnyH_ready (rs := [5]) (by kernel_rfl) (by simp) ?_
            refine AllReadyH.cons (by simp only [List.getElem?_toArray]; rfl) (fun KK hKK => ?_) AllReadyH.nil
            rw [if_pos (by kernel_rfl)]
            refine wp_appB (.tmp 31) (.tmp 34) rfl wB vp _ (by kernel_rfl) f.rp b1 (some ⟨b1, 0, none⟩) 1 1 [UInt8.ofNat k] (by kernel_rfl) k1 rfl HL7.out f.zB ?_
            intro v7 w117 rp' hm
            obtain ⟨A7, c7, b7, hv7, -⟩ := Row.sl rp'
            rw [HN7.out] at hv7
            subst hv7
            replace k2 := sl_far k2 hx2 hplt hm
            replace f := f.app1 hplt rp' hm
            clear k1 hm rp'
            refine hKK.out _ _ ?_ (fun hHeld => ?_)
            · exact (by first | exact f.kx | exact f.kx.ext (below_drew (Below.refl _ _)))
            clear hKK KK
            try simp only [Act.put, List.setIfInBounds_toArray, List.set_cons_zero, List.set_cons_succ]
            refine wpAnyH_take (i := 11) (by simp only [List.getElem?_toArray]; rfl) (by kernel_rfl) (by kernel_rfl) (by kernel_rfl) (by exact fun _ _ _ h => h) (by exact yk (.pointer (some ⟨K, 2, none⟩)) (by kernel_rfl) (fun _ => by kernel_rfl)) hHeld ?_
            refine wpAnyH_ready (rs := [10]) (by kernel_rfl) (by simp) ?_
            refine AllReadyH.cons (by simp only [List.getElem?_toArray]; rfl) (fun KK hKK => ?_) AllReadyH.nil
            rw [if_pos (by kernel_rfl)]
            refine wp_appRC (.tmp 37) (.tmp 39) rfl wB vc _ (by kernel_rfl) f.rc b2 (some ⟨b2, 0, none⟩) 1 1 [(x, y)] (by kernel_rfl) k2 rfl HL8.out f.zB ?_
            intro v8 w118 rc' hm
            obtain ⟨A8, c8, b8, hv8, -⟩ := RowC.sl rc'
            rw [HN8.out] at hv8
            subst hv8
            replace f := f.app2 hclt rc' hm
            clear k2 hm rc'
            refine hKK.out _ _ ?_ (fun hHeld => ?_)
            · exact (by first | exact f.kx | exact f.kx.ext (below_drew (Below.refl _ _)))
            clear hKK KK
            try simp only [Act.put, List.setIfInBounds_toArray, List.set_cons_zero, List.set_cons_succ]
            refine wpAnyH_ready (rs := [12]) (by kernel_rfl) (by simp) ?_
            refine AllReadyH.cons (by simp only [List.getElem?_toArray]; rfl) (fun KK hKK => ?_) AllReadyH.nil
            rw [if_pos (by kernel_rfl)]
            refine wp_stP (.tmp 41) (.tmp 35) rfl ⟨K, 2, none⟩ A7 N7 c7 (by kernel_rfl) (by kernel_rfl) _ f.z.c2 (f.z.fr 2) ?_
            replace f := f.set2 (.slice A7 N7 c7)
            obtain ⟨w119, e⟩ : ∃ w119, w119 = w118.setCell ⟨K, 2, none⟩ (.slice A7 N7 c7) := ⟨_, rfl⟩
            rw [← e] at f ⊢
            clear e
            refine hKK.out _ _ ?_ (fun hHeld => ?_)
            · exact (by first | exact f.kx | exact f.kx.ext (below_drew (Below.refl _ _)))
            clear hKK KK
            try simp only [Act.put]
            refine wpAnyH_take (i := 13) (by simp only [List.getElem?_toArray]; rfl) (by kernel_rfl) (by kernel_rfl) (by kernel_rfl) (by exact fun _ _ _ h => h) (by exact yk (.pointer (some ⟨K, 3, none⟩)) (by kernel_rfl) (fun _ => by kernel_rfl)) hHeld ?_
            refine wpAnyH_ready (rs := [14]) (by kernel_rfl) (by simp) ?_
            refine AllReadyH.cons (by simp only [List.getElem?_toArray]; rfl) (fun KK hKK => ?_) AllReadyH.nil
            rw [if_pos (by kernel_rfl)]
            refine wp_stCs (.tmp 42) (.tmp 40) rfl ⟨K, 3, none⟩ A8 N8 c8 (by kernel_rfl) (by kernel_rfl) _ f.z.c3 (f.z.fr 3) ?_
            replace f := f.set3 (.slice A8 N8 c8)
            obtain ⟨w120, e⟩ : ∃ w120, w120 = w119.setCell ⟨K, 3, none⟩ (.slice A8 N8 c8) := ⟨_, rfl⟩
            rw [← e] at f ⊢
            clear e
            refine hKK.out _ _ ?_ (fun hHeld => ?_)
            · exact (by first | exact f.kx | exact f.kx.ext (below_drew (Below.refl _ _)))
            clear hKK KK
            try simp only [Act.put]
            refine wpAnyH_done (by kernel_rfl) ?_ _
            go_wp2_with fail
            go_meet
            exact ⟨_, _, _, rfl, f.z, f.rp, f.rc, f.q, f.sV, f.b, f.zB⟩
         ·
          rw [if_pos (by kernel_rfl)]
          refine wp_ldCs (.tmp 36) rfl ⟨K, 3, none⟩ vc (by kernel_rfl) f.z.c3 ?_
          refine hKK.out _ _ ?_ (fun hHeld => ?_)
          · exact (by first | exact f.kx | exact f.kx.ext (below_drew (Below.refl _ _)))
          clear hKK KK
          try simp only [Act.put, List.setIfInBounds_toArray, List.set_cons_zero, List.set_cons_succ]
          refine wpAnyH_ready (rs := [1, 4, 9]) (by kernel_rfl) (by simp) ?_
          refine AllReadyH.cons (by simp only [List.getElem?_toArray]; rfl) (fun KK hKK => ?_) (AllReadyH.cons (by simp only [List.getElem?_toArray]; rfl) (fun KK hKK => ?_) (AllReadyH.cons (by simp only [List.getElem?_toArray]; rfl) (fun KK hKK => ?_) AllReadyH.nil))
          ·
           rw [if_pos (by kernel_rfl)]
           refine wp_ldP (.tmp 30) rfl ⟨K, 2, none⟩ vp (by kernel_rfl) f.z.c2 ?_
           refine hKK.out _ _ ?_ (fun hHeld => ?_)
           · exact (by first | exact f.kx | exact f.kx.ext (below_drew (Below.refl _ _)))
           clear hKK KK
           try simp only [Act.put, List.setIfInBounds_toArray, List.set_cons_zero, List.set_cons_succ]
           refine wpAnyH_ready (rs := [4, 9]) (by kernel_rfl) (by simp) ?_
           refine AllReadyH.cons (by simp only [List.getElem?_toArray]; rfl) (fun KK hKK => ?_) (AllReadyH.cons (by simp only [List.getElem?_toArray]; rfl) (fun KK hKK => ?_) AllReadyH.nil)
           ·
            rw [if_pos (by kernel_rfl)]
            refine wp_bsB (.tmp 33) rfl (k : Int) (by kernel_rfl) ?_
            obtain ⟨b1, w121, e1, e2, hx1, k1, h⟩ := HA1.out wd2 f.kx
            rw [← e1, ← e2]
            replace f := f.ext h
            clear e1 e2 h
            refine hKK.out _ _ ?_ (fun hHeld => ?_)
            · exact (by first | exact f.kx | exact f.kx.ext (below_drew (Below.refl _ _)))
            clear hKK KK
            try simp only [Act.put, List.setIfInBounds_toArray, List.set_cons_zero, List.set_cons_succ]
            refine wpAnyH_ready (rs := [5, 9]) (by kernel_rfl) (by simp) ?_
            refine AllReadyH.cons (by simp only [List.getElem?_toArray]; rfl) (fun KK hKK => ?_) (AllReadyH.cons (by simp only [List.getElem?_toArray]; rfl) (fun KK hKK => ?_) AllReadyH.nil)
            ·
             rw [if_pos (by kernel_rfl)]
             refine wp_appB (.tmp 31) (.tmp 34) rfl wB vp _ (by kernel_rfl) f.rp b1 (some ⟨b1, 0, none⟩) 1 1 [UInt8.ofNat k] (by kernel_rfl) k1 rfl HL7.out f.zB ?_
             intro v7 w122 rp' hm
             obtain ⟨A7, c7, b7, hv7, -⟩ := Row.sl rp'
             rw [HN7.out] at hv7
             subst hv7
             replace f := f.app1 hplt rp' hm
             clear k1 hm rp'
             refine hKK.out _ _ ?_ (fun hHeld => ?_)
             · exact (by first | exact f.kx | exact f.kx.ext (below_drew (Below.refl _ _)))
             clear hKK KK
             try simp only [Act.put, List.setIfInBounds_toArray, List.set_cons_zero, List.set_cons_succ]
             refine wpAnyH_take (i := 11) (by simp only [List.getElem?_toArray]; rfl) (by kernel_rfl) (by kernel_rfl) (by kernel_rfl) (by exact fun _ _ _ h => h) (by exact yk (.pointer (some ⟨K, 2, none⟩)) (by kernel_rfl) (fun _ => by kernel_rfl)) hHeld ?_
             refine wpAnyH_ready (rs := [9]) (by kernel_rfl) (by simp) ?_
             refine AllReadyH.cons (by simp only [List.getElem?_toArray]; rfl) (fun KK hKK => ?_) AllReadyH.nil
             rw [if_pos (by kernel_rfl)]
             refine wp_bsRC (.tmp 38) rfl x y (by kernel_rfl) ?_
             obtain ⟨b2, w123, e1, e2, hx2, k2, h⟩ := HA2.out w122 f.kx
             rw [← e1, ← e2]
             replace f := f.ext h
             clear e1 e2 h
             refine hKK.out _ _ ?_ (fun hHeld => ?_)
             · exact (by first | exact f.kx | exact f.kx.ext (below_drew (Below.refl _ _)))
             clear hKK KK
             try simp only [Act.put, List.setIfInBounds_toArray, List.set_cons_zero, List.set_cons_succ]
             refine wpAnyH_ready (rs := [10]) (by kernel_rfl) (by simp) ?_
             refine AllReadyH.cons (by simp only [List.getElem?_toArray]; rfl) (fun KK hKK => ?_) AllReadyH.nil
             rw [if_pos (by kernel_rfl)]
             refine wp_appRC (.tmp 37) (.tmp 39) rfl wB vc _ (by kernel_rfl) f.rc b2 (some ⟨b2, 0, none⟩) 1 1 [(x, y)] (by kernel_rfl) k2 rfl HL8.out f.zB ?_
             intro v8 w124 rc' hm
             obtain ⟨A8, c8, b8, hv8, -⟩ := RowC.sl rc'
             rw [HN8.out] at hv8
             subst hv8
             replace f := f.app2 hclt rc' hm
             clear k2 hm rc'
             refine hKK.out _ _ ?_ (fun hHeld => ?_)
             · exact (by first | exact f.kx | exact f.kx.ext (below_drew (Below.refl _ _)))
             clear hKK KK
             try simp only [Act.put, List.setIfInBounds_toArray, List.set_cons_zero, List.set_cons_succ]
             refine wpAnyH_ready (rs := [12]) (by kernel_rfl) (by simp) ?_
             refine AllReadyH.cons (by simp only [List.getElem?_toArray]; rfl) (fun KK hKK => ?_) AllReadyH.nil
             rw [if_pos (by kernel_rfl)]
             refine wp_stP (.tmp 41) (.tmp 35) rfl ⟨K, 2, none⟩ A7 N7 c7 (by kernel_rfl) (by kernel_rfl) _ f.z.c2 (f.z.fr 2) ?_
             replace f := f.set2 (.slice A7 N7 c7)
             obtain ⟨w125, e⟩ : ∃ w125, w125 = w124.setCell ⟨K, 2, none⟩ (.slice A7 N7 c7) := ⟨_, rfl⟩
             rw [← e] at f ⊢
             clear e
             refine hKK.out _ _ ?_ (fun hHeld => ?_)
             · exact (by first | exact f.kx | exact f.kx.ext (below_drew (Below.refl _ _)))
             clear hKK KK
             try simp only [Act.put]
             refine wpAnyH_take (i := 13) (by simp only [List.getElem?_toArray]; rfl) (by kernel_rfl) (by kernel_rfl) (by kernel_rfl) (by exact fun _ _ _ h => h) (by exact yk (.pointer (some ⟨K, 3, none⟩)) (by kernel_rfl) (fun _ => by kernel_rfl)) hHeld ?_
             refine wpAnyH_ready (rs := [14]) (by kernel_rfl) (by simp) ?_
             refine AllReadyH.cons (by simp only [List.getElem?_toArray]; rfl) (fun KK hKK => ?_) AllReadyH.nil
             rw [if_pos (by kernel_rfl)]
             refine wp_stCs (.tmp 42) (.tmp 40) rfl ⟨K, 3, none⟩ A8 N8 c8 (by kernel_rfl) (by kernel_rfl) _ f.z.c3 (f.z.fr 3) ?_
             replace f := f.set3 (.slice A8 N8 c8)
             obtain ⟨w126, e⟩ : ∃ w126, w126 = w125.setCell ⟨K, 3, none⟩ (.slice A8 N8 c8) := ⟨_, rfl⟩
             rw [← e] at f ⊢
             clear e
             refine hKK.out _ _ ?_ (fun hHeld => ?_)
             · exact (by first | exact f.kx | exact f.kx.ext (below_drew (Below.refl _ _)))
             clear hKK KK
             try simp only [Act.put]
             refine wpAnyH_done (by kernel_rfl) ?_ _
             go_wp2_with fail
             go_meet
             exact ⟨_, _, _, rfl, f.z, f.rp, f.rc, f.q, f.sV, f.b, f.zB⟩
            ·
             rw [if_pos (by kernel_rfl)]
             refine wp_bsRC (.tmp 38) rfl x y (by kernel_rfl) ?_
             obtain ⟨b2, w127, e1, e2, hx2, k2, h⟩ := HA2.out w121 f.kx
             rw [← e1, ← e2]
             replace k1 := Sl.ext k1 h
             replace f := f.ext h
             clear e1 e2 h
             refine hKK.out _ _ ?_ (fun hHeld => ?_)
             · exact (by first | exact f.kx | exact f.kx.ext (below_drew (Below.refl _ _)))
             clear hKK KK
             try simp only [Act.put, List.setIfInBounds_toArray, List.set_cons_zero, List.set_cons_succ]
             refine wpAnyH_ready (rs := [5]) (by kernel_rfl) (by simp) ?_
             refine AllReadyH.cons (by simp only [List.getElem?_toArray]; rfl) (fun KK hKK => ?_) AllReadyH.nil
             rw [if_pos (by kernel_rfl)]
             refine wp_appB (.tmp 31) (.tmp 34) rfl wB vp _ (by kernel_rfl) f.rp b1 (some ⟨b1, 0, none⟩) 1 1 [UInt8.ofNat k] (by kernel_rfl) k1 rfl HL7.out f.zB ?_
             intro v7 w128 rp' hm
             obtain ⟨A7, c7, b7, hv7, -⟩ := Row.sl rp'
             rw [HN7.out] at hv7
             subst hv7
             replace k2 := sl_far k2 hx2 hplt hm
             replace f := f.app1 hplt rp' hm
             clear k1 hm rp'
             refine hKK.out _ _ ?_ (fun hHeld => ?_)
             · exact (by first | exact f.kx | exact f.kx.ext (below_drew (Below.refl _ _)))
             clear hKK KK
             try simp only [Act.put, List.setIfInBounds_toArray, List.set_cons_zero, List.set_cons_succ]
             refine wpAnyH_take (i := 11) (by simp only [List.getElem?_toArray]; rfl) (by kernel_rfl) (by kernel_rfl) (by kernel_rfl) (by exact fun _ _ _ h => h) (by exact yk (.pointer (some ⟨K, 2, none⟩)) (by kernel_rfl) (fun _ => by kernel_rfl)) hHeld ?_
             refine wpAnyH_ready (rs := [10]) (by kernel_rfl) (by simp) ?_
             refine AllReadyH.cons (by simp only [List.getElem?_toArray]; rfl) (fun KK hKK => ?_) AllReadyH.nil
             rw [if_pos (by kernel_rfl)]
             refine wp_appRC (.tmp 37) (.tmp 39) rfl wB vc _ (by kernel_rfl) f.rc b2 (some ⟨b2, 0, none⟩) 1 1 [(x, y)] (by kernel_rfl) k2 rfl HL8.out f.zB ?_
             intro v8 w129 rc' hm
             obtain ⟨A8, c8, b8, hv8, -⟩ := RowC.sl rc'
             rw [HN8.out] at hv8
             subst hv8
             replace f := f.app2 hclt rc' hm
             clear k2 hm rc'
             refine hKK.out _ _ ?_ (fun hHeld => ?_)
             · exact (by first | exact f.kx | exact f.kx.ext (below_drew (Below.refl _ _)))
             clear hKK KK
             try simp only [Act.put, List.setIfInBounds_toArray, List.set_cons_zero, List.set_cons_succ]
             refine wpAnyH_ready (rs := [12]) (by kernel_rfl) (by simp) ?_
             refine AllReadyH.cons (by simp only [List.getElem?_toArray]; rfl) (fun KK hKK => ?_) AllReadyH.nil
             rw [if_pos (by kernel_rfl)]
             refine wp_stP (.tmp 41) (.tmp 35) rfl ⟨K, 2, none⟩ A7 N7 c7 (by kernel_rfl) (by kernel_rfl) _ f.z.c2 (f.z.fr 2) ?_
             replace f := f.set2 (.slice A7 N7 c7)
             obtain ⟨w130, e⟩ : ∃ w130, w130 = w129.setCell ⟨K, 2, none⟩ (.slice A7 N7 c7) := ⟨_, rfl⟩
             rw [← e] at f ⊢
             clear e
             refine hKK.out _ _ ?_ (fun hHeld => ?_)
             · exact (by first | exact f.kx | exact f.kx.ext (below_drew (Below.refl _ _)))
             clear hKK KK
             try simp only [Act.put]
             refine wpAnyH_take (i := 13) (by simp only [List.getElem?_toArray]; rfl) (by kernel_rfl) (by kernel_rfl) (by kernel_rfl) (by exact fun _ _ _ h => h) (by exact yk (.pointer (some ⟨K, 3, none⟩)) (by kernel_rfl) (fun _ => by kernel_rfl)) hHeld ?_
             refine wpAnyH_ready (rs := [14]) (by kernel_rfl) (by simp) ?_
             refine AllReadyH.cons (by simp only [List.getElem?_toArray]; rfl) (fun KK hKK => ?_) AllReadyH.nil
             rw [if_pos (by kernel_rfl)]
             refine wp_stCs (.tmp 42) (.tmp 40) rfl ⟨K, 3, none⟩ A8 N8 c8 (by kernel_rfl) (by kernel_rfl) _ f.z.c3 (f.z.fr 3) ?_
             replace f := f.set3 (.slice A8 N8 c8)
             obtain ⟨w131, e⟩ : ∃ w131, w131 = w130.setCell ⟨K, 3, none⟩ (.slice A8 N8 c8) := ⟨_, rfl⟩
             rw [← e] at f ⊢
             clear e
             refine hKK.out _ _ ?_ (fun hHeld => ?_)
             · exact (by first | exact f.kx | exact f.kx.ext (below_drew (Below.refl _ _)))
             clear hKK KK
             try simp only [Act.put]
             refine wpAnyH_done (by kernel_rfl) ?_ _
             go_wp2_with fail
             go_meet
             exact ⟨_, _, _, rfl, f.z, f.rp, f.rc, f.q, f.sV, f.b, f.zB⟩
           ·
            rw [if_pos (by kernel_rfl)]
            refine wp_bsRC (.tmp 38) rfl x y (by kernel_rfl) ?_
            obtain ⟨b2, w132, e1, e2, hx2, k2, h⟩ := HA2.out wd2 f.kx
            rw [← e1, ← e2]
            replace f := f.ext h
            clear e1 e2 h
            refine hKK.out _ _ ?_ (fun hHeld => ?_)
            · exact (by first | exact f.kx | exact f.kx.ext (below_drew (Below.refl _ _)))
            clear hKK KK
            try simp only [Act.put, List.setIfInBounds_toArray, List.set_cons_zero, List.set_cons_succ]
            refine wpAnyH_ready (rs := [4]) (by kernel_rfl) (by simp) ?_
            refine AllReadyH.cons (by simp only [List.getElem?_toArray]; rfl) (fun KK hKK => ?_) AllReadyH.nil
            rw [if_pos (by kernel_rfl)]
            refine wp_bsB (.tmp 33) rfl (k : Int) (by kernel_rfl) ?_
            obtain ⟨b1, w133, e1, e2, hx1, k1, h⟩ := HA1.out w132 f.kx
            rw [← e1, ← e2]
            replace k2 := Sl.ext k2 h
            replace f := f.ext h
            clear e1 e2 h
            refine hKK.out _ _ ?_ (fun hHeld => ?_)
            · exact (by first | exact f.kx | exact f.kx.ext (below_drew (Below.refl _ _)))
            clear hKK KK
            try simp only [Act.put, List.setIfInBounds_toArray, List.set_cons_zero, List.set_cons_succ]
            refine wpAnyH_ready (rs := [5]) (by kernel_rfl) (by simp) ?_
            refine AllReadyH.cons (by simp only [List.getElem?_toArray]; rfl) (fun KK hKK => ?_) AllReadyH.nil
            rw [if_pos (by kernel_rfl)]
            refine wp_appB (.tmp 31) (.tmp 34) rfl wB vp _ (by kernel_rfl) f.rp b1 (some ⟨b1, 0, none⟩) 1 1 [UInt8.ofNat k] (by kernel_rfl) k1 rfl HL7.out f.zB ?_
            intro v7 w134 rp' hm
            obtain ⟨A7, c7, b7, hv7, -⟩ := Row.sl rp'
            rw [HN7.out] at hv7
            subst hv7
            replace k2 := sl_far k2 hx2 hplt hm
            replace f := f.app1 hplt rp' hm
            clear k1 hm rp'
            refine hKK.out _ _ ?_ (fun hHeld => ?_)
            · exact (by first | exact f.kx | exact f.kx.ext (below_drew (Below.refl _ _)))
            clear hKK KK
            try simp only [Act.put, List.setIfInBounds_toArray, List.set_cons_zero, List.set_cons_succ]
            refine wpAnyH_take (i := 11) (by simp only [List.getElem?_toArray]; rfl) (by kernel_rfl) (by kernel_rfl) (by kernel_rfl) (by exact fun _ _ _ h => h) (by exact yk (.pointer (some ⟨K, 2, none⟩)) (by kernel_rfl) (fun _ => by kernel_rfl)) hHeld ?_
            refine wpAnyH_ready (rs := [10]) (by kernel_rfl) (by simp) ?_
            refine AllReadyH.cons (by simp only [List.getElem?_toArray]; rfl) (fun KK hKK => ?_) AllReadyH.nil
            rw [if_pos (by kernel_rfl)]
            refine wp_appRC (.tmp 37) (.tmp 39) rfl wB vc _ (by kernel_rfl) f.rc b2 (some ⟨b2, 0, none⟩) 1 1 [(x, y)] (by kernel_rfl) k2 rfl HL8.out f.zB ?_
            intro v8 w135 rc' hm
            obtain ⟨A8, c8, b8, hv8, -⟩ := RowC.sl rc'
            rw [HN8.out] at hv8
            subst hv8
            replace f := f.app2 hclt rc' hm
            clear k2 hm rc'
            refine hKK.out _ _ ?_ (fun hHeld => ?_)
            · exact (by first | exact f.kx | exact f.kx.ext (below_drew (Below.refl _ _)))
            clear hKK KK
            try simp only [Act.put, List.setIfInBounds_toArray, List.set_cons_zero, List.set_cons_succ]
            refine wpAnyH_ready (rs := [12]) (by kernel_rfl) (by simp) ?_
            refine AllReadyH.cons (by simp only [List.getElem?_toArray]; rfl) (fun KK hKK => ?_) AllReadyH.nil
            rw [if_pos (by kernel_rfl)]
            refine wp_stP (.tmp 41) (.tmp 35) rfl ⟨K, 2, none⟩ A7 N7 c7 (by kernel_rfl) (by kernel_rfl) _ f.z.c2 (f.z.fr 2) ?_
            replace f := f.set2 (.slice A7 N7 c7)
            obtain ⟨w136, e⟩ : ∃ w136, w136 = w135.setCell ⟨K, 2, none⟩ (.slice A7 N7 c7) := ⟨_, rfl⟩
            rw [← e] at f ⊢
            clear e
            refine hKK.out _ _ ?_ (fun hHeld => ?_)
            · exact (by first | exact f.kx | exact f.kx.ext (below_drew (Below.refl _ _)))
            clear hKK KK
            try simp only [Act.put]
            refine wpAnyH_take (i := 13) (by simp only [List.getElem?_toArray]; rfl) (by kernel_rfl) (by kernel_rfl) (by kernel_rfl) (by exact fun _ _ _ h => h) (by exact yk (.pointer (some ⟨K, 3, none⟩)) (by kernel_rfl) (fun _ => by kernel_rfl)) hHeld ?_
            refine wpAnyH_ready (rs := [14]) (by kernel_rfl) (by simp) ?_
            refine AllReadyH.cons (by simp only [List.getElem?_toArray]; rfl) (fun KK hKK => ?_) AllReadyH.nil
            rw [if_pos (by kernel_rfl)]
            refine wp_stCs (.tmp 42) (.tmp 40) rfl ⟨K, 3, none⟩ A8 N8 c8 (by kernel_rfl) (by kernel_rfl) _ f.z.c3 (f.z.fr 3) ?_
            replace f := f.set3 (.slice A8 N8 c8)
            obtain ⟨w137, e⟩ : ∃ w137, w137 = w136.setCell ⟨K, 3, none⟩ (.slice A8 N8 c8) := ⟨_, rfl⟩
            rw [← e] at f ⊢
            clear e
            refine hKK.out _ _ ?_ (fun hHeld => ?_)
            · exact (by first | exact f.kx | exact f.kx.ext (below_drew (Below.refl _ _)))
            clear hKK KK
            try simp only [Act.put]
            refine wpAnyH_done (by kernel_rfl) ?_ _
            go_wp2_with fail
            go_meet
            exact ⟨_, _, _, rfl, f.z, f.rp, f.rc, f.q, f.sV, f.b, f.zB⟩
          ·
           rw [if_pos (by kernel_rfl)]
           refine wp_bsB (.tmp 33) rfl (k : Int) (by kernel_rfl) ?_
           obtain ⟨b1, w138, e1, e2, hx1, k1, h⟩ := HA1.out wd2 f.kx
           rw [← e1, ← e2]
           replace f := f.ext h
           clear e1 e2 h
           refine hKK.out _ _ ?_ (fun hHeld => ?_)
           · exact (by first | exact f.kx | exact f.kx.ext (below_drew (Below.refl _ _)))
           clear hKK KK
           try simp only [Act.put, List.setIfInBounds_toArray, List.set_cons_zero, List.set_cons_succ]
           refine wpAnyH_ready (rs := [1, 9]) (by kernel_rfl) (by simp) ?_
           refine AllReadyH.cons (by simp only [List.getElem?_toArray]; rfl) (fun KK hKK => ?_) (AllReadyH.cons (by simp only [List.getElem?_toArray]; rfl) (fun KK hKK => ?_) AllReadyH.nil)
           ·
            rw [if_pos (by kernel_rfl)]
            refine wp_ldP (.tmp 30) rfl ⟨K, 2, none⟩ vp (by kernel_rfl) f.z.c2 ?_
            refine hKK.out _ _ ?_ (fun hHeld => ?_)
            · exact (by first | exact f.kx | exact f.kx.ext (below_drew (Below.refl _ _)))
            clear hKK KK
            try simp only [Act.put, List.setIfInBounds_toArray, List.set_cons_zero, List.set_cons_succ]
            refine wpAnyH_ready (rs := [5, 9]) (by kernel_rfl) (by simp) ?_
            refine AllReadyH.cons (by simp only [List.getElem?_toArray]; rfl) (fun KK hKK => ?_) (AllReadyH.cons (by simp only [List.getElem?_toArray]; rfl) (fun KK hKK => ?_) AllReadyH.nil)
            ·
             rw [if_pos (by kernel_rfl)]
             refine wp_appB (.tmp 31) (.tmp 34) rfl wB vp _ (by kernel_rfl) f.rp b1 (some ⟨b1, 0, none⟩) 1 1 [UInt8.ofNat k] (by kernel_rfl) k1 rfl HL7.out f.zB ?_
             intro v7 w139 rp' hm
             obtain ⟨A7, c7, b7, hv7, -⟩ := Row.sl rp'
             rw [HN7.out] at hv7
             subst hv7
             replace f := f.app1 hplt rp' hm
             clear k1 hm rp'
             refine hKK.out _ _ ?_ (fun hHeld => ?_)
             · exact (by first | exact f.kx | exact f.kx.ext (below_drew (Below.refl _ _)))
             clear hKK KK
             try simp only [Act.put, List.setIfInBounds_toArray, List.set_cons_zero, List.set_cons_succ]
             refine wpAnyH_take (i := 11) (by simp only [List.getElem?_toArray]; rfl) (by kernel_rfl) (by kernel_rfl) (by kernel_rfl) (by exact fun _ _ _ h => h) (by exact yk (.pointer (some ⟨K, 2, none⟩)) (by kernel_rfl) (fun _ => by kernel_rfl)) hHeld ?_
             refine wpAnyH_ready (rs := [9]) (by kernel_rfl) (by simp) ?_
             refine AllReadyH.cons (by simp only [List.getElem?_toArray]; rfl) (fun KK hKK => ?_) AllReadyH.nil
             rw [if_pos (by kernel_rfl)]
             refine wp_bsRC (.tmp 38) rfl x y (by kernel_rfl) ?_
             obtain ⟨b2, w140, e1, e2, hx2, k2, h⟩ := HA2.out w139 f.kx
             rw [← e1, ← e2]
             replace f := f.ext h
             clear e1 e2 h
             refine hKK.out _ _ ?_ (fun hHeld => ?_)
             · exact (by first | exact f.kx | exact f.kx.ext (below_drew (Below.refl _ _)))
             clear hKK KK
             try simp only [Act.put, List.setIfInBounds_toArray, List.set_cons_zero, List.set_cons_succ]
             refine wpAnyH_ready (rs := [10]) (by kernel_rfl) (by simp) ?_
             refine AllReadyH.cons (by simp only [List.getElem?_toArray]; rfl) (fun KK hKK => ?_) AllReadyH.nil
             rw [if_pos (by kernel_rfl)]
             refine wp_appRC (.tmp 37) (.tmp 39) rfl wB vc _ (by kernel_rfl) f.rc b2 (some ⟨b2, 0, none⟩) 1 1 [(x, y)] (by kernel_rfl) k2 rfl HL8.out f.zB ?_
             intro v8 w141 rc' hm
             obtain ⟨A8, c8, b8, hv8, -⟩ := RowC.sl rc'
             rw [HN8.out] at hv8
             subst hv8
             replace f := f.app2 hclt rc' hm
             clear k2 hm rc'
             refine hKK.out _ _ ?_ (fun hHeld => ?_)
             · exact (by first | exact f.kx | exact f.kx.ext (below_drew (Below.refl _ _)))
             clear hKK KK
             try simp only [Act.put, List.setIfInBounds_toArray, List.set_cons_zero, List.set_cons_succ]
             refine wpAnyH_ready (rs := [12]) (by kernel_rfl) (by simp) ?_
             refine AllReadyH.cons (by simp only [List.getElem?_toArray]; rfl) (fun KK hKK => ?_) AllReadyH.nil
             rw [if_pos (by kernel_rfl)]
             refine wp_stP (.tmp 41) (.tmp 35) rfl ⟨K, 2, none⟩ A7 N7 c7 (by kernel_rfl) (by kernel_rfl) _ f.z.c2 (f.z.fr 2) ?_
             replace f := f.set2 (.slice A7 N7 c7)
             obtain ⟨w142, e⟩ : ∃ w142, w142 = w141.setCell ⟨K, 2, none⟩ (.slice A7 N7 c7) := ⟨_, rfl⟩
             rw [← e] at f ⊢
             clear e
             refine hKK.out _ _ ?_ (fun hHeld => ?_)
             · exact (by first | exact f.kx | exact f.kx.ext (below_drew (Below.refl _ _)))
             clear hKK KK
             try simp only [Act.put]
             refine wpAnyH_take (i := 13) (by simp only [List.getElem?_toArray]; rfl) (by kernel_rfl) (by kernel_rfl) (by kernel_rfl) (by exact fun _ _ _ h => h) (by exact yk (.pointer (some ⟨K, 3, none⟩)) (by kernel_rfl) (fun _ => by kernel_rfl)) hHeld ?_
             refine wpAnyH_ready (rs := [14]) (by kernel_rfl) (by simp) ?_
             refine AllReadyH.cons (by simp only [List.getElem?_toArray]; rfl) (fun KK hKK => ?_) AllReadyH.nil
             rw [if_pos (by kernel_rfl)]
             refine wp_stCs (.tmp 42) (.tmp 40) rfl ⟨K, 3, none⟩ A8 N8 c8 (by kernel_rfl) (by kernel_rfl) _ f.z.c3 (f.z.fr 3) ?_
             replace f := f.set3 (.slice A8 N8 c8)
             obtain ⟨w143, e⟩ : ∃ w143, w143 = w142.setCell ⟨K, 3, none⟩ (.slice A8 N8 c8) := ⟨_, rfl⟩
             rw [← e] at f ⊢
             clear e
             refine hKK.out _ _ ?_ (fun hHeld => ?_)
             · exact (by first | exact f.kx | exact f.kx.ext (below_drew (Below.refl _ _)))
             clear hKK KK
             try simp only [Act.put]
             refine wpAnyH_done (by kernel_rfl) ?_ _
             go_wp2_with fail
             go_meet
             exact ⟨_, _, _, rfl, f.z, f.rp, f.rc, f.q, f.sV, f.b, f.zB⟩
            ·
             rw [if_pos (by kernel_rfl)]
             refine wp_bsRC (.tmp 38) rfl x y (by kernel_rfl) ?_
             obtain ⟨b2, w144, e1, e2, hx2, k2, h⟩ := HA2.out w138 f.kx
             rw [← e1, ← e2]
             replace k1 := Sl.ext k1 h
             replace f := f.ext h
             clear e1 e2 h
             refine hKK.out _ _ ?_ (fun hHeld => ?_)
             · exact (by first | exact f.kx | exact f.kx.ext (below_drew (Below.refl _ _)))
             clear hKK KK
             try simp only [Act.put, List.setIfInBounds_toArray, List.set_cons_zero, List.set_cons_succ]
             refine wpAnyH_ready (rs := [5]) (by kernel_rfl) (by simp) ?_
             refine AllReadyH.cons (by simp only [List.getElem?_toArray]; rfl) (fun KK hKK => ?_) AllReadyH.nil
             rw [if_pos (by kernel_rfl)]
             refine wp_appB (.tmp 31) (.tmp 34) rfl wB vp _ (by kernel_rfl) f.rp b1 (some ⟨b1, 0, none⟩) 1 1 [UInt8.ofNat k] (by kernel_rfl) k1 rfl HL7.out f.zB ?_
             intro v7 w145 rp' hm
             obtain ⟨A7, c7, b7, hv7, -⟩ := Row.sl rp'
             rw [HN7.out] at hv7
             subst hv7
             replace k2 := sl_far k2 hx2 hplt hm
             replace f := f.app1 hplt rp' hm
             clear k1 hm rp'
             refine hKK.out _ _ ?_ (fun hHeld => ?_)
             · exact (by first | exact f.kx | exact f.kx.ext (below_drew (Below.refl _ _)))
             clear hKK KK
             try simp only [Act.put, List.setIfInBounds_toArray, List.set_cons_zero, List.set_cons_succ]
             refine wpAnyH_take (i := 11) (by simp only [List.getElem?_toArray]; rfl) (by kernel_rfl) (by kernel_rfl) (by kernel_rfl) (by exact fun _ _ _ h => h) (by exact yk (.pointer (some ⟨K, 2, none⟩)) (by kernel_rfl) (fun _ => by kernel_rfl)) hHeld ?_
             refine wpAnyH_ready (rs := [10]) (by kernel_rfl) (by simp) ?_
             refine AllReadyH.cons (by simp only [List.getElem?_toArray]; rfl) (fun KK hKK => ?_) AllReadyH.nil
             rw [if_pos (by kernel_rfl)]
             refine wp_appRC (.tmp 37) (.tmp 39) rfl wB vc _ (by kernel_rfl) f.rc b2 (some ⟨b2, 0, none⟩) 1 1 [(x, y)] (by kernel_rfl) k2 rfl HL8.out f.zB ?_
             intro v8 w146 rc' hm
             obtain ⟨A8, c8, b8, hv8, -⟩ := RowC.sl rc'
             rw [HN8.out] at hv8
             subst hv8
             replace f := f.app2 hclt rc' hm
             clear k2 hm rc'
             refine hKK.out _ _ ?_ (fun hHeld => ?_)
             · exact (by first | exact f.kx | exact f.kx.ext (below_drew (Below.refl _ _)))
             clear hKK KK
             try simp only [Act.put, List.setIfInBounds_toArray, List.set_cons_zero, List.set_cons_succ]
             refine wpAnyH_ready (rs := [12]) (by kernel_rfl) (by simp) ?_
             refine AllReadyH.cons (by simp only [List.getElem?_toArray]; rfl) (fun KK hKK => ?_) AllReadyH.nil
             rw [if_pos (by kernel_rfl)]
             refine wp_stP (.tmp 41) (.tmp 35) rfl ⟨K, 2, none⟩ A7 N7 c7 (by kernel_rfl) (by kernel_rfl) _ f.z.c2 (f.z.fr 2) ?_
             replace f := f.set2 (.slice A7 N7 c7)
             obtain ⟨w147, e⟩ : ∃ w147, w147 = w146.setCell ⟨K, 2, none⟩ (.slice A7 N7 c7) := ⟨_, rfl⟩
             rw [← e] at f ⊢
             clear e
             refine hKK.out _ _ ?_ (fun hHeld => ?_)
             · exact (by first | exact f.kx | exact f.kx.ext (below_drew (Below.refl _ _)))
             clear hKK KK
             try simp only [Act.put]
             refine wpAnyH_take (i := 13) (by simp only [List.getElem?_toArray]; rfl) (by kernel_rfl) (by kernel_rfl) (by kernel_rfl) (by exact fun _ _ _ h => h) (by exact yk (.pointer (some ⟨K, 3, none⟩)) (by kernel_rfl) (fun _ => by kernel_rfl)) hHeld ?_
             refine wpAnyH_ready (rs := [14]) (by kernel_rfl) (by simp) ?_
             refine AllReadyH.cons (by simp only [List.getElem?_toArray]; rfl) (fun KK hKK => ?_) AllReadyH.nil
             rw [if_pos (by kernel_rfl)]
             refine wp_stCs (.tmp 42) (.tmp 40) rfl ⟨K, 3, none⟩ A8 N8 c8 (by kernel_rfl) (by kernel_rfl) _ f.z.c3 (f.z.fr 3) ?_
             replace f := f.set3 (.slice A8 N8 c8)
             obtain ⟨w148, e⟩ : ∃ w148, w148 = w147.setCell ⟨K, 3, none⟩ (.slice A8 N8 c8) := ⟨_, rfl⟩
             rw [← e] at f ⊢
             clear e
             refine hKK.out _ _ ?_ (fun hHeld => ?_)
             · exact (by first | exact f.kx | exact f.kx.ext (below_drew (Below.refl _ _)))
             clear hKK KK
             try simp only [Act.put]
             refine wpAnyH_done (by kernel_rfl) ?_ _
             go_wp2_with fail
             go_meet
             exact ⟨_, _, _, rfl, f.z, f.rp, f.rc, f.q, f.sV, f.b, f.zB⟩
           ·
            rw [if_pos (by kernel_rfl)]
            refine wp_bsRC (.tmp 38) rfl x y (by kernel_rfl) ?_
            obtain ⟨b2, w149, e1, e2, hx2, k2, h⟩ := HA2.out w138 f.kx
            rw [← e1, ← e2]
            replace k1 := Sl.ext k1 h
            replace f := f.ext h
            clear e1 e2 h
            refine hKK.out _ _ ?_ (fun hHeld => ?_)
            · exact (by first | exact f.kx | exact f.kx.ext (below_drew (Below.refl _ _)))
            clear hKK KK
            try simp only [Act.put, List.setIfInBounds_toArray, List.set_cons_zero, List.set_cons_succ]
            refine wpAnyH_ready (rs := [1]) (by kernel_rfl) (by simp) ?_
            refine AllReadyH.cons (by simp only [List.getElem?_toArray]; rfl) (fun KK hKK => ?_) AllReadyH.nil
            rw [if_pos (by kernel_rfl)]
            refine wp_ldP (.tmp 30) rfl ⟨K, 2, none⟩ vp (by kernel_rfl) f.z.c2 ?_
            refine hKK.out _ _ ?_ (fun hHeld => ?_)
            · exact (by first | exact f.kx | exact f.kx.ext (below_drew (Below.refl _ _)))
            clear hKK KK
            try simp only [Act.put, List.setIfInBounds_toArray, List.set_cons_zero, List.set_cons_succ]
            refine wpAnyH_ready (rs := [5]) (by kernel_rfl) (by simp) ?_
            refine AllReadyH.cons (by simp only [List.getElem?_toArray]; rfl) (fun KK hKK => ?_) AllReadyH.nil
            rw [if_pos (by kernel_rfl)]
            refine wp_appB (.tmp 31) (.tmp 34) rfl wB vp _ (by kernel_rfl) f.rp b1 (some ⟨b1, 0, none⟩) 1 1 [UInt8.ofNat k] (by kernel_rfl) k1 rfl HL7.out f.zB ?_
            intro v7 w150 rp' hm
            obtain ⟨A7, c7, b7, hv7, -⟩ := Row.sl rp'
            rw [HN7.out] at hv7
            subst hv7
            replace k2 := sl_far k2 hx2 hplt hm
            replace f := f.app1 hplt rp' hm
            clear k1 hm rp'
            refine hKK.out _ _ ?_ (fun hHeld => ?_)
            · exact (by first | exact f.kx | exact f.kx.ext (below_drew (Below.refl _ _)))
            clear hKK KK
            try simp only [Act.put, List.setIfInBounds_toArray, List.set_cons_zero, List.set_cons_succ]
            refine wpAnyH_take (i := 11) (by simp only [List.getElem?_toArray]; rfl) (by kernel_rfl) (by kernel_rfl) (by kernel_rfl) (by exact fun _ _ _ h => h) (by exact yk (.pointer (some ⟨K, 2, none⟩)) (by kernel_rfl) (fun _ => by kernel_rfl)) hHeld ?_
            refine wpAnyH_ready (rs := [10]) (by kernel_rfl) (by simp) ?_
            refine AllReadyH.cons (by simp only [List.getElem?_toArray]; rfl) (fun KK hKK => ?_) AllReadyH.nil
            rw [if_pos (by kernel_rfl)]
            refine wp_appRC (.tmp 37) (.tmp 39) rfl wB vc _ (by kernel_rfl) f.rc b2 (some ⟨b2, 0, none⟩) 1 1 [(x, y)] (by kernel_rfl) k2 rfl HL8.out f.zB ?_
            intro v8 w151 rc' hm
            obtain ⟨A8, c8, b8, hv8, -⟩ := RowC.sl rc'
            rw [HN8.out] at hv8
            subst hv8
            replace f := f.app2 hclt rc' hm
            clear k2 hm rc'
            refine hKK.out _ _ ?_ (fun hHeld => ?_)
            · exact (by first | exact f.kx | exact f.kx.ext (below_drew (Below.refl _ _)))
            clear hKK KK
            try simp only [Act.put, List.setIfInBounds_toArray, List.set_cons_zero, List.set_cons_succ]
            refine wpAnyH_ready (rs := [12]) (by kernel_rfl) (by simp) ?_
            refine AllReadyH.cons (by simp only [List.getElem?_toArray]; rfl) (fun KK hKK => ?_) AllReadyH.nil
            rw [if_pos (by kernel_rfl)]
            refine wp_stP (.tmp 41) (.tmp 35) rfl ⟨K, 2, none⟩ A7 N7 c7 (by kernel_rfl) (by kernel_rfl) _ f.z.c2 (f.z.fr 2) ?_
            replace f := f.set2 (.slice A7 N7 c7)
            obtain ⟨w152, e⟩ : ∃ w152, w152 = w151.setCell ⟨K, 2, none⟩ (.slice A7 N7 c7) := ⟨_, rfl⟩
            rw [← e] at f ⊢
            clear e
            refine hKK.out _ _ ?_ (fun hHeld => ?_)
            · exact (by first | exact f.kx | exact f.kx.ext (below_drew (Below.refl _ _)))
            clear hKK KK
            try simp only [Act.put]
            refine wpAnyH_take (i := 13) (by simp only [List.getElem?_toArray]; rfl) (by kernel_rfl) (by kernel_rfl) (by kernel_rfl) (by exact fun _ _ _ h => h) (by exact yk (.pointer (some ⟨K, 3, none⟩)) (by kernel_rfl) (fun _ => by kernel_rfl)) hHeld ?_
            refine wpAnyH_ready (rs := [14]) (by kernel_rfl) (by simp) ?_
            refine AllReadyH.cons (by simp only [List.getElem?_toArray]; rfl) (fun KK hKK => ?_) AllReadyH.nil
            rw [if_pos (by kernel_rfl)]
            refine wp_stCs (.tmp 42) (.tmp 40) rfl ⟨K, 3, none⟩ A8 N8 c8 (by kernel_rfl) (by kernel_rfl) _ f.z.c3 (f.z.fr 3) ?_
            replace f := f.set3 (.slice A8 N8 c8)
            obtain ⟨w153, e⟩ : ∃ w153, w153 = w152.setCell ⟨K, 3, none⟩ (.slice A8 N8 c8) := ⟨_, rfl⟩
            rw [← e] at f ⊢
            clear e
            refine hKK.out _ _ ?_ (fun hHeld => ?_)
            · exact (by first | exact f.kx | exact f.kx.ext (below_drew (Below.refl _ _)))
            clear hKK KK
            try simp only [Act.put]
            refine wpAnyH_done (by kernel_rfl) ?_ _
            go_wp2_with fail
            go_meet
            exact ⟨_, _, _, rfl, f.z, f.rp, f.rc, f.q, f.sV, f.b, f.zB⟩
          ·
           rw [if_pos (by kernel_rfl)]
           refine wp_bsRC (.tmp 38) rfl x y (by kernel_rfl) ?_
           obtain ⟨b2, w154, e1, e2, hx2, k2, h⟩ := HA2.out wd2 f.kx
           rw [← e1, ← e2]
           replace f := f.ext h
           clear e1 e2 h
           refine hKK.out _ _ ?_ (fun hHeld => ?_)
           · exact (by first | exact f.kx | exact f.kx.ext (below_drew (Below.refl _ _)))
           clear hKK KK
           try simp only [Act.put, List.setIfInBounds_toArray, List.set_cons_zero, List.set_cons_succ]
           refine wpAnyH_ready (rs := [1, 4]) (by kernel_rfl) (by simp) ?_
           refine AllReadyH.cons (by simp only [List.getElem?_toArray]; rfl) (fun KK hKK => ?_) (AllReadyH.cons (by simp only [List.getElem?_toArray]; rfl) (fun KK hKK => ?_) AllReadyH.nil)
           ·
            rw [if_pos (by kernel_rfl)]
            refine wp_ldP (.tmp 30) rfl ⟨K, 2, none⟩ vp (by kernel_rfl) f.z.c2 ?_
            refine hKK.out _ _ ?_ (fun hHeld => ?_)
            · exact (by first | exact f.kx | exact f.kx.ext (below_drew (Below.refl _ _)))
            clear hKK KK
            try simp only [Act.put, List.setIfInBounds_toArray, List.set_cons_zero, List.set_cons_succ]
            refine wpAnyH_ready (rs := [4]) (by kernel_rfl) (by simp) ?_
            refine AllReadyH.cons (by simp only [List.getElem?_toArray]; rfl) (fun KK hKK => ?_) AllReadyH.nil
            rw [if_pos (by kernel_rfl)]
            refine wp_bsB (.tmp 33) rfl (k : Int) (by kernel_rfl) ?_
            obtain ⟨b1, w155, e1, e2, hx1, k1, h⟩ := HA1.out w154 f.kx
            rw [← e1, ← e2]
            replace k2 := Sl.ext k2 h
            replace f := f.ext h
            clear e1 e2 h
            refine hKK.out _ _ ?_ (fun hHeld => ?_)
            · exact (by first | exact f.kx | exact f.kx.ext (below_drew (Below.refl _ _)))
            clear hKK KK
            try simp only [Act.put, List.setIfInBounds_toArray, List.set_cons_zero, List.set_cons_succ]
            refine wpAnyH_ready (rs := [5]) (by kernel_rfl) (by simp) ?_
            refine AllReadyH.cons (by simp only [List.getElem?_toArray]; rfl) (fun KK hKK => ?_) AllReadyH.nil
            rw [if_pos (by kernel_rfl)]
            refine wp_appB (.tmp 31) (.tmp 34) rfl wB vp _ (by kernel_rfl) f.rp b1 (some ⟨b1, 0, none⟩) 1 1 [UInt8.ofNat k] (by kernel_rfl) k1 rfl HL7.out f.zB ?_
            intro v7 w156 rp' hm
            obtain ⟨A7, c7, b7, hv7, -⟩ := Row.sl rp'
            rw [HN7.out] at hv7
            subst hv7
            replace k2 := sl_far k2 hx2 hplt hm
            replace f := f.app1 hplt rp' hm
            clear k1 hm rp'
            refine hKK.out _ _ ?_ (fun hHeld => ?_)
            · exact (by first | exact f.kx | exact f.kx.ext (below_drew (Below.refl _ _)))
            clear hKK KK
            try simp only [Act.put, List.setIfInBounds_toArray, List.set_cons_zero, List.set_cons_succ]
            refine wpAnyH_take (i := 11) (by simp only [List.getElem?_toArray]; rfl) (by kernel_rfl) (by kernel_rfl) (by kernel_rfl) (by exact fun _ _ _ h => h) (by exact yk (.pointer (some ⟨K, 2, none⟩)) (by kernel_rfl) (fun _ => by kernel_rfl)) hHeld ?_
            refine wpAnyH_ready (rs := [10]) (by kernel_rfl) (by simp) ?_
            refine AllReadyH.cons (by simp only [List.getElem?_toArray]; rfl) (fun KK hKK => ?_) AllReadyH.nil
            rw [if_pos (by kernel_rfl)]
            refine wp_appRC (.tmp 37) (.tmp 39) rfl wB vc _ (by kernel_rfl) f.rc b2 (some ⟨b2, 0, none⟩) 1 1 [(x, y)] (by kernel_rfl) k2 rfl HL8.out f.zB ?_
            intro v8 w157 rc' hm
            obtain ⟨A8, c8, b8, hv8, -⟩ := RowC.sl rc'
            rw [HN8.out] at hv8
            subst hv8
            replace f := f.app2 hclt rc' hm
            clear k2 hm rc'
            refine hKK.out _ _ ?_ (fun hHeld => ?_)
            · exact (by first | exact f.kx | exact f.kx.ext (below_drew (Below.refl _ _)))
            clear hKK KK
            try simp only [Act.put, List.setIfInBounds_toArray, List.set_cons_zero, List.set_cons_succ]
            refine wpAnyH_ready (rs := [12]) (by kernel_rfl) (by simp) ?_
            refine AllReadyH.cons (by simp only [List.getElem?_toArray]; rfl) (fun KK hKK => ?_) AllReadyH.nil
            rw [if_pos (by kernel_rfl)]
            refine wp_stP (.tmp 41) (.tmp 35) rfl ⟨K, 2, none⟩ A7 N7 c7 (by kernel_rfl) (by kernel_rfl) _ f.z.c2 (f.z.fr 2) ?_
            replace f := f.set2 (.slice A7 N7 c7)
            obtain ⟨w158, e⟩ : ∃ w158, w158 = w157.setCell ⟨K, 2, none⟩ (.slice A7 N7 c7) := ⟨_, rfl⟩
            rw [← e] at f ⊢
            clear e
            refine hKK.out _ _ ?_ (fun hHeld => ?_)
            · exact (by first | exact f.kx | exact f.kx.ext (below_drew (Below.refl _ _)))
            clear hKK KK
            try simp only [Act.put]
            refine wpAnyH_take (i := 13) (by simp only [List.getElem?_toArray]; rfl) (by kernel_rfl) (by kernel_rfl) (by kernel_rfl) (by exact fun _ _ _ h => h) (by exact yk (.pointer (some ⟨K, 3, none⟩)) (by kernel_rfl) (fun _ => by kernel_rfl)) hHeld ?_
            refine wpAnyH_ready (rs := [14]) (by kernel_rfl) (by simp) ?_
            refine AllReadyH.cons (by simp only [List.getElem?_toArray]; rfl) (fun KK hKK => ?_) AllReadyH.nil
            rw [if_pos (by kernel_rfl)]
            refine wp_stCs (.tmp 42) (.tmp 40) rfl ⟨K, 3, none⟩ A8 N8 c8 (by kernel_rfl) (by kernel_rfl) _ f.z.c3 (f.z.fr 3) ?_
            replace f := f.set3 (.slice A8 N8 c8)
            obtain ⟨w159, e⟩ : ∃ w159, w159 = w158.setCell ⟨K, 3, none⟩ (.slice A8 N8 c8) := ⟨_, rfl⟩
            rw [← e] at f ⊢
            clear e
            refine hKK.out _ _ ?_ (fun hHeld => ?_)
            · exact (by first | exact f.kx | exact f.kx.ext (below_drew (Below.refl _ _)))
            clear hKK KK
            try simp only [Act.put]
            refine wpAnyH_done (by kernel_rfl) ?_ _
            go_wp2_with fail
            go_meet
            exact ⟨_, _, _, rfl, f.z, f.rp, f.rc, f.q, f.sV, f.b, f.zB⟩
           ·
            rw [if_pos (by kernel_rfl)]
            refine wp_bsB (.tmp 33) rfl (k : Int) (by kernel_rfl) ?_
            obtain ⟨b1, w160, e1, e2, hx1, k1, h⟩ := HA1.out w154 f.kx
            rw [← e1, ← e2]
            replace k2 := Sl.ext k2 h
            replace f := f.ext h
            clear e1 e2 h
            refine hKK.out _ _ ?_ (fun hHeld => ?_)
            · exact (by first | exact f.kx | exact f.kx.ext (below_drew (Below.refl _ _)))
            clear hKK KK
            try simp only [Act.put, List.setIfInBounds_toArray, List.set_cons_zero, List.set_cons_succ]
            refine wpAnyH_ready (rs := [1]) (by kernel_rfl) (by simp) ?_
            refine AllReadyH.cons (by simp only [List.getElem?_toArray]; rfl) (fun KK hKK => ?_) AllReadyH.nil
            rw [if_pos (by kernel_rfl)]
            refine wp_ldP (.tmp 30) rfl ⟨K, 2, none⟩ vp (by kernel_rfl) f.z.c2 ?_
            refine hKK.out _ _ ?_ (fun hHeld => ?_)
            · exact (by first | exact f.kx | exact f.kx.ext (below_drew (Below.refl _ _)))
            clear hKK KK
            try simp only [Act.put, List.setIfInBounds_toArray, List.set_cons_zero, List.set_cons_succ]
            refine wpAnyH_ready (rs := [5]) (by kernel_rfl) (by simp) ?_
            refine AllReadyH.cons (by simp only [List.getElem?_toArray]; rfl) (fun KK hKK => ?_) AllReadyH.nil
            rw [if_pos (by kernel_rfl)]
            refine wp_appB (.tmp 31) (.tmp 34) rfl wB vp _ (by kernel_rfl) f.rp b1 (some ⟨b1, 0, none⟩) 1 1 [UInt8.ofNat k] (by kernel_rfl) k1 rfl HL7.out f.zB ?_
            intro v7 w161 rp' hm
            obtain ⟨A7, c7, b7, hv7, -⟩ := Row.sl rp'
            rw [HN7.out] at hv7
            subst hv7
            replace k2 := sl_far k2 hx2 hplt hm
            replace f := f.app1 hplt rp' hm
            clear k1 hm rp'
            refine hKK.out _ _ ?_ (fun hHeld => ?_)
            · exact (by first | exact f.kx | exact f.kx.ext (below_drew (Below.refl _ _)))
            clear hKK KK
            try simp only [Act.put, List.setIfInBounds_toArray, List.set_cons_zero, List.set_cons_succ]
            refine wpAnyH_take (i := 11) (by simp only [List.getElem?_toArray]; rfl) (by kernel_rfl) (by kernel_rfl) (by kernel_rfl) (by exact fun _ _ _ h => h) (by exact yk (.pointer (some ⟨K, 2, none⟩)) (by kernel_rfl) (fun _ => by kernel_rfl)) hHeld ?_
            refine wpAnyH_ready (rs := [10]) (by kernel_rfl) (by simp) ?_
            refine AllReadyH.cons (by simp only [List.getElem?_toArray]; rfl) (fun KK hKK => ?_) AllReadyH.nil
            rw [if_pos (by kernel_rfl)]
            refine wp_appRC (.tmp 37) (.tmp 39) rfl wB vc _ (by kernel_rfl) f.rc b2 (some ⟨b2, 0, none⟩) 1 1 [(x, y)] (by kernel_rfl) k2 rfl HL8.out f.zB ?_
            intro v8 w162 rc' hm
            obtain ⟨A8, c8, b8, hv8, -⟩ := RowC.sl rc'
            rw [HN8.out] at hv8
            subst hv8
            replace f := f.app2 hclt rc' hm
            clear k2 hm rc'
            refine hKK.out _ _ ?_ (fun hHeld => ?_)
            · exact (by first | exact f.kx | exact f.kx.ext (below_drew (Below.refl _ _)))
            clear hKK KK
            try simp only [Act.put, List.setIfInBounds_toArray, List.set_cons_zero, List.set_cons_succ]
            refine wpAnyH_ready (rs := [12]) (by kernel_rfl) (by simp) ?_
            refine AllReadyH.cons (by simp only [List.getElem?_toArray]; rfl) (fun KK hKK => ?_) AllReadyH.nil
            rw [if_pos (by kernel_rfl)]
            refine wp_stP (.tmp 41) (.tmp 35) rfl ⟨K, 2, none⟩ A7 N7 c7 (by kernel_rfl) (by kernel_rfl) _ f.z.c2 (f.z.fr 2) ?_
            replace f := f.set2 (.slice A7 N7 c7)
            obtain ⟨w163, e⟩ : ∃ w163, w163 = w162.setCell ⟨K, 2, none⟩ (.slice A7 N7 c7) := ⟨_, rfl⟩
            rw [← e] at f ⊢
            clear e
            refine hKK.out _ _ ?_ (fun hHeld => ?_)
            · exact (by first | exact f.kx | exact f.kx.ext (below_drew (Below.refl _ _)))
            clear hKK KK
            try simp only [Act.put]
            refine wpAnyH_take (i := 13) (by simp only [List.getElem?_toArray]; rfl) (by kernel_rfl) (by kernel_rfl) (by kernel_rfl) (by exact fun _ _ _ h => h) (by exact yk (.pointer (some ⟨K, 3, none⟩)) (by kernel_rfl) (fun _ => by kernel_rfl)) hHeld ?_
            refine wpAnyH_ready (rs := [14]) (by kernel_rfl) (by simp) ?_
            refine AllReadyH.cons (by simp only [List.getElem?_toArray]; rfl) (fun KK hKK => ?_) AllReadyH.nil
            rw [if_pos (by kernel_rfl)]
            refine wp_stCs (.tmp 42) (.tmp 40) rfl ⟨K, 3, none⟩ A8 N8 c8 (by kernel_rfl) (by kernel_rfl) _ f.z.c3 (f.z.fr 3) ?_
            replace f := f.set3 (.slice A8 N8 c8)
            obtain ⟨w164, e⟩ : ∃ w164, w164 = w163.setCell ⟨K, 3, none⟩ (.slice A8 N8 c8) := ⟨_, rfl⟩
            rw [← e] at f ⊢
            clear e
            refine hKK.out _ _ ?_ (fun hHeld => ?_)
            · exact (by first | exact f.kx | exact f.kx.ext (below_drew (Below.refl _ _)))
            clear hKK KK
            try simp only [Act.put]
            refine wpAnyH_done (by kernel_rfl) ?_ _
            go_wp2_with fail
            go_meet
            exact ⟨_, _, _, rfl, f.z, f.rp, f.rc, f.q, f.sV, f.b, f.zB⟩
         ·
          rw [if_pos (by kernel_rfl)]
          refine wp_bsRC (.tmp 38) rfl x y (by kernel_rfl) ?_
          obtain ⟨b2, w165, e1, e2, hx2, k2, h⟩ := HA2.out wd2 f.kx
          rw [← e1, ← e2]
          replace f := f.ext h
          clear e1 e2 h
          refine hKK.out _ _ ?_ (fun hHeld => ?_)
          · exact (by first | exact f.kx | exact f.kx.ext (below_drew (Below.refl _ _)))
          clear hKK KK
          try simp only [Act.put, List.setIfInBounds_toArray, List.set_cons_zero, List.set_cons_succ]
          refine wpAnyH_ready (rs := [1, 4, 7]) (by kernel_rfl) (by simp) ?_
          refine AllReadyH.cons (by simp only [List.getElem?_toArray]; rfl) (fun KK hKK => ?_) (AllReadyH.cons (by simp only [List.getElem?_toArray]; rfl) (fun KK hKK => ?_) (AllReadyH.cons (by simp only [List.getElem?_toArray]; rfl) (fun KK hKK => ?_) AllReadyH.nil))
          ·
           rw [if_pos (by kernel_rfl)]
           refine wp_ldP (.tmp 30) rfl ⟨K, 2, none⟩ vp (by kernel_rfl) f.z.c2 ?_
           refine hKK.out _ _ ?_ (fun hHeld => ?_)
           · exact (by first | exact f.kx | exact f.kx.ext (below_drew (Below.refl _ _)))
           clear hKK KK
           try simp only [Act.put, List.setIfInBounds_toArray, List.set_cons_zero, List.set_cons_succ]
           refine wpAnyH_ready (rs := [4, 7]) (by kernel_rfl) (by simp) ?_
           refine AllReadyH.cons (by simp only [List.getElem?_toArray]; rfl) (fun KK hKK => ?_) (AllReadyH.cons (by simp only [List.getElem?_toArray]; rfl) (fun KK hKK => ?_) AllReadyH.nil)
           ·
            rw [if_pos (by kernel_rfl)]
            refine wp_bsB (.tmp 33) rfl (k : Int) (by kernel_rfl) ?_
            obtain ⟨b1, w166, e1, e2, hx1, k1, h⟩ := HA1.out w165 f.kx
            rw [← e1, ← e2]
            replace k2 := Sl.ext k2 h
            replace f := f.ext h
            clear e1 e2 h
            refine hKK.out _ _ ?_ (fun hHeld => ?_)
            · exact (by first | exact f.kx | exact f.kx.ext (below_drew (Below.refl _ _)))
            clear hKK KK
            try simp only [Act.put, List.setIfInBounds_toArray, List.set_cons_zero, List.set_cons_succ]
            refine wpAnyH_ready (rs := [5, 7]) (by kernel_rfl) (by simp) ?_
            refine AllReadyH.cons (by simp only [List.getElem?_toArray]; rfl) (fun KK hKK => ?_) (AllReadyH.cons (by simp only [List.getElem?_toArray]; rfl) (fun KK hKK => ?_) AllReadyH.nil)
            ·
             rw [if_pos (by kernel_rfl)]
             refine wp_appB (.tmp 31) (.tmp 34) rfl wB vp _ (by kernel_rfl) f.rp b1 (some ⟨b1, 0, none⟩) 1 1 [UInt8.ofNat k] (by kernel_rfl) k1 rfl HL7.out f.zB ?_
             intro v7 w167 rp' hm
             obtain ⟨A7, c7, b7, hv7, -⟩ := Row.sl rp'
             rw [HN7.out] at hv7
             subst hv7
             replace k2 := sl_far k2 hx2 hplt hm
             replace f := f.app1 hplt rp' hm
             clear k1 hm rp'
             refine hKK.out _ _ ?_ (fun hHeld => ?_)
             · exact (by first | exact f.kx | exact f.kx.ext (below_drew (Below.refl _ _)))
             clear hKK KK
             try simp only [Act.put, List.setIfInBounds_toArray, List.set_cons_zero, List.set_cons_succ]
             refine wpAnyH_ready (rs := [7]) (by kernel_rfl) (by simp) ?_
             refine AllReadyH.cons (by simp only [List.getElem?_toArray]; rfl) (fun KK hKK => ?_) AllReadyH.nil
             rw [if_pos (by kernel_rfl)]
             refine wp_ldCs (.tmp 36) rfl ⟨K, 3, none⟩ vc (by kernel_rfl) f.z.c3 ?_
             refine hKK.out _ _ ?_ (fun hHeld => ?_)
             · exact (by first | exact f.kx | exact f.kx.ext (below_drew (Below.refl _ _)))
             clear hKK KK
             try simp only [Act.put, List.setIfInBounds_toArray, List.set_cons_zero, List.set_cons_succ]
             refine wpAnyH_take (i := 11) (by simp only [List.getElem?_toArray]; rfl) (by kernel_rfl) (by kernel_rfl) (by kernel_rfl) (by exact fun _ _ _ h => h) (by exact yk (.pointer (some ⟨K, 2, none⟩)) (by kernel_rfl) (fun _ => by kernel_rfl)) hHeld ?_
             refine wpAnyH_ready (rs := [10]) (by kernel_rfl) (by simp) ?_
             refine AllReadyH.cons (by simp only [List.getElem?_toArray]; rfl) (fun KK hKK => ?_) AllReadyH.nil
             rw [if_pos (by kernel_rfl)]
             refine wp_appRC (.tmp 37) (.tmp 39) rfl wB vc _ (by kernel_rfl) f.rc b2 (some ⟨b2, 0, none⟩) 1 1 [(x, y)] (by kernel_rfl) k2 rfl HL8.out f.zB ?_
             intro v8 w168 rc' hm
             obtain ⟨A8, c8, b8, hv8, -⟩ := RowC.sl rc'
             rw [HN8.out] at hv8
             subst hv8
             replace f := f.app2 hclt rc' hm
             clear k2 hm rc'
             refine hKK.out _ _ ?_ (fun hHeld => ?_)
             · exact (by first | exact f.kx | exact f.kx.ext (below_drew (Below.refl _ _)))
             clear hKK KK
             try simp only [Act.put, List.setIfInBounds_toArray, List.set_cons_zero, List.set_cons_succ]
             refine wpAnyH_ready (rs := [12]) (by kernel_rfl) (by simp) ?_
             refine AllReadyH.cons (by simp only [List.getElem?_toArray]; rfl) (fun KK hKK => ?_) AllReadyH.nil
             rw [if_pos (by kernel_rfl)]
             refine wp_stP (.tmp 41) (.tmp 35) rfl ⟨K, 2, none⟩ A7 N7 c7 (by kernel_rfl) (by kernel_rfl) _ f.z.c2 (f.z.fr 2) ?_
             replace f := f.set2 (.slice A7 N7 c7)
             obtain ⟨w169, e⟩ : ∃ w169, w169 = w168.setCell ⟨K, 2, none⟩ (.slice A7 N7 c7) := ⟨_, rfl⟩
             rw [← e] at f ⊢
             clear e
             refine hKK.out _ _ ?_ (fun hHeld => ?_)
             · exact (by first | exact f.kx | exact f.kx.ext (below_drew (Below.refl _ _)))
             clear hKK KK
             try simp only [Act.put]
             refine wpAnyH_take (i := 13) (by simp only [List.getElem?_toArray]; rfl) (by kernel_rfl) (by kernel_rfl) (by kernel_rfl) (by exact fun _ _ _ h => h) (by exact yk (.pointer (some ⟨K, 3, none⟩)) (by kernel_rfl) (fun _ => by kernel_rfl)) hHeld ?_
             refine wpAnyH_ready (rs := [14]) (by kernel_rfl) (by simp) ?_
             refine AllReadyH.cons (by simp only [List.getElem?_toArray]; rfl) (fun KK hKK => ?_) AllReadyH.nil
             rw [if_pos (by kernel_rfl)]
             refine wp_stCs (.tmp 42) (.tmp 40) rfl ⟨K, 3, none⟩ A8 N8 c8 (by kernel_rfl) (by kernel_rfl) _ f.z.c3 (f.z.fr 3) ?_
             replace f := f.set3 (.slice A8 N8 c8)
             obtain ⟨w170, e⟩ : ∃ w170, w170 = w169.setCell ⟨K, 3, none⟩ (.slice A8 N8 c8) := ⟨_, rfl⟩
             rw [← e] at f ⊢
             clear e
             refine hKK.out _ _ ?_ (fun hHeld => ?_)
             · exact (by first | exact f.kx | exact f.kx.ext (below_drew (Below.refl _ _)))
             clear hKK KK
             try simp only [Act.put]
             refine wpAnyH_done (by kernel_rfl) ?_ _
             go_wp2_with fail
             go_meet
             exact ⟨_, _, _, rfl, f.z, f.rp, f.rc, f.q, f.sV, f.b, f.zB⟩
            ·
             rw [if_pos (by kernel_rfl)]
             refine wp_ldCs (.tmp 36) rfl ⟨K, 3, none⟩ vc (by kernel_rfl) f.z.c3 ?_
             refine hKK.out _ _ ?_ (fun hHeld => ?_)
             · exact (by first | exact f.kx | exact f.kx.ext (below_drew (Below.refl _ _)))
             clear hKK KK
             try simp only [Act.put, List.setIfInBounds_toArray, List.set_cons_zero, List.set_cons_succ]
             refine wpAnyH_ready (rs := [5]) (by kernel_rfl) (by simp) ?_
             refine AllReadyH.cons (by simp only [List.getElem?_toArray]; rfl) (fun KK hKK => ?_) AllReadyH.nil
             rw [if_pos (by kernel_rfl)]
             refine wp_appB (.tmp 31) (.tmp 34) rfl wB vp _ (by kernel_rfl) f.rp b1 (some ⟨b1, 0, none⟩) 1 1 [UInt8.ofNat k] (by kernel_rfl) k1 rfl HL7.out f.zB ?_
             intro v7 w171 rp' hm
             obtain ⟨A7, c7, b7, hv7, -⟩ := Row.sl rp'
             rw [HN7.out] at hv7
             subst hv7
             replace k2 := sl_far k2 hx2 hplt hm
             replace f := f.app1 hplt rp' hm
             clear k1 hm rp'
             refine hKK.out _ _ ?_ (fun hHeld => ?_)
             · exact (by first | exact f.kx | exact f.kx.ext (below_drew (Below.refl _ _)))
             clear hKK KK
             try simp only [Act.put, List.setIfInBounds_toArray, List.set_cons_zero, List.set_cons_succ]
             refine wpAnyH_take (i := 11) (by simp only [List.getElem?_toArray]; rfl) (by kernel_rfl) (by kernel_rfl) (by kernel_rfl) (by exact fun _ _ _ h => h) (by exact yk (.pointer (some ⟨K, 2, none⟩)) (by kernel_rfl) (fun _ => by kernel_rfl)) hHeld ?_
             refine wpAnyH_ready (rs := [10]) (by kernel_rfl) (by simp) ?_
             refine AllReadyH.cons (by simp only [List.getElem?_toArray]; rfl) (fun KK hKK => ?_) AllReadyH.nil
             rw [if_pos (by kernel_rfl)]
             refine wp_appRC (.tmp 37) (.tmp 39) rfl wB vc _ (by kernel_rfl) f.rc b2 (some ⟨b2, 0, none⟩) 1 1 [(x, y)] (by kernel_rfl) k2 rfl HL8.out f.zB ?_
             intro v8 w172 rc' hm
             obtain ⟨A8, c8, b8, hv8, -⟩ := RowC.sl rc'
             rw [HN8.out] at hv8
             subst hv8
             replace f := f.app2 hclt rc' hm
             clear k2 hm rc'
             refine hKK.out _ _ ?_ (fun hHeld => ?_)
             · exact (by first | exact f.kx | exact f.kx.ext (below_drew (Below.refl _ _)))
             clear hKK KK
             try simp only [Act.put, List.setIfInBounds_toArray, List.set_cons_zero, List.set_cons_succ]
             refine wpAnyH_ready (rs := [12]) (by kernel_rfl) (by simp) ?_
             refine AllReadyH.cons (by simp only [List.getElem?_toArray]; rfl) (fun KK hKK => ?_) AllReadyH.nil
             rw [if_pos (by kernel_rfl)]
             refine wp_stP (.tmp 41) (.tmp 35) rfl ⟨K, 2, none⟩ A7 N7 c7 (by kernel_rfl) (by kernel_rfl) _ f.z.c2 (f.z.fr 2) ?_
             replace f := f.set2 (.slice A7 N7 c7)
             obtain ⟨w173, e⟩ : ∃ w173, w173 = w172.setCell ⟨K, 2, none⟩ (.slice A7 N7 c7) := ⟨_, rfl⟩
             rw [← e] at f ⊢
             clear e
             refine hKK.out _ _ ?_ (fun hHeld => ?_)
             · exact (by first | exact f.kx | exact f.kx.ext (below_drew (Below.refl _ _)))
             clear hKK KK
             try simp only [Act.put]
             refine wpAnyH_take (i := 13) (by simp only [List.getElem?_toArray]; rfl) (by kernel_rfl) (by kernel_rfl) (by kernel_rfl) (by exact fun _ _ _ h => h) (by exact yk (.pointer (some ⟨K, 3, none⟩)) (by kernel_rfl) (fun _ => by kernel_rfl)) hHeld ?_
             refine wpAnyH_ready (rs := [14]) (by kernel_rfl) (by simp) ?_
             refine AllReadyH.cons (by simp only [List.getElem?_toArray]; rfl) (fun KK hKK => ?_) AllReadyH.nil
             rw [if_pos (by kernel_rfl)]
             refine wp_stCs (.tmp 42) (.tmp 40) rfl ⟨K, 3, none⟩ A8 N8 c8 (by kernel_rfl) (by kernel_rfl) _ f.z.c3 (f.z.fr 3) ?_
             replace f := f.set3 (.slice A8 N8 c8)
             obtain ⟨w174, e⟩ : ∃ w174, w174 = w173.setCell ⟨K, 3, none⟩ (.slice A8 N8 c8) := ⟨_, rfl⟩
             rw [← e] at f ⊢
             clear e
             refine hKK.out _ _ ?_ (fun hHeld => ?_)
             · exact (by first | exact f.kx | exact f.kx.ext (below_drew (Below.refl _ _)))
             clear hKK KK
             try simp only [Act.put]
             refine wpAnyH_done (by kernel_rfl) ?_ _
             go_wp2_with fail
             go_meet
             exact ⟨_, _, _, rfl, f.z, f.rp, f.rc, f.q, f.sV, f.b, f.zB⟩
           ·
            rw [if_pos (by kernel_rfl)]
            refine wp_ldCs (.tmp 36) rfl ⟨K, 3, none⟩ vc (by kernel_rfl) f.z.c3 ?_
            refine hKK.out _ _ ?_ (fun hHeld => ?_)
            · exact (by first | exact f.kx | exact f.kx.ext (below_drew (Below.refl _ _)))
            clear hKK KK
            try simp only [Act.put, List.setIfInBounds_toArray, List.set_cons_zero, List.set_cons_succ]
            refine wpAnyH_ready (rs := [4]) (by kernel_rfl) (by simp) ?_
            refine AllReadyH.cons (by simp only [List.getElem?_toArray]; rfl) (fun KK hKK => ?_) AllReadyH.nil
            rw [if_pos (by kernel_rfl)]
            refine wp_bsB (.tmp 33) rfl (k : Int) (by kernel_rfl) ?_
            obtain ⟨b1, w175, e1, e2, hx1, k1, h⟩ := HA1.out w165 f.kx
            rw [← e1, ← e2]
            replace k2 := Sl.ext k2 h
            replace f := f.ext h
            clear e1 e2 h
            refine hKK.out _ _ ?_ (fun hHeld => ?_)
            · exact (by first | exact f.kx | exact f.kx.ext (below_drew (Below.refl _ _)))
            clear hKK KK
            try simp only [Act.put, List.setIfInBounds_toArray, List.set_cons_zero, List.set_cons_succ]
            refine wpAnyH_ready (rs := [5]) (by kernel_rfl) (by simp) ?_
            refine AllReadyH.cons (by simp only [List.getElem?_toArray]; rfl) (fun KK hKK => ?_) AllReadyH.nil
            rw [if_pos (by kernel_rfl)]
            refine wp_appB (.tmp 31) (.tmp 34) rfl wB vp _ (by kernel_rfl) f.rp b1 (some ⟨b1, 0, none⟩) 1 1 [UInt8.ofNat k] (by kernel_rfl) k1 rfl HL7.out f.zB ?_
            intro v7 w176 rp' hm
            obtain ⟨A7, c7, b7, hv7, -⟩ := Row.sl rp'
            rw [HN7.out] at hv7
            subst hv7
            replace k2 := sl_far k2 hx2 hplt hm
            replace f := f.app1 hplt rp' hm
            clear k1 hm rp'
            refine hKK.out _ _ ?_ (fun hHeld => ?_)
            · exact (by first | exact f.kx | exact f.kx.ext (below_drew (Below.refl _ _)))
            clear hKK KK
            try simp only [Act.put, List.setIfInBounds_toArray, List.set_cons_zero, List.set_cons_succ]
            refine wpAnyH_take (i := 11) (by simp only [List.getElem?_toArray]; rfl) (by kernel_rfl) (by kernel_rfl) (by kernel_rfl) (by exact fun _ _ _ h => h) (by exact yk (.pointer (some ⟨K, 2, none⟩)) (by kernel_rfl) (fun _ => by kernel_rfl)) hHeld ?_
            refine wpAnyH_ready (rs := [10]) (by kernel_rfl) (by simp) ?_
            refine AllReadyH.cons (by simp only [List.getElem?_toArray]; rfl) (fun KK hKK => ?_) AllReadyH.nil
            rw [if_pos (by kernel_rfl)]
            refine wp_appRC (.tmp 37) (.tmp 39) rfl wB vc _ (by kernel_rfl) f.rc b2 (some ⟨b2, 0, none⟩) 1 1 [(x, y)] (by kernel_rfl) k2 rfl HL8.out f.zB ?_
            intro v8 w177 rc' hm
            obtain ⟨A8, c8, b8, hv8, -⟩ := RowC.sl rc'
            rw [HN8.out] at hv8
            subst hv8
            replace f := f.app2 hclt rc' hm
            clear k2 hm rc'
            refine hKK.out _ _ ?_ (fun hHeld => ?_)
            · exact (by first | exact f.kx | exact f.kx.ext (below_drew (Below.refl _ _)))
            clear hKK KK
            try simp only [Act.put, List.setIfInBounds_toArray, List.set_cons_zero, List.set_cons_succ]
            refine wpAnyH_ready (rs := [12]) (by kernel_rfl) (by simp) ?_
            refine AllReadyH.cons (by simp only [List.getElem?_toArray]; rfl) (fun KK hKK => ?_) AllReadyH.nil
            rw [if_pos (by kernel_rfl)]
            refine wp_stP (.tmp 41) (.tmp 35) rfl ⟨K, 2, none⟩ A7 N7 c7 (by kernel_rfl) (by kernel_rfl) _ f.z.c2 (f.z.fr 2) ?_
            replace f := f.set2 (.slice A7 N7 c7)
            obtain ⟨w178, e⟩ : ∃ w178, w178 = w177.setCell ⟨K, 2, none⟩ (.slice A7 N7 c7) := ⟨_, rfl⟩
            rw [← e] at f ⊢
            clear e
            refine hKK.out _ _ ?_ (fun hHeld => ?_)
            · exact (by first | exact f.kx | exact f.kx.ext (below_drew (Below.refl _ _)))
            clear hKK KK
            try simp only [Act.put]
            refine wpAnyH_take (i := 13) (by simp only [List.getElem?_toArray]; rfl) (by kernel_rfl) (by kernel_rfl) (by kernel_rfl) (by exact fun _ _ _ h => h) (by exact yk (.pointer (some ⟨K, 3, none⟩)) (by kernel_rfl) (fun _ => by kernel_rfl)) hHeld ?_
            refine wpAnyH_ready (rs := [14]) (by kernel_rfl) (by simp) ?_
            refine AllReadyH.cons (by simp only [List.getElem?_toArray]; rfl) (fun KK hKK => ?_) AllReadyH.nil
            rw [if_pos (by kernel_rfl)]
            refine wp_stCs (.tmp 42) (.tmp 40) rfl ⟨K, 3, none⟩ A8 N8 c8 (by kernel_rfl) (by kernel_rfl) _ f.z.c3 (f.z.fr 3) ?_
            replace f := f.set3 (.slice A8 N8 c8)
            obtain ⟨w179, e⟩ : ∃ w179, w179 = w178.setCell ⟨K, 3, none⟩ (.slice A8 N8 c8) := ⟨_, rfl⟩
            rw [← e] at f ⊢
            clear e
            refine hKK.out _ _ ?_ (fun hHeld => ?_)
            · exact (by first | exact f.kx | exact f.kx.ext (below_drew (Below.refl _ _)))
            clear hKK KK
            try simp only [Act.put]
            refine wpAnyH_done (by kernel_rfl) ?_ _
            go_wp2_with fail
            go_meet
            exact ⟨_, _, _, rfl, f.z, f.rp, f.rc, f.q, f.sV, f.b, f.zB⟩
          ·
           rw [if_pos (by kernel_rfl)]
           refine wp_bsB (.tmp 33) rfl (k : Int) (by kernel_rfl) ?_
           obtain ⟨b1, w180, e1, e2, hx1, k1, h⟩ := HA1.out w165 f.kx
           rw [← e1, ← e2]
           replace k2 := Sl.ext k2 h
           replace f := f.ext h
           clear e1 e2 h
           refine hKK.out _ _ ?_ (fun hHeld => ?_)
           · exact (by first | exact f.kx | exact f.kx.ext (below_drew (Below.refl _ _)))
           clear hKK KK
           try simp only [Act.put, List.setIfInBounds_toArray, List.set_cons_zero, List.set_cons_succ]
           refine wpAnyH_ready (rs := [1, 7]) (by kernel_rfl) (by simp) ?_
           refine AllReadyH.cons (by simp only [List.getElem?_toArray]; rfl) (fun KK hKK => ?_) (AllReadyH.cons (by simp only [List.getElem?_toArray]; rfl) (fun KK hKK => ?_) AllReadyH.nil)
           ·
            rw [if_pos (by kernel_rfl)]
            refine wp_ldP (.tmp 30) rfl ⟨K, 2, none⟩ vp (by kernel_rfl) f.z.c2 ?_
            refine hKK.out _ _ ?_ (fun hHeld => ?_)
            · exact (by first | exact f.kx | exact f.kx.ext (below_drew (Below.refl _ _)))
            clear hKK KK
            try simp only [Act.put, List.setIfInBounds_toArray, List.set_cons_zero, List.set_cons_succ]
            refine wpAnyH_ready (rs := [5, 7]) (by kernel_rfl) (by simp) ?_
            refine AllReadyH.cons (by simp only [List.getElem?_toArray]; rfl) (fun KK hKK => ?_) (AllReadyH.cons (by simp only [List.getElem?_toArray]; rfl) (fun KK hKK => ?_) AllReadyH.nil)
            ·
             rw [if_pos (by kernel_rfl)]
             refine wp_appB (.tmp 31) (.tmp 34) rfl wB vp _ (by kernel_rfl) f.rp b1 (some ⟨b1, 0, none⟩) 1 1 [UInt8.ofNat k] (by kernel_rfl) k1 rfl HL7.out f.zB ?_
             intro v7 w181 rp' hm
             obtain ⟨A7, c7, b7, hv7, -⟩ := Row.sl rp'
             rw [HN7.out] at hv7
             subst hv7
             replace k2 := sl_far k2 hx2 hplt hm
             replace f := f.app1 hplt rp' hm
             clear k1 hm rp'
             refine hKK.out _ _ ?_ (fun hHeld => ?_)
             · exact (by first | exact f.kx | exact f.kx.ext (below_drew (Below.refl _ _)))
             clear hKK KK
             try simp only [Act.put, List.setIfInBounds_toArray, List.set_cons_zero, List.set_cons_succ]
             refine wpAnyH_ready (rs := [7]) (by kernel_rfl) (by simp) ?_
             refine AllReadyH.cons (by simp only [List.getElem?_toArray]; rfl) (fun KK hKK => ?_) AllReadyH.nil
             rw [if_pos (by kernel_rfl)]
             refine wp_ldCs (.tmp 36) rfl ⟨K, 3, none⟩ vc (by kernel_rfl) f.z.c3 ?_
             refine hKK.out _ _ ?_ (fun hHeld => ?_)
             · exact (by first | exact f.kx | exact f.kx.ext (below_drew (Below.refl _ _)))
             clear hKK KK
             try simp only [Act.put, List.setIfInBounds_toArray, List.set_cons_zero, List.set_cons_succ]
             refine wpAnyH_take (i := 11) (by simp only [List.getElem?_toArray]; rfl) (by kernel_rfl) (by kernel_rfl) (by kernel_rfl) (by exact fun _ _ _ h => h) (by exact yk (.pointer (some ⟨K, 2, none⟩)) (by kernel_rfl) (fun _ => by kernel_rfl)) hHeld ?_
             refine wpAnyH_ready (rs := [10]) (by kernel_rfl) (by simp) ?_
             refine AllReadyH.cons (by simp only [List.getElem?_toArray]; rfl) (fun KK hKK => ?_) AllReadyH.nil
             rw [if_pos (by kernel_rfl)]
             refine wp_appRC (.tmp 37) (.tmp 39) rfl wB vc _ (by kernel_rfl) f.rc b2 (some ⟨b2, 0, none⟩) 1 1 [(x, y)] (by kernel_rfl) k2 rfl HL8.out f.zB ?_
             intro v8 w182 rc' hm
             obtain ⟨A8, c8, b8, hv8, -⟩ := RowC.sl rc'
             rw [HN8.out] at hv8
             subst hv8
             replace f := f.app2 hclt rc' hm
             clear k2 hm rc'
             refine hKK.out _ _ ?_ (fun hHeld => ?_)
             · exact (by first | exact f.kx | exact f.kx.ext (below_drew (Below.refl _ _)))
             clear hKK KK
             try simp only [Act.put, List.setIfInBounds_toArray, List.set_cons_zero, List.set_cons_succ]
             refine wpAnyH_ready (rs := [12]) (by kernel_rfl) (by simp) ?_
             refine AllReadyH.cons (by simp only [List.getElem?_toArray]; rfl) (fun KK hKK => ?_) AllReadyH.nil
             rw [if_pos (by kernel_rfl)]
             refine wp_stP (.tmp 41) (.tmp 35) rfl ⟨K, 2, none⟩ A7 N7 c7 (by kernel_rfl) (by kernel_rfl) _ f.z.c2 (f.z.fr 2) ?_
             replace f := f.set2 (.slice A7 N7 c7)
             obtain ⟨w183, e⟩ : ∃ w183, w183 = w182.setCell ⟨K, 2, none⟩ (.slice A7 N7 c7) := ⟨_, rfl⟩
             rw [← e] at f ⊢
             clear e
             refine hKK.out _ _ ?_ (fun hHeld => ?_)
             · exact (by first | exact f.kx | exact f.kx.ext (below_drew (Below.refl _ _)))
             clear hKK KK
             try simp only [Act.put]
             refine wpAnyH_take (i := 13) (by simp only [List.getElem?_toArray]; rfl) (by kernel_rfl) (by kernel_rfl) (by kernel_rfl) (by exact fun _ _ _ h => h) (by exact yk (.pointer (some ⟨K, 3, none⟩)) (by kernel_rfl) (fun _ => by kernel_rfl)) hHeld ?_
             refine wpAnyH_ready (rs := [14]) (by kernel_rfl) (by simp) ?_
             refine AllReadyH.cons (by simp only [List.getElem?_toArray]; rfl) (fun KK hKK => ?_) AllReadyH.nil
             rw [if_pos (by kernel_rfl)]
             refine wp_stCs (.tmp 42) (.tmp 40) rfl ⟨K, 3, none⟩ A8 N8 c8 (by kernel_rfl) (by kernel_rfl) _ f.z.c3 (f.z.fr 3) ?_
             replace f := f.set3 (.slice A8 N8 c8)
             obtain ⟨w184, e⟩ : ∃ w184, w184 = w183.setCell ⟨K, 3, none⟩ (.slice A8 N8 c8) := ⟨_, rfl⟩
             rw [← e] at f ⊢
             clear e
             refine hKK.out _ _ ?_ (fun hHeld => ?_)
             · exact (by first | exact f.kx | exact f.kx.ext (below_drew (Below.refl _ _)))
             clear hKK KK
             try simp only [Act.put]
             refine wpAnyH_done (by kernel_rfl) ?_ _
             go_wp2_with fail
             go_meet
             exact ⟨_, _, _, rfl, f.z, f.rp, f.rc, f.q, f.sV, f.b, f.zB⟩
            ·
             rw [if_pos (by kernel_rfl)]
             refine wp_ldCs (.tmp 36) rfl ⟨K, 3, none⟩ vc (by kernel_rfl) f.z.c3 ?_
             refine hKK.out _ _ ?_ (fun hHeld => ?_)
             · exact (by first | exact f.kx | exact f.kx.ext (below_drew (Below.refl _ _)))
             clear hKK KK
             try simp only [Act.put, List.setIfInBounds_toArray, List.set_cons_zero, List.set_cons_succ]
             refine wpAnyH_ready (rs := [5]) (by kernel_rfl) (by simp) ?_
             refine AllReadyH.cons (by simp only [List.getElem?_toArray]; rfl) (fun KK hKK => ?_) AllReadyH.nil
             rw [if_pos (by kernel_rfl)]
             refine wp_appB (.tmp 31) (.tmp 34) rfl wB vp _ (by kernel_rfl) f.rp b1 (some ⟨b1, 0, none⟩) 1 1 [UInt8.ofNat k] (by kernel_rfl) k1 rfl HL7.out f.zB ?_
             intro v7 w185 rp' hm
             obtain ⟨A7, c7, b7, hv7, -⟩ := Row.sl rp'
             rw [HN7.out] at hv7
             subst hv7
             replace k2 := sl_far k2 hx2 hplt hm
             replace f := f.app1 hplt rp' hm
             clear k1 hm rp'
             refine hKK.out _ _ ?_ (fun hHeld => ?_)
             · exact (by first | exact f.kx | exact f.kx.ext (below_drew (Below.refl _ _)))
             clear hKK KK
             try simp only [Act.put, List.setIfInBounds_toArray, List.set_cons_zero, List.set_cons_succ]
             refine wpAnyH_take (i := 11) (by simp only [List.getElem?_toArray]; rfl) (by kernel_rfl) (by kernel_rfl) (by kernel_rfl) (by exact fun _ _ _ h => h) (by exact yk (.pointer (some ⟨K, 2, none⟩)) (by kernel_rfl) (fun _ => by kernel_rfl)) hHeld ?_
             refine wpAnyH_ready (rs := [10]) (by kernel_rfl) (by simp) ?_
             refine AllReadyH.cons (by simp only [List.getElem?_toArray]; rfl) (fun KK hKK => ?_) AllReadyH.nil
             rw [if_pos (by kernel_rfl)]
             refine wp_appRC (.tmp 37) (.tmp 39) rfl wB vc _ (by kernel_rfl) f.rc b2 (some ⟨b2, 0, none⟩) 1 1 [(x, y)] (by kernel_rfl) k2 rfl HL8.out f.zB ?_
             intro v8 w186 rc' hm
             obtain ⟨A8, c8, b8, hv8, -⟩ := RowC.sl rc'
             rw [HN8.out] at hv8
             subst hv8
             replace f := f.app2 hclt rc' hm
             clear k2 hm rc'
             refine hKK.out _ _ ?_ (fun hHeld => ?_)
             · exact (by first | exact f.kx | exact f.kx.ext (below_drew (Below.refl _ _)))
             clear hKK KK
             try simp only [Act.put, List.setIfInBounds_toArray, List.set_cons_zero, List.set_cons_succ]
             refine wpAnyH_ready (rs := [12]) (by kernel_rfl) (by simp) ?_
             refine AllReadyH.cons (by simp only [List.getElem?_toArray]; rfl) (fun KK hKK => ?_) AllReadyH.nil
             rw [if_pos (by kernel_rfl)]
             refine wp_stP (.tmp 41) (.tmp 35) rfl ⟨K, 2, none⟩ A7 N7 c7 (by kernel_rfl) (by kernel_rfl) _ f.z.c2 (f.z.fr 2) ?_
             replace f := f.set2 (.slice A7 N7 c7)
             obtain ⟨w187, e⟩ : ∃ w187, w187 = w186.setCell ⟨K, 2, none⟩ (.slice A7 N7 c7) := ⟨_, rfl⟩
             rw [← e] at f ⊢
             clear e
             refine hKK.out _ _ ?_ (fun hHeld => ?_)
             · exact (by first | exact f.kx | exact f.kx.ext (below_drew (Below.refl _ _)))
             clear hKK KK
             try simp only [Act.put]
             refine wpAnyH_take (i := 13) (by simp only [List.getElem?_toArray]; rfl) (by kernel_rfl) (by kernel_rfl) (by kernel_rfl) (by exact fun _ _ _ h => h) (by exact yk (.pointer (some ⟨K, 3, none⟩)) (by kernel_rfl) (fun _ => by kernel_rfl)) hHeld ?_
             refine wpAnyH_ready (rs := [14]) (by kernel_rfl) (by simp) ?_
             refine AllReadyH.cons (by simp only [List.getElem?_toArray]; rfl) (fun KK hKK => ?_) AllReadyH.nil
             rw [if_pos (by kernel_rfl)]
             refine wp_stCs (.tmp 42) (.tmp 40) rfl ⟨K, 3, none⟩ A8 N8 c8 (by kernel_rfl) (by kernel_rfl) _ f.z.c3 (f.z.fr 3) ?_
             replace f := f.set3 (.slice A8 N8 c8)
             obtain ⟨w188, e⟩ : ∃ w188, w188 = w187.setCell ⟨K, 3, none⟩ (.slice A8 N8 c8) := ⟨_, rfl⟩
             rw [← e] at f ⊢
             clear e
             refine hKK.out _ _ ?_ (fun hHeld => ?_)
             · exact (by first | exact f.kx | exact f.kx.ext (below_drew (Below.refl _ _)))
             clear hKK KK
             try simp only [Act.put]
             refine wpAnyH_done (by kernel_rfl) ?_ _
             go_wp2_with fail
             go_meet
             exact ⟨_, _, _, rfl, f.z, f.rp, f.rc, f.q, f.sV, f.b, f.zB⟩
           ·
            rw [if_pos (by kernel_rfl)]
            refine wp_ldCs (.tmp 36) rfl ⟨K, 3, none⟩ vc (by kernel_rfl) f.z.c3 ?_
            refine hKK.out _ _ ?_ (fun hHeld => ?_)
            · exact (by first | exact f.kx | exact f.kx.ext (below_drew (Below.refl _ _)))
            clear hKK KK
            try simp only [Act.put, List.setIfInBounds_toArray, List.set_cons_zero, List.set_cons_succ]
            refine wpAnyH_ready (rs := [1]) (by kernel_rfl) (by simp) ?_
            refine AllReadyH.cons (by simp only [List.getElem?_toArray]; rfl) (fun KK hKK => ?_) AllReadyH.nil
            rw [if_pos (by kernel_rfl)]
            refine wp_ldP (.tmp 30) rfl ⟨K, 2, none⟩ vp (by kernel_rfl) f.z.c2 ?_
            refine hKK.out _ _ ?_ (fun hHeld => ?_)
            · exact (by first | exact f.kx | exact f.kx.ext (below_drew (Below.refl _ _)))
            clear hKK KK
            try simp only [Act.put, List.setIfInBounds_toArray, List.set_cons_zero, List.set_cons_succ]
            refine wpAnyH_ready (rs := [5]) (by kernel_rfl) (by simp) ?_
            refine AllReadyH.cons (by simp only [List.getElem?_toArray]; rfl) (fun KK hKK => ?_) AllReadyH.nil
            rw [if_pos (by kernel_rfl)]
            refine wp_appB (.tmp 31) (.tmp 34) rfl wB vp _ (by kernel_rfl) f.rp b1 (some ⟨b1, 0, none⟩) 1 1 [UInt8.ofNat k] (by kernel_rfl) k1 rfl HL7.out f.zB ?_
            intro v7 w189 rp' hm
            obtain ⟨A7, c7, b7, hv7, -⟩ := Row.sl rp'
            rw [HN7.out] at hv7
            subst hv7
            replace k2 := sl_far k2 hx2 hplt hm
            replace f := f.app1 hplt rp' hm
            clear k1 hm rp'
            refine hKK.out _ _ ?_ (fun hHeld => ?_)
            · exact (by first | exact f.kx | exact f.kx.ext (below_drew (Below.refl _ _)))
            clear hKK KK
            try simp only [Act.put, List.setIfInBounds_toArray, List.set_cons_zero, List.set_cons_succ]
            refine wpAnyH_take (i := 11) (by simp only [List.getElem?_toArray]; rfl) (by kernel_rfl) (by kernel_rfl) (by kernel_rfl) (by exact fun _ _ _ h => h) (by exact yk (.pointer (some ⟨K, 2, none⟩)) (by kernel_rfl) (fun _ => by kernel_rfl)) hHeld ?_
            refine wpAnyH_ready (rs := [10]) (by kernel_rfl) (by simp) ?_
            refine AllReadyH.cons (by simp only [List.getElem?_toArray]; rfl) (fun KK hKK => ?_) AllReadyH.nil
            rw [if_pos (by kernel_rfl)]
            refine wp_appRC (.tmp 37) (.tmp 39) rfl wB vc _ (by kernel_rfl) f.rc b2 (some ⟨b2, 0, none⟩) 1 1 [(x, y)] (by kernel_rfl) k2 rfl HL8.out f.zB ?_
            intro v8 w190 rc' hm
            obtain ⟨A8, c8, b8, hv8, -⟩ := RowC.sl rc'
            rw [HN8.out] at hv8
            subst hv8
            replace f := f.app2 hclt rc' hm
            clear k2 hm rc'
            refine hKK.out _ _ ?_ (fun hHeld => ?_)
            · exact (by first | exact f.kx | exact f.kx.ext (below_drew (Below.refl _ _)))
            clear hKK KK
            try simp only [Act.put, List.setIfInBounds_toArray, List.set_cons_zero, List.set_cons_succ]
            refine wpAnyH_ready (rs := [12]) (by kernel_rfl) (by simp) ?_
            refine AllReadyH.cons (by simp only [List.getElem?_toArray]; rfl) (fun KK hKK => ?_) AllReadyH.nil
            rw [if_pos (by kernel_rfl)]
            refine wp_stP (.tmp 41) (.tmp 35) rfl ⟨K, 2, none⟩ A7 N7 c7 (by kernel_rfl) (by kernel_rfl) _ f.z.c2 (f.z.fr 2) ?_
            replace f := f.set2 (.slice A7 N7 c7)
            obtain ⟨w191, e⟩ : ∃ w191, w191 = w190.setCell ⟨K, 2, none⟩ (.slice A7 N7 c7) := ⟨_, rfl⟩
            rw [← e] at f ⊢
            clear e
            refine hKK.out _ _ ?_ (fun hHeld => ?_)
            · exact (by first | exact f.kx | exact f.kx.ext (below_drew (Below.refl _ _)))
            clear hKK KK
            try simp only [Act.put]
            refine wpAnyH_take (i := 13) (by simp only [List.getElem?_toArray]; rfl) (by kernel_rfl) (by kernel_rfl) (by kernel_rfl) (by exact fun _ _ _ h => h) (by exact yk (.pointer (some ⟨K, 3, none⟩)) (by kernel_rfl) (fun _ => by kernel_rfl)) hHeld ?_
            refine wpAnyH_ready (rs := [14]) (by kernel_rfl) (by simp) ?_
            refine AllReadyH.cons (by simp only [List.getElem?_toArray]; rfl) (fun KK hKK => ?_) AllReadyH.nil
            rw [if_pos (by kernel_rfl)]
            refine wp_stCs (.tmp 42) (.tmp 40) rfl ⟨K, 3, none⟩ A8 N8 c8 (by kernel_rfl) (by kernel_rfl) _ f.z.c3 (f.z.fr 3) ?_
            replace f := f.set3 (.slice A8 N8 c8)
            obtain ⟨w192, e⟩ : ∃ w192, w192 = w191.setCell ⟨K, 3, none⟩ (.slice A8 N8 c8) := ⟨_, rfl⟩
            rw [← e] at f ⊢
            clear e
            refine hKK.out _ _ ?_ (fun hHeld => ?_)
            · exact (by first | exact f.kx | exact f.kx.ext (below_drew (Below.refl _ _)))
            clear hKK KK
            try simp only [Act.put]
            refine wpAnyH_done (by kernel_rfl) ?_ _
            go_wp2_with fail
            go_meet
            exact ⟨_, _, _, rfl, f.z, f.rp, f.rc, f.q, f.sV, f.b, f.zB⟩
          ·
           rw [if_pos (by kernel_rfl)]
           refine wp_ldCs (.tmp 36) rfl ⟨K, 3, none⟩ vc (by kernel_rfl) f.z.c3 ?_
           refine hKK.out _ _ ?_ (fun hHeld => ?_)
           · exact (by first | exact f.kx | exact f.kx.ext (below_drew (Below.refl _ _)))
           clear hKK KK
           try simp only [Act.put, List.setIfInBounds_toArray, List.set_cons_zero, List.set_cons_succ]
           refine wpAnyH_ready (rs := [1, 4]) (by kernel_rfl) (by simp) ?_
           refine AllReadyH.cons (by simp only [List.getElem?_toArray]; rfl) (fun KK hKK => ?_) (AllReadyH.cons (by simp only [List.getElem?_toArray]; rfl) (fun KK hKK => ?_) AllReadyH.nil)
           ·
            rw [if_pos (by kernel_rfl)]
            refine wp_ldP (.tmp 30) rfl ⟨K, 2, none⟩ vp (by kernel_rfl) f.z.c2 ?_
            refine hKK.out _ _ ?_ (fun hHeld => ?_)
            · exact (by first | exact f.kx | exact f.kx.ext (below_drew (Below.refl _ _)))
            clear hKK KK
            try simp only [Act.put, List.setIfInBounds_toArray, List.set_cons_zero, List.set_cons_succ]
            refine wpAnyH_ready (rs := [4]) (by kernel_rfl) (by simp) ?_
            refine AllReadyH.cons (by simp only [List.getElem?_toArray]; rfl) (fun KK hKK => ?_) AllReadyH.nil
            rw [if_pos (by kernel_rfl)]
            refine wp_bsB (.tmp 33) rfl (k : Int) (by kernel_rfl) ?_
            obtain ⟨b1, w193, e1, e2, hx1, k1, h⟩ := HA1.out w165 f.kx
            rw [← e1, ← e2]
            replace k2 := Sl.ext k2 h
            replace f := f.ext h
            clear e1 e2 h
            refine hKK.out _ _ ?_ (fun hHeld => ?_)
            · exact (by first | exact f.kx | exact f.kx.ext (below_drew (Below.refl _ _)))
            clear hKK KK
            try simp only [Act.put, List.setIfInBounds_toArray, List.set_cons_zero, List.set_cons_succ]
            refine wpAnyH_ready (rs := [5]) (by kernel_rfl) (by simp) ?_
            refine AllReadyH.cons (by simp only [List.getElem?_toArray]; rfl) (fun KK hKK => ?_) AllReadyH.nil
            rw [if_pos (by kernel_rfl)]
            refine wp_appB (.tmp 31) (.tmp 34) rfl wB vp _ (by kernel_rfl) f.rp b1 (some ⟨b1, 0, none⟩) 1 1 [UInt8.ofNat k] (by kernel_rfl) k1 rfl HL7.out f.zB ?_
            intro v7 w194 rp' hm
            obtain ⟨A7, c7, b7, hv7, -⟩ := Row.sl rp'
            rw [HN7.out] at hv7
            subst hv7
            replace k2 := sl_far k2 hx2 hplt hm
            replace f := f.app1 hplt rp' hm
            clear k1 hm rp'
            refine hKK.out _ _ ?_ (fun hHeld => ?_)
            · exact (by first | exact f.kx | exact f.kx.ext (below_drew (Below.refl _ _)))
            clear hKK KK
            try simp only [Act.put, List.setIfInBounds_toArray, List.set_cons_zero, List.set_cons_succ]
            refine wpAnyH_take (i := 11) (by simp only [List.getElem?_toArray]; rfl) (by kernel_rfl) (by kernel_rfl) (by kernel_rfl) (by exact fun _ _ _ h => h) (by exact yk (.pointer (some ⟨K, 2, none⟩)) (by kernel_rfl) (fun _ => by kernel_rfl)) hHeld ?_
            refine wpAnyH_ready (rs := [10]) (by kernel_rfl) (by simp) ?_
            refine AllReadyH.cons (by simp only [List.getElem?_toArray]; rfl) (fun KK hKK => ?_) AllReadyH.nil
            rw [if_pos (by kernel_rfl)]
            refine wp_appRC (.tmp 37) (.tmp 39) rfl wB vc _ (by kernel_rfl) f.rc b2 (some ⟨b2, 0, none⟩) 1 1 [(x, y)] (by kernel_rfl) k2 rfl HL8.out f.zB ?_
            intro v8 w195 rc' hm
            obtain ⟨A8, c8, b8, hv8, -⟩ := RowC.sl rc'
            rw [HN8.out] at hv8
            subst hv8
            replace f := f.app2 hclt rc' hm
            clear k2 hm rc'
            refine hKK.out _ _ ?_ (fun hHeld => ?_)
            · exact (by first | exact f.kx | exact f.kx.ext (below_drew (Below.refl _ _)))
            clear hKK KK
            try simp only [Act.put, List.setIfInBounds_toArray, List.set_cons_zero, List.set_cons_succ]
            refine wpAnyH_ready (rs := [12]) (by kernel_rfl) (by simp) ?_
            refine AllReadyH.cons (by simp only [List.getElem?_toArray]; rfl) (fun KK hKK => ?_) AllReadyH.nil
            rw [if_pos (by kernel_rfl)]
            refine wp_stP (.tmp 41) (.tmp 35) rfl ⟨K, 2, none⟩ A7 N7 c7 (by kernel_rfl) (by kernel_rfl) _ f.z.c2 (f.z.fr 2) ?_
            replace f := f.set2 (.slice A7 N7 c7)
            obtain ⟨w196, e⟩ : ∃ w196, w196 = w195.setCell ⟨K, 2, none⟩ (.slice A7 N7 c7) := ⟨_, rfl⟩
            rw [← e] at f ⊢
            clear e
            refine hKK.out _ _ ?_ (fun hHeld => ?_)
            · exact (by first | exact f.kx | exact f.kx.ext (below_drew (Below.refl _ _)))
            clear hKK KK
            try simp only [Act.put]
            refine wpAnyH_take (i := 13) (by simp only [List.getElem?_toArray]; rfl) (by kernel_rfl) (by kernel_rfl) (by kernel_rfl) (by exact fun _ _ _ h => h) (by exact yk (.pointer (some ⟨K, 3, none⟩)) (by kernel_rfl) (fun _ => by kernel_rfl)) hHeld ?_
            refine wpAnyH_ready (rs := [14]) (by kernel_rfl) (by simp) ?_
            refine AllReadyH.cons (by simp only [List.getElem?_toArray]; rfl) (fun KK hKK => ?_) AllReadyH.nil
            rw [if_pos (by kernel_rfl)]
            refine wp_stCs (.tmp 42) (.tmp 40) rfl ⟨K, 3, none⟩ A8 N8 c8 (by kernel_rfl) (by kernel_rfl) _ f.z.c3 (f.z.fr 3) ?_
            replace f := f.set3 (.slice A8 N8 c8)
            obtain ⟨w197, e⟩ : ∃ w197, w197 = w196.setCell ⟨K, 3, none⟩ (.slice A8 N8 c8) := ⟨_, rfl⟩
            rw [← e] at f ⊢
            clear e
            refine hKK.out _ _ ?_ (fun hHeld => ?_)
            · exact (by first | exact f.kx | exact f.kx.ext (below_drew (Below.refl _ _)))
            clear hKK KK
            try simp only [Act.put]
            refine wpAnyH_done (by kernel_rfl) ?_ _
            go_wp2_with fail
            go_meet
            exact ⟨_, _, _, rfl, f.z, f.rp, f.rc, f.q, f.sV, f.b, f.zB⟩
           ·
            rw [if_pos (by kernel_rfl)]
            refine wp_bsB (.tmp 33) rfl (k : Int) (by kernel_rfl) ?_
            obtain ⟨b1, w198, e1, e2, hx1, k1, h⟩ := HA1.out w165 f.kx
            rw [← e1, ← e2]
            replace k2 := Sl.ext k2 h
            replace f := f.ext h
            clear e1 e2 h
            refine hKK.out _ _ ?_ (fun hHeld => ?_)
            · exact (by first | exact f.kx | exact f.kx.ext (below_drew (Below.refl _ _)))
            clear hKK KK
            try simp only [Act.put, List.setIfInBounds_toArray, List.set_cons_zero, List.set_cons_succ]
            refine wpAnyH_ready (rs := [1]) (by kernel_rfl) (by simp) ?_
            refine AllReadyH.cons (by simp only [List.getElem?_toArray]; rfl) (fun KK hKK => ?_) AllReadyH.nil
            rw [if_pos (by kernel_rfl)]
            refine wp_ldP (.tmp 30) rfl ⟨K, 2, none⟩ vp (by kernel_rfl) f.z.c2 ?_
            refine hKK.out _ _ ?_ (fun hHeld => ?_)
            · exact (by first | exact f.kx | exact f.kx.ext (below_drew (Below.refl _ _)))
            clear hKK KK
            try simp only [Act.put, List.setIfInBounds_toArray, List.set_cons_zero, List.set_cons_succ]
            refine wpAnyH_ready (rs := [5]) (by kernel_rfl) (by simp) ?_
            refine AllReadyH.cons (by simp only [List.getElem?_toArray]; rfl) (fun KK hKK => ?_) AllReadyH.nil
            rw [if_pos (by kernel_rfl)]
            refine wp_appB (.tmp 31) (.tmp 34) rfl wB vp _ (by kernel_rfl) f.rp b1 (some ⟨b1, 0, none⟩) 1 1 [UInt8.ofNat k] (by kernel_rfl) k1 rfl HL7.out f.zB ?_
            intro v7 w199 rp' hm
            obtain ⟨A7, c7, b7, hv7, -⟩ := Row.sl rp'
            rw [HN7.out] at hv7
            subst hv7
            replace k2 := sl_far k2 hx2 hplt hm
            replace f := f.app1 hplt rp' hm
            clear k1 hm rp'
            refine hKK.out _ _ ?_ (fun hHeld => ?_)
            · exact (by first | exact f.kx | exact f.kx.ext (below_drew (Below.refl _ _)))
            clear hKK KK
            try simp only [Act.put, List.setIfInBounds_toArray, List.set_cons_zero, List.set_cons_succ]
            refine wpAnyH_take (i := 11) (by simp only [List.getElem?_toArray]; rfl) (by kernel_rfl) (by kernel_rfl) (by kernel_rfl) (by exact fun _ _ _ h => h) (by exact yk (.pointer (some ⟨K, 2, none⟩)) (by kernel_rfl) (fun _ => by kernel_rfl)) hHeld ?_
            refine wpAnyH_ready (rs := [10]) (by kernel_rfl) (by simp) ?_
            refine AllReadyH.cons (by simp only [List.getElem?_toArray]; rfl) (fun KK hKK => ?_) AllReadyH.nil
            rw [if_pos (by kernel_rfl)]
            refine wp_appRC (.tmp 37) (.tmp 39) rfl wB vc _ (by kernel_rfl) f.rc b2 (some ⟨b2, 0, none⟩) 1 1 [(x, y)] (by kernel_rfl) k2 rfl HL8.out f.zB ?_
            intro v8 w200 rc' hm
            obtain ⟨A8, c8, b8, hv8, -⟩ := RowC.sl rc'
            rw [HN8.out] at hv8
            subst hv8
            replace f := f.app2 hclt rc' hm
            clear k2 hm rc'
            refine hKK.out _ _ ?_ (fun hHeld => ?_)
            · exact (by first | exact f.kx | exact f.kx.ext (below_drew (Below.refl _ _)))
            clear hKK KK
            try simp only [Act.put, List.setIfInBounds_toArray, List.set_cons_zero, List.set_cons_succ]
            refine wpAnyH_ready (rs := [12]) (by kernel_rfl) (by simp) ?_
            refine AllReadyH.cons (by simp only [List.getElem?_toArray]; rfl) (fun KK hKK => ?_) AllReadyH.nil
            rw [if_pos (by kernel_rfl)]
            refine wp_stP (.tmp 41) (.tmp 35) rfl ⟨K, 2, none⟩ A7 N7 c7 (by kernel_rfl) (by kernel_rfl) _ f.z.c2 (f.z.fr 2) ?_
            replace f := f.set2 (.slice A7 N7 c7)
            obtain ⟨w201, e⟩ : ∃ w201, w201 = w200.setCell ⟨K, 2, none⟩ (.slice A7 N7 c7) := ⟨_, rfl⟩
            rw [← e] at f ⊢
            clear e
            refine hKK.out _ _ ?_ (fun hHeld => ?_)
            · exact (by first | exact f.kx | exact f.kx.ext (below_drew (Below.refl _ _)))
            clear hKK KK
            try simp only [Act.put]
            refine wpAnyH_take (i := 13) (by simp only [List.getElem?_toArray]; rfl) (by kernel_rfl) (by kernel_rfl) (by kernel_rfl) (by exact fun _ _ _ h => h) (by exact yk (.pointer (some ⟨K, 3, none⟩)) (by kernel_rfl) (fun _ => by kernel_rfl)) hHeld ?_
            refine wpAnyH_ready (rs := [14]) (by kernel_rfl) (by simp) ?_
            refine AllReadyH.cons (by simp only [List.getElem?_toArray]; rfl) (fun KK hKK => ?_) AllReadyH.nil
            rw [if_pos (by kernel_rfl)]
            refine wp_stCs (.tmp 42) (.tmp 40) rfl ⟨K, 3, none⟩ A8 N8 c8 (by kernel_rfl) (by kernel_rfl) _ f.z.c3 (f.z.fr 3) ?_
            replace f := f.set3 (.slice A8 N8 c8)
            obtain ⟨w202, e⟩ : ∃ w202, w202 = w201.setCell ⟨K, 3, none⟩ (.slice A8 N8 c8) := ⟨_, rfl⟩
            rw [← e] at f ⊢
            clear e
            refine hKK.out _ _ ?_ (fun hHeld => ?_)
            · exact (by first | exact f.kx | exact f.kx.ext (below_drew (Below.refl _ _)))
            clear hKK KK
            try simp only [Act.put]
            refine wpAnyH_done (by kernel_rfl) ?_ _
            go_wp2_with fail
            go_meet
            exact ⟨_, _, _, rfl, f.z, f.rp, f.rc, f.q, f.sV, f.b, f.zB⟩
        case rest =>
          obtain ⟨vp', vc', wy, rfl, z, rp, rc, q, hsV, hb, hzB⟩ := hcut
          go_wp2_with fail
          go_roundw
          case rel => exact ⟨k + 1, vp', vc', by omega, by go_num, by rw [HT2.out], z, by rw [PH.out (by trivial)]; exact rp, by rw [CH.out (by trivial)]; exact rc, q, hsV, hb, hzB⟩
          case measure => simp [intOf]; omega
    · obtain rfl : nV = k := by omega
      obtain ⟨A7, c7, b7, hv7, -⟩ := Row.sl rp
      obtain ⟨A8, c8, b8, hv8, -⟩ := RowC.sl rc
      obtain ⟨N7, hN7⟩ : ∃ N7, (placesB t nV).length = N7 := ⟨_, rfl⟩
      obtain ⟨N8, hN8⟩ : ∃ N8, (cellsTo V t nV).length = N8 := ⟨_, rfl⟩
      rw [hN7] at hv7
      rw [hN8] at hv8
      subst hv7 hv8
      have z0 := z.c0
      have z1 := z.c1
      have z2 := z.c2
      have z3 := z.c3
      have y0 := q.c0
      have y1 := q.c1
      have y2 := q.c2
      have y3 := q.c3
      have f0 := q.fr 0
      have f1 := q.fr 1
      have f2 := q.fr 2
      have f3 := q.fr 3
      have hq4 := four_set wr w.heap.size (.int .u32 (tick : Int)) (.int .u32 (H : Int)) (.slice A7 N7 c7) (.slice A8 N8 c8) q
      have hm4 := mod_set4 wr w.heap.size (.int .u32 (tick : Int)) (.int .u32 (H : Int)) (.slice A7 N7 c7) (.slice A8 N8 c8)
      have rp4 := Row.mod rp hm4 (fun i hi h => by have h1 := (World.ownsRow.lt rp i hi).1; have h2 : i = w.heap.size := h; omega)
      have rc4 := RowC.mod rc hm4 (fun i hi h => by have h1 := (World.ownsRow.lt rc i hi).1; have h2 : i = w.heap.size := h; omega)
      have hb4 := hb.trans (hm4.below (B := w.heap.size) hb.size (fun i hi h => by have h : i = w.heap.size := h; omega))
      have HR1 := Lib.hid rp4
      have HR2 := Lib.hid rc4
      clear hN7 hN8 rp rc z rp4 rc4 hm4 hsV
      go_wp2_with fail
      refine bodyPost_ret (results_cell_row (P := Try.prog) rfl _ _ w.heap.size _ _ (0, 0) _ rfl hq4 Try.underlying44 rfl (by kernel_rfl)) rfl ⟨_, _, rfl, ?_, ?_, hb4⟩
      · exact owns_low HR1.out (by omega)
      · exact owns_low HR2.out (by omega)
end Go.Proofs.Ytkhmdknimbbgcaa
