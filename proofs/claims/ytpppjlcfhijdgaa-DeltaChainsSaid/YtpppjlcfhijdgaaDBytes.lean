/- Bytes of a delta that may be. Conditions: those said. -/
import Derived.Test.YtpppjlcfhijdgaaApply
namespace Go.Proofs.Ytpppjlcfhijdgaa
open Go.RowKit

/-- What is written of a delta ahead of its places. -/
def dHead (t h n : Nat) : List UInt8 := low t 4 ++ low h 4 ++ low n 1
/-- What is written of its first k places. -/
def dRows (ps : List UInt8) (cs : List (Int × Nat)) (k : Nat) : List UInt8 := ((ps.zip cs).take k).flatMap fun pc => low pc.1.toNat 1 ++ cellB pc.2
def dB (t h : Nat) (ps : List UInt8) (cs : List (Int × Nat)) : List UInt8 := dHead t h ps.length ++ dRows ps cs ps.length
theorem dRows_succ {ps : List UInt8} {cs : List (Int × Nat)} {k : Nat} (h1 : k < ps.length) (h2 : k < cs.length) : dRows ps cs (k + 1) = dRows ps cs k ++ (low ps[k].toNat 1 ++ cellB cs[k]) := by
  unfold dRows
  rw [List.take_succ_eq_append_getElem (by simp; omega), List.flatMap_append]
  simp
theorem cellB_len (c : Int × Nat) : (cellB c).length = 8 := by simp [cellB]
theorem dRows_len (ps : List UInt8) (cs : List (Int × Nat)) (k : Nat) (h1 : k ≤ ps.length) (h2 : k ≤ cs.length) : (dRows ps cs k).length = 9 * k := by
  induction k with
  | zero => simp [dRows]
  | succ k ih => rw [dRows_succ (by omega) (by omega), List.length_append, ih (by omega) (by omega), List.length_append, cellB_len]; simp; omega
theorem dHead_len (t h n : Nat) : (dHead t h n).length = 9 := by simp [dHead]
theorem dB_len (t h : Nat) (ps : List UInt8) (cs : List (Int × Nat)) (h1 : ps.length = cs.length) : (dB t h ps cs).length = 9 + 9 * ps.length := by
  unfold dB
  rw [List.length_append, dHead_len, dRows_len _ _ _ (Nat.le_refl _) (by omega)]
theorem pen_undrew {g : Nat} {r r' : Option Nat} {a w : World} (h : PenStep g r r' a.drew w) : PenStep g r r' a w := ⟨h.1, h.2.os, h.2.tape, h.2.output, h.2.size, h.2.block⟩
theorem pen_drew {w : World} {g : Nat} {r : Option Nat} {l : List UInt8} (h : PenAt w g r l) : PenAt w.drew g r l := h
theorem boxC_mod {w w' : World} {b : Nat} {x : Int} {y : Nat} {S : Nat → Prop} (h : BoxC w b x y) (hm : Mod S w w') (hs : ¬ S b) : BoxC w' b x y := (hm.block b h.lt hs).trans h
theorem sl_modne {w w' : World} {b : Nat} {A : Option Addr} {L : List (Int × Nat)} (h : Sl w b A (cv L)) {S : Nat → Prop} (hm : Mod S w w') (hs : L ≠ [] → ¬ S b) : Sl w' b A (cv L) := by
  by_cases hl : L = []
  · subst hl; exact Sl.nil_ _ _ _
  · exact Sl.mod h hm (hs hl)
theorem pen_next {g N B : Nat} {r r' : Option Nat} {w w' : World} (hst : PenStep g r r' w w') (hr : ∀ j, r = some j → N ≤ j ∧ j ≠ B) (hN : N ≤ w.heap.size) (hB : B < w.heap.size) : ∀ j, r' = some j → N ≤ j ∧ j ≠ B := fun j hj => by
  rcases hst.1 with h | ⟨q, h, hq⟩
  · exact hr j (h ▸ hj)
  · have e := h.symm.trans hj
    injection e with e
    omega
theorem pen_not {g N B b : Nat} {r : Option Nat} (hr : ∀ j, r = some j → N ≤ j ∧ j ≠ B) (hg : b ≠ g) (hb : b < N ∨ b = B) : ¬(b = g ∨ r = some b) := fun h => by
  rcases h with h | h
  · exact hg h
  · have := hr b h; omega
theorem pen_below {g N B M : Nat} {r r' : Option Nat} {w w' : World} (hst : PenStep g r r' w w') (hr : ∀ j, r = some j → N ≤ j ∧ j ≠ B) (hM : M ≤ w.heap.size) (hg : M ≤ g) (hN : M ≤ N) : Below M w w' :=
  hst.2.below hM fun i hi h => by
    rcases h with h | h
    · omega
    · have := hr i h; omega
set_option maxHeartbeats 16000000 in
set_option maxRecDepth 40000 in
theorem Bytes_yes (t h : Nat) (Ap : Option Addr) (ps : List UInt8) (np cp bp : Nat) (Ac : Option Addr) (cs : List (Int × Nat)) (cc bc : Nat) (w : World)
    (hps : Bs w bp Ap ps) (hpn : ps.length = np) (hcs : Sl w bc Ac (cv cs)) (hcn : cs.length = np) (hl : np ≤ 48) (hr : risesB ps = true) (hoc : okC cs) (ht : t < 4294967296) (hh : h < 4294967296) :
    Calls Try.prog 20 #[.agg (dA t h Ap np cp Ac np cc)] w fun e w' => ∃ v, e = .returned v ∧ Row w' w.heap.size v (dB t h ps cs) ∧ Below w.heap.size w w' := by
  have qd := BoxD.new_ w t h (.slice Ap np cp) (.slice Ac np cc)
  have hb := below_alloc1 w (.cells (dA t h Ap np cp Ac np cc) 38)
  have hlp0 : 0 < np → bp < w.heap.size := fun h0 => Bs.lt hps (by rintro rfl; simp at hpn; omega)
  have hlc0 : 0 < np → bc < w.heap.size := fun h0 => sl_lt hcs (i := 0) (by omega)
  have hps := Sl.ext hps hb
  have hcs := Sl.ext hcs hb
  have hR := fun W hs => Rises_yes t h Ap ps np cp bp Ac np cc true W hs hpn hr (by omega) (by simp)
  have HPN := Lib.hid hpn
  have HCN := Lib.hid hcn
  clear hpn hcn hr
  obtain ⟨e0, e1, e2, e3⟩ := And.intro qd.c0 (And.intro qd.c1 (And.intro qd.c2 qd.c3))
  go_enter Try.func20, Try.ntmps20
  go_wp2_with fail
  (with_reducible refine (hR _ hps).mono ?_)
  rintro e w1 ⟨rfl, h9⟩
  have qd := qd.ext h9
  have hps := Sl.ext hps h9
  have hcs := Sl.ext hcs h9
  have hb := hb.trans (h9.mono hb.size)
  have hz1 := h9.size
  simp at hz1
  clear h9 hR e0 e1 e2 e3
  have h9 := below_alloc1 w1 (.cells #[.slice none 0 0] 85)
  have hp : PenAt (w1.alloc (.cells #[.slice none 0 0] 85)) w1.heap.size none [] := ⟨.slice none 0 0, heap_alloc_new w1 _, Row.nil_ _ _, rfl⟩
  have qd := qd.ext h9
  have hps := Sl.ext hps h9
  have hcs := Sl.ext hcs h9
  have hb := hb.trans (h9.mono hb.size)
  clear h9
  have hzp : w1.heap.size < (w1.alloc (.cells #[.slice none 0 0] 85)).heap.size := by simp
  have hrr : ∀ j, (none : Option Nat) = some j → w1.heap.size ≤ j ∧ j ≠ w.heap.size := fun j hj => by cases hj
  have hnw : IntKind.u8.wrap (np : Int) = (np : Int) := IntWalk.u8_in _ (by omega)
  go_wp2_with fail
  refine wp_region_held_drew (S := fun w' => BoxD w' w.heap.size t h (.slice Ap np cp) (.slice Ac np cc)) (by kernel_rfl) ?_ (fun hHeld => ?_)
  · exact qd
  refine wpAnyH_take (i := 0) (v := ?av0) (by simp only [List.getElem?_toArray, List.getElem?_cons_zero]; rfl) (by kernel_rfl) (by kernel_rfl) (by kernel_rfl) (by exact fun _ _ _ h => h) (Or.inl ⟨by rfl, ?ay0⟩) hHeld ?_
  case ay0 => (intro w hSw; (try dsimp only at hSw); have hy0 := hSw.c0; have hy1 := hSw.c1; have hy2 := hSw.c2; clear hSw; go_simp; try (with_reducible rfl))
  try simp only [Act.put, List.setIfInBounds_toArray, List.set_cons_zero, List.set_cons_succ]
  refine wpAnyH_take (i := 1) (v := ?av1) (by simp only [List.getElem?_toArray, List.getElem?_cons_succ, List.getElem?_cons_zero]; rfl) (by kernel_rfl) (by kernel_rfl) (by kernel_rfl) (by exact fun _ _ _ h => h) (Or.inl ⟨by rfl, ?ay1⟩) hHeld ?_
  case ay1 => (intro w hSw; (try dsimp only at hSw); have hy0 := hSw.c0; have hy1 := hSw.c1; have hy2 := hSw.c2; clear hSw; go_simp; try (with_reducible rfl))
  try simp only [Act.put, List.setIfInBounds_toArray, List.set_cons_zero, List.set_cons_succ]
  refine wpAnyH_take (i := 3) (v := ?av3) (by simp only [List.getElem?_toArray, List.getElem?_cons_succ, List.getElem?_cons_zero]; rfl) (by kernel_rfl) (by kernel_rfl) (by kernel_rfl) (by exact fun _ _ _ h => h) (Or.inl ⟨by rfl, ?ay3⟩) hHeld ?_
  case ay3 => (intro w hSw; (try dsimp only at hSw); have hy0 := hSw.c0; have hy1 := hSw.c1; have hy2 := hSw.c2; clear hSw; go_simp; try (with_reducible rfl))
  try simp only [Act.put, List.setIfInBounds_toArray, List.set_cons_zero, List.set_cons_succ]
  refine wpAnyH_take (i := 4) (v := ?av4) (by simp only [List.getElem?_toArray, List.getElem?_cons_succ, List.getElem?_cons_zero]; rfl) (by kernel_rfl) (by kernel_rfl) (by kernel_rfl) (by exact fun _ _ _ h => h) (Or.inl ⟨by rfl, ?ay4⟩) hHeld ?_
  case ay4 => (intro w hSw; (try dsimp only at hSw); have hy0 := hSw.c0; have hy1 := hSw.c1; have hy2 := hSw.c2; clear hSw; go_simp; try (with_reducible rfl))
  try simp only [Act.put, List.setIfInBounds_toArray, List.set_cons_zero, List.set_cons_succ]
  refine wpAnyH_take (i := 6) (v := ?av6) (by simp only [List.getElem?_toArray, List.getElem?_cons_succ, List.getElem?_cons_zero]; rfl) (by kernel_rfl) (by kernel_rfl) (by kernel_rfl) (by exact fun _ _ _ h => h) (Or.inl ⟨by rfl, ?ay6⟩) hHeld ?_
  case ay6 => (intro w hSw; (try dsimp only at hSw); have hy0 := hSw.c0; have hy1 := hSw.c1; have hy2 := hSw.c2; clear hSw; go_simp; try (with_reducible rfl))
  try simp only [Act.put, List.setIfInBounds_toArray, List.set_cons_zero, List.set_cons_succ]
  refine wpAnyH_take (i := 7) (v := ?av7) (by simp only [List.getElem?_toArray, List.getElem?_cons_succ, List.getElem?_cons_zero]; rfl) (by kernel_rfl) (by kernel_rfl) (by kernel_rfl) (by exact fun _ _ _ h => h) (Or.inl ⟨by rfl, ?ay7⟩) hHeld ?_
  case ay7 => (intro w hSw; (try dsimp only at hSw); have hy0 := hSw.c0; have hy1 := hSw.c1; have hy2 := hSw.c2; clear hSw; go_simp; try (with_reducible rfl))
  try simp only [Act.put, List.setIfInBounds_toArray, List.set_cons_zero, List.set_cons_succ]
  refine wpAnyH_take (i := 8) (v := ?av8) (by simp only [List.getElem?_toArray, List.getElem?_cons_succ, List.getElem?_cons_zero]; rfl) (by kernel_rfl) (by kernel_rfl) (by kernel_rfl) (by exact fun _ _ _ h => h) (Or.inl ⟨by rfl, ?ay8⟩) hHeld ?_
  case ay8 => (intro w hSw; (try dsimp only at hSw); have hy0 := hSw.c0; have hy1 := hSw.c1; have hy2 := hSw.c2; clear hSw; go_simp; try (with_reducible rfl))
  try simp only [Act.put, List.setIfInBounds_toArray, List.set_cons_zero, List.set_cons_succ]
  refine wpAnyH_take (i := 9) (v := ?av9) (by simp only [List.getElem?_toArray, List.getElem?_cons_succ, List.getElem?_cons_zero]; rfl) (by kernel_rfl) (by kernel_rfl) (by kernel_rfl) (by exact fun _ _ _ h => h) (Or.inl ⟨by rfl, ?ay9⟩) hHeld ?_
  case ay9 => (intro w hSw; (try dsimp only at hSw); have hy0 := hSw.c0; have hy1 := hSw.c1; have hy2 := hSw.c2; clear hSw; go_simp; try (with_reducible rfl))
  try simp only [Act.put, List.setIfInBounds_toArray, List.set_cons_zero, List.set_cons_succ]
  refine wpAnyH_ready (rs := [2]) (by kernel_rfl) (by simp) ?_
  refine AllReadyH.cons (by simp only [List.getElem?_toArray, List.getElem?_cons_succ, List.getElem?_cons_zero]; rfl) (fun KK hKK => ?_) AllReadyH.nil
  go_simp
  have hp := pen_drew hp
  (with_reducible refine (PenWord_calls _ none [] t _ hp ht (by simp)).mono ?_)
  rintro e w2 ⟨rfl, r2, hp, hst⟩
  have hst := pen_undrew hst
  have hs9 := hst.2.size
  have hps := Bs.modne hps hst.2 (fun hne => pen_not hrr (by have := hlp0 (by rw [← HPN.out]; exact List.length_pos_iff.2 hne); omega) (.inl (by have := hlp0 (by rw [← HPN.out]; exact List.length_pos_iff.2 hne); omega)))
  have hcs := sl_modne hcs hst.2 (fun hne => pen_not hrr (by have := hlc0 (by rw [← HCN.out]; exact List.length_pos_iff.2 hne); omega) (.inl (by have := hlc0 (by rw [← HCN.out]; exact List.length_pos_iff.2 hne); omega)))
  have qd := qd.mod hst.2 (pen_not hrr (by omega) (.inl (by omega)))
  have hb := hb.trans (pen_below hst hrr (by have := hb.size; omega) (by omega) (by omega))
  have hrr := pen_next hst hrr (by omega) (by omega)
  have hzp := Nat.lt_of_lt_of_le hzp hs9
  clear hst hs9
  go_wp2_with fail
  refine hKK.out _ _ ?_ (fun hHeld => ?_)
  · exact qd
  clear hKK KK
  try simp only [Act.put, List.setIfInBounds_toArray, List.set_cons_zero, List.set_cons_succ]
  refine wpAnyH_ready (rs := [5]) (by kernel_rfl) (by simp) ?_
  refine AllReadyH.cons (by simp only [List.getElem?_toArray, List.getElem?_cons_succ, List.getElem?_cons_zero]; rfl) (fun KK hKK => ?_) AllReadyH.nil
  go_simp
  (with_reducible refine (PenWord_calls _ r2 _ h _ hp hh (by simp)).mono ?_)
  rintro e w3 ⟨rfl, r3, hp, hst⟩
  have hs9 := hst.2.size
  have hps := Bs.modne hps hst.2 (fun hne => pen_not hrr (by have := hlp0 (by rw [← HPN.out]; exact List.length_pos_iff.2 hne); omega) (.inl (by have := hlp0 (by rw [← HPN.out]; exact List.length_pos_iff.2 hne); omega)))
  have hcs := sl_modne hcs hst.2 (fun hne => pen_not hrr (by have := hlc0 (by rw [← HCN.out]; exact List.length_pos_iff.2 hne); omega) (.inl (by have := hlc0 (by rw [← HCN.out]; exact List.length_pos_iff.2 hne); omega)))
  have qd := qd.mod hst.2 (pen_not hrr (by omega) (.inl (by omega)))
  have hb := hb.trans (pen_below hst hrr (by have := hb.size; omega) (by omega) (by omega))
  have hrr := pen_next hst hrr (by omega) (by omega)
  have hzp := Nat.lt_of_lt_of_le hzp hs9
  clear hst hs9
  go_wp2_with fail
  refine hKK.out _ _ ?_ (fun hHeld => ?_)
  · exact qd
  clear hKK KK
  try simp only [Act.put, List.setIfInBounds_toArray, List.set_cons_zero, List.set_cons_succ]
  refine wpAnyH_ready (rs := [10]) (by kernel_rfl) (by simp) ?_
  refine AllReadyH.cons (by simp only [List.getElem?_toArray, List.getElem?_cons_succ, List.getElem?_cons_zero]; rfl) (fun KK hKK => ?_) AllReadyH.nil
  go_simp
  (with_reducible refine (PenByte_calls _ r3 _ np _ hp (by omega) (by simp)).mono ?_)
  rintro e w4 ⟨rfl, r4, hp, hst⟩
  have hs9 := hst.2.size
  have hps := Bs.modne hps hst.2 (fun hne => pen_not hrr (by have := hlp0 (by rw [← HPN.out]; exact List.length_pos_iff.2 hne); omega) (.inl (by have := hlp0 (by rw [← HPN.out]; exact List.length_pos_iff.2 hne); omega)))
  have hcs := sl_modne hcs hst.2 (fun hne => pen_not hrr (by have := hlc0 (by rw [← HCN.out]; exact List.length_pos_iff.2 hne); omega) (.inl (by have := hlc0 (by rw [← HCN.out]; exact List.length_pos_iff.2 hne); omega)))
  have qd := qd.mod hst.2 (pen_not hrr (by omega) (.inl (by omega)))
  have hb := hb.trans (pen_below hst hrr (by have := hb.size; omega) (by omega) (by omega))
  have hrr := pen_next hst hrr (by omega) (by omega)
  have hzp := Nat.lt_of_lt_of_le hzp hs9
  clear hst hs9
  go_wp2_with fail
  refine hKK.out _ _ ?_ (fun hHeld => ?_)
  · exact qd
  clear hKK KK
  try simp only [Act.put, List.setIfInBounds_toArray, List.set_cons_zero, List.set_cons_succ]
  refine wpAnyH_done (by kernel_rfl) ?_ _
  obtain ⟨e2, e3⟩ := And.intro qd.c2 qd.c3
  have hp : PenAt w4 w1.heap.size r4 (dHead t h np ++ dRows ps cs 0) := hp.cast (by simp [dHead, dRows])
  have hl0 := dHead_len t h np
  go_wp2_with fail
  clear e2 e3
  have qd9 := qd
  repeat clear qd
  have hps9 := hps
  repeat clear hps
  have hcs9 := hcs
  repeat clear hcs
  have hp9 := hp
  repeat clear hp
  have hrr9 := hrr
  repeat clear hrr
  have hzp9 := hzp
  repeat clear hzp
  have hb9 := hb
  repeat clear hb
  go_loopw [23] (fun i wr => ∃ (k : Nat) (r : Option Nat), k ≤ np ∧ i = .int .i64 k ∧ BoxD wr w.heap.size t h (.slice Ap np cp) (.slice Ac np cc) ∧ Bs wr bp Ap ps ∧ Sl wr bc Ac (cv cs) ∧ PenAt wr w1.heap.size r (dHead t h np ++ dRows ps cs k) ∧ (∀ j, r = some j → w1.heap.size ≤ j ∧ j ≠ w.heap.size) ∧ w1.heap.size < wr.heap.size ∧ Below w.heap.size w wr) (fun i _ => np - (intOf i).toNat)
  case atStart => exact ⟨0, r4, Nat.zero_le _, rfl, qd9, hps9, hcs9, hp9, hrr9, hzp9, hb9⟩
  case round =>
    clear qd9 hps9 hcs9 hp9 hrr9 hzp9 hb9
    obtain ⟨k, r, hk, rfl, qd, hps, hcs, hp, hrr, hzp, hb⟩ := hrel
    by_cases hlt : k < np
    · have hkp : k < ps.length := by rw [HPN.out]; exact hlt
      have hkc : k < cs.length := by rw [HCN.out]; exact hlt
      have hlp := hlp0 (by omega)
      have hlc := hlc0 (by omega)
      have hrl := dRows_len ps cs k (by omega) (by omega)
      have hsn := dRows_succ hkp hkc
      have hci := okC_get hoc hkc
      obtain ⟨op, rfl, f0⟩ := Bs.at_ hps hkp
      clear f0
      obtain ⟨oc, rfl, f0, f1⟩ := sl_off hcs hkc
      obtain ⟨Pn, hPn⟩ : ∃ Pn, Pn = ps[k].toNat := ⟨_, rfl⟩
      have hP8 : Pn < 256 := by rw [hPn]; exact ps[k].toNat_lt
      obtain ⟨pr, hpr⟩ : ∃ pr, pr = cs[k] := ⟨_, rfl⟩
      rw [← hPn, ← hpr] at hsn
      rw [← hpr] at hci f0 f1
      obtain ⟨x, y⟩ := pr
      simp only at hci f0 f1
      have hu1 := uN_wrap x
      have hu2 := uN_mod x
      have hul := uN_lt x
      have hcb : cellB (x, y) = low (uN x) 4 ++ low y 4 := rfl
      obtain ⟨u, hu⟩ : ∃ u, u = uN x := ⟨_, rfl⟩
      rw [← hu] at hu1 hu2 hul hcb
      rw [hcb] at hsn
      have HS := Lib.hid hsn
      have HP := Lib.hid hPn
      have HRL := Lib.hid hrl
      have HL0 := Lib.hid hl0
      have ej : (k : Int) < (np : Int) := by omega
      clear hu hcb hsn hPn hpr hrl hl0
      have kx := BoxC.new_ wr x y
      have hp0 := hp
      have h9 := below_alloc1 wr (.cells #[.int .i32 x, .int .u32 (y : Int)] 29)
      have hp := PenAt.ext hp h9
      have qd := qd.ext h9
      have hps := Sl.ext hps h9
      have hcs := Sl.ext hcs h9
      have hb := hb.trans (h9.mono hb.size)
      clear h9
      have hrr : ∀ j, r = some j → w1.heap.size ≤ j ∧ j ≠ wr.heap.size := fun j hj => ⟨(hrr j hj).1, by have := PenAt.row_lt hp0 j hj; omega⟩
      have hzw := hzp
      have hzp : wr.heap.size < (wr.alloc (.cells #[.int .i32 x, .int .u32 (y : Int)] 29)).heap.size := by simp
      clear hp0
      go_wp2_with fail
      refine wp_region_held_drew (S := fun w' => BoxD w' w.heap.size t h (.slice (some ⟨bp, op, none⟩) np cp) (.slice (some ⟨bc, oc, none⟩) np cc) ∧ Bs w' bp (some ⟨bp, op, none⟩) ps ∧ BoxC w' wr.heap.size x y) (by kernel_rfl) ?_ (fun hHeld => ?_)
      · exact ⟨qd, hps, kx⟩
      refine wpAnyH_take (i := 0) (v := ?bv0) (by simp only [List.getElem?_toArray, List.getElem?_cons_zero]; rfl) (by kernel_rfl) (by kernel_rfl) (by kernel_rfl) (by exact fun _ _ _ h => h) (Or.inl ⟨by rfl, ?by0⟩) hHeld ?_
      case by0 => (intro w hSw; (try dsimp only at hSw); have hy2 := hSw.1.c2; have hyp := bs_at hSw.2.1 hkp; rw [← HP.out] at hyp; have hyx := hSw.2.2.c0; have hyy := hSw.2.2.c1; clear hSw; go_simp; try (with_reducible rfl))
      try simp only [Act.put, List.setIfInBounds_toArray, List.set_cons_zero, List.set_cons_succ]
      refine wpAnyH_take (i := 1) (v := ?bv1) (by simp only [List.getElem?_toArray, List.getElem?_cons_succ, List.getElem?_cons_zero]; rfl) (by kernel_rfl) (by kernel_rfl) (by kernel_rfl) (by exact fun _ _ _ h => h) (Or.inl ⟨by rfl, ?by1⟩) hHeld ?_
      case by1 => (intro w hSw; (try dsimp only at hSw); have hy2 := hSw.1.c2; have hyp := bs_at hSw.2.1 hkp; rw [← HP.out] at hyp; have hyx := hSw.2.2.c0; have hyy := hSw.2.2.c1; clear hSw; go_simp; try (with_reducible rfl))
      try simp only [Act.put, List.setIfInBounds_toArray, List.set_cons_zero, List.set_cons_succ]
      refine wpAnyH_take (i := 2) (v := ?bv2) (by simp only [List.getElem?_toArray, List.getElem?_cons_succ, List.getElem?_cons_zero]; rfl) (by kernel_rfl) (by kernel_rfl) (by kernel_rfl) (by exact fun _ _ _ h => h) (Or.inl ⟨by rfl, ?by2⟩) hHeld ?_
      case by2 => (intro w hSw; (try dsimp only at hSw); have hy2 := hSw.1.c2; have hyp := bs_at hSw.2.1 hkp; rw [← HP.out] at hyp; have hyx := hSw.2.2.c0; have hyy := hSw.2.2.c1; clear hSw; go_simp; try (with_reducible rfl))
      try simp only [Act.put, List.setIfInBounds_toArray, List.set_cons_zero, List.set_cons_succ]
      refine wpAnyH_take (i := 3) (v := ?bv3) (by simp only [List.getElem?_toArray, List.getElem?_cons_succ, List.getElem?_cons_zero]; rfl) (by kernel_rfl) (by kernel_rfl) (by kernel_rfl) (by exact fun _ _ _ h => h) (Or.inl ⟨by rfl, ?by3⟩) hHeld ?_
      case by3 => (intro w hSw; (try dsimp only at hSw); have hy2 := hSw.1.c2; have hyp := bs_at hSw.2.1 hkp; rw [← HP.out] at hyp; have hyx := hSw.2.2.c0; have hyy := hSw.2.2.c1; clear hSw; go_simp; try (with_reducible rfl))
      try simp only [Act.put, List.setIfInBounds_toArray, List.set_cons_zero, List.set_cons_succ]
      refine wpAnyH_take (i := 4) (v := ?bv4) (by simp only [List.getElem?_toArray, List.getElem?_cons_succ, List.getElem?_cons_zero]; rfl) (by kernel_rfl) (by kernel_rfl) (by kernel_rfl) (by exact fun _ _ _ h => h) (Or.inl ⟨by rfl, ?by4⟩) hHeld ?_
      case by4 => (intro w hSw; (try dsimp only at hSw); have hy2 := hSw.1.c2; have hyp := bs_at hSw.2.1 hkp; rw [← HP.out] at hyp; have hyx := hSw.2.2.c0; have hyy := hSw.2.2.c1; clear hSw; go_simp; try (with_reducible rfl))
      try simp only [Act.put, List.setIfInBounds_toArray, List.set_cons_zero, List.set_cons_succ]
      refine wpAnyH_take (i := 6) (v := ?bv6) (by simp only [List.getElem?_toArray, List.getElem?_cons_succ, List.getElem?_cons_zero]; rfl) (by kernel_rfl) (by kernel_rfl) (by kernel_rfl) (by exact fun _ _ _ h => h) (Or.inl ⟨by rfl, ?by6⟩) hHeld ?_
      case by6 => (intro w hSw; (try dsimp only at hSw); have hy2 := hSw.1.c2; have hyp := bs_at hSw.2.1 hkp; rw [← HP.out] at hyp; have hyx := hSw.2.2.c0; have hyy := hSw.2.2.c1; clear hSw; go_simp; try (with_reducible rfl))
      try simp only [Act.put, List.setIfInBounds_toArray, List.set_cons_zero, List.set_cons_succ]
      refine wpAnyH_take (i := 7) (v := ?bv7) (by simp only [List.getElem?_toArray, List.getElem?_cons_succ, List.getElem?_cons_zero]; rfl) (by kernel_rfl) (by kernel_rfl) (by kernel_rfl) (by exact fun _ _ _ h => h) (Or.inl ⟨by rfl, ?by7⟩) hHeld ?_
      case by7 => (intro w hSw; (try dsimp only at hSw); have hy2 := hSw.1.c2; have hyp := bs_at hSw.2.1 hkp; rw [← HP.out] at hyp; have hyx := hSw.2.2.c0; have hyy := hSw.2.2.c1; clear hSw; go_simp; try (with_reducible rfl))
      try simp only [Act.put, List.setIfInBounds_toArray, List.set_cons_zero, List.set_cons_succ]
      refine wpAnyH_take (i := 8) (v := ?bv8) (by simp only [List.getElem?_toArray, List.getElem?_cons_succ, List.getElem?_cons_zero]; rfl) (by kernel_rfl) (by kernel_rfl) (by kernel_rfl) (by exact fun _ _ _ h => h) (Or.inl ⟨by rfl, ?by8⟩) hHeld ?_
      case by8 => (intro w hSw; (try dsimp only at hSw); have hy2 := hSw.1.c2; have hyp := bs_at hSw.2.1 hkp; rw [← HP.out] at hyp; have hyx := hSw.2.2.c0; have hyy := hSw.2.2.c1; clear hSw; go_simp; try (with_reducible rfl))
      try simp only [Act.put, List.setIfInBounds_toArray, List.set_cons_zero, List.set_cons_succ]
      refine wpAnyH_take (i := 10) (v := ?bv10) (by simp only [List.getElem?_toArray, List.getElem?_cons_succ, List.getElem?_cons_zero]; rfl) (by kernel_rfl) (by kernel_rfl) (by kernel_rfl) (by exact fun _ _ _ h => h) (Or.inl ⟨by rfl, ?by10⟩) hHeld ?_
      case by10 => (intro w hSw; (try dsimp only at hSw); have hy2 := hSw.1.c2; have hyp := bs_at hSw.2.1 hkp; rw [← HP.out] at hyp; have hyx := hSw.2.2.c0; have hyy := hSw.2.2.c1; clear hSw; go_simp; try (with_reducible rfl))
      try simp only [Act.put, List.setIfInBounds_toArray, List.set_cons_zero, List.set_cons_succ]
      refine wpAnyH_take (i := 11) (v := ?bv11) (by simp only [List.getElem?_toArray, List.getElem?_cons_succ, List.getElem?_cons_zero]; rfl) (by kernel_rfl) (by kernel_rfl) (by kernel_rfl) (by exact fun _ _ _ h => h) (Or.inl ⟨by rfl, ?by11⟩) hHeld ?_
      case by11 => (intro w hSw; (try dsimp only at hSw); have hy2 := hSw.1.c2; have hyp := bs_at hSw.2.1 hkp; rw [← HP.out] at hyp; have hyx := hSw.2.2.c0; have hyy := hSw.2.2.c1; clear hSw; go_simp; try (with_reducible rfl))
      try simp only [Act.put, List.setIfInBounds_toArray, List.set_cons_zero, List.set_cons_succ]
      refine wpAnyH_ready (rs := [5]) (by kernel_rfl) (by simp) ?_
      refine AllReadyH.cons (by simp only [List.getElem?_toArray, List.getElem?_cons_succ, List.getElem?_cons_zero]; rfl) (fun KK hKK => ?_) AllReadyH.nil
      go_simp
      have hp := pen_drew hp
      (with_reducible refine (PenByte_calls _ r _ Pn _ hp hP8 (by have := HRL.out; have := HL0.out; simp; omega)).mono ?_)
      rintro e w5 ⟨rfl, r5, hp, hst⟩
      have hst := pen_undrew hst
      have hs9 := hst.2.size
      have hps := Sl.mod hps hst.2 (pen_not hrr (by omega) (.inl (by omega)))
      have hcs := Sl.mod hcs hst.2 (pen_not hrr (by omega) (.inl (by omega)))
      have qd := qd.mod hst.2 (pen_not hrr (by omega) (.inl (by omega)))
      have kx := boxC_mod kx hst.2 (pen_not hrr (by omega) (.inr rfl))
      have hb := hb.trans (pen_below hst hrr (by have := hb.size; omega) (by omega) (by omega))
      have hrr := pen_next hst hrr (by omega) (by omega)
      have hzp := Nat.lt_of_lt_of_le hzp hs9
      clear hst hs9
      go_wp2_with fail
      refine hKK.out _ _ ?_ (fun hHeld => ?_)
      · exact ⟨qd, hps, kx⟩
      clear hKK KK
      try simp only [Act.put, List.setIfInBounds_toArray, List.set_cons_zero, List.set_cons_succ]
      refine wpAnyH_ready (rs := [9]) (by kernel_rfl) (by simp) ?_
      refine AllReadyH.cons (by simp only [List.getElem?_toArray, List.getElem?_cons_succ, List.getElem?_cons_zero]; rfl) (fun KK hKK => ?_) AllReadyH.nil
      go_simp
      (with_reducible refine (PenWord_calls _ r5 _ u _ hp hul (by have := HRL.out; have := HL0.out; simp; omega)).mono ?_)
      rintro e w6 ⟨rfl, r6, hp, hst⟩
      have hs9 := hst.2.size
      have hps := Sl.mod hps hst.2 (pen_not hrr (by omega) (.inl (by omega)))
      have hcs := Sl.mod hcs hst.2 (pen_not hrr (by omega) (.inl (by omega)))
      have qd := qd.mod hst.2 (pen_not hrr (by omega) (.inl (by omega)))
      have kx := boxC_mod kx hst.2 (pen_not hrr (by omega) (.inr rfl))
      have hb := hb.trans (pen_below hst hrr (by have := hb.size; omega) (by omega) (by omega))
      have hrr := pen_next hst hrr (by omega) (by omega)
      have hzp := Nat.lt_of_lt_of_le hzp hs9
      clear hst hs9
      go_wp2_with fail
      refine hKK.out _ _ ?_ (fun hHeld => ?_)
      · exact ⟨qd, hps, kx⟩
      clear hKK KK
      try simp only [Act.put, List.setIfInBounds_toArray, List.set_cons_zero, List.set_cons_succ]
      refine wpAnyH_ready (rs := [12]) (by kernel_rfl) (by simp) ?_
      refine AllReadyH.cons (by simp only [List.getElem?_toArray, List.getElem?_cons_succ, List.getElem?_cons_zero]; rfl) (fun KK hKK => ?_) AllReadyH.nil
      go_simp
      (with_reducible refine (PenWord_calls _ r6 _ y _ hp hci.2 (by have := HRL.out; have := HL0.out; simp; omega)).mono ?_)
      rintro e w7 ⟨rfl, r7, hp, hst⟩
      have hs9 := hst.2.size
      have hps := Sl.mod hps hst.2 (pen_not hrr (by omega) (.inl (by omega)))
      have hcs := Sl.mod hcs hst.2 (pen_not hrr (by omega) (.inl (by omega)))
      have qd := qd.mod hst.2 (pen_not hrr (by omega) (.inl (by omega)))
      have kx := boxC_mod kx hst.2 (pen_not hrr (by omega) (.inr rfl))
      have hb := hb.trans (pen_below hst hrr (by have := hb.size; omega) (by omega) (by omega))
      have hrr := pen_next hst hrr (by omega) (by omega)
      have hzp := Nat.lt_of_lt_of_le hzp hs9
      clear hst hs9
      go_wp2_with fail
      refine hKK.out _ _ ?_ (fun hHeld => ?_)
      · exact ⟨qd, hps, kx⟩
      clear hKK KK
      try simp only [Act.put, List.setIfInBounds_toArray, List.set_cons_zero, List.set_cons_succ]
      refine wpAnyH_done (by kernel_rfl) ?_ _
      have hp : PenAt w7 w1.heap.size r7 (dHead t h np ++ dRows ps cs (k + 1)) := hp.cast (by rw [HS.out]; simp only [List.append_assoc])
      have hrr : ∀ j, r7 = some j → w1.heap.size ≤ j ∧ j ≠ w.heap.size := fun j hj => by have := (hrr j hj).1; omega
      have hzq : w1.heap.size < w7.heap.size := by omega
      go_wp2_with fail
      go_roundw
      case rel => exact ⟨k + 1, r7, by omega, by go_num, qd, hps, hcs, hp, hrr, hzq, hb⟩
      case measure => simp [intOf]; omega
    · obtain rfl : k = np := by omega
      have hfin : dHead t h k ++ dRows ps cs k = dB t h ps cs := by unfold dB; rw [HPN.out]
      rw [hfin] at hp
      have hlen := dB_len t h ps cs (by rw [HPN.out, HCN.out])
      have hlen2 : (dB t h ps cs).length ≤ 1000 := by rw [hlen, HPN.out]; omega
      clear hlen hfin hl0
      go_wp2_with fail
      (with_reducible refine (PenBytes_calls _ r _ _ hp (by omega)).mono ?_)
      rintro e w8 ⟨v8, rfl, hrow, h9⟩
      have hb := hb.trans (h9.mono hb.size)
      have hrow := owns_low hrow (show w.heap.size ≤ _ by omega)
      obtain ⟨A8, c8, b8, hv8, _⟩ := Row.sl hrow
      obtain ⟨N8, hN8⟩ : ∃ N8, N8 = (dB t h ps cs).length := ⟨_, rfl⟩
      rw [← hN8] at hv8
      clear hN8 h9
      subst hv8
      go_wp2_with fail
      go_ret
      exact ⟨_, rfl, hrow, hb⟩
end Go.Proofs.Ytpppjlcfhijdgaa
