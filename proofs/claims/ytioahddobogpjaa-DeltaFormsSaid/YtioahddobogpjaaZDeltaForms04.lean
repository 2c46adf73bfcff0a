/- Parts of one proof, in their order. -/
import Derived.Test.YtioahddobogpjaaZDeltaForms03
import Derived.Test.YtioahddobogpjaaRows
import Derived.BigRegion
import Derived.OrdersHeld
import Derived.Deep.RegionHeld
/- Bytes of a delta that may be. Conditions: those said. -/
namespace Go.Proofs.Ytioahddobogpjaa
open Go.RowKit

/-- What is written of a delta ahead of its places. -/
def dHead (t h n : Nat) : List UInt8 := low t 4 ++ low h 4 ++ low n 1
/-- What is written of its first k places. -/
def dRows (ps : List UInt8) (cs : List (Int × Nat)) (k : Nat) : List UInt8 := ((ps.zip cs).take k).flatMap fun pc => low pc.1.toNat 1 ++ cellB pc.2
def dB (t h : Nat) (ps : List UInt8) (cs : List (Int × Nat)) : List UInt8 := dHead t h ps.length ++ dRows ps cs ps.length
theorem dRows_succ {ps : List UInt8} {cs : List (Int × Nat)} {k : Nat} (h1 : k < ps.length) (h2 : k < cs.length) : dRows ps cs (k + 1) = dRows ps cs k ++ (low ps[k].toNat 1 ++ cellB cs[k]) := by
  unfold dRows
  rw [List.take_succ_eq_append_getElem (by simp; omega), List.flatMap_append]
  simp
theorem cellB_len (c : Int × Nat) : (cellB c).length = 8 := by simp [cellB]
theorem dRows_len (ps : List UInt8) (cs : List (Int × Nat)) (k : Nat) (h1 : k ≤ ps.length) (h2 : k ≤ cs.length) : (dRows ps cs k).length = 9 * k := by
  induction k with
  | zero => simp [dRows]
  | succ k ih => rw [dRows_succ (by omega) (by omega), List.length_append, ih (by omega) (by omega), List.length_append, cellB_len]; simp; omega
theorem dHead_len (t h n : Nat) : (dHead t h n).length = 9 := by simp [dHead]
theorem dB_len (t h : Nat) (ps : List UInt8) (cs : List (Int × Nat)) (h1 : ps.length = cs.length) : (dB t h ps cs).length = 9 + 9 * ps.length := by
  unfold dB
  rw [List.length_append, dHead_len, dRows_len _ _ _ (Nat.le_refl _) (by omega)]
theorem pen_undrew {g : Nat} {r r' : Option Nat} {a w : World} (h : PenStep g r r' a.drew w) : PenStep g r r' a w := ⟨h.1, h.2.os, h.2.tape, h.2.output, h.2.size, h.2.block⟩
theorem pen_drew {w : World} {g : Nat} {r : Option Nat} {l : List UInt8} (h : PenAt w g r l) : PenAt w.drew g r l := h
theorem boxC_mod {w w' : World} {b : Nat} {x : Int} {y : Nat} {S : Nat → Prop} (h : BoxC w b x y) (hm : Mod S w w') (hs : ¬ S b) : BoxC w' b x y := (hm.block b h.lt hs).trans h
theorem sl_modne {w w' : World} {b : Nat} {A : Option Addr} {L : List (Int × Nat)} (h : Sl w b A (cv L)) {S : Nat → Prop} (hm : Mod S w w') (hs : L ≠ [] → ¬ S b) : Sl w' b A (cv L) := by
  by_cases hl : L = []
  · subst hl; exact Sl.nil_ _ _ _
  · exact Sl.mod h hm (hs hl)
theorem pen_next {g N B : Nat} {r r' : Option Nat} {w w' : World} (hst : PenStep g r r' w w') (hr : ∀ j, r = some j → N ≤ j ∧ j ≠ B) (hN : N ≤ w.heap.size) (hB : B < w.heap.size) : ∀ j, r' = some j → N ≤ j ∧ j ≠ B := fun j hj => by
  rcases hst.1 with h | ⟨q, h, hq⟩
  · exact hr j (h ▸ hj)
  · have e := h.symm.trans hj
    injection e with e
    omega
theorem pen_not {g N B b : Nat} {r : Option Nat} (hr : ∀ j, r = some j → N ≤ j ∧ j ≠ B) (hg : b ≠ g) (hb : b < N ∨ b = B) : ¬(b = g ∨ r = some b) := fun h => by
  rcases h with h | h
  · exact hg h
  · have := hr b h; omega
theorem pen_below {g N B M : Nat} {r r' : Option Nat} {w w' : World} (hst : PenStep g r r' w w') (hr : ∀ j, r = some j → N ≤ j ∧ j ≠ B) (hM : M ≤ w.heap.size) (hg : M ≤ g) (hN : M ≤ N) : Below M w w' :=
  hst.2.below hM fun i hi h => by
    rcases h with h | h
    · omega
    · have := hr i h; omega
set_option maxHeartbeats 16000000 in
set_option maxRecDepth 40000 in
theorem Bytes_yes (t h : Nat) (Ap : Option Addr) (ps : List UInt8) (np cp bp : Nat) (Ac : Option Addr) (cs : List (Int × Nat)) (cc bc : Nat) (w : World)
    (hps : Bs w bp Ap ps) (hpn : ps.length = np) (hcs : Sl w bc Ac (cv cs)) (hcn : cs.length = np) (hl : np ≤ 48) (hr : risesB ps = true) (hoc : okC cs) (ht : t < 4294967296) (hh : h < 4294967296) :
    Calls Try.prog 20 #[.agg (dA t h Ap np cp Ac np cc)] w fun e w' => ∃ v, e = .returned v ∧ Row w' w.heap.size v (dB t h ps cs) ∧ Below w.heap.size w w' := by
  have qd := BoxD.new_ w t h (.slice Ap np cp) (.slice Ac np cc)
  have hb := below_alloc1 w (.cells (dA t h Ap np cp Ac np cc) 38)
  have hlp0 : 0 < np → bp < w.heap.size := fun h0 => Bs.lt hps (by rintro rfl; simp at hpn; omega)
  have hlc0 : 0 < np → bc < w.heap.size := fun h0 => sl_lt hcs (i := 0) (by omega)
  have hps := Sl.ext hps hb
  have hcs := Sl.ext hcs hb
  have hR := fun W hs => Rises_yes t h Ap ps np cp bp Ac np cc true W hs hpn hr (by omega) (by simp)
  have HPN := Lib.hid hpn
  have HCN := Lib.hid hcn
  clear hpn hcn hr
  obtain ⟨e0, e1, e2, e3⟩ := And.intro qd.c0 (And.intro qd.c1 (And.intro qd.c2 qd.c3))
  go_enter Try.func20, Try.ntmps20
  go_wp2_with fail
  (with_reducible refine (hR _ hps).mono ?_)
  rintro e w1 ⟨rfl, h9⟩
  have qd := qd.ext h9
  have hps := Sl.ext hps h9
  have hcs := Sl.ext hcs h9
  have hb := hb.trans (h9.mono hb.size)
  have hz1 := h9.size
  simp at hz1
  clear h9 hR e0 e1 e2 e3
  have h9 := below_alloc1 w1 (.cells #[.slice none 0 0] 85)
  have hp : PenAt (w1.alloc (.cells #[.slice none 0 0] 85)) w1.heap.size none [] := ⟨.slice none 0 0, heap_alloc_new w1 _, Row.nil_ _ _, rfl⟩
  have qd := qd.ext h9
  have hps := Sl.ext hps h9
  have hcs := Sl.ext hcs h9
  have hb := hb.trans (h9.mono hb.size)
  clear h9
  have hzp : w1.heap.size < (w1.alloc (.cells #[.slice none 0 0] 85)).heap.size := by simp
  have hrr : ∀ j, (none : Option Nat) = some j → w1.heap.size ≤ j ∧ j ≠ w.heap.size := fun j hj => by cases hj
  have hnw : IntKind.u8.wrap (np : Int) = (np : Int) := IntWalk.u8_in _ (by omega)
  go_wp2_with fail
  refine wp_region_held_drew (S := fun w' => BoxD w' w.heap.size t h (.slice Ap np cp) (.slice Ac np cc)) (by kernel_rfl) ?_ (fun hHeld => ?_)
  · exact qd
  refine wpAnyH_take (i := 0) (v := ?av0) (by simp only [List.getElem?_toArray, List.getElem?_cons_zero]; rfl) (by kernel_rfl) (by kernel_rfl) (by kernel_rfl) (by exact fun _ _ _ h => h) (Or.inl ⟨by rfl, ?ay0⟩) hHeld ?_
  case ay0 => (intro w hSw; (try dsimp only at hSw); have hy0 := hSw.c0; have hy1 := hSw.c1; have hy2 := hSw.c2; clear hSw; go_simp; try (with_reducible rfl))
  try simp only [Act.put, List.setIfInBounds_toArray, List.set_cons_zero, List.set_cons_succ]
  refine wpAnyH_take (i := 1) (v := ?av1) (by simp only [List.getElem?_toArray, List.getElem?_cons_succ, List.getElem?_cons_zero]; rfl) (by kernel_rfl) (by kernel_rfl) (by kernel_rfl) (by exact fun _ _ _ h => h) (Or.inl ⟨by rfl, ?ay1⟩) hHeld ?_
  case ay1 => (intro w hSw; (try dsimp only at hSw); have hy0 := hSw.c0; have hy1 := hSw.c1; have hy2 := hSw.c2; clear hSw; go_simp; try (with_reducible rfl))
  try simp only [Act.put, List.setIfInBounds_toArray, List.set_cons_zero, List.set_cons_succ]
  refine wpAnyH_take (i := 3) (v := ?av3) (by simp only [List.getElem?_toArray, List.getElem?_cons_succ, List.getElem?_cons_zero]; rfl) (by kernel_rfl) (by kernel_rfl) (by kernel_rfl) (by exact fun _ _ _ h => h) (Or.inl ⟨by rfl, ?ay3⟩) hHeld ?_
  case ay3 => (intro w hSw; (try dsimp only at hSw); have hy0 := hSw.c0; have hy1 := hSw.c1; have hy2 := hSw.c2; clear hSw; go_simp; try (with_reducible rfl))
  try simp only [Act.put, List.setIfInBounds_toArray, List.set_cons_zero, List.set_cons_succ]
  refine wpAnyH_take (i := 4) (v := ?av4) (by simp only [List.getElem?_toArray, List.getElem?_cons_succ, List.getElem?_cons_zero]; rfl) (by kernel_rfl) (by kernel_rfl) (by kernel_rfl) (by exact fun _ _ _ h => h) (Or.inl ⟨by rfl, ?ay4⟩) hHeld ?_
  case ay4 => (intro w hSw; (try dsimp only at hSw); have hy0 := hSw.c0; have hy1 := hSw.c1; have hy2 := hSw.c2; clear hSw; go_simp; try (with_reducible rfl))
  try simp only [Act.put, List.setIfInBounds_toArray, List.set_cons_zero, List.set_cons_succ]
  refine wpAnyH_take (i := 6) (v := ?av6) (by simp only [List.getElem?_toArray, List.getElem?_cons_succ, List.getElem?_cons_zero]; rfl) (by kernel_rfl) (by kernel_rfl) (by kernel_rfl) (by exact fun _ _ _ h => h) (Or.inl ⟨by rfl, ?ay6⟩) hHeld ?_
  case ay6 => (intro w hSw; (try dsimp only at hSw); have hy0 := hSw.c0; have hy1 := hSw.c1; have hy2 := hSw.c2; clear hSw; go_simp; try (with_reducible rfl))
  try simp only [Act.put, List.setIfInBounds_toArray, List.set_cons_zero, List.set_cons_succ]
  refine wpAnyH_take (i := 7) (v := ?av7) (by simp only [List.getElem?_toArray, List.getElem?_cons_succ, List.getElem?_cons_zero]; rfl) (by kernel_rfl) (by kernel_rfl) (by kernel_rfl) (by exact fun _ _ _ h => h) (Or.inl ⟨by rfl, ?ay7⟩) hHeld ?_
  case ay7 => (intro w hSw; (try dsimp only at hSw); have hy0 := hSw.c0; have hy1 := hSw.c1; have hy2 := hSw.c2; clear hSw; go_simp; try (with_reducible rfl))
  try simp only [Act.put, List.setIfInBounds_toArray, List.set_cons_zero, List.set_cons_succ]
  refine wpAnyH_take (i := 8) (v := ?av8) (by simp only [List.getElem?_toArray, List.getElem?_cons_succ, List.getElem?_cons_zero]; rfl) (by kernel_rfl) (by kernel_rfl) (by kernel_rfl) (by exact fun _ _ _ h => h) (Or.inl ⟨by rfl, ?ay8⟩) hHeld ?_
  case ay8 => (intro w hSw; (try dsimp only at hSw); have hy0 := hSw.c0; have hy1 := hSw.c1; have hy2 := hSw.c2; clear hSw; go_simp; try (with_reducible rfl))
  try simp only [Act.put, List.setIfInBounds_toArray, List.set_cons_zero, List.set_cons_succ]
  refine wpAnyH_take (i := 9) (v := ?av9) (by simp only [List.getElem?_toArray, List.getElem?_cons_succ, List.getElem?_cons_zero]; rfl) (by kernel_rfl) (by kernel_rfl) (by kernel_rfl) (by exact fun _ _ _ h => h) (Or.inl ⟨by rfl, ?ay9⟩) hHeld ?_
  case ay9 => (intro w hSw; (try dsimp only at hSw); have hy0 := hSw.c0; have hy1 := hSw.c1; have hy2 := hSw.c2; clear hSw; go_simp; try (with_reducible rfl))
  try simp only [Act.put, List.setIfInBounds_toArray, List.set_cons_zero, List.set_cons_succ]
  refine wpAnyH_ready (rs := [2]) (by kernel_rfl) (by simp) ?_
  refine AllReadyH.cons (by simp only [List.getElem?_toArray, List.getElem?_cons_succ, List.getElem?_cons_zero]; rfl) (fun KK hKK => ?_) AllReadyH.nil
  go_simp
  have hp := pen_drew hp
  (with_reducible refine (PenWord_calls _ none [] t _ hp ht (by simp)).mono ?_)
  rintro e w2 ⟨rfl, r2, hp, hst⟩
  have hst := pen_undrew hst
  have hs9 := hst.2.size
  have hps := Bs.modne hps hst.2 (fun hne => pen_not hrr (by have := hlp0 (by rw [← HPN.out]; exact List.length_pos_iff.2 hne); omega) (.inl (by have := hlp0 (by rw [← HPN.out]; exact List.length_pos_iff.2 hne); omega)))
  have hcs := sl_modne hcs hst.2 (fun hne => pen_not hrr (by have := hlc0 (by rw [← HCN.out]; exact List.length_pos_iff.2 hne); omega) (.inl (by have := hlc0 (by rw [← HCN.out]; exact List.length_pos_iff.2 hne); omega)))
  have qd := qd.mod hst.2 (pen_not hrr (by omega) (.inl (by omega)))
  have hb := hb.trans (pen_below hst hrr (by have := hb.size; omega) (by omega) (by omega))
  have hrr := pen_next hst hrr (by omega) (by omega)
  have hzp := Nat.lt_of_lt_of_le hzp hs9
  clear hst hs9
  go_wp2_with fail
  refine hKK.out _ _ ?_ (fun hHeld => ?_)
  · exact qd
  clear hKK KK
  try simp only [Act.put, List.setIfInBounds_toArray, List.set_cons_zero, List.set_cons_succ]
  refine wpAnyH_ready (rs := [5]) (by kernel_rfl) (by simp) ?_
  refine AllReadyH.cons (by simp only [List.getElem?_toArray, List.getElem?_cons_succ, List.getElem?_cons_zero]; rfl) (fun KK hKK => ?_) AllReadyH.nil
  go_simp
  (with_reducible refine (PenWord_calls _ r2 _ h _ hp hh (by simp)).mono ?_)
  rintro e w3 ⟨rfl, r3, hp, hst⟩
  have hs9 := hst.2.size
  have hps := Bs.modne hps hst.2 (fun hne => pen_not hrr (by have := hlp0 (by rw [← HPN.out]; exact List.length_pos_iff.2 hne); omega) (.inl (by have := hlp0 (by rw [← HPN.out]; exact List.length_pos_iff.2 hne); omega)))
  have hcs := sl_modne hcs hst.2 (fun hne => pen_not hrr (by have := hlc0 (by rw [← HCN.out]; exact List.length_pos_iff.2 hne); omega) (.inl (by have := hlc0 (by rw [← HCN.out]; exact List.length_pos_iff.2 hne); omega)))
  have qd := qd.mod hst.2 (pen_not hrr (by omega) (.inl (by omega)))
  have hb := hb.trans (pen_below hst hrr (by have := hb.size; omega) (by omega) (by omega))
  have hrr := pen_next hst hrr (by omega) (by omega)
  have hzp := Nat.lt_of_lt_of_le hzp hs9
  clear hst hs9
  go_wp2_with fail
  refine hKK.out _ _ ?_ (fun hHeld => ?_)
  · exact qd
  clear hKK KK
  try simp only [Act.put, List.setIfInBounds_toArray, List.set_cons_zero, List.set_cons_succ]
  refine wpAnyH_ready (rs := [10]) (by kernel_rfl) (by simp) ?_
  refine AllReadyH.cons (by simp only [List.getElem?_toArray, List.getElem?_cons_succ, List.getElem?_cons_zero]; rfl) (fun KK hKK => ?_) AllReadyH.nil
  go_simp
  (with_reducible refine (PenByte_calls _ r3 _ np _ hp (by omega) (by simp)).mono ?_)
  rintro e w4 ⟨rfl, r4, hp, hst⟩
  have hs9 := hst.2.size
  have hps := Bs.modne hps hst.2 (fun hne => pen_not hrr (by have := hlp0 (by rw [← HPN.out]; exact List.length_pos_iff.2 hne); omega) (.inl (by have := hlp0 (by rw [← HPN.out]; exact List.length_pos_iff.2 hne); omega)))
  have hcs := sl_modne hcs hst.2 (fun hne => pen_not hrr (by have := hlc0 (by rw [← HCN.out]; exact List.length_pos_iff.2 hne); omega) (.inl (by have := hlc0 (by rw [← HCN.out]; exact List.length_pos_iff.2 hne); omega)))
  have qd := qd.mod hst.2 (pen_not hrr (by omega) (.inl (by omega)))
  have hb := hb.trans (pen_below hst hrr (by have := hb.size; omega) (by omega) (by omega))
  have hrr := pen_next hst hrr (by omega) (by omega)
  have hzp := Nat.lt_of_lt_of_le hzp hs9
  clear hst hs9
  go_wp2_with fail
  refine hKK.out _ _ ?_ (fun hHeld => ?_)
  · exact qd
  clear hKK KK
  try simp only [Act.put, List.setIfInBounds_toArray, List.set_cons_zero, List.set_cons_succ]
  refine wpAnyH_done (by kernel_rfl) ?_ _
  obtain ⟨e2, e3⟩ := And.intro qd.c2 qd.c3
  have hp : PenAt w4 w1.heap.size r4 (dHead t h np ++ dRows ps cs 0) := hp.cast (by simp [dHead, dRows])
  have hl0 := dHead_len t h np
  go_wp2_with fail
  clear e2 e3
  have qd9 := qd
  repeat clear qd
  have hps9 := hps
  repeat clear hps
  have hcs9 := hcs
  repeat clear hcs
  have hp9 := hp
  repeat clear hp
  have hrr9 := hrr
  repeat clear hrr
  have hzp9 := hzp
  repeat clear hzp
  have hb9 := hb
  repeat clear hb
  go_loopw [23] (fun i wr => ∃ (k : Nat) (r : Option Nat), k ≤ np ∧ i = .int .i64 k ∧ BoxD wr w.heap.size t h (.slice Ap np cp) (.slice Ac np cc) ∧ Bs wr bp Ap ps ∧ Sl wr bc Ac (cv cs) ∧ PenAt wr w1.heap.size r (dHead t h np ++ dRows ps cs k) ∧ (∀ j, r = some j → w1.heap.size ≤ j ∧ j ≠ w.heap.size) ∧ w1.heap.size < wr.heap.size ∧ Below w.heap.size w wr) (fun i _ => np - (intOf i).toNat)
  case atStart => exact ⟨0, r4, Nat.zero_le _, rfl, qd9, hps9, hcs9, hp9, hrr9, hzp9, hb9⟩
  case round =>
    clear qd9 hps9 hcs9 hp9 hrr9 hzp9 hb9
    obtain ⟨k, r, hk, rfl, qd, hps, hcs, hp, hrr, hzp, hb⟩ := hrel
    by_cases hlt : k < np
    · have hkp : k < ps.length := by rw [HPN.out]; exact hlt
      have hkc : k < cs.length := by rw [HCN.out]; exact hlt
      have hlp := hlp0 (by omega)
      have hlc := hlc0 (by omega)
      have hrl := dRows_len ps cs k (by omega) (by omega)
      have hsn := dRows_succ hkp hkc
      have hci := okC_get hoc hkc
      obtain ⟨op, rfl, f0⟩ := Bs.at_ hps hkp
      clear f0
      obtain ⟨oc, rfl, f0, f1⟩ := sl_off hcs hkc
      obtain ⟨Pn, hPn⟩ : ∃ Pn, Pn = ps[k].toNat := ⟨_, rfl⟩
      have hP8 : Pn < 256 := by rw [hPn]; exact ps[k].toNat_lt
      obtain ⟨pr, hpr⟩ : ∃ pr, pr = cs[k] := ⟨_, rfl⟩
      rw [← hPn, ← hpr] at hsn
      rw [← hpr] at hci f0 f1
      obtain ⟨x, y⟩ := pr
      simp only at hci f0 f1
      have hu1 := uN_wrap x
      have hu2 := uN_mod x
      have hul := uN_lt x
      have hcb : cellB (x, y) = low (uN x) 4 ++ low y 4 := rfl
      obtain ⟨u, hu⟩ : ∃ u, u = uN x := ⟨_, rfl⟩
      rw [← hu] at hu1 hu2 hul hcb
      rw [hcb] at hsn
      have HS := Lib.hid hsn
      have HP := Lib.hid hPn
      have HRL := Lib.hid hrl
      have HL0 := Lib.hid hl0
      have ej : (k : Int) < (np : Int) := by omega
      clear hu hcb hsn hPn hpr hrl hl0
      have kx := BoxC.new_ wr x y
      have hp0 := hp
      have h9 := below_alloc1 wr (.cells #[.int .i32 x, .int .u32 (y : Int)] 29)
      have hp := PenAt.ext hp h9
      have qd := qd.ext h9
      have hps := Sl.ext hps h9
      have hcs := Sl.ext hcs h9
      have hb := hb.trans (h9.mono hb.size)
      clear h9
      have hrr : ∀ j, r = some j → w1.heap.size ≤ j ∧ j ≠ wr.heap.size := fun j hj => ⟨(hrr j hj).1, by have := PenAt.row_lt hp0 j hj; omega⟩
      have hzw := hzp
      have hzp : wr.heap.size < (wr.alloc (.cells #[.int .i32 x, .int .u32 (y : Int)] 29)).heap.size := by simp
      clear hp0
      go_wp2_with fail
      refine wp_region_held_drew (S := fun w' => BoxD w' w.heap.size t h (.slice (some ⟨bp, op, none⟩) np cp) (.slice (some ⟨bc, oc, none⟩) np cc) ∧ Bs w' bp (some ⟨bp, op, none⟩) ps ∧ BoxC w' wr.heap.size x y) (by kernel_rfl) ?_ (fun hHeld => ?_)
      · exact ⟨qd, hps, kx⟩
      refine wpAnyH_take (i := 0) (v := ?bv0) (by simp only [List.getElem?_toArray, List.getElem?_cons_zero]; rfl) (by kernel_rfl) (by kernel_rfl) (by kernel_rfl) (by exact fun _ _ _ h => h) (Or.inl ⟨by rfl, ?by0⟩) hHeld ?_
      case by0 => (intro w hSw; (try dsimp only at hSw); have hy2 := hSw.1.c2; have hyp := bs_at hSw.2.1 hkp; rw [← HP.out] at hyp; have hyx := hSw.2.2.c0; have hyy := hSw.2.2.c1; clear hSw; go_simp; try (with_reducible rfl))
      try simp only [Act.put, List.setIfInBounds_toArray, List.set_cons_zero, List.set_cons_succ]
      refine wpAnyH_take (i := 1) (v := ?bv1) (by simp only [List.getElem?_toArray, List.getElem?_cons_succ, List.getElem?_cons_zero]; rfl) (by kernel_rfl) (by kernel_rfl) (by kernel_rfl) (by exact fun _ _ _ h => h) (Or.inl ⟨by rfl, ?by1⟩) hHeld ?_
      case by1 => (intro w hSw; (try dsimp only at hSw); have hy2 := hSw.1.c2; have hyp := bs_at hSw.2.1 hkp; rw [← HP.out] at hyp; have hyx := hSw.2.2.c0; have hyy := hSw.2.2.c1; clear hSw; go_simp; try (with_reducible rfl))
      try simp only [Act.put, List.setIfInBounds_toArray, List.set_cons_zero, List.set_cons_succ]
      refine wpAnyH_take (i := 2) (v := ?bv2) (by simp only [List.getElem?_toArray, List.getElem?_cons_succ, List.getElem?_cons_zero]; rfl) (by kernel_rfl) (by kernel_rfl) (by kernel_rfl) (by exact fun _ _ _ h => h) (Or.inl ⟨by rfl, ?by2⟩) hHeld ?_
      case by2 => (intro w hSw; (try dsimp only at hSw); have hy2 := hSw.1.c2; have hyp := bs_at hSw.2.1 hkp; rw [← HP.out] at hyp; have hyx := hSw.2.2.c0; have hyy := hSw.2.2.c1; clear hSw; go_simp; try (with_reducible rfl))
      try simp only [Act.put, List.setIfInBounds_toArray, List.set_cons_zero, List.set_cons_succ]
      refine wpAnyH_take (i := 3) (v := ?bv3) (by simp only [List.getElem?_toArray, List.getElem?_cons_succ, List.getElem?_cons_zero]; rfl) (by kernel_rfl) (by kernel_rfl) (by kernel_rfl) (by exact fun _ _ _ h => h) (Or.inl ⟨by rfl, ?by3⟩) hHeld ?_
      case by3 => (intro w hSw; (try dsimp only at hSw); have hy2 := hSw.1.c2; have hyp := bs_at hSw.2.1 hkp; rw [← HP.out] at hyp; have hyx := hSw.2.2.c0; have hyy := hSw.2.2.c1; clear hSw; go_simp; try (with_reducible rfl))
      try simp only [Act.put, List.setIfInBounds_toArray, List.set_cons_zero, List.set_cons_succ]
      refine wpAnyH_take (i := 4) (v := ?bv4) (by simp only [List.getElem?_toArray, List.getElem?_cons_succ, List.getElem?_cons_zero]; rfl) (by kernel_rfl) (by kernel_rfl) (by kernel_rfl) (by exact fun _ _ _ h => h) (Or.inl ⟨by rfl, ?by4⟩) hHeld ?_
      case by4 => (intro w hSw; (try dsimp only at hSw); have hy2 := hSw.1.c2; have hyp := bs_at hSw.2.1 hkp; rw [← HP.out] at hyp; have hyx := hSw.2.2.c0; have hyy := hSw.2.2.c1; clear hSw; go_simp; try (with_reducible rfl))
      try simp only [Act.put, List.setIfInBounds_toArray, List.set_cons_zero, List.set_cons_succ]
      refine wpAnyH_take (i := 6) (v := ?bv6) (by simp only [List.getElem?_toArray, List.getElem?_cons_succ, List.getElem?_cons_zero]; rfl) (by kernel_rfl) (by kernel_rfl) (by kernel_rfl) (by exact fun _ _ _ h => h) (Or.inl ⟨by rfl, ?by6⟩) hHeld ?_
      case by6 => (intro w hSw; (try dsimp only at hSw); have hy2 := hSw.1.c2; have hyp := bs_at hSw.2.1 hkp; rw [← HP.out] at hyp; have hyx := hSw.2.2.c0; have hyy := hSw.2.2.c1; clear hSw; go_simp; try (with_reducible rfl))
      try simp only [Act.put, List.setIfInBounds_toArray, List.set_cons_zero, List.set_cons_succ]
      refine wpAnyH_take (i := 7) (v := ?bv7) (by simp only [List.getElem?_toArray, List.getElem?_cons_succ, List.getElem?_cons_zero]; rfl) (by kernel_rfl) (by kernel_rfl) (by kernel_rfl) (by exact fun _ _ _ h => h) (Or.inl ⟨by rfl, ?by7⟩) hHeld ?_
      case by7 => (intro w hSw; (try dsimp only at hSw); have hy2 := hSw.1.c2; have hyp := bs_at hSw.2.1 hkp; rw [← HP.out] at hyp; have hyx := hSw.2.2.c0; have hyy := hSw.2.2.c1; clear hSw; go_simp; try (with_reducible rfl))
      try simp only [Act.put, List.setIfInBounds_toArray, List.set_cons_zero, List.set_cons_succ]
      refine wpAnyH_take (i := 8) (v := ?bv8) (by simp only [List.getElem?_toArray, List.getElem?_cons_succ, List.getElem?_cons_zero]; rfl) (by kernel_rfl) (by kernel_rfl) (by kernel_rfl) (by exact fun _ _ _ h => h) (Or.inl ⟨by rfl, ?by8⟩) hHeld ?_
      case by8 => (intro w hSw; (try dsimp only at hSw); have hy2 := hSw.1.c2; have hyp := bs_at hSw.2.1 hkp; rw [← HP.out] at hyp; have hyx := hSw.2.2.c0; have hyy := hSw.2.2.c1; clear hSw; go_simp; try (with_reducible rfl))
      try simp only [Act.put, List.setIfInBounds_toArray, List.set_cons_zero, List.set_cons_succ]
      refine wpAnyH_take (i := 10) (v := ?bv10) (by simp only [List.getElem?_toArray, List.getElem?_cons_succ, List.getElem?_cons_zero]; rfl) (by kernel_rfl) (by kernel_rfl) (by kernel_rfl) (by exact fun _ _ _ h => h) (Or.inl ⟨by rfl, ?by10⟩) hHeld ?_
      case by10 => (intro w hSw; (try dsimp only at hSw); have hy2 := hSw.1.c2; have hyp := bs_at hSw.2.1 hkp; rw [← HP.out] at hyp; have hyx := hSw.2.2.c0; have hyy := hSw.2.2.c1; clear hSw; go_simp; try (with_reducible rfl))
      try simp only [Act.put, List.setIfInBounds_toArray, List.set_cons_zero, List.set_cons_succ]
      refine wpAnyH_take (i := 11) (v := ?bv11) (by simp only [List.getElem?_toArray, List.getElem?_cons_succ, List.getElem?_cons_zero]; rfl) (by kernel_rfl) (by kernel_rfl) (by kernel_rfl) (by exact fun _ _ _ h => h) (Or.inl ⟨by rfl, ?by11⟩) hHeld ?_
      case by11 => (intro w hSw; (try dsimp only at hSw); have hy2 := hSw.1.c2; have hyp := bs_at hSw.2.1 hkp; rw [← HP.out] at hyp; have hyx := hSw.2.2.c0; have hyy := hSw.2.2.c1; clear hSw; go_simp; try (with_reducible rfl))
      try simp only [Act.put, List.setIfInBounds_toArray, List.set_cons_zero, List.set_cons_succ]
      refine wpAnyH_ready (rs := [5]) (by kernel_rfl) (by simp) ?_
      refine AllReadyH.cons (by simp only [List.getElem?_toArray, List.getElem?_cons_succ, List.getElem?_cons_zero]; rfl) (fun KK hKK => ?_) AllReadyH.nil
      go_simp
      have hp := pen_drew hp
      (with_reducible refine (PenByte_calls _ r _ Pn _ hp hP8 (by have := HRL.out; have := HL0.out; simp; omega)).mono ?_)
      rintro e w5 ⟨rfl, r5, hp, hst⟩
      have hst := pen_undrew hst
      have hs9 := hst.2.size
      have hps := Sl.mod hps hst.2 (pen_not hrr (by omega) (.inl (by omega)))
      have hcs := Sl.mod hcs hst.2 (pen_not hrr (by omega) (.inl (by omega)))
      have qd := qd.mod hst.2 (pen_not hrr (by omega) (.inl (by omega)))
      have kx := boxC_mod kx hst.2 (pen_not hrr (by omega) (.inr rfl))
      have hb := hb.trans (pen_below hst hrr (by have := hb.size; omega) (by omega) (by omega))
      have hrr := pen_next hst hrr (by omega) (by omega)
      have hzp := Nat.lt_of_lt_of_le hzp hs9
      clear hst hs9
      go_wp2_with fail
      refine hKK.out _ _ ?_ (fun hHeld => ?_)
      · exact ⟨qd, hps, kx⟩
      clear hKK KK
      try simp only [Act.put, List.setIfInBounds_toArray, List.set_cons_zero, List.set_cons_succ]
      refine wpAnyH_ready (rs := [9]) (by kernel_rfl) (by simp) ?_
      refine AllReadyH.cons (by simp only [List.getElem?_toArray, List.getElem?_cons_succ, List.getElem?_cons_zero]; rfl) (fun KK hKK => ?_) AllReadyH.nil
      go_simp
      (with_reducible refine (PenWord_calls _ r5 _ u _ hp hul (by have := HRL.out; have := HL0.out; simp; omega)).mono ?_)
      rintro e w6 ⟨rfl, r6, hp, hst⟩
      have hs9 := hst.2.size
      have hps := Sl.mod hps hst.2 (pen_not hrr (by omega) (.inl (by omega)))
      have hcs := Sl.mod hcs hst.2 (pen_not hrr (by omega) (.inl (by omega)))
      have qd := qd.mod hst.2 (pen_not hrr (by omega) (.inl (by omega)))
      have kx := boxC_mod kx hst.2 (pen_not hrr (by omega) (.inr rfl))
      have hb := hb.trans (pen_below hst hrr (by have := hb.size; omega) (by omega) (by omega))
      have hrr := pen_next hst hrr (by omega) (by omega)
      have hzp := Nat.lt_of_lt_of_le hzp hs9
      clear hst hs9
      go_wp2_with fail
      refine hKK.out _ _ ?_ (fun hHeld => ?_)
      · exact ⟨qd, hps, kx⟩
      clear hKK KK
      try simp only [Act.put, List.setIfInBounds_toArray, List.set_cons_zero, List.set_cons_succ]
      refine wpAnyH_ready (rs := [12]) (by kernel_rfl) (by simp) ?_
      refine AllReadyH.cons (by simp only [List.getElem?_toArray, List.getElem?_cons_succ, List.getElem?_cons_zero]; rfl) (fun KK hKK => ?_) AllReadyH.nil
      go_simp
      (with_reducible refine (PenWord_calls _ r6 _ y _ hp hci.2 (by have := HRL.out; have := HL0.out; simp; omega)).mono ?_)
      rintro e w7 ⟨rfl, r7, hp, hst⟩
      have hs9 := hst.2.size
      have hps := Sl.mod hps hst.2 (pen_not hrr (by omega) (.inl (by omega)))
      have hcs := Sl.mod hcs hst.2 (pen_not hrr (by omega) (.inl (by omega)))
      have qd := qd.mod hst.2 (pen_not hrr (by omega) (.inl (by omega)))
      have kx := boxC_mod kx hst.2 (pen_not hrr (by omega) (.inr rfl))
      have hb := hb.trans (pen_below hst hrr (by have := hb.size; omega) (by omega) (by omega))
      have hrr := pen_next hst hrr (by omega) (by omega)
      have hzp := Nat.lt_of_lt_of_le hzp hs9
      clear hst hs9
      go_wp2_with fail
      refine hKK.out _ _ ?_ (fun hHeld => ?_)
      · exact ⟨qd, hps, kx⟩
      clear hKK KK
      try simp only [Act.put, List.setIfInBounds_toArray, List.set_cons_zero, List.set_cons_succ]
      refine wpAnyH_done (by kernel_rfl) ?_ _
      have hp : PenAt w7 w1.heap.size r7 (dHead t h np ++ dRows ps cs (k + 1)) := hp.cast (by rw [HS.out]; simp only [List.append_assoc])
      have hrr : ∀ j, r7 = some j → w1.heap.size ≤ j ∧ j ≠ w.heap.size := fun j hj => by have := (hrr j hj).1; omega
      have hzq : w1.heap.size < w7.heap.size := by omega
      go_wp2_with fail
      go_roundw
      case rel => exact ⟨k + 1, r7, by omega, by go_num, qd, hps, hcs, hp, hrr, hzq, hb⟩
      case measure => simp [intOf]; omega
    · obtain rfl : k = np := by omega
      have hfin : dHead t h k ++ dRows ps cs k = dB t h ps cs := by unfold dB; rw [HPN.out]
      rw [hfin] at hp
      have hlen := dB_len t h ps cs (by rw [HPN.out, HCN.out])
      have hlen2 : (dB t h ps cs).length ≤ 1000 := by rw [hlen, HPN.out]; omega
      clear hlen hfin hl0
      go_wp2_with fail
      (with_reducible refine (PenBytes_calls _ r _ _ hp (by omega)).mono ?_)
      rintro e w8 ⟨v8, rfl, hrow, h9⟩
      have hb := hb.trans (h9.mono hb.size)
      have hrow := owns_low hrow (show w.heap.size ≤ _ by omega)
      obtain ⟨A8, c8, b8, hv8, _⟩ := Row.sl hrow
      obtain ⟨N8, hN8⟩ : ∃ N8, N8 = (dB t h ps cs).length := ⟨_, rfl⟩
      rw [← hN8] at hv8
      clear hN8 h9
      subst hv8
      go_wp2_with fail
      go_ret
      exact ⟨_, rfl, hrow, hb⟩
end Go.Proofs.Ytioahddobogpjaa
/- The reference's Same: it returns whether two lists of bytes are alike, and writes nothing. Condition: the lengths fit. -/
namespace Go.Proofs.Ytioahddobogpjaa
open Go.RowKit

theorem take_succ_eq (a b : List UInt8) (k : Nat) (ha : k < a.length) (hb : k < b.length) : (a.take (k + 1) = b.take (k + 1)) ↔ (a.take k = b.take k ∧ a[k] = b[k]) := by
  rw [List.take_succ_eq_append_getElem ha, List.take_succ_eq_append_getElem hb]
  constructor
  · intro h
    have := List.append_inj h (by simp; omega)
    exact ⟨this.1, by simpa using this.2⟩
  · rintro ⟨h1, h2⟩
    rw [h1, h2]

set_option maxHeartbeats 400000 in
theorem Same_calls (A B : Option Addr) (a b : List UInt8) (n m ca cb ba bb : Nat) (w : World) (ha : Bs w ba A a) (hb : Bs w bb B b) (hn : a.length = n) (hm : b.length = m) (h1 : n ≤ maxLen) (_h2 : m ≤ maxLen) :
    Calls Try.prog 27 #[.slice A n ca, .slice B m cb] w fun e w' => e = .returned (.bool (decide (a = b))) ∧ ∃ k, w' = w.drewN k := by
  unfold maxLen at h1
  by_cases hlen : n = m
  · subst hlen
    have hne : ((n : Int) != (n : Int)) = false := by simp
    have HN := Lib.hid hn
    have HM := Lib.hid hm
    clear hn hm
    go_enter Try.func27, Try.ntmps27
    go_wp2
    go_loopw [13] (fun i wr => ∃ k : Nat, k ≤ n ∧ i = .int .i64 k ∧ Hid (a.take k = b.take k) ∧ ∃ d, wr = w.drewN d) (fun i _ => n - (intOf i).toNat)
    case atStart => exact ⟨0, Nat.zero_le _, rfl, rfl, 0, rfl⟩
    case round =>
      obtain ⟨k, hk, rfl, hpre, d, rfl⟩ := hrel
      by_cases hlt : k < n
      · obtain ⟨oa, rfl, hca⟩ := ha.at_ (k := k) (by rw [HN.out]; exact hlt)
        obtain ⟨ob, rfl, hcb⟩ := hb.at_ (k := k) (by rw [HM.out]; exact hlt)
        have ca := hca k (by rw [HN.out]; exact hlt)
        have cb := hcb k (by rw [HM.out]; exact hlt)
        have ka : k < a.length := by rw [HN.out]; exact hlt
        have kb : k < b.length := by rw [HM.out]; exact hlt
        have ts := Lib.hid (take_succ_eq a b k ka kb)
        clear hca hcb
        have e18 : ((n : Int) ≤ 9223372036854775807) := by omega
        by_cases hx : a[k] = b[k]
        · have hq : ((a[k].toNat : Int) != (b[k].toNat : Int)) = false := by simp [hx]
          go_wp2
          go_quiet (fail)
          go_wp2
          go_roundw
          case rel => exact ⟨k + 1, by omega, by go_num, Lib.hid (ts.out.2 ⟨hpre.out, hx⟩), _, rfl⟩
          case measure => simp [intOf]; omega
        · have hq : ((a[k].toNat : Int) != (b[k].toNat : Int)) = true := by
            simp only [bne_iff_ne, ne_eq]
            intro he
            exact hx (UInt8.toNat_inj.1 (by omega))
          go_wp2
          go_quiet (fail)
          go_wp2
          go_ret
          have hab : decide (a = b) = false := by
            simp only [decide_eq_false_iff_not]
            rintro rfl
            exact hx rfl
          exact ⟨by rw [hab]; rfl, _, by first | rfl | exact World.drewN_drewN _ _ _⟩
      · go_wp2
        go_ret
        have hkn : k = n := by omega
        have hab : decide (a = b) = true := by
          simp only [decide_eq_true_eq]
          have := hpre.out
          rw [hkn, List.take_of_length_le (by rw [HN.out]; exact Nat.le_refl _), List.take_of_length_le (by rw [HM.out]; exact Nat.le_refl _)] at this
          exact this
        exact ⟨by rw [hab]; rfl, _, by first | rfl | exact World.drewN_drewN _ _ _⟩
  · have hne : ((n : Int) != (m : Int)) = true := by simp only [bne_iff_ne, ne_eq]; omega
    have hd : decide (a = b) = false := by simp only [decide_eq_false_iff_not]; rintro rfl; omega
    go_enter Try.func27, Try.ntmps27
    go_wp2
    go_ret
    exact ⟨by rw [hd]; rfl, 0, rfl⟩
end Go.Proofs.Ytioahddobogpjaa
/- A delta as the document has it; the document's Same. Conditions: those said. -/
namespace Go.Proofs.Ytioahddobogpjaa
open Go.RowKit

theorem mod_set4 (w : World) (g : Nat) (a b c d : Value) : Mod (fun i => i = g) w ((((w.setCell ⟨g, 0, none⟩ a).setCell ⟨g, 1, none⟩ b).setCell ⟨g, 2, none⟩ c).setCell ⟨g, 3, none⟩ d) := by
  have s : ∀ (W : World) (j : Nat) (v : Value), Mod (fun i => i = g) W (W.setCell ⟨g, j, none⟩ v) := fun W j v => Mod.setCell W ⟨g, j, none⟩ v
  have t2 : Mod (fun i => i = g) w ((w.setCell ⟨g, 0, none⟩ a).setCell ⟨g, 1, none⟩ b) := (s w 0 a).trans (s _ 1 b) (fun _ _ h => h) (fun _ _ h => h)
  have t3 : Mod (fun i => i = g) w (((w.setCell ⟨g, 0, none⟩ a).setCell ⟨g, 1, none⟩ b).setCell ⟨g, 2, none⟩ c) := t2.trans (s _ 2 c) (fun _ _ h => h) (fun _ _ h => h)
  exact t3.trans (s _ 3 d) (fun _ _ h => h) (fun _ _ h => h)
set_option maxHeartbeats 16000000 in
set_option maxRecDepth 20000 in
theorem DOwn_calls (t h : Nat) (Ap : Option Addr) (np cp : Nat) (Ac : Option Addr) (cs : List (Int × Nat)) (nc cc bc : Nat) (w : World) (hcs : Sl w bc Ac (cv cs)) (hcn : cs.length = nc) (hm : nc ≤ 1000000) :
    Calls Try.prog 14 #[.agg (dA t h Ap np cp Ac nc cc)] w fun e w' => ∃ vc, e = .returned (.agg #[.int .u32 (t : Int), .int .u32 (h : Int), .slice Ap np cp, vc]) ∧ RowC 83 w' w.heap.size vc cs ∧ Below w.heap.size w w' := by
  have hC := fun W h => Own_calls Ac cs nc cc bc W h hcn hm
  have hb := below_alloc2 w (.cells #[.int .u32 (t : Int), .int .u32 (h : Int), .slice Ap np cp, .slice Ac nc cc] 38) (.cells #[.int .u32 0, .int .u32 0, .slice none 0 0, .slice none 0 0] 44)
  have kA : ((w.alloc (.cells #[.int .u32 (t : Int), .int .u32 (h : Int), .slice Ap np cp, .slice Ac nc cc] 38)).alloc (.cells #[.int .u32 0, .int .u32 0, .slice none 0 0, .slice none 0 0] 44)).heap[w.heap.size]? = some (.cells #[.int .u32 (t : Int), .int .u32 (h : Int), .slice Ap np cp, .slice Ac nc cc] 38 (0, 0)) := (Below.heap_alloc _ (.cells #[.int .u32 0, .int .u32 0, .slice none 0 0, .slice none 0 0] 44) _ (by simp)).trans (heap_alloc_new w _)
  have kR := heap_alloc_new (w.alloc (.cells #[.int .u32 (t : Int), .int .u32 (h : Int), .slice Ap np cp, .slice Ac nc cc] 38)) (.cells #[.int .u32 0, .int .u32 0, .slice none 0 0, .slice none 0 0] 44)
  rw [World.size_alloc] at kR
  have hcs := Sl.ext hcs hb
  obtain ⟨wz, hwz⟩ : ∃ wz, wz = (w.alloc (.cells #[.int .u32 (t : Int), .int .u32 (h : Int), .slice Ap np cp, .slice Ac nc cc] 38)).alloc (.cells #[.int .u32 0, .int .u32 0, .slice none 0 0, .slice none 0 0] 44) := ⟨_, rfl⟩
  go_enter Try.func14, Try.ntmps14
  go_wp2_with fail
  rw [← hwz] at hb kA kR hcs ⊢
  clear hwz
  refine wp_region_held_drew (S := fun w' => w'.heap[w.heap.size]? = some (.cells #[.int .u32 (t : Int), .int .u32 (h : Int), .slice Ap np cp, .slice Ac nc cc] 38 (0, 0)) ∧ ∃ cs : Array Value, w'.heap[w.heap.size + 1]? = some (.cells cs 44 (0, 0))) (by kernel_rfl) ?_ (fun hHeld => ?_)
  · exact ⟨kA, _, kR⟩
  refine wpAnyH_take (i := 0) (v := ?zv0) (by simp only [List.getElem?_toArray, List.getElem?_cons_zero]; rfl) (by kernel_rfl) (by kernel_rfl) (by kernel_rfl) (by exact fun _ _ _ h => h) (Or.inl ⟨by rfl, ?zy0⟩) hHeld ?_
  case zy0 => (intro w hSw; (try dsimp only at hSw); have hy0 := (cell_of_row _ _ 0 _ _ _ hSw.1).trans (show _ = some _ from rfl); have hy1 := (cell_of_row _ _ 1 _ _ _ hSw.1).trans (show _ = some _ from rfl); have hy2 := (cell_of_row _ _ 2 _ _ _ hSw.1).trans (show _ = some _ from rfl); have hy3 := (cell_of_row _ _ 3 _ _ _ hSw.1).trans (show _ = some _ from rfl); clear hSw; go_simp; try (with_reducible rfl))
  try simp only [Act.put, List.setIfInBounds_toArray, List.set_cons_zero, List.set_cons_succ]
  refine wpAnyH_take (i := 1) (v := ?zv1) (by simp only [List.getElem?_toArray, List.getElem?_cons_succ, List.getElem?_cons_zero]; rfl) (by kernel_rfl) (by kernel_rfl) (by kernel_rfl) (by exact fun _ _ _ h => h) (Or.inl ⟨by rfl, ?zy1⟩) hHeld ?_
  case zy1 => (intro w hSw; (try dsimp only at hSw); have hy0 := (cell_of_row _ _ 0 _ _ _ hSw.1).trans (show _ = some _ from rfl); have hy1 := (cell_of_row _ _ 1 _ _ _ hSw.1).trans (show _ = some _ from rfl); have hy2 := (cell_of_row _ _ 2 _ _ _ hSw.1).trans (show _ = some _ from rfl); have hy3 := (cell_of_row _ _ 3 _ _ _ hSw.1).trans (show _ = some _ from rfl); clear hSw; go_simp; try (with_reducible rfl))
  try simp only [Act.put, List.setIfInBounds_toArray, List.set_cons_zero, List.set_cons_succ]
  refine wpAnyH_take (i := 2) (v := ?zv2) (by simp only [List.getElem?_toArray, List.getElem?_cons_succ, List.getElem?_cons_zero]; rfl) (by kernel_rfl) (by kernel_rfl) (by kernel_rfl) (by exact fun _ _ _ h => h) (Or.inl ⟨by rfl, ?zy2⟩) hHeld ?_
  case zy2 => (intro w hSw; (try dsimp only at hSw); have hy0 := (cell_of_row _ _ 0 _ _ _ hSw.1).trans (show _ = some _ from rfl); have hy1 := (cell_of_row _ _ 1 _ _ _ hSw.1).trans (show _ = some _ from rfl); have hy2 := (cell_of_row _ _ 2 _ _ _ hSw.1).trans (show _ = some _ from rfl); have hy3 := (cell_of_row _ _ 3 _ _ _ hSw.1).trans (show _ = some _ from rfl); clear hSw; go_simp; try (with_reducible rfl))
  try simp only [Act.put, List.setIfInBounds_toArray, List.set_cons_zero, List.set_cons_succ]
  refine wpAnyH_take (i := 3) (v := ?zv3) (by simp only [List.getElem?_toArray, List.getElem?_cons_succ, List.getElem?_cons_zero]; rfl) (by kernel_rfl) (by kernel_rfl) (by kernel_rfl) (by exact fun _ _ _ h => h) (Or.inl ⟨by rfl, ?zy3⟩) hHeld ?_
  case zy3 => (intro w hSw; (try dsimp only at hSw); have hy0 := (cell_of_row _ _ 0 _ _ _ hSw.1).trans (show _ = some _ from rfl); have hy1 := (cell_of_row _ _ 1 _ _ _ hSw.1).trans (show _ = some _ from rfl); have hy2 := (cell_of_row _ _ 2 _ _ _ hSw.1).trans (show _ = some _ from rfl); have hy3 := (cell_of_row _ _ 3 _ _ _ hSw.1).trans (show _ = some _ from rfl); clear hSw; go_simp; try (with_reducible rfl))
  try simp only [Act.put, List.setIfInBounds_toArray, List.set_cons_zero, List.set_cons_succ]
  refine wpAnyH_take (i := 4) (v := ?zv4) (by simp only [List.getElem?_toArray, List.getElem?_cons_succ, List.getElem?_cons_zero]; rfl) (by kernel_rfl) (by kernel_rfl) (by kernel_rfl) (by exact fun _ _ _ h => h) (Or.inl ⟨by rfl, ?zy4⟩) hHeld ?_
  case zy4 => (intro w hSw; (try dsimp only at hSw); have hy0 := (cell_of_row _ _ 0 _ _ _ hSw.1).trans (show _ = some _ from rfl); have hy1 := (cell_of_row _ _ 1 _ _ _ hSw.1).trans (show _ = some _ from rfl); have hy2 := (cell_of_row _ _ 2 _ _ _ hSw.1).trans (show _ = some _ from rfl); have hy3 := (cell_of_row _ _ 3 _ _ _ hSw.1).trans (show _ = some _ from rfl); clear hSw; go_simp; try (with_reducible rfl))
  try simp only [Act.put, List.setIfInBounds_toArray, List.set_cons_zero, List.set_cons_succ]
  refine wpAnyH_take (i := 5) (v := ?zv5) (by simp only [List.getElem?_toArray, List.getElem?_cons_succ, List.getElem?_cons_zero]; rfl) (by kernel_rfl) (by kernel_rfl) (by kernel_rfl) (by exact fun _ _ _ h => h) (Or.inl ⟨by rfl, ?zy5⟩) hHeld ?_
  case zy5 => (intro w hSw; (try dsimp only at hSw); have hy0 := (cell_of_row _ _ 0 _ _ _ hSw.1).trans (show _ = some _ from rfl); have hy1 := (cell_of_row _ _ 1 _ _ _ hSw.1).trans (show _ = some _ from rfl); have hy2 := (cell_of_row _ _ 2 _ _ _ hSw.1).trans (show _ = some _ from rfl); have hy3 := (cell_of_row _ _ 3 _ _ _ hSw.1).trans (show _ = some _ from rfl); clear hSw; go_simp; try (with_reducible rfl))
  try simp only [Act.put, List.setIfInBounds_toArray, List.set_cons_zero, List.set_cons_succ]
  refine wpAnyH_take (i := 6) (v := ?zv6) (by simp only [List.getElem?_toArray, List.getElem?_cons_succ, List.getElem?_cons_zero]; rfl) (by kernel_rfl) (by kernel_rfl) (by kernel_rfl) (by exact fun _ _ _ h => h) (Or.inl ⟨by rfl, ?zy6⟩) hHeld ?_
  case zy6 => (intro w hSw; (try dsimp only at hSw); have hy0 := (cell_of_row _ _ 0 _ _ _ hSw.1).trans (show _ = some _ from rfl); have hy1 := (cell_of_row _ _ 1 _ _ _ hSw.1).trans (show _ = some _ from rfl); have hy2 := (cell_of_row _ _ 2 _ _ _ hSw.1).trans (show _ = some _ from rfl); have hy3 := (cell_of_row _ _ 3 _ _ _ hSw.1).trans (show _ = some _ from rfl); clear hSw; go_simp; try (with_reducible rfl))
  try simp only [Act.put, List.setIfInBounds_toArray, List.set_cons_zero, List.set_cons_succ]
  refine wpAnyH_take (i := 7) (v := ?zv7) (by simp only [List.getElem?_toArray, List.getElem?_cons_succ, List.getElem?_cons_zero]; rfl) (by kernel_rfl) (by kernel_rfl) (by kernel_rfl) (by exact fun _ _ _ h => h) (Or.inl ⟨by rfl, ?zy7⟩) hHeld ?_
  case zy7 => (intro w hSw; (try dsimp only at hSw); have hy0 := (cell_of_row _ _ 0 _ _ _ hSw.1).trans (show _ = some _ from rfl); have hy1 := (cell_of_row _ _ 1 _ _ _ hSw.1).trans (show _ = some _ from rfl); have hy2 := (cell_of_row _ _ 2 _ _ _ hSw.1).trans (show _ = some _ from rfl); have hy3 := (cell_of_row _ _ 3 _ _ _ hSw.1).trans (show _ = some _ from rfl); clear hSw; go_simp; try (with_reducible rfl))
  try simp only [Act.put, List.setIfInBounds_toArray, List.set_cons_zero, List.set_cons_succ]
  refine wpAnyH_ready (rs := [8]) (by kernel_rfl) (by simp) ?_
  refine AllReadyH.cons (by simp only [List.getElem?_toArray, List.getElem?_cons_succ, List.getElem?_cons_zero]; rfl) (fun KK hKK => ?_) AllReadyH.nil
  go_simp
  (with_reducible refine (hC _ (Sl.drew hcs)).mono ?_)
  rintro e w6 ⟨vc, rfl, hrow, h9⟩
  obtain ⟨vA, vn, vcc, rfl⟩ : ∃ A n c, vc = .slice A n c := by
    obtain ⟨A, c, b, e, -⟩ := RowC.sl hrow
    exact ⟨A, _, c, e⟩
  have h9 := below_undrew2 h9
  have kA := (h9.block _ (Array.getElem?_eq_some_iff.1 kA).1).trans kA
  have kR := (h9.block _ (Array.getElem?_eq_some_iff.1 kR).1).trans kR
  have hsz := hb.size
  have hrow := owns_low hrow (show w.heap.size ≤ _ from hsz)
  have hb := hb.trans (h9.mono hb.size)
  clear h9 hcs hC
  go_wp2_with fail
  refine hKK.out _ _ ?_ (fun hHeld => ?_)
  · exact ⟨kA, _, kR⟩
  clear hKK KK
  try simp only [Act.put, List.setIfInBounds_toArray, List.set_cons_zero, List.set_cons_succ]
  refine wpAnyH_take (i := 9) (v := ?zv9) (by simp only [List.getElem?_toArray, List.getElem?_cons_succ, List.getElem?_cons_zero]; rfl) (by kernel_rfl) (by kernel_rfl) (by kernel_rfl) (by exact fun _ _ _ h => h) (Or.inl ⟨by rfl, ?zy9⟩) hHeld ?_
  case zy9 => (intro w hSw; (try dsimp only at hSw); have hy0 := (cell_of_row _ _ 0 _ _ _ hSw.1).trans (show _ = some _ from rfl); have hy1 := (cell_of_row _ _ 1 _ _ _ hSw.1).trans (show _ = some _ from rfl); have hy2 := (cell_of_row _ _ 2 _ _ _ hSw.1).trans (show _ = some _ from rfl); have hy3 := (cell_of_row _ _ 3 _ _ _ hSw.1).trans (show _ = some _ from rfl); clear hSw; go_simp; try (with_reducible rfl))
  try simp only [Act.put, List.setIfInBounds_toArray, List.set_cons_zero, List.set_cons_succ]
  have kR4 := heap_setCell_same _ (w.heap.size + 1) 3 _ _ (.slice vA vn vcc) (heap_setCell_same _ (w.heap.size + 1) 2 _ _ (.slice Ap np cp) (heap_setCell_same _ (w.heap.size + 1) 1 _ _ (.int .u32 (h : Int)) (heap_setCell_same w6 (w.heap.size + 1) 0 _ _ (.int .u32 (t : Int)) kR)))
  have hne : (Value.slice vA vn vcc).ownBlock ≠ some (w.heap.size + 1) := own_ne hrow kR (by decide)
  have hm4 := mod_set4 w6 (w.heap.size + 1) (.int .u32 (t : Int)) (.int .u32 (h : Int)) (.slice Ap np cp) (.slice vA vn vcc)
  have hrow4 := owns_mod hrow hm4 (fun k hk hkk => hne (by rw [hk, hkk]))
  have hb4 := hb.trans (hm4.below (by have := hb.size; omega) (fun i hi hk => by omega))
  have z0 := (cell_of_row _ _ 0 _ _ _ kR).trans (show _ = some _ from rfl)
  have z1 := (cell_of_row _ _ 1 _ _ _ kR).trans (show _ = some _ from rfl)
  have z2 := (cell_of_row _ _ 2 _ _ _ kR).trans (show _ = some _ from rfl)
  have z3 := (cell_of_row _ _ 3 _ _ _ kR).trans (show _ = some _ from rfl)
  have f0 := frozen_of_row _ _ 0 _ _ kR
  have f1 := frozen_of_row _ _ 1 _ _ kR
  have f2 := frozen_of_row _ _ 2 _ _ kR
  have f3 := frozen_of_row _ _ 3 _ _ kR
  skip
  refine wpAnyH_ready (rs := [10]) (by kernel_rfl) (by simp) ?_
  refine AllReadyH.cons (by simp only [List.getElem?_toArray, List.getElem?_cons_succ, List.getElem?_cons_zero]; rfl) (fun KK hKK => ?_) AllReadyH.nil
  go_simp
  refine hKK.out _ _ ?_ (fun hHeld => ?_)
  · exact ⟨(hm4.block _ (Array.getElem?_eq_some_iff.1 kA).1 (by omega)).trans kA, _, kR4⟩
  clear hKK KK
  try simp only [Act.put, List.setIfInBounds_toArray, List.set_cons_zero, List.set_cons_succ]
  refine wpAnyH_done (by kernel_rfl) ?_ _
  go_wp2_with fail
  exact bodyPost_ret (results_cell_row (P := Try.prog) rfl _ _ (w.heap.size + 1) _ #[.int .u32 (t : Int), .int .u32 (h : Int), .slice Ap np cp, .slice vA vn vcc] (0, 0) _ rfl kR4 Try.underlying44 rfl (by kernel_rfl)) rfl ⟨_, rfl, hrow4, hb4⟩
set_option maxHeartbeats 16000000 in
set_option maxRecDepth 20000 in
/-- Two deltas as the document has them that are alike. -/
theorem RDSame_yes (t h : Nat) (Ap : Option Addr) (ps : List UInt8) (np cp bp : Nat) (Ac : Option Addr) (cs : List (Int × Nat)) (nc cc bc : Nat) (Ap' : Option Addr) (cp' bp' : Nat) (Ac' : Option Addr) (cc' bc' : Nat) (w : World)
    (h1 : Bs w bp Ap ps) (h2 : Bs w bp' Ap' ps) (h3 : Sl w bc Ac (cv cs)) (h4 : Sl w bc' Ac' (cv cs)) (hn : ps.length = np) (hc : cs.length = nc) (hm : np ≤ 1000000) (hm' : nc ≤ 1000000) :
    Calls Try.prog 13 #[.agg #[.int .u32 (t : Int), .int .u32 (h : Int), .slice Ap np cp, .slice Ac nc cc], .agg #[.int .u32 (t : Int), .int .u32 (h : Int), .slice Ap' np cp', .slice Ac' nc cc']] w fun e w' => e = .returned (.bool true) ∧ Below w.heap.size w w' := by
  have hS := fun W a b => Same_calls Ap Ap' ps ps np np cp cp' bp bp' W a b hn hn (by simp only [maxLen]; omega) (by simp only [maxLen]; omega)
  have hR := fun W a b => RefSame_calls Ac Ac' cs cs nc cc bc nc cc' bc' W a b hc hc hm' hm'
  simp only [decide_true] at hS hR
  have hb := below_alloc2 w (.cells #[.int .u32 (t : Int), .int .u32 (h : Int), .slice Ap np cp, .slice Ac nc cc] 44) (.cells #[.int .u32 (t : Int), .int .u32 (h : Int), .slice Ap' np cp', .slice Ac' nc cc'] 44)
  have h1 := Sl.ext h1 hb
  have h2 := Sl.ext h2 hb
  have h3 := Sl.ext h3 hb
  have h4 := Sl.ext h4 hb
  go_enter Try.func13, Try.ntmps13
  go_wp2_with fail
  refine (hS _ h1 h2).mono ?_
  rintro e w2 ⟨rfl, k, rfl⟩
  go_wp2_with fail
  refine (hR _ (Sl.drewN h3 k) (Sl.drewN h4 k)).mono ?_
  rintro e w3 ⟨rfl, h9⟩
  have hb3 := hb.trans ((Below.trans (below_drewN (Below.refl _ _) k) (h9.mono (Nat.le_refl _))).mono hb.size)
  clear h9
  go_wp2
  go_ret
  exact ⟨rfl, hb3⟩
end Go.Proofs.Ytioahddobogpjaa
/- How many bits a number of 64 has, as the library adds them up. Plain numbers. No condition. -/
namespace Go.Proofs.Ytioahddobogpjaa

/-- Digits of e bits, the lowest first. -/
def val (e : Nat) : List Nat → Nat
  | [] => 0
  | d :: l => d + 2 ^ e * val e l
def okD (e : Nat) (l : List Nat) : Prop := ∀ d ∈ l, d < 2 ^ e
/-- How many of the first k bits are set. -/
def pc : Nat → Nat → Nat
  | 0, _ => 0
  | k + 1, x => x % 2 + pc k (x / 2)
theorem and_split (e a b c d : Nat) (ha : a < 2 ^ e) (hc : c < 2 ^ e) : (a + 2 ^ e * b) &&& (c + 2 ^ e * d) = (a &&& c) + 2 ^ e * (b &&& d) := by
  have h1 : ((a + 2 ^ e * b) &&& (c + 2 ^ e * d)) / 2 ^ e = b &&& d := by
    rw [Nat.and_div_two_pow, Nat.add_mul_div_left _ _ (Nat.two_pow_pos e), Nat.add_mul_div_left _ _ (Nat.two_pow_pos e), Nat.div_eq_of_lt ha, Nat.div_eq_of_lt hc, Nat.zero_add, Nat.zero_add]
  have h2 : ((a + 2 ^ e * b) &&& (c + 2 ^ e * d)) % 2 ^ e = a &&& c := by
    rw [Nat.and_mod_two_pow, Nat.add_mul_mod_self_left, Nat.add_mul_mod_self_left, Nat.mod_eq_of_lt ha, Nat.mod_eq_of_lt hc]
  have h3 := Nat.mod_add_div ((a + 2 ^ e * b) &&& (c + 2 ^ e * d)) (2 ^ e)
  rw [h1, h2] at h3
  exact h3.symm
/-- The mask: the low half of each digit. -/
def mask (f : Nat) (n : Nat) : Nat := val (2 * f) (List.replicate n (2 ^ f - 1))
theorem mask_succ (f n : Nat) : mask f (n + 1) = (2 ^ f - 1) + 2 ^ (2 * f) * mask f n := rfl
theorem low_lt (f : Nat) : 2 ^ f - 1 < 2 ^ (2 * f) := by
  have h1 : 2 ^ f ≤ 2 ^ (2 * f) := Nat.pow_le_pow_right (by omega) (by omega)
  have := Nat.two_pow_pos f
  omega
theorem and_low (f : Nat) : ∀ l : List Nat, okD (2 * f) l → val (2 * f) l &&& mask f l.length = val (2 * f) (l.map (· % 2 ^ f)) := by
  intro l
  induction l with
  | nil => intro _; simp [val]
  | cons d l ih =>
    intro h
    rw [List.length_cons, mask_succ, val, and_split _ _ _ _ _ (h d (by simp)) (low_lt f), ih (fun x hx => h x (by simp [hx])), Nat.and_two_pow_sub_one_eq_mod]
    rfl
theorem and_high (f : Nat) : ∀ l : List Nat, okD (2 * f) l → (val (2 * f) l / 2 ^ f) &&& mask f l.length = val (2 * f) (l.map (· / 2 ^ f)) := by
  intro l
  induction l with
  | nil => intro _; simp [val]
  | cons d l ih =>
    intro h
    have hd := h d (by simp)
    have hp : (2 : Nat) ^ (2 * f) = 2 ^ f * 2 ^ f := by rw [← Nat.pow_add]; congr 1; omega
    have hpos := Nat.two_pow_pos f
    have hq : d / 2 ^ f < 2 ^ f := by rw [Nat.div_lt_iff_lt_mul hpos, ← hp]; exact hd
    obtain ⟨A, hA⟩ : ∃ A, A = val (2 * f) l := ⟨_, rfl⟩
    have e1 : (d + 2 ^ (2 * f) * A) / 2 ^ f = (d / 2 ^ f + 2 ^ f * (A % 2 ^ f)) + 2 ^ (2 * f) * (A / 2 ^ f) := by
      rw [hp, Nat.mul_assoc, Nat.add_mul_div_left _ _ hpos]
      have := Nat.mod_add_div A (2 ^ f)
      have h2 : 2 ^ f * A = 2 ^ f * (A % 2 ^ f) + 2 ^ f * 2 ^ f * (A / 2 ^ f) := by
        rw [Nat.mul_assoc, ← Nat.mul_add, this]
      omega
    have hlt : d / 2 ^ f + 2 ^ f * (A % 2 ^ f) < 2 ^ (2 * f) := by
      have h3 := Nat.mod_lt A hpos
      have h4 : 2 ^ f * (A % 2 ^ f) ≤ 2 ^ f * (2 ^ f - 1) := Nat.mul_le_mul_left _ (by omega)
      rw [Nat.mul_sub, Nat.mul_one, ← hp] at h4
      have h5 : 2 ^ f ≤ 2 ^ (2 * f) := Nat.pow_le_pow_right (by omega) (by omega)
      omega
    rw [List.length_cons, mask_succ, val, ← hA, e1, and_split _ _ _ _ _ hlt (low_lt f), hA, ih (fun x hx => h x (by simp [hx])), Nat.and_two_pow_sub_one_eq_mod, Nat.add_mul_mod_self_left, Nat.mod_eq_of_lt hq]
    rfl
theorem val_add (e : Nat) (g h : Nat → Nat) : ∀ l : List Nat, val e (l.map g) + val e (l.map h) = val e (l.map fun d => g d + h d) := by
  intro l
  induction l with
  | nil => rfl
  | cons d l ih =>
    simp only [List.map_cons, val]
    rw [← ih, Nat.mul_add]
    omega
/-- One step of the library: the two halves of each digit, added. -/
theorem step_halves (f : Nat) (l : List Nat) (h : okD (2 * f) l) : ((val (2 * f) l / 2 ^ f) &&& mask f l.length) + (val (2 * f) l &&& mask f l.length) = val (2 * f) (l.map fun d => d / 2 ^ f + d % 2 ^ f) := by
  rw [and_high f l h, and_low f l h, val_add]
/-- Two digits as one. -/
def pairs (e : Nat) : List Nat → List Nat
  | a :: b :: l => (a + 2 ^ e * b) :: pairs e l
  | l => l
theorem val_pairs (e : Nat) : ∀ (n : Nat) (l : List Nat), l.length = 2 * n → val e l = val (2 * e) (pairs e l) := by
  intro n
  induction n with
  | zero => 
    intro l hl
    obtain rfl : l = [] := List.eq_nil_of_length_eq_zero (by omega)
    rfl
  | succ n ih =>
    intro l hl
    match l, hl with
    | a :: b :: l, hl =>
      have := ih l (by simp at hl; omega)
      simp only [pairs, val]
      rw [this, Nat.mul_add, ← Nat.mul_assoc, ← Nat.pow_add, show e + e = 2 * e by omega]
      omega
/-- The digits of a number. -/
def digits (e : Nat) : Nat → Nat → List Nat
  | 0, _ => []
  | n + 1, x => x % 2 ^ e :: digits e n (x / 2 ^ e)
theorem digits_len (e n x : Nat) : (digits e n x).length = n := by
  induction n generalizing x with
  | zero => rfl
  | succ n ih => simp [digits, ih]
theorem digits_ok (e n x : Nat) : okD e (digits e n x) := by
  induction n generalizing x with
  | zero => intro d hd; simp [digits] at hd
  | succ n ih =>
    intro d hd
    rcases List.mem_cons.1 hd with rfl | hd
    · exact Nat.mod_lt _ (Nat.two_pow_pos e)
    · exact ih _ d hd
theorem val_digits (e : Nat) : ∀ (n x : Nat), x < 2 ^ (e * n) → val e (digits e n x) = x := by
  intro n
  induction n with
  | zero => intro x hx; simp at hx; subst hx; rfl
  | succ n ih =>
    intro x hx
    simp only [digits, val]
    rw [ih (x / 2 ^ e) (by rw [Nat.div_lt_iff_lt_mul (Nat.two_pow_pos e), ← Nat.pow_add]; rw [show e * n + e = e * (n + 1) by rw [Nat.mul_succ]]; exact hx)]
    exact Nat.mod_add_div x (2 ^ e)
/-- The bits of the digits. -/
theorem pc_digits : ∀ (n x : Nat), pc (2 * n) x = ((digits 2 n x).map fun d => d / 2 + d % 2).sum := by
  intro n
  induction n with
  | zero => intro x; rfl
  | succ n ih =>
    intro x
    rw [show 2 * (n + 1) = 2 * n + 1 + 1 by omega]
    simp only [pc, digits, List.map_cons, List.sum_cons]
    rw [ih, show x / 2 / 2 = x / 2 ^ 2 by omega]
    omega
/-- Two digits' halves are those digits again. -/
theorem sum_pairs (f : Nat) : ∀ (n : Nat) (l : List Nat), l.length = 2 * n → okD f l → ((pairs f l).map fun d => d / 2 ^ f + d % 2 ^ f).sum = l.sum := by
  intro n
  induction n with
  | zero =>
    intro l hl _
    obtain rfl : l = [] := List.eq_nil_of_length_eq_zero (by omega)
    rfl
  | succ n ih =>
    intro l hl h
    match l, hl, h with
    | a :: b :: l, hl, h =>
      have ha := h a (by simp)
      have := ih l (by simp at hl; omega) (fun x hx => h x (by simp [hx]))
      simp only [pairs, List.map_cons, List.sum_cons]
      rw [this, Nat.add_mul_div_left _ _ (Nat.two_pow_pos f), Nat.div_eq_of_lt ha, Nat.add_mul_mod_self_left, Nat.mod_eq_of_lt ha]
      omega
theorem pairs_len (e : Nat) : ∀ (n : Nat) (l : List Nat), l.length = 2 * n → (pairs e l).length = n := by
  intro n
  induction n with
  | zero =>
    intro l hl
    obtain rfl : l = [] := List.eq_nil_of_length_eq_zero (by omega)
    rfl
  | succ n ih =>
    intro l hl
    match l, hl with
    | a :: b :: l, hl =>
      have := ih l (by simp at hl; omega)
      simp only [pairs, List.length_cons, this]
/-- What digits two at a time are, if each is at most m. -/
theorem pairs_le (e m : Nat) : ∀ (n : Nat) (l : List Nat), l.length = 2 * n → (∀ d ∈ l, d ≤ m) → ∀ d ∈ pairs e l, ∃ a b, a ≤ m ∧ b ≤ m ∧ d = a + 2 ^ e * b := by
  intro n
  induction n with
  | zero =>
    intro l hl _
    obtain rfl : l = [] := List.eq_nil_of_length_eq_zero (by omega)
    intro d hd
    cases hd
  | succ n ih =>
    intro l hl h
    match l, hl, h with
    | a :: b :: l, hl, h =>
      intro d hd
      rcases List.mem_cons.1 hd with rfl | hd
      · exact ⟨a, b, h a (by simp), h b (by simp), rfl⟩
      · exact ih l (by simp at hl; omega) (fun x hx => h x (by simp [hx])) d hd
/-- The library's third step: added ahead of the mask, with no carry. -/
theorem step_nibbles : ∀ l : List Nat, (∀ d ∈ l, d / 16 ≤ 4 ∧ d % 16 ≤ 4) → ((val 8 l / 16 + val 8 l) &&& mask 4 l.length) = val 8 (l.map fun d => d / 16 + d % 16) ∧ val 8 l % 16 ≤ 4 := by
  intro l
  induction l with
  | nil => intro _; simp [val]
  | cons d l ih =>
    intro h
    obtain ⟨i1, i2⟩ := ih (fun x hx => h x (by simp [hx]))
    obtain ⟨h1, h2⟩ := h d (by simp)
    obtain ⟨A, hA⟩ : ∃ A, A = val 8 l := ⟨_, rfl⟩
    rw [← hA] at i1 i2
    have e0 : val 8 (d :: l) = d + 256 * A := by rw [hA]; rfl
    rw [e0]
    refine ⟨?_, by omega⟩
    have e1 : (d + 256 * A) / 16 + (d + 256 * A) = (d / 16 + d + 16 * (A % 16)) + 2 ^ (2 * 4) * (A / 16 + A) := by
      rw [show (2 : Nat) ^ (2 * 4) = 256 by rfl]
      omega
    rw [e1, List.length_cons, mask_succ, and_split _ _ _ _ _ (by rw [show (2 : Nat) ^ (2 * 4) = 256 by rfl]; omega) (low_lt 4), i1, Nat.and_two_pow_sub_one_eq_mod]
    show _ = (d / 16 + d % 16) + 2 ^ 8 * val 8 (l.map fun d => d / 16 + d % 16)
    rw [show (d / 16 + d + 16 * (A % 16)) % 2 ^ 4 = d / 16 + d % 16 by rw [show (2 : Nat) ^ 4 = 16 by rfl]; omega]
theorem last_step (b0 b1 b2 b3 b4 b5 b6 b7 z z1 z2 z3 : Nat) (h0 : b0 ≤ 8) (h1 : b1 ≤ 8) (h2 : b2 ≤ 8) (h3 : b3 ≤ 8) (h4 : b4 ≤ 8) (h5 : b5 ≤ 8) (h6 : b6 ≤ 8) (h7 : b7 ≤ 8)
    (hz : z = b0 + 256 * (b1 + 256 * (b2 + 256 * (b3 + 256 * (b4 + 256 * (b5 + 256 * (b6 + 256 * b7))))))) (e1 : z1 = z + z / 256) (e2 : z2 = z1 + z1 / 65536) (e3 : z3 = z2 + z2 / 4294967296) :
    z3 % 128 = b0 + b1 + b2 + b3 + b4 + b5 + b6 + b7 ∧ z3 < 9223372036854775808 := by
  have q1 : z / 256 = b1 + 256 * (b2 + 256 * (b3 + 256 * (b4 + 256 * (b5 + 256 * (b6 + 256 * b7))))) := by
    rw [hz, Nat.add_mul_div_left _ _ (by decide), Nat.div_eq_of_lt (by clear hz e1 e2 e3; omega), Nat.zero_add]
  have e1' : z1 = (b0 + b1 + 256 * (b1 + b2)) + 65536 * ((b2 + b3) + 256 * ((b3 + b4) + 256 * ((b4 + b5) + 256 * ((b5 + b6) + 256 * ((b6 + b7) + 256 * b7))))) := by
    rw [e1, q1, hz]
    clear h0 h1 h2 h3 h4 h5 h6 h7 hz e1 e2 e3 q1
    omega
  have q2 : z1 / 65536 = (b2 + b3) + 256 * ((b3 + b4) + 256 * ((b4 + b5) + 256 * ((b5 + b6) + 256 * ((b6 + b7) + 256 * b7)))) := by
    rw [e1', Nat.add_mul_div_left _ _ (by decide), Nat.div_eq_of_lt (by clear hz e1 e2 e3 q1 e1'; omega), Nat.zero_add]
  have e2' : z2 = ((b0 + b1 + b2 + b3) + 256 * ((b1 + b2 + b3 + b4) + 256 * ((b2 + b3 + b4 + b5) + 256 * (b3 + b4 + b5 + b6)))) + 4294967296 * ((b4 + b5 + b6 + b7) + 256 * ((b5 + b6 + b7) + 256 * ((b6 + b7) + 256 * b7))) := by
    rw [e2, q2, e1']
    clear h0 h1 h2 h3 h4 h5 h6 h7 hz e1 e2 e3 q1 q2 e1'
    omega
  have q3 : z2 / 4294967296 = (b4 + b5 + b6 + b7) + 256 * ((b5 + b6 + b7) + 256 * ((b6 + b7) + 256 * b7)) := by
    rw [e2', Nat.add_mul_div_left _ _ (by decide), Nat.div_eq_of_lt (by clear hz e1 e2 e3 q1 q2 e1' e2'; omega), Nat.zero_add]
  have e3' : z3 = (b0 + b1 + b2 + b3 + b4 + b5 + b6 + b7) + 128 * (2 * ((b1 + b2 + b3 + b4 + (b5 + b6 + b7)) + 256 * ((b2 + b3 + b4 + b5 + (b6 + b7)) + 256 * ((b3 + b4 + b5 + b6 + b7) + 256 * ((b4 + b5 + b6 + b7) + 256 * ((b5 + b6 + b7) + 256 * ((b6 + b7) + 256 * b7))))))) := by
    rw [e3, q3, e2']
    clear h0 h1 h2 h3 h4 h5 h6 h7 hz e1 e2 e3 q1 q2 q3 e1' e2'
    omega
  constructor
  · rw [e3', Nat.add_mul_mod_self_left, Nat.mod_eq_of_lt (by clear hz e1 e2 e3 q1 q2 q3 e1' e2' e3'; omega)]
  · rw [e3']
    clear hz e1 e2 e3 q1 q2 q3 e1' e2' e3'
    omega
end Go.Proofs.Ytioahddobogpjaa
/- How many bits a number of 64 has: what the library's steps come to. Plain numbers. No condition. -/
namespace Go.Proofs.Ytioahddobogpjaa

theorem mask1 : mask 1 32 = 6148914691236517205 := by decide +kernel
theorem mask2 : mask 2 16 = 3689348814741910323 := by decide +kernel
theorem mask4 : mask 4 8 = 1085102592571150095 := by decide +kernel
theorem pop_bytes (x y1 y2 y3 : Nat) (hx : x < 18446744073709551616) (e1 : y1 = ((x / 2) &&& 6148914691236517205) + (x &&& 6148914691236517205)) (e2 : y2 = ((y1 / 4) &&& 3689348814741910323) + (y1 &&& 3689348814741910323)) (e3 : y3 = (y2 / 16 + y2) &&& 1085102592571150095) :
    ∃ B : List Nat, B.length = 8 ∧ (∀ b ∈ B, b ≤ 8) ∧ y3 = val 8 B ∧ B.sum = pc 64 x := by
  obtain ⟨ds, hds⟩ : ∃ ds, ds = digits 2 32 x := ⟨_, rfl⟩
  have hl : ds.length = 32 := by rw [hds, digits_len]
  have hok : okD (2 * 1) ds := by rw [hds]; exact digits_ok 2 32 x
  have hv : val 2 ds = x := by rw [hds]; exact val_digits 2 32 x hx
  have hp : pc 64 x = (ds.map fun d => d / 2 + d % 2).sum := by rw [hds]; exact pc_digits 32 x
  clear hds
  obtain ⟨L1, hL1⟩ : ∃ L, L = ds.map fun d => d / 2 + d % 2 := ⟨_, rfl⟩
  have hl1 : L1.length = 32 := by rw [hL1, List.length_map, hl]
  have hb1 : ∀ d ∈ L1, d ≤ 2 := by
    intro d hd
    rw [hL1] at hd
    obtain ⟨c, hc, rfl⟩ := List.mem_map.1 hd
    have : c < 4 := hok c hc
    omega
  have h1 := step_halves 1 ds hok
  rw [hl, mask1] at h1
  have hy1 : y1 = val 2 L1 := by
    rw [e1, hL1, ← hv]
    exact h1
  rw [← hL1] at hp
  clear h1 hL1 hok hv
  have hq1 := val_pairs 2 16 L1 hl1
  have hs1 := sum_pairs 2 16 L1 hl1 (fun d hd => by have := hb1 d hd; show d < 4; omega)
  have hpl1 := pairs_len 2 16 L1 hl1
  have hpb1 := pairs_le 2 2 16 L1 hl1 hb1
  obtain ⟨P1, hP1⟩ : ∃ P, P = pairs 2 L1 := ⟨_, rfl⟩
  rw [← hP1] at hq1 hs1 hpl1 hpb1
  clear hP1
  have h2 := step_halves 2 P1 (fun d hd => by obtain ⟨a, b, ha, hb, rfl⟩ := hpb1 d hd; show a + 4 * b < 16; omega)
  rw [hpl1, mask2] at h2
  obtain ⟨L2, hL2⟩ : ∃ L, L = P1.map fun d => d / 2 ^ 2 + d % 2 ^ 2 := ⟨_, rfl⟩
  rw [← hL2] at h2 hs1
  have hl2 : L2.length = 16 := by rw [hL2, List.length_map, hpl1]
  have hb2 : ∀ d ∈ L2, d ≤ 4 := by
    intro d hd
    rw [hL2] at hd
    obtain ⟨c, hc, rfl⟩ := List.mem_map.1 hd
    obtain ⟨a, b, ha, hb, rfl⟩ := hpb1 c hc
    show (a + 4 * b) / 4 + (a + 4 * b) % 4 ≤ 4
    omega
  have hy2 : y2 = val 4 L2 := by
    rw [e2, hy1, hq1]
    exact h2
  clear h2 hL2 hpb1 hpl1 hq1
  have hq2 := val_pairs 4 8 L2 hl2
  have hs2 := sum_pairs 4 8 L2 hl2 (fun d hd => by have := hb2 d hd; show d < 16; omega)
  have hpl2 := pairs_len 4 8 L2 hl2
  have hpb2 := pairs_le 4 4 8 L2 hl2 hb2
  obtain ⟨P2, hP2⟩ : ∃ P, P = pairs 4 L2 := ⟨_, rfl⟩
  rw [← hP2] at hq2 hs2 hpl2 hpb2
  clear hP2
  have h3 := (step_nibbles P2 (fun d hd => by obtain ⟨a, b, ha, hb, rfl⟩ := hpb2 d hd; show (a + 16 * b) / 16 ≤ 4 ∧ (a + 16 * b) % 16 ≤ 4; omega)).1
  rw [hpl2, mask4] at h3
  refine ⟨P2.map fun d => d / 16 + d % 16, by rw [List.length_map, hpl2], ?_, ?_, ?_⟩
  · intro b hb
    obtain ⟨c, hc, rfl⟩ := List.mem_map.1 hb
    obtain ⟨p, q, hp', hq, rfl⟩ := hpb2 c hc
    show (p + 16 * q) / 16 + (p + 16 * q) % 16 ≤ 8
    omega
  · rw [e3, hy2, hq2]
    exact h3
  · rw [hp, ← hs1, ← hs2]
/-- What the library answers. -/
theorem pop64 (x y1 y2 y3 z1 z2 z3 : Nat) (hx : x < 18446744073709551616) (e1 : y1 = ((x / 2) &&& 6148914691236517205) + (x &&& 6148914691236517205)) (e2 : y2 = ((y1 / 4) &&& 3689348814741910323) + (y1 &&& 3689348814741910323)) (e3 : y3 = (y2 / 16 + y2) &&& 1085102592571150095)
    (f1 : z1 = y3 + y3 / 256) (f2 : z2 = z1 + z1 / 65536) (f3 : z3 = z2 + z2 / 4294967296) : z3 % 128 = pc 64 x ∧ z3 < 9223372036854775808 := by
  obtain ⟨B, hl, hb, hy, hs⟩ := pop_bytes x y1 y2 y3 hx e1 e2 e3
  match B, hl with
  | [b0, b1, b2, b3, b4, b5, b6, b7], _ =>
    have := last_step b0 b1 b2 b3 b4 b5 b6 b7 y3 z1 z2 z3 (hb b0 (by simp)) (hb b1 (by simp)) (hb b2 (by simp)) (hb b3 (by simp)) (hb b4 (by simp)) (hb b5 (by simp)) (hb b6 (by simp)) (hb b7 (by simp)) (by rw [hy]; simp only [val, Nat.mul_zero, Nat.add_zero, Nat.reducePow]) f1 f2 f3
    refine ⟨?_, this.2⟩
    rw [this.1, ← hs]
    simp only [List.sum_cons, List.sum_nil]
    omega
end Go.Proofs.Ytioahddobogpjaa
/- OnesCount64. Condition: the number fits. -/
namespace Go.Proofs.Ytioahddobogpjaa
open Go.RowKit

theorem and64 (a b : Nat) (ha : a < 18446744073709551616) (hb : b < 18446744073709551616) : bits .and .u64 (a : Int) (b : Int) = ((a &&& b : Nat) : Int) := bits_and_u64_nat a b (by omega) (by omega)
theorem and_i64 (a b : Nat) (ha : a < 9223372036854775808) (hb : b < 9223372036854775808) : bits .and .i64 (a : Int) (b : Int) = ((a &&& b : Nat) : Int) := by
  have hx : a &&& b < 2 ^ 63 := Nat.and_lt_two_pow _ (by omega)
  have h1 : (BitVec.ofInt 64 (a : Int)).toNat = a := by
    rw [BitVec.ofInt_natCast, BitVec.toNat_ofNat]; exact Nat.mod_eq_of_lt (by omega)
  have h2 : (BitVec.ofInt 64 (b : Int)).toNat = b := by
    rw [BitVec.ofInt_natCast, BitVec.toNat_ofNat]; exact Nat.mod_eq_of_lt (by omega)
  show IntKind.i64.wrap ((BitVec.ofInt 64 (a : Int) &&& BitVec.ofInt 64 (b : Int)).toNat : Int) = _
  rw [BitVec.toNat_and, h1, h2]
  exact IntWalk.i64_in _ (by omega)
set_option maxRecDepth 20000 in
theorem Ones64_calls (x : Nat) (hx : x < 18446744073709551616) (w : World) :
    Calls Try.prog 45 #[.int .u64 x] w fun e w' => e = .returned (.int .i64 (pc 64 x : Nat)) ∧ w' = w := by
  obtain ⟨y1, e1⟩ : ∃ y1, y1 = ((x / 2) &&& 6148914691236517205) + (x &&& 6148914691236517205) := ⟨_, rfl⟩
  obtain ⟨y2, e2⟩ : ∃ y2, y2 = ((y1 / 4) &&& 3689348814741910323) + (y1 &&& 3689348814741910323) := ⟨_, rfl⟩
  obtain ⟨y3, e3⟩ : ∃ y3, y3 = (y2 / 16 + y2) &&& 1085102592571150095 := ⟨_, rfl⟩
  obtain ⟨z1, f1⟩ : ∃ z1, z1 = y3 + y3 / 256 := ⟨_, rfl⟩
  obtain ⟨z2, f2⟩ : ∃ z2, z2 = z1 + z1 / 65536 := ⟨_, rfl⟩
  obtain ⟨z3, f3⟩ : ∃ z3, z3 = z2 + z2 / 4294967296 := ⟨_, rfl⟩
  have hp := pop64 x y1 y2 y3 z1 z2 z3 hx e1 e2 e3 f1 f2 f3
  have b1 := Nat.and_le_right (n := x / 2) (m := 6148914691236517205)
  have b2 := Nat.and_le_right (n := x) (m := 6148914691236517205)
  have b3 := Nat.and_le_right (n := y1 / 4) (m := 3689348814741910323)
  have b4 := Nat.and_le_right (n := y1) (m := 3689348814741910323)
  have a1 := and64 (x / 2) 6148914691236517205 (by omega) (by decide)
  have a2 := and64 x 6148914691236517205 hx (by decide)
  have a3 := and64 (y1 / 4) 3689348814741910323 (by omega) (by decide)
  have a4 := and64 y1 3689348814741910323 (by omega) (by decide)
  have a5 := and64 (y2 / 16 + y2) 1085102592571150095 (by omega) (by decide)
  obtain ⟨p1, hp1⟩ : ∃ p, p = (x / 2) &&& 6148914691236517205 := ⟨_, rfl⟩
  obtain ⟨p2, hp2⟩ : ∃ p, p = x &&& 6148914691236517205 := ⟨_, rfl⟩
  obtain ⟨p3, hp3⟩ : ∃ p, p = (y1 / 4) &&& 3689348814741910323 := ⟨_, rfl⟩
  obtain ⟨p4, hp4⟩ : ∃ p, p = y1 &&& 3689348814741910323 := ⟨_, rfl⟩
  rw [← hp1, ← hp2] at e1
  rw [← hp3, ← hp4] at e2
  rw [← hp1] at a1 b1
  rw [← hp2] at a2 b2
  rw [← hp3] at a3 b3
  rw [← hp4] at a4 b4
  rw [← e3] at a5
  have s1 : ((x / 2 : Nat) : Int) = (x : Int) / 2 := by simp
  have s3 : ((y1 / 4 : Nat) : Int) = (y1 : Int) / 4 := by simp
  have s5 : ((y2 / 16 + y2 : Nat) : Int) = (y2 : Int) / 16 + (y2 : Int) := by simp
  rw [s1] at a1
  rw [s3] at a3
  rw [s5] at a5
  have c1 : IntKind.u64.wrap ((p1 : Int) + (p2 : Int)) = (y1 : Int) := by rw [show (p1 : Int) + (p2 : Int) = (y1 : Int) by omega]; exact IntWalk.u64_in _ (by omega)
  have c2 : IntKind.u64.wrap ((p3 : Int) + (p4 : Int)) = (y2 : Int) := by rw [show (p3 : Int) + (p4 : Int) = (y2 : Int) by omega]; exact IntWalk.u64_in _ (by omega)
  have c3 : IntKind.u64.wrap ((y2 : Int) / 16 + (y2 : Int)) = (y2 : Int) / 16 + (y2 : Int) := IntWalk.u64_in _ (by omega)
  have g1 : IntKind.u64.wrap ((y3 : Int) + (y3 : Int) / 256) = (z1 : Int) := by rw [show (y3 : Int) + (y3 : Int) / 256 = (z1 : Int) by omega]; exact IntWalk.u64_in _ (by omega)
  have g2 : IntKind.u64.wrap ((z1 : Int) + (z1 : Int) / 65536) = (z2 : Int) := by rw [show (z1 : Int) + (z1 : Int) / 65536 = (z2 : Int) by omega]; exact IntWalk.u64_in _ (by omega)
  have g3 : IntKind.u64.wrap ((z2 : Int) + (z2 : Int) / 4294967296) = (z3 : Int) := by rw [show (z2 : Int) + (z2 : Int) / 4294967296 = (z3 : Int) by omega]; exact IntWalk.u64_in _ (by omega)
  rw [show ((6148914691236517205 : Nat) : Int) = 6148914691236517205 from rfl] at a1
  rw [show ((6148914691236517205 : Nat) : Int) = 6148914691236517205 from rfl] at a2
  rw [show ((3689348814741910323 : Nat) : Int) = 3689348814741910323 from rfl] at a3
  rw [show ((3689348814741910323 : Nat) : Int) = 3689348814741910323 from rfl] at a4
  rw [show ((1085102592571150095 : Nat) : Int) = 1085102592571150095 from rfl] at a5
  obtain ⟨hp, hz⟩ := hp
  have k1 := IntWalk.i64_in (z3 : Int) (by omega)
  have k2 : bits .and .i64 (z3 : Int) 127 = ((pc 64 x : Nat) : Int) := by
    have := and_i64 z3 127 hz (by decide)
    rw [show ((127 : Nat) : Int) = 127 from rfl] at this
    rw [this, ← hp, show (127 : Nat) = 2 ^ 7 - 1 from rfl, Nat.and_two_pow_sub_one_eq_mod]
  clear hp e1 e2 e3 f1 f2 f3 hp1 hp2 hp3 hp4 s1 s3 s5 b1 b2 b3 b4
  go_enter Try.func45, Try.ntmps45
  go_wp2
  go_ret
  exact ⟨by simp, rfl⟩
end Go.Proofs.Ytioahddobogpjaa
/- Size of what is told. Conditions: the board has at most 48 cells; the number fits. -/
namespace Go.Proofs.Ytioahddobogpjaa
open Go.RowKit

theorem pc_high : ∀ (k x : Nat), pc (k + 1) x = pc k x + (x.testBit k).toNat := by
  intro k
  induction k with
  | zero =>
    intro x
    simp only [pc, Nat.testBit_zero]
    rcases Nat.mod_two_eq_zero_or_one x with h | h <;> simp [h]
  | succ k ih =>
    intro x
    rw [pc, ih (x / 2), pc, Nat.testBit_succ]
    omega
theorem places_pc (t : Nat) : ∀ n : Nat, (placesTo t n).length = pc n t := by
  intro n
  induction n with
  | zero => rfl
  | succ n ih =>
    rw [pc_high, ← ih]
    cases h : t.testBit n with
    | true => rw [placesTo_hit h]; simp
    | false => rw [placesTo_miss h]; simp
theorem pc_mod (t n : Nat) : ∀ k : Nat, k ≤ n → pc k (t % 2 ^ n) = pc k t := by
  intro k
  induction k with
  | zero => intro _; rfl
  | succ k ih =>
    intro h
    rw [pc_high, pc_high, ih (by omega), Nat.testBit_mod_two_pow]
    simp [show k < n by omega]
theorem pc_more (t n : Nat) : ∀ k : Nat, pc (n + k) (t % 2 ^ n) = pc n t := by
  intro k
  induction k with
  | zero => exact pc_mod t n n (Nat.le_refl _)
  | succ k ih =>
    rw [← Nat.add_assoc, pc_high, ih, Nat.testBit_mod_two_pow]
    simp [show ¬ n + k < n by omega]
set_option maxRecDepth 20000 in
theorem DSize_calls (t : Nat) (L : List (Int × Nat)) (w : World) (ht : t ≤ 18446744073709551615) (hL : L.length ≤ 48) :
    Calls Try.prog 21 #[.int .u64 t, .agg (bdL L)] w fun e w' => e = .returned (.int .i64 (9 + 9 * (placesTo t L.length).length : Nat)) ∧ Below w.heap.size w w' := by
  have hp : pc 64 (t &&& (2 ^ L.length - 1)) = (placesTo t L.length).length := by
    rw [Nat.and_two_pow_sub_one_eq_mod, places_pc]
    have := pc_more t L.length (64 - L.length)
    rwa [show L.length + (64 - L.length) = 64 by omega] at this
  have hle := placesTo_len t L.length
  have hpw : 2 ^ L.length ≤ 2 ^ 48 := Nat.pow_le_pow_right (by omega) hL
  have hp0 := Nat.two_pow_pos L.length
  have ha := and64 t (2 ^ L.length - 1) (by omega) (by omega)
  have hlt : t &&& (2 ^ L.length - 1) < 18446744073709551616 := by have := Nat.and_le_left (n := t) (m := 2 ^ L.length - 1); omega
  have hO := fun W => Ones64_calls _ hlt W
  rw [hp] at hO
  obtain ⟨P, hP⟩ : ∃ P, P = 2 ^ L.length := ⟨_, rfl⟩
  obtain ⟨q, hq⟩ : ∃ q, q = t &&& (2 ^ L.length - 1) := ⟨_, rfl⟩
  rw [← hq] at ha hO
  rw [← hP] at ha hpw hp0
  have e1 : IntKind.u64.wrap (2 ^ L.length : Int) = (P : Int) := by rw [show (2 ^ L.length : Int) = (P : Int) by rw [hP]; simp]; exact IntWalk.u64_in _ (by omega)
  have e2 : IntKind.u64.wrap ((P : Int) - 1) = ((P - 1 : Nat) : Int) := by rw [show (P : Int) - 1 = ((P - 1 : Nat) : Int) by omega]; exact IntWalk.u64_in _ (by omega)
  obtain ⟨K, hK⟩ : ∃ K, K = (placesTo t L.length).length := ⟨_, rfl⟩
  rw [← hK] at hO hle ⊢
  have e3 := IntWalk.i64_in (9 * (K : Int)) (by omega)
  have e4 := IntWalk.i64_in (9 + 9 * (K : Int)) (by omega)
  have hb := below_alloc1 w (.cells (bdL L) 32)
  have q3 := BoxL.new_ w L
  have hl0 : (0 : Int) ≤ (L.length : Int) := by omega
  have hl1 : (L.length : Int) ≤ 64 := by omega
  have hLn := fun W => Len_calls L W
  clear hp hq hK hP hlt
  go_enter Try.func21, Try.ntmps21
  go_wp2_with ((with_reducible refine at_ld 32 3 ?_); refine wpList_ld rfl (.tmp 3) rfl w.heap.size rfl L q3 ?_)
  refine (hLn _).mono ?_
  rintro e w2 ⟨rfl, h9⟩
  have hb := hb.trans (h9.mono hb.size)
  clear h9 hLn q3
  go_wp2_with fail
  refine (hO _).mono ?_
  rintro e w3 ⟨rfl, hw⟩
  have hw := hw.symm
  subst hw
  go_wp2_with fail
  go_ret
  exact ⟨by simp, hb⟩
end Go.Proofs.Ytioahddobogpjaa
/- Steps of a region that draws its order, each by one closed fact (the delta's seat). Conditions: those said. -/
namespace Go.Proofs.Ytioahddobogpjaa
open Go.RowKit

section
variable {ops : Array Oper} {S : World → Prop} {op : Oper} {a : Act}
theorem yk (v : Value) (hw : Region.wanted op (yielded ops a.tmps) = true) (h : ∀ w, (execOp a.eval op).run Try.prog w = .ok (.value v) w) : YieldsIf Try.prog ops S op v a := .inl ⟨hw, fun w _ => h w⟩
theorem yk_no (hw : Region.wanted op (yielded ops a.tmps) = false) : YieldsIf Try.prog ops S op undef a := .inr ⟨hw, rfl⟩
theorem yk_eq (hw : Region.wanted op (yielded ops a.tmps) = true) (k : IntKind) (T : TypeId) (x y : Operand) (R : TypeId) (ho : op.op = .binOp .eql T x y R)
    (n m : Int) (hx : a.eval x = .int k n) (hy : a.eval y = .int k m) (d : Bool) (hd : (n == m) = d) : YieldsIf Try.prog ops S op (.bool d) a :=
  .inl ⟨hw, fun w _ => by
    unfold execOp
    simp only [ho, hx, hy]
    go_simp⟩
theorem yk_ldP (hw : Region.wanted op (yielded ops a.tmps) = true) (x : Operand) (ho : op.op = .load 36 x) (p : Addr) (v : Value) (hx : a.eval x = .pointer (some p)) (hS : ∀ w, S w → w.cell? p = some v) : YieldsIf Try.prog ops S op v a :=
  .inl ⟨hw, fun w h => by
    have hc := hS w h
    unfold execOp
    simp only [ho, hx]
    go_simp⟩
theorem yk_ldCs (hw : Region.wanted op (yielded ops a.tmps) = true) (x : Operand) (ho : op.op = .load 42 x) (p : Addr) (v : Value) (hx : a.eval x = .pointer (some p)) (hS : ∀ w, S w → w.cell? p = some v) : YieldsIf Try.prog ops S op v a :=
  .inl ⟨hw, fun w h => by
    have hc := hS w h
    unfold execOp
    simp only [ho, hx]
    go_simp⟩
theorem yk_ldRC (hw : Region.wanted op (yielded ops a.tmps) = true) (x : Operand) (ho : op.op = .load 83 x) (b : Nat) (u : Int) (y : Nat) (hx : a.eval x = .pointer (some ⟨b, 0, none⟩)) (h0 : ∀ w, S w → w.cell? ⟨b, 0, none⟩ = some (.int .i32 u)) (h1 : ∀ w, S w → w.cell? ⟨b, 1, none⟩ = some (.int .u32 (y : Int))) : YieldsIf Try.prog ops S op (.agg #[.int .i32 u, .int .u32 (y : Int)]) a :=
  .inl ⟨hw, fun w h => by
    have hc := h0 w h
    have hd := h1 w h
    unfold execOp
    simp only [ho, hx]
    go_simp⟩
theorem yk_ldDl (hw : Region.wanted op (yielded ops a.tmps) = true) (x : Operand) (ho : op.op = .load 38 x) (b t h : Nat) (vp vc : Value) (hx : a.eval x = .pointer (some ⟨b, 0, none⟩)) (hS : ∀ w, S w → BoxD w b t h vp vc) : YieldsIf Try.prog ops S op (.agg #[.int .u32 (t : Int), .int .u32 (h : Int), vp, vc]) a :=
  .inl ⟨hw, fun w hw' => by
    have c0 := (hS w hw').c0
    have c1 := (hS w hw').c1
    have c2 := (hS w hw').c2
    have c3 := (hS w hw').c3
    unfold execOp
    simp only [ho, hx]
    go_simp⟩
theorem yk_cvB (hw : Region.wanted op (yielded ops a.tmps) = true) (x : Operand) (ho : op.op = .convert 3 5 x) (y : Int) (hx : a.eval x = .int .i64 y) (hy : IntKind.u8.wrap y = y) : YieldsIf Try.prog ops S op (.int .u8 y) a :=
  .inl ⟨hw, fun w _ => by
    unfold execOp
    simp only [ho, hx]
    go_simp⟩
variable {w : World} {K : Act → World → Prop} {Q : Exit → Act → World → Prop}
theorem wp_callF (f : FuncId) (args : Array Value) (hrun : (execOp a.eval op).run Try.prog w = .ok (.enter f args) w)
    (hc : Calls Try.prog f args w fun e w' => ∃ v, e = .returned v ∧ K (a.put op.dst v) w') : op.wp Try.prog a w K Q := by
  unfold Oper.wp
  rw [hrun, Oper.upon_enter]
  refine hc.mono fun e w'' hh => ?_
  obtain ⟨v, rfl, hk⟩ := hh
  exact hk
theorem wp_bsB (x : Operand) (ho : op.op = .buildSlice 36 1 #[(0, x)]) (y : Int) (hx : a.eval x = .int .u8 y)
    (h : K (a.put op.dst (.slice (some ⟨w.heap.size, 0, none⟩) 1 1)) (w.alloc (.cells #[.int .u8 y] 5))) : op.wp Try.prog a w K Q := by
  have hr : (Instr.buildSlice 36 1 #[(0, .int .u8 y)]).run Try.prog w = .ok (.slice (some ⟨w.heap.size, 0, none⟩) 1 1) (w.alloc (.cells #[.int .u8 y] 5)) := by kernel_rfl
  unfold Oper.wp execOp
  simp only [ho, List.map_toArray, List.map_cons, List.map_nil, hx, Sem.run_bind, hr, Result.andThen_ok, Sem.run_pure]
  exact h
theorem wp_bsRC (x : Operand) (ho : op.op = .buildSlice 42 1 #[(0, x)]) (u : Int) (y : Nat) (hx : a.eval x = .agg #[.int .i32 u, .int .u32 (y : Int)])
    (h : K (a.put op.dst (.slice (some ⟨w.heap.size, 0, none⟩) 1 1)) (w.alloc (.cells #[.int .i32 u, .int .u32 (y : Int)] 83))) : op.wp Try.prog a w K Q := by
  have hr : (Instr.buildSlice 42 1 #[(0, .agg #[.int .i32 u, .int .u32 (y : Int)])]).run Try.prog w = .ok (.slice (some ⟨w.heap.size, 0, none⟩) 1 1) (w.alloc (.cells #[.int .i32 u, .int .u32 (y : Int)] 83)) := by kernel_rfl
  unfold Oper.wp execOp
  simp only [ho, List.map_toArray, List.map_cons, List.map_nil, hx, Sem.run_bind, hr, Result.andThen_ok, Sem.run_pure]
  exact h
theorem wp_appB (s x : Operand) (ho : op.op = .call { callee := .builtin .append, args := #[s, x], argTypes := #[36, 36] })
    (B : Nat) (v : Value) (l : List UInt8) (hs : a.eval s = v) (hown : Row w B v l)
    (b : Nat) (A : Option Addr) (m c : Nat) (news : List UInt8) (hx : a.eval x = .slice A m c) (hr : Bs w b A news) (hm : news.length = m)
    (hlen : l.length + m ≤ 1000000) (hbase : B ≤ w.heap.size)
    (h : ∀ v' w', Row w' B v' (l ++ news) → Mod (fun i => v.ownBlock = some i) w w' → K (a.put op.dst v') w') : op.wp Try.prog a w K Q := by
  obtain ⟨i0, hi0, hz0, hz1, hz2⟩ := info_parts byte_info
  refine wp_append_sl (P := Try.prog) w s x _ ho B 5 i0 _ 1 1 Try.underlying36 hi0 hz0 hz1 hz2 rfl (by omega) v l.length (bv l) hs hown b A m c (bv news) hx hr (by simp [hm]) (Sl.none_len hr (by simp [hm])) (bv_one _)
    (by simp only [maxLen]; omega) (by omega) hbase ?_
  intro v' w' h1 h2 _
  exact h v' w' (by unfold Row; rw [List.length_append, hm, bv_append]; exact h1) (Mod.of_grown h2)
theorem wp_appRC (s x : Operand) (ho : op.op = .call { callee := .builtin .append, args := #[s, x], argTypes := #[42, 42] })
    (B : Nat) (v : Value) (L : List (Int × Nat)) (hs : a.eval s = v) (hown : RowC 83 w B v L)
    (b : Nat) (A : Option Addr) (m c : Nat) (M : List (Int × Nat)) (hx : a.eval x = .slice A m c) (hr : Sl w b A (cv M)) (hm : M.length = m)
    (hlen : L.length + m ≤ 1000000) (hbase : B ≤ w.heap.size)
    (h : ∀ v' w', RowC 83 w' B v' (L ++ M) → Mod (fun i => v.ownBlock = some i) w w' → K (a.put op.dst v') w') : op.wp Try.prog a w K Q := by
  obtain ⟨i0, hi0, hz0, hz1, hz2⟩ := info_parts cellR_info
  refine wp_append_sl (P := Try.prog) w s x _ ho B 83 i0 _ 2 8 Try.underlying42 hi0 hz0 hz1 hz2 rfl (by omega) v L.length (cv L) hs hown b A m c (cv M) hx hr (by simp [hm]) (fun hA => by have := Sl.none_len hr rfl hA; simp at this; omega) (cv_one _)
    (by simp only [maxLen]; omega) (by omega) hbase ?_
  intro v' w' h1 h2 _
  exact h v' w' (by unfold RowC; rw [List.length_append, hm, cv_append]; exact h1) (Mod.of_grown h2)
theorem wp_ldP (x : Operand) (ho : op.op = .load 36 x) (p : Addr) (v : Value) (hx : a.eval x = .pointer (some p)) (hc : w.cell? p = some v) (h : K (a.put op.dst v) w) : op.wp Try.prog a w K Q := by
  unfold Oper.wp execOp
  simp only [ho, hx]
  go_simp
  exact h
theorem wp_ldCs (x : Operand) (ho : op.op = .load 42 x) (p : Addr) (v : Value) (hx : a.eval x = .pointer (some p)) (hc : w.cell? p = some v) (h : K (a.put op.dst v) w) : op.wp Try.prog a w K Q := by
  unfold Oper.wp execOp
  simp only [ho, hx]
  go_simp
  exact h
theorem wp_stP (x y : Operand) (ho : op.op = .store 36 x y) (p : Addr) (A : Option Addr) (n c : Nat) (hx : a.eval x = .pointer (some p)) (hy : a.eval y = .slice A n c) (old : Value) (hc : w.cell? p = some old) (hf : w.frozen? p = false)
    (h : K (a.put op.dst undef) (w.setCell p (.slice A n c))) : op.wp Try.prog a w K Q := by
  unfold Oper.wp execOp
  simp only [ho, hx, hy]
  go_simp
  exact h
theorem wp_stCs (x y : Operand) (ho : op.op = .store 42 x y) (p : Addr) (A : Option Addr) (n c : Nat) (hx : a.eval x = .pointer (some p)) (hy : a.eval y = .slice A n c) (old : Value) (hc : w.cell? p = some old) (hf : w.frozen? p = false)
    (h : K (a.put op.dst undef) (w.setCell p (.slice A n c))) : op.wp Try.prog a w K Q := by
  unfold Oper.wp execOp
  simp only [ho, hx, hy]
  go_simp
  exact h
end
theorem sl_same {a a' : World} {p : Addr} {v : Value} (h : Below a.heap.size a a') (hc : a.cell? p = some v) : a'.cell? p = some v :=
  (h.cell (World.block_lt_of_cell? a p hc)).trans hc
theorem rowsR_ne {w : World} {B B' n m : Nat} {v v' : Value} {xs ys : List Value} (h : w.ownsRow B 5 1 v n xs) (h' : w.ownsRow B' 83 2 v' m ys) {i : Nat} (hv : v.ownBlock = some i) (hv' : v'.ownBlock = some i) : False := by
  rcases h'.2 with ⟨rfl, _⟩ | ⟨g', cap, cur, rfl, _, hh, _⟩
  · simp [Value.ownBlock] at hv'
  · have e : g' = i := by simpa [Value.ownBlock] using hv'
    subst e
    exact own_ne h hh (by decide) hv
/-- Block b holds a delta of the document's. -/
def BoxE (w : World) (b : Nat) (t h : Nat) (vp vc : Value) : Prop := w.heap[b]? = some (.cells #[.int .u32 (t : Int), .int .u32 (h : Int), vp, vc] 44 (0, 0))
namespace BoxE
variable {w w' : World} {b t h : Nat} {vp vc : Value}
theorem new_ (w : World) (t h : Nat) (vp vc : Value) : BoxE (w.alloc (.cells #[.int .u32 (t : Int), .int .u32 (h : Int), vp, vc] 44)) w.heap.size t h vp vc := heap_alloc_new w _
theorem lt (q : BoxE w b t h vp vc) : b < w.heap.size := (Array.getElem?_eq_some_iff.1 q).1
theorem c0 (q : BoxE w b t h vp vc) : w.cell? ⟨b, 0, none⟩ = some (.int .u32 (t : Int)) := by rw [cell_of_row w b 0 _ _ _ q]; rfl
theorem c1 (q : BoxE w b t h vp vc) : w.cell? ⟨b, 1, none⟩ = some (.int .u32 (h : Int)) := by rw [cell_of_row w b 1 _ _ _ q]; rfl
theorem c2 (q : BoxE w b t h vp vc) : w.cell? ⟨b, 2, none⟩ = some vp := by rw [cell_of_row w b 2 _ _ _ q]; rfl
theorem c3 (q : BoxE w b t h vp vc) : w.cell? ⟨b, 3, none⟩ = some vc := by rw [cell_of_row w b 3 _ _ _ q]; rfl
theorem fr (q : BoxE w b t h vp vc) (j : Nat) : w.frozen? ⟨b, j, none⟩ = false := frozen_of_row w b j _ _ q
theorem ext (q : BoxE w b t h vp vc) (hb : Below w.heap.size w w') : BoxE w' b t h vp vc := (hb.block b q.lt).trans q
theorem alloc (q : BoxE w b t h vp vc) (o : Obj) : BoxE (w.alloc o) b t h vp vc := (Below.heap_alloc w o b q.lt).trans q
theorem mod {S : Nat → Prop} (q : BoxE w b t h vp vc) (hm : Mod S w w') (hs : ¬ S b) : BoxE w' b t h vp vc := (hm.block b q.lt hs).trans q
theorem set2 (q : BoxE w b t h vp vc) (u : Value) : BoxE (w.setCell ⟨b, 2, none⟩ u) b t h u vc := heap_setCell_same w b 2 _ _ _ q
theorem set3 (q : BoxE w b t h vp vc) (u : Value) : BoxE (w.setCell ⟨b, 3, none⟩ u) b t h vp u := heap_setCell_same w b 3 _ _ _ q
end BoxE
/-- A cell of the document's in a variable. -/
def BoxR6 (w : World) (g : Nat) (x : Int) (y : Nat) : Prop := w.heap[g]? = some (.cells #[.int .i32 x, .int .u32 (y : Int)] 83 (0, 0))
namespace BoxR6
variable {w w' : World} {g : Nat} {x : Int} {y : Nat}
theorem lt (h : BoxR6 w g x y) : g < w.heap.size := (Array.getElem?_eq_some_iff.1 h).1
theorem ext (h : BoxR6 w g x y) (hb : Below w.heap.size w w') : BoxR6 w' g x y := (hb.block g h.lt).trans h
theorem mod {S : Nat → Prop} (h : BoxR6 w g x y) (hm : Mod S w w') (hs : ¬ S g) : BoxR6 w' g x y := (hm.block g h.lt hs).trans h
theorem new_ (w : World) (x : Int) (y : Nat) : BoxR6 (w.alloc (.cells #[.int .i32 x, .int .u32 (y : Int)] 83)) w.heap.size x y := heap_alloc_new w _
theorem c0 (h : BoxR6 w g x y) : w.cell? ⟨g, 0, none⟩ = some (.int .i32 x) := by rw [cell_of_row w g _ _ _ _ h]; rfl
theorem c1 (h : BoxR6 w g x y) : w.cell? ⟨g, 1, none⟩ = some (.int .u32 (y : Int)) := by rw [cell_of_row w g _ _ _ _ h]; rfl
end BoxR6
end Go.Proofs.Ytioahddobogpjaa
/- A region that draws its order, with operations (K) that come behind all others: what is asked of the world is asked up to these alone, so that a cell that they write may be read ahead of them in one step. Conditions: those said. -/
namespace Go.Proofs.Ytioahddobogpjaa
open Go.RowKit

section
variable {P : Program} {ops : Array Oper} {Q : Exit → Act → World → Prop} {md : Region.Mode} {S : World → Prop} {K : Nat → Bool}

/-- Whatever comes up, all the way; S behind each that is none of K. -/
def wpAnyE (P : Program) (md : Region.Mode) (ops : Array Oper) (Q : Exit → Act → World → Prop) (S : World → Prop) (K : Nat → Bool) : Nat → Array Bool → Act → World → Prop
  | 0, done, a, w => Region.ready md ops done = [] ∧ Q .normal a w
  | n + 1, done, a, w =>
    (Region.ready md ops done = [] → Q .normal a w) ∧
    ∀ j ∈ Region.ready md ops done, wpOp P ops Q j (fun a' w' => (K j = false → S w') ∧ wpAnyE P md ops Q S K n (done.setIfInBounds j true) a' w') a w

theorem wpAny_of_E : ∀ (n : Nat) (done : Array Bool) (a : Act) (w : World), wpAnyE P md ops Q S K n done a w → wpAny P md ops Q n done a w
  | 0, _, _, _, h => h
  | n + 1, _, _, _, h => ⟨h.1, fun j hj => wpOp_mono (fun a' w' h' => wpAny_of_E n _ a' w' h'.2) (h.2 j hj)⟩

/-- Does j wait for i, be it by way of others? -/
def backTo (md : Region.Mode) (ops : Array Oper) (i : Nat) : Nat → Nat → Bool
  | 0, _ => false
  | n + 1, j => match ops[j]? with
    | some o => o.after.any fun e => Region.binds md e && (e.on == i || backTo md ops i n e.on)
    | none => false
/-- Do all of K wait for i? -/
def waitK (md : Region.Mode) (ops : Array Oper) (K : Nat → Bool) (i : Nat) : Bool := (List.range ops.size).all fun j => !K j || backTo md ops i 20 j
/-- What is done has what it waits for behind it. -/
def closedB (md : Region.Mode) (ops : Array Oper) (done : Array Bool) : Bool :=
  (List.range ops.size).all fun j => !done.getD j false || match ops[j]? with | some o => o.after.all fun e => !Region.binds md e || done.getD e.on false | none => true
def Closed (md : Region.Mode) (ops : Array Oper) (done : Array Bool) : Prop := ∀ j o, done.getD j false = true → ops[j]? = some o → ∀ e ∈ o.after, Region.binds md e = true → done.getD e.on false = true
theorem closed_of {done : Array Bool} (h : closedB md ops done = true) : Closed md ops done := fun j o hd ho e he hb => by
  simp only [closedB, List.all_eq_true, List.mem_range] at h
  have h1 := h j (Array.getElem?_eq_some_iff.1 ho).1
  simp only [hd, ho, Bool.not_true, Bool.false_or] at h1
  have h2 := Array.all_eq_true_iff_forall_mem.1 h1 e he
  simpa [hb] using h2
theorem Closed.set {done : Array Bool} (h : Closed md ops done) {j : Nat} (hj : j ∈ Region.ready md ops done) : Closed md ops (done.setIfInBounds j true) := fun k o hd ho e he hb => by
  by_cases hkj : j = k
  · subst hkj
    obtain ⟨_, o', ho', hall⟩ := mem_ready.1 hj
    rw [ho] at ho'
    injection ho' with ho'
    subst ho'
    exact getD_set_true (hall e he hb)
  · rw [getD_set_ne false hkj] at hd
    exact getD_set_true (h k o hd ho e he hb)
theorem back_done {done : Array Bool} (hc : Closed md ops done) {i : Nat} : ∀ (n j : Nat) (o : Oper), ops[j]? = some o → (∀ e ∈ o.after, Region.binds md e = true → done.getD e.on false = true) → backTo md ops i n j = true → done.getD i false = true
  | 0, _, _, _, _, h => by cases h
  | n + 1, j, o, ho, hall, h => by
    simp only [backTo, ho] at h
    obtain ⟨e, he, hb⟩ := Array.any_eq_true'.1 h
    simp only [Bool.and_eq_true, Bool.or_eq_true, beq_iff_eq] at hb
    obtain ⟨hb, h1 | h1⟩ := hb
    · rw [← h1]
      exact hall e he hb
    · cases n with
      | zero => cases h1
      | succ n =>
        cases ho2 : ops[e.on]? with
        | none => simp [backTo, ho2] at h1
        | some o2 => exact back_done hc (n + 1) e.on o2 ho2 (hc e.on o2 (hall e he hb) ho2) h1
theorem waitK_spec {i : Nat} (h : waitK md ops K i = true) : ∀ j, j < ops.size → K j = true → backTo md ops i 20 j = true := fun j hj hk => by
  simp only [waitK, List.all_eq_true, List.mem_range] at h
  simpa [hk] using h j hj

theorem wpAnyE_first {i : Nat} {oi : Oper} {v : Value} (hi : ops[i]? = some oi) (hsel : ∀ (j : Nat) (o : Oper) cs b, ops[j]? = some o → o.op ≠ .select cs b)
    (hQ : ∀ c a w, Q (.panic c) (a.put oi.dst v) w → Q (.panic c) a w) (hw : ∀ j, j < ops.size → K j = true → backTo md ops i 20 j = true) (n : Nat) :
    ∀ (done : Array Bool) (a : Act) (w : World), Closed md ops done →
      (∀ j oj, ops[j]? = some oj → j ≠ i → done.getD j true = false → (∀ e ∈ oj.after, Region.binds md e = true → e.on ≠ i) → oi.apart ops oj = true) →
      i ∈ Region.ready md ops done → YieldsIf P ops S oi v a → S w →
      wpAnyE P md ops Q S K n (done.setIfInBounds i true) (a.put oi.dst v) w → wpAnyE P md ops Q S K (n + 1) done a w := by
  induction n with
  | zero =>
    intro done a w _ _ hr hy hS H
    refine ⟨fun h => absurd hr (by rw [h]; simp), fun j hj => ?_⟩
    by_cases hji : j = i
    · subst hji
      exact hy.wpOp hi hS ⟨fun _ => hS, H⟩
    · have := ready_mono hj hji
      rw [H.1] at this
      cases this
  | succ n ih =>
    intro done a w hcl hfree hr hy hS H
    refine ⟨fun h => absurd hr (by rw [h]; simp), fun j hj => ?_⟩
    by_cases hji : j = i
    · subst hji
      exact hy.wpOp hi hS ⟨fun _ => hS, H⟩
    · obtain ⟨hun, oj, hoj, hall⟩ := mem_ready.1 hj
      have hnot : ∀ e ∈ oj.after, Region.binds md e = true → e.on ≠ i := fun e he hb heq => by
        have h1 := hall e he hb
        have h0 := (mem_ready.1 hr).1
        rw [heq] at h1
        rcases Nat.lt_or_ge i done.size with h' | h'
        · simp [h'] at h0 h1
          rw [h0] at h1
          cases h1
        · simp [Array.getElem?_eq_none h'] at h1
      have hkj : K j = false := by
        cases hk : K j with
        | false => rfl
        | true =>
          have h1 := back_done hcl 20 j oj hoj hall (hw j (Array.getElem?_eq_some_iff.1 hoj).1 hk)
          have h0 := (mem_ready.1 hr).1
          rcases Nat.lt_or_ge i done.size with h' | h'
          · simp [h'] at h0 h1
            rw [h0] at h1
            cases h1
          · simp [Array.getElem?_eq_none h'] at h1
      have h2 := wpOp_putIf hoj (hfree j oj hoj hji hun hnot) (fun cs b => hsel i oi cs b hi) (fun cs b => hsel j oj cs b hoj) hQ hy (H.2 j (ready_mono hj hji))
      refine wpOp_mono (fun a' w' h3 => ?_) h2
      have hS' := h3.2.1 hkj
      refine ⟨fun _ => hS', ih _ a' w' (hcl.set hj) (fun k ok hk hki' hun' hno => ?_) (ready_mono hr (Ne.symm hji)) h3.1 hS' ?_⟩
      · refine hfree k ok hk hki' ?_ hno
        by_cases hjk : j = k
        · subst hjk; exact hun
        · rw [getD_set_ne true hjk] at hun'; exact hun'
      · rw [Array.setIfInBounds_comm _ _ hji]
        exact h3.2.2

theorem wpAnyE_take {i : Nat} {oi : Oper} {v : Value} {n : Nat} {done : Array Bool} {a : Act} {w : World} (hi : ops[i]? = some oi)
    (hs : Region.noSelect ops = true) (hf : Region.free md ops done i = true) (hr : (Region.ready md ops done).contains i = true) (hc : closedB md ops done = true) (hk : waitK md ops K i = true)
    (hQ : ∀ c a w, Q (.panic c) (a.put oi.dst v) w → Q (.panic c) a w) (hy : YieldsIf P ops S oi v a) (hS : S w)
    (h : wpAnyE P md ops Q S K n (done.setIfInBounds i true) (a.put oi.dst v) w) : wpAnyE P md ops Q S K (n + 1) done a w :=
  wpAnyE_first hi (Region.noSelect_spec hs) hQ (waitK_spec hk) n done a w (closed_of hc) (Region.free_spec hi hf) (by simpa using hr) hy hS h

/-- What comes up of those that may. -/
def EachE (P : Program) (md : Region.Mode) (ops : Array Oper) (Q : Exit → Act → World → Prop) (S : World → Prop) (K : Nat → Bool) (n : Nat) (done : Array Bool) (a : Act) (w : World) (rs : List Nat) : Prop :=
  ∀ j ∈ rs, wpOp P ops Q j (fun a' w' => (K j = false → S w') ∧ wpAnyE P md ops Q S K n (done.setIfInBounds j true) a' w') a w
theorem EachE.nil {n : Nat} {done : Array Bool} {a : Act} {w : World} : EachE P md ops Q S K n done a w [] := fun _ h => by cases h
theorem EachE.cons {n : Nat} {done : Array Bool} {a : Act} {w : World} {j : Nat} {o : Oper} {rs : List Nat} (hk : K j = false) (ho : ops[j]? = some o)
    (h : ∀ K' : Act → World → Prop, Shut (∀ a w, S w → (S w → wpAnyE P md ops Q S K n (done.setIfInBounds j true) a w) → K' a w) → if Region.wanted o (yielded ops a.tmps) = true then Oper.wp P o a w K' Q else K' (a.put o.dst undef) w)
    (hs : EachE P md ops Q S K n done a w rs) : EachE P md ops Q S K n done a w (j :: rs) := fun i hi => by
  rcases List.mem_cons.1 hi with rfl | hi
  · exact wpOp_step ho (fun K' hK => h K' (fun a w hS hW => hK a w ⟨fun _ => hS, hW hS⟩))
  · exact hs i hi
/-- One of K: nothing is asked of the world behind it. -/
theorem EachE.last {n : Nat} {done : Array Bool} {a : Act} {w : World} {j : Nat} {o : Oper} (hk : K j = true) (ho : ops[j]? = some o)
    (h : ∀ K' : Act → World → Prop, Shut (∀ a w, wpAnyE P md ops Q S K n (done.setIfInBounds j true) a w → K' a w) → if Region.wanted o (yielded ops a.tmps) = true then Oper.wp P o a w K' Q else K' (a.put o.dst undef) w) : EachE P md ops Q S K n done a w [j] := fun i hi => by
  rw [List.mem_singleton] at hi
  subst hi
  exact wpOp_step ho (fun K' hK => h K' (fun a w hW => hK a w ⟨fun e => absurd (hk.symm.trans e) (by decide), hW⟩))
theorem wpAnyE_ready {rs : List Nat} {n : Nat} {done : Array Bool} {a : Act} {w : World} (hr : Region.ready md ops done = rs) (hne : rs ≠ [])
    (h : EachE P md ops Q S K n done a w rs) : wpAnyE P md ops Q S K (n + 1) done a w :=
  ⟨fun h0 => absurd (hr ▸ h0) hne, hr ▸ h⟩
theorem wpAnyE_done {done : Array Bool} {a : Act} {w : World} (hr : Region.ready md ops done = []) (h : Q .normal a w) :
    ∀ n, wpAnyE P md ops Q S K n done a w
  | 0 => ⟨hr, h⟩
  | _ + 1 => ⟨fun _ => h, by rw [hr]; simp⟩
theorem wp_pure {op : Oper} {a : Act} {w : World} {KK : Act → World → Prop} (v : Value) (h : ∀ w, (execOp a.eval op).run P w = .ok (.value v) w) (hk : KK (a.put op.dst v) w) : op.wp P a w KK Q := by
  unfold Oper.wp
  rw [h w]
  exact hk
/-- The beginning. -/
theorem wp_region_E {id : Nat} {a : Act} {w : World} (K : Nat → Bool) (S : World → Prop) (hm : P.follows .mixedOrders = true) (hS : S w.drew)
    (h : S w.drew → wpAnyE P .any ops Q S K ops.size (Array.replicate ops.size false) a w.drew) : (Code.region id ops true).wp P Q a w :=
  wp_region_any hm (wpAny_of_E _ _ _ _ (h hS))
end
end Go.Proofs.Ytioahddobogpjaa
/- Steps on lists of board's cells, each by one closed fact (the delta's seat). Conditions: those said. -/
namespace Go.Proofs.Ytioahddobogpjaa
open Go.RowKit

section
variable {ops : Array Oper} {S : World → Prop} {op : Oper} {a : Act}
theorem yk_ldC (hw : Region.wanted op (yielded ops a.tmps) = true) (x : Operand) (ho : op.op = .load 22 x) (p : Addr) (v : Value) (hx : a.eval x = .pointer (some p)) (hS : ∀ w, S w → w.cell? p = some v) : YieldsIf Try.prog ops S op v a :=
  .inl ⟨hw, fun w h => by
    have hc := hS w h
    unfold execOp
    simp only [ho, hx]
    go_simp⟩
theorem yk_ldU (hw : Region.wanted op (yielded ops a.tmps) = true) (x : Operand) (ho : op.op = .load 5 x) (p : Addr) (v : Int) (hx : a.eval x = .pointer (some p)) (hS : ∀ w, S w → w.cell? p = some (.int .u8 v)) : YieldsIf Try.prog ops S op (.int .u8 v) a :=
  .inl ⟨hw, fun w h => by
    have hc := hS w h
    unfold execOp
    simp only [ho, hx]
    go_simp⟩
variable {w : World} {K : Act → World → Prop} {Q : Exit → Act → World → Prop}
theorem wp_bsC0 (ho : op.op = .buildSlice 22 0 #[])
    (h : K (a.put op.dst (.slice (some ⟨w.heap.size, 0, none⟩) 0 0)) (w.alloc (.cells #[] 29))) : op.wp Try.prog a w K Q := by
  have hr : (Instr.buildSlice 22 0 #[]).run Try.prog w = .ok (.slice (some ⟨w.heap.size, 0, none⟩) 0 0) (w.alloc (.cells #[] 29)) := by kernel_rfl
  unfold Oper.wp execOp
  simp only [ho, List.map_toArray, List.map_nil, Sem.run_bind, hr, Result.andThen_ok, Sem.run_pure]
  exact h
theorem wp_bsC (x : Operand) (ho : op.op = .buildSlice 22 1 #[(0, x)]) (u : Int) (y : Nat) (hx : a.eval x = .agg #[.int .i32 u, .int .u32 (y : Int)])
    (h : K (a.put op.dst (.slice (some ⟨w.heap.size, 0, none⟩) 1 1)) (w.alloc (.cells #[.int .i32 u, .int .u32 (y : Int)] 29))) : op.wp Try.prog a w K Q := by
  have hr : (Instr.buildSlice 22 1 #[(0, .agg #[.int .i32 u, .int .u32 (y : Int)])]).run Try.prog w = .ok (.slice (some ⟨w.heap.size, 0, none⟩) 1 1) (w.alloc (.cells #[.int .i32 u, .int .u32 (y : Int)] 29)) := by kernel_rfl
  unfold Oper.wp execOp
  simp only [ho, List.map_toArray, List.map_cons, List.map_nil, hx, Sem.run_bind, hr, Result.andThen_ok, Sem.run_pure]
  exact h
theorem wp_appC (s x : Operand) (ho : op.op = .call { callee := .builtin .append, args := #[s, x], argTypes := #[22, 22] })
    (B : Nat) (v : Value) (L : List (Int × Nat)) (hs : a.eval s = v) (hown : RowC 29 w B v L)
    (b : Nat) (A : Option Addr) (m c : Nat) (M : List (Int × Nat)) (hx : a.eval x = .slice A m c) (hr : Sl w b A (cv M)) (hm : M.length = m)
    (hlen : L.length + m ≤ 1000000) (hbase : B ≤ w.heap.size)
    (h : ∀ v' w', RowC 29 w' B v' (L ++ M) → Mod (fun i => v.ownBlock = some i) w w' → K (a.put op.dst v') w') : op.wp Try.prog a w K Q := by
  obtain ⟨i0, hi0, hz0, hz1, hz2⟩ := info_parts cellB_info
  refine wp_append_sl (P := Try.prog) w s x _ ho B 29 i0 _ 2 8 Try.underlying22 hi0 hz0 hz1 hz2 rfl (by omega) v L.length (cv L) hs hown b A m c (cv M) hx hr (by simp [hm]) (fun hA => by have := Sl.none_len hr rfl hA; simp at this; omega) (cv_one _)
    (by simp only [maxLen]; omega) (by omega) hbase ?_
  intro v' w' h1 h2 _
  exact h v' w' (by unfold RowC; rw [List.length_append, hm, cv_append]; exact h1) (Mod.of_grown h2)
theorem wp_stC (x y : Operand) (ho : op.op = .store 22 x y) (p : Addr) (A : Option Addr) (n c : Nat) (hx : a.eval x = .pointer (some p)) (hy : a.eval y = .slice A n c) (old : Value) (hc : w.cell? p = some old) (hf : w.frozen? p = false)
    (h : K (a.put op.dst undef) (w.setCell p (.slice A n c))) : op.wp Try.prog a w K Q := by
  unfold Oper.wp execOp
  simp only [ho, hx, hy]
  go_simp
  exact h
theorem wp_alE (ho : op.op = .alloc 44) (h : K (a.put op.dst (.pointer (some ⟨w.heap.size, 0, none⟩))) (w.alloc (.cells #[.int .u32 ((0 : Nat) : Int), .int .u32 ((0 : Nat) : Int), .slice none 0 0, .slice none 0 0] 44))) : op.wp Try.prog a w K Q := by
  have hz : (zeroValue 44).run Try.prog w = .ok (.agg #[.int .u32 ((0 : Nat) : Int), .int .u32 ((0 : Nat) : Int), .slice none 0 0, .slice none 0 0]) w := by kernel_rfl
  unfold Oper.wp execOp
  simp only [ho, Instr.alloc, newVar, newRow, run_newObj_alloc, Sem.run_bind, Sem.run_pure, Result.andThen_ok, hz, Value.cells]
  exact h
theorem wp_stE (x y : Operand) (ho : op.op = .store 44 x y) (k t h : Nat) (A1 : Option Addr) (n1 c1 : Nat) (A2 : Option Addr) (n2 c2 : Nat) (hx : a.eval x = .pointer (some ⟨k, 0, none⟩)) (hy : a.eval y = .agg #[.int .u32 (t : Int), .int .u32 (h : Int), .slice A1 n1 c1, .slice A2 n2 c2]) {t0 h0 : Nat} {vp vc : Value} (q : BoxE w k t0 h0 vp vc)
    (hk : K (a.put op.dst undef) (w.setRow k #[.int .u32 (t : Int), .int .u32 (h : Int), .slice A1 n1 c1, .slice A2 n2 c2])) : op.wp Try.prog a w K Q :=
  wp_store_row 44 x y ho k _ hx hy _ _ q (by kernel_rfl) (by rfl) (by simp [Value.oneCell']) hk
end
/-- Four cells of a delta's variable, written. -/
theorem four_setD (w : World) (g : Nat) {t h : Nat} {vp vc : Value} (a b c d : Value) (q : BoxD w g t h vp vc) : ((((w.setCell ⟨g, 0, none⟩ a).setCell ⟨g, 1, none⟩ b).setCell ⟨g, 2, none⟩ c).setCell ⟨g, 3, none⟩ d).heap[g]? = some (.cells #[a, b, c, d] 38 (0, 0)) := by
  have h0 := heap_setCell_same w g 0 _ _ a q
  have h1 := heap_setCell_same _ g 1 _ _ b h0
  have h2 := heap_setCell_same _ g 2 _ _ c h1
  exact heap_setCell_same _ g 3 _ _ d h2
theorem four_setE (w : World) (g : Nat) {t h : Nat} {vp vc : Value} (a b c d : Value) (q : BoxE w g t h vp vc) : ((((w.setCell ⟨g, 0, none⟩ a).setCell ⟨g, 1, none⟩ b).setCell ⟨g, 2, none⟩ c).setCell ⟨g, 3, none⟩ d).heap[g]? = some (.cells #[a, b, c, d] 44 (0, 0)) := by
  have h0 := heap_setCell_same w g 0 _ _ a q
  have h1 := heap_setCell_same _ g 1 _ _ b h0
  have h2 := heap_setCell_same _ g 2 _ _ c h1
  exact heap_setCell_same _ g 3 _ _ d h2
theorem mod_set4' (w : World) (g : Nat) (a b c d : Value) : Mod (fun i => i = g) w ((((w.setCell ⟨g, 0, none⟩ a).setCell ⟨g, 1, none⟩ b).setCell ⟨g, 2, none⟩ c).setCell ⟨g, 3, none⟩ d) := mod_set4 w g a b c d
theorem i32_rng (n : Int) : -2147483648 ≤ IntKind.i32.wrap n ∧ IntKind.i32.wrap n ≤ 2147483647 := by rw [IntKind.wrap_i32]; omega
end Go.Proofs.Ytioahddobogpjaa
/- The reference's Value. Condition: 8 bytes at most. -/
namespace Go.Proofs.Ytioahddobogpjaa
open Go.RowKit

set_option maxHeartbeats 400000 in
theorem Value_calls (A : Option Addr) (l : List UInt8) (n c b : Nat) (w : World) (hs : Bs w b A l) (hn : l.length = n) (h8 : n ≤ 8) :
    Calls Try.prog 54 #[.slice A n c] w fun e w' => e = .returned (.int .u64 (valN l : Nat)) ∧ w = w' := by
  have HN := Lib.hid hn
  clear hn
  go_enter Try.func54, Try.ntmps54
  go_wp2
  go_loop [3, 4] (fun x i => ∃ k m : Nat, k ≤ n ∧ i = .int .i64 ((k : Int) - 1) ∧ x = .int .u64 m ∧ Hid (m = valN (l.drop k))) (fun _ i => (intOf i + 1).toNat)
  case atStart => exact ⟨n, 0, Nat.le_refl _, by go_num, rfl, Lib.hid (by rw [← HN.out, List.drop_length]; rfl)⟩
  case round =>
    obtain ⟨k, m, hk, rfl, rfl, hm⟩ := hrel
    by_cases hlt : 0 < k
    · obtain ⟨j, rfl⟩ : ∃ j, k = j + 1 := ⟨k - 1, by omega⟩
      have hjl : j < l.length := by rw [HN.out]; omega
      obtain ⟨oa, rfl, hca⟩ := Bs.at_ hs hjl
      have ca := hca j hjl
      have hv := Lib.hid (valN_drop l j hjl)
      obtain ⟨q, hq⟩ : ∃ q, q = l[j] := ⟨_, rfl⟩
      rw [← hq] at ca
      have HQ := Lib.hid hq
      have hq8 := q.toNat_lt
      have hm2 : m < 72057594037927936 := by
        rw [hm.out]
        refine Nat.lt_of_lt_of_le (valN_lt _) ?_
        have : (l.drop (j + 1)).length ≤ 7 := by rw [List.length_drop, HN.out]; omega
        exact Nat.le_trans (Nat.pow_le_pow_right (by omega) this) (by decide)
      clear hca hq
      go_wp2
      go_round
      case rel =>
        refine ⟨j, 256 * m + q.toNat, by omega, rfl, by go_num, Lib.hid ?_⟩
        rw [hv.out, hm.out, HQ.out]
      case measure => simp [intOf]
    · go_wp2
      go_ret
      refine ⟨?_, rfl⟩
      rw [show k = 0 by omega] at hm
      rw [hm.out]
      rfl
end Go.Proofs.Ytioahddobogpjaa
/- The eye's methods: what each call reads off the front, and when it isn't right any more; only the eye's own block turns. -/
namespace Go.Proofs.Ytioahddobogpjaa
open Go.RowKit

/-- An eye in block g: what is left is l, its bytes in block b; has it been wrong? -/
def EyeAt (w : World) (g b : Nat) (l : List UInt8) (wr : Bool) : Prop :=
  b ≠ g ∧ ∃ A c, w.heap[g]? = some (.cells #[.slice A l.length c, .bool wr] 108 (0, 0)) ∧ l.length ≤ c ∧ c ≤ maxLen ∧ Bs w b A l

theorem EyeAt.lt {w : World} {g b : Nat} {l : List UInt8} {wr : Bool} (h : EyeAt w g b l wr) : g < w.heap.size := by
  obtain ⟨_, A, c, hg, _⟩ := h
  exact (Array.getElem?_eq_some_iff.1 hg).1
theorem EyeAt.mod {w w' : World} {g b : Nat} {l : List UInt8} {wr : Bool} (h : EyeAt w g b l wr) {S : Nat → Prop} (hm : Mod S w w') (hg : ¬ S g) (hb : ¬ S b) : EyeAt w' g b l wr := by
  obtain ⟨hne, A, c, h1, h2, h3, h4⟩ := h
  exact ⟨hne, A, c, by rw [hm.block g (Array.getElem?_eq_some_iff.1 h1).1 hg]; exact h1, h2, h3, Sl.mod h4 hm hb⟩
theorem EyeAt.ext {w w' : World} {g b : Nat} {l : List UInt8} {wr : Bool} (h : EyeAt w g b l wr) (hm : Below w.heap.size w w') : EyeAt w' g b l wr := by
  have hlt := h.lt
  obtain ⟨hne, A, c, h1, h2, h3, h4⟩ := h
  exact ⟨hne, A, c, by rw [hm.block g hlt]; exact h1, h2, h3, Sl.ext h4 hm⟩

/-- A cell of two, written. -/
theorem eye_set0 {w : World} {g : Nat} {u v x : Value} (hg : w.heap[g]? = some (.cells #[u, v] 108 (0, 0))) : (w.setCell ⟨g, 0, none⟩ x).heap[g]? = some (.cells #[x, v] 108 (0, 0)) := by
  rw [heap_setCell_same w g 0 _ _ x hg]; rfl
theorem eye_set1 {w : World} {g : Nat} {u v x : Value} (hg : w.heap[g]? = some (.cells #[u, v] 108 (0, 0))) : (w.setCell ⟨g, 1, none⟩ x).heap[g]? = some (.cells #[u, x] 108 (0, 0)) := by
  rw [heap_setCell_same w g 1 _ _ x hg]; rfl

theorem eye_store {w : World} {g b : Nat} {u : Value} {wr : Bool} {A : Option Addr} {l : List UInt8} {n c : Nat} (hne : b ≠ g) (hg : w.heap[g]? = some (.cells #[u, .bool wr] 108 (0, 0))) (hs : Bs w b A l) (hn : l.length = n) (h1 : n ≤ c) (h2 : c ≤ maxLen) : EyeAt (w.setCell ⟨g, 0, none⟩ (.slice A n c)) g b l wr := by
  subst hn
  exact ⟨hne, A, c, eye_set0 hg, h1, h2, Sl.setCell hs hne _⟩

set_option maxHeartbeats 400000 in
theorem fail_calls (g b : Nat) (l : List UInt8) (wr : Bool) (w : World) (he : EyeAt w g b l wr) :
    Calls Try.prog 66 #[.pointer (some ⟨g, 0, none⟩)] w fun e w' => e = .returned (.tuple #[]) ∧ EyeAt w' g b [] true ∧ Mod (fun i => i = g) w w' := by
  obtain ⟨hne, A, c, hg, _, _, _⟩ := he
  have hc0 := cell_of_row w g 0 _ _ _ hg
  have hc1 := cell_of_row w g 1 _ _ _ hg
  have hf0 := frozen_of_row w g 0 _ _ hg
  have hf1 := frozen_of_row w g 1 _ _ hg
  simp only [List.getElem?_toArray, List.getElem?_cons_zero, List.getElem?_cons_succ] at hc0 hc1
  have HG := Lib.hid hg
  clear hg
  go_enter Try.func66, Try.ntmps66
  go_wp2
  go_end0
  refine ⟨rfl, ⟨hne, none, 0, eye_set1 (eye_set0 HG.out), Nat.le_refl _, by simp [maxLen], Sl.nil_ _ _ _⟩, ?_⟩
  exact (Mod.setCell w _ _).trans (Mod.setCell _ _ _) (fun i _ h => h) (fun i _ h => h)

set_option maxHeartbeats 400000 in
theorem take_no (g b : Nat) (l : List UInt8) (wr : Bool) (k : Int) (w : World) (he : EyeAt w g b l wr) (hk : (l.length : Int) < k) :
    Calls Try.prog 63 #[.pointer (some ⟨g, 0, none⟩), .int .i64 k] w fun e w' => e = .returned (.slice none 0 0) ∧ EyeAt w' g b [] true ∧ Mod (fun i => i = g) w w' := by
  have he0 := he
  obtain ⟨hne, A, c, hg, _, _, _⟩ := he
  have hc0 := cell_of_row w g 0 _ _ _ hg
  simp only [List.getElem?_toArray, List.getElem?_cons_zero] at hc0
  clear hg
  go_enter Try.func63, Try.ntmps63
  go_wp2_with (go_at_call 66; refine (fail_calls g b l wr _ he0).mono ?_; rintro e w1 ⟨rfl, h1, h2⟩)
  go_ret
  exact ⟨rfl, h1, h2⟩

set_option maxHeartbeats 400000 in
theorem take_yes (g b : Nat) (l : List UInt8) (wr : Bool) (k : Nat) (w : World) (he : EyeAt w g b l wr) (hk : k ≤ l.length) :
    Calls Try.prog 63 #[.pointer (some ⟨g, 0, none⟩), .int .i64 k] w fun e w' => ∃ A', e = .returned (.slice A' k k) ∧ Bs w' b A' (l.take k) ∧ EyeAt w' g b (l.drop k) wr ∧ Mod (fun i => i = g) w w' := by
  obtain ⟨hne, A, c, hg, hlc, hcm, hs⟩ := he
  unfold maxLen at hcm
  have hc0 := cell_of_row w g 0 _ _ _ hg
  have hf0 := frozen_of_row w g 0 _ _ hg
  simp only [List.getElem?_toArray, List.getElem?_cons_zero] at hc0
  have HG := Lib.hid hg
  clear hg
  go_enter Try.func63, Try.ntmps63
  go_wp2_with fail
  · go_ret
    have h : c = k := by assumption
    have hd := hs.drop (k := k) (by simpa using hlc)
    rw [bv_drop, if_pos h] at hd
    exact ⟨A, rfl, by have := Sl.take hs k; rw [bv_take] at this; exact Sl.setCell this hne _, eye_store hne HG.out hd (by simp) (by omega) (Nat.zero_le _), Mod.setCell w ⟨g, 0, none⟩ _⟩
  · go_ret
    have h : ¬ c = k := by assumption
    have hd := hs.drop (k := k) (by simpa using hlc)
    rw [bv_drop, if_neg h] at hd
    exact ⟨A, rfl, by have := Sl.take hs k; rw [bv_take] at this; exact Sl.setCell this hne _, eye_store hne HG.out hd (by simp) (by omega) (by unfold maxLen; omega), Mod.setCell w ⟨g, 0, none⟩ _⟩

theorem take_nil (k : Int) (w : World) : Calls Try.prog 63 #[.pointer none, .int .i64 k] w fun e w' => e = .returned (.slice none 0 0) ∧ w = w' := by
  have hf : Calls Try.prog 66 #[.pointer none] w fun e w' => e = .returned (.tuple #[]) ∧ w = w' := by
    go_enter Try.func66, Try.ntmps66
    go_wp2
    go_end0
    exact ⟨rfl, rfl⟩
  have HF := Lib.hid hf
  clear hf
  go_enter Try.func63, Try.ntmps63
  go_wp2_with (go_at_call 66; refine HF.out.mono ?_; rintro e w1 ⟨rfl, rfl⟩)
  go_ret
  exact ⟨rfl, rfl⟩

theorem valN_snoc (l : List UInt8) (x : UInt8) : valN (l ++ [x]) = valN l + 256 ^ l.length * x.toNat := by
  induction l with
  | nil => simp [valN]
  | cons y l ih => rw [List.cons_append, valN_cons, ih, valN_cons, List.length_cons, Nat.pow_succ, Nat.mul_add, Nat.mul_comm (256 ^ l.length) 256, Nat.mul_assoc]; omega
theorem valN_take_succ (l : List UInt8) (k : Nat) (h : k < l.length) : valN (l.take (k + 1)) = valN (l.take k) + 256 ^ k * l[k].toNat := by
  rw [List.take_succ_eq_append_getElem h, valN_snoc, List.length_take, Nat.min_eq_left (by omega)]

theorem or_add (m q i : Nat) (h : m < 2 ^ i) : m ||| (q * 2 ^ i) = m + q * 2 ^ i := by
  rw [Nat.or_comm, ← Nat.shiftLeft_eq, ← Nat.shiftLeft_add_eq_or_of_lt h, Nat.add_comm]
theorem u32_or_add (m q P i : Nat) (hP : P = 2 ^ i) (h : m < P) (hb : m + q * P < 4294967296) : bits .or .u32 (m : Int) ((q : Int) * (P : Int)) = ((m + q * P : Nat) : Int) := by
  have e : ((q : Int) * (P : Int)) = ((q * P : Nat) : Int) := by simp
  rw [e, u32_or_nat m (q * P) (by omega) (by omega)]
  subst hP
  rw [or_add _ _ _ h]

set_option maxHeartbeats 400000 in
theorem number_calls (A : Option Addr) (l : List UInt8) (n c b : Nat) (w : World) (hs : Bs w b A l) (hn : l.length = n) (h4 : n ≤ 4) :
    Calls Try.prog 62 #[.slice A n c] w fun e w' => e = .returned (.int .u32 (valN l : Nat)) ∧ w = w' := by
  have HN := Lib.hid hn
  clear hn
  go_enter Try.func62, Try.ntmps62
  go_wp2
  go_loop [3, 8] (fun x i => ∃ k m : Nat, k ≤ n ∧ i = .int .i64 k ∧ x = .int .u32 m ∧ Hid (m = valN (l.take k))) (fun _ i => n - (intOf i).toNat)
  case atStart => exact ⟨0, 0, Nat.zero_le _, rfl, rfl, Lib.hid rfl⟩
  case round =>
    obtain ⟨k, m, hk, rfl, rfl, hm⟩ := hrel
    by_cases hlt : k < n
    · have hkl : k < l.length := by rw [HN.out]; exact hlt
      obtain ⟨oa, rfl, hca⟩ := Bs.at_ hs hkl
      have ca := hca k hkl
      have hv := Lib.hid (valN_take_succ l k hkl)
      obtain ⟨q, hq⟩ : ∃ q, q = l[k] := ⟨_, rfl⟩
      rw [← hq] at ca
      have HQ := Lib.hid hq
      have hq8 := q.toNat_lt
      have hml := Lib.hid (valN_lt (l.take k))
      clear hca hq
      have hk4 : k = 0 ∨ k = 1 ∨ k = 2 ∨ k = 3 := by omega
      rcases hk4 with rfl | rfl | rfl | rfl
      · simp only [Nat.add_zero] at ca
        go_wp2
        have hb1 : m < 1 := by
          have h1 := hml.out
          rw [← hm.out] at h1
          refine Nat.lt_of_lt_of_le h1 (Nat.le_trans (Nat.pow_le_pow_right (by omega) (List.length_take_le 0 l)) (by decide))
        have e1 := u32_or_add m q.toNat 1 0 (by decide) hb1 (by omega)
        go_round
        case rel =>
          refine ⟨1, m + q.toNat * 1, by omega, rfl, by rw [← e1]; simp, Lib.hid ?_⟩
          rw [hv.out, ← hm.out, HQ.out]
          omega
        case measure => simp [intOf]; omega
      · go_wp2
        have hb1 : m < 256 := by
          have h1 := hml.out
          rw [← hm.out] at h1
          refine Nat.lt_of_lt_of_le h1 (Nat.le_trans (Nat.pow_le_pow_right (by omega) (List.length_take_le 1 l)) (by decide))
        have e1 := u32_or_add m q.toNat 256 8 (by decide) hb1 (by omega)
        go_round
        case rel =>
          refine ⟨2, m + q.toNat * 256, by omega, rfl, by rw [← e1]; rfl, Lib.hid ?_⟩
          rw [hv.out, ← hm.out, HQ.out]
          omega
        case measure => simp [intOf]; omega
      · go_wp2
        have hb1 : m < 65536 := by
          have h1 := hml.out
          rw [← hm.out] at h1
          refine Nat.lt_of_lt_of_le h1 (Nat.le_trans (Nat.pow_le_pow_right (by omega) (List.length_take_le 2 l)) (by decide))
        have e1 := u32_or_add m q.toNat 65536 16 (by decide) hb1 (by omega)
        go_round
        case rel =>
          refine ⟨3, m + q.toNat * 65536, by omega, rfl, by rw [← e1]; rfl, Lib.hid ?_⟩
          rw [hv.out, ← hm.out, HQ.out]
          omega
        case measure => simp [intOf]; omega
      · go_wp2
        have hb1 : m < 16777216 := by
          have h1 := hml.out
          rw [← hm.out] at h1
          refine Nat.lt_of_lt_of_le h1 (Nat.le_trans (Nat.pow_le_pow_right (by omega) (List.length_take_le 3 l)) (by decide))
        have e1 := u32_or_add m q.toNat 16777216 24 (by decide) hb1 (by omega)
        go_round
        case rel =>
          refine ⟨4, m + q.toNat * 16777216, by omega, rfl, by rw [← e1]; rfl, Lib.hid ?_⟩
          rw [hv.out, ← hm.out, HQ.out]
          omega
        case measure => simp [intOf]; omega
    · go_wp2
      go_ret
      rw [show k = n by omega, List.take_of_length_le (by rw [HN.out]; exact Nat.le_refl _)] at hm
      exact ⟨by rw [← hm.out]; rfl, rfl⟩

/-- What an eye's read of k fixed bytes says. -/
def ReadN (g b k : Nat) (l : List UInt8) (wr : Bool) (K : IntKind) (w : World) (e : Ending) (w' : World) : Prop :=
  (k ≤ l.length → e = .returned (.int K (valN (l.take k) : Nat)) ∧ EyeAt w' g b (l.drop k) wr ∧ Mod (fun i => i = g) w w') ∧
  (l.length < k → e = .returned (.int K 0) ∧ EyeAt w' g b [] true ∧ Mod (fun i => i = g) w w')

set_option maxHeartbeats 400000 in
theorem EyeByte_calls (g b : Nat) (l : List UInt8) (wr : Bool) (w : World) (he : EyeAt w g b l wr) :
    Calls Try.prog 48 #[.pointer (some ⟨g, 0, none⟩)] w (ReadN g b 1 l wr .u8 w) := by
  by_cases hk : 1 ≤ l.length
  · have hv := valN_lt (l.take 1)
    rw [List.length_take, Nat.min_eq_left hk] at hv
    go_enter Try.func48, Try.ntmps48
    go_wp2_with fail
    refine (take_yes g b l wr 1 _ he hk).mono ?_
    rintro e w1 ⟨A', rfl, hs, he1, hm⟩
    go_wp2_with fail
    refine (number_calls A' (l.take 1) 1 1 b _ hs (by simp; omega) (by omega)).mono ?_
    rintro e w2 ⟨rfl, rfl⟩
    go_wp2
    go_ret
    exact ⟨fun _ => ⟨rfl, he1, hm⟩, fun h => by omega⟩
  · go_enter Try.func48, Try.ntmps48
    go_wp2_with fail
    refine (take_no g b l wr 1 _ he (by omega)).mono ?_
    rintro e w1 ⟨rfl, he1, hm⟩
    go_wp2_with fail
    refine (number_calls none [] 0 0 b _ (Sl.nil_ _ _ _) rfl (by omega)).mono ?_
    rintro e w2 ⟨rfl, rfl⟩
    go_wp2
    go_ret
    exact ⟨fun h => by omega, fun _ => ⟨rfl, he1, hm⟩⟩

set_option maxHeartbeats 400000 in
theorem EyeWord_calls (g b : Nat) (l : List UInt8) (wr : Bool) (w : World) (he : EyeAt w g b l wr) :
    Calls Try.prog 47 #[.pointer (some ⟨g, 0, none⟩)] w (ReadN g b 4 l wr .u32 w) := by
  by_cases hk : 4 ≤ l.length
  · go_enter Try.func47, Try.ntmps47
    go_wp2_with fail
    refine (take_yes g b l wr 4 _ he hk).mono ?_
    rintro e w1 ⟨A', rfl, hs, he1, hm⟩
    go_wp2_with fail
    refine (number_calls A' (l.take 4) 4 4 b _ hs (by simp; omega) (by omega)).mono ?_
    rintro e w2 ⟨rfl, rfl⟩
    go_wp2
    go_ret
    exact ⟨fun _ => ⟨rfl, he1, hm⟩, fun h => by omega⟩
  · go_enter Try.func47, Try.ntmps47
    go_wp2_with fail
    refine (take_no g b l wr 4 _ he (by omega)).mono ?_
    rintro e w1 ⟨rfl, he1, hm⟩
    go_wp2_with fail
    refine (number_calls none [] 0 0 b _ (Sl.nil_ _ _ _) rfl (by omega)).mono ?_
    rintro e w2 ⟨rfl, rfl⟩
    go_wp2
    go_ret
    exact ⟨fun h => by omega, fun _ => ⟨rfl, he1, hm⟩⟩
theorem EyeAt.castl {w : World} {g b : Nat} {l l' : List UInt8} {bad : Bool} (h : EyeAt w g b l bad) (e : l = l') : EyeAt w g b l' bad := e ▸ h
def doneErr (l : List UInt8) (bad : Bool) : Int := if bad = true ∨ l ≠ [] then 2 else 0
theorem Done_calls (g b : Nat) (l : List UInt8) (bad : Bool) (w : World) (he : EyeAt w g b l bad) :
    Calls Try.prog 49 #[.pointer (some ⟨g, 0, none⟩)] w fun e w' => e = .returned (.int .i64 (doneErr l bad)) ∧ w = w' := by
  obtain ⟨hne, A, c, hg, hlc, hcm, hs⟩ := he
  unfold maxLen at hcm
  have hc0 := cell_of_row w g 0 _ _ _ hg
  have hc1 := cell_of_row w g 1 _ _ _ hg
  simp only [List.getElem?_toArray, List.getElem?_cons_zero, List.getElem?_cons_succ] at hc0 hc1
  clear hg
  cases bad
  · rcases Nat.eq_zero_or_pos l.length with h | h
    · have hl : l = [] := List.eq_nil_of_length_eq_zero h
      subst hl
      go_enter Try.func49, Try.ntmps49
      go_wp2
      go_ret
      exact ⟨by simp [doneErr], rfl⟩
    · have hl : l ≠ [] := by rintro rfl; simp at h
      have HL := Lib.hid hl
      clear hl
      have h' : (0 : Int) < (l.length : Int) := by omega
      go_enter Try.func49, Try.ntmps49
      go_wp2
      go_ret
      exact ⟨by simp [doneErr, HL.out], rfl⟩
  · go_enter Try.func49, Try.ntmps49
    go_wp2
    go_ret
    exact ⟨by simp [doneErr], rfl⟩

set_option maxHeartbeats 400000 in
theorem Read_own (A : Option Addr) (l : List UInt8) (n c b : Nat) (w : World) (hs : Bs w b A l) (hn : l.length = n) (hlen : n ≤ 140737488355328) :
    Calls Try.prog 46 #[.slice A n c] w fun e w' => ∃ g b', e = .returned (.pointer (some ⟨g, 0, none⟩)) ∧ EyeAt w' g b' l false ∧ w.heap.size ≤ g ∧ w.heap.size ≤ b' ∧ Below w.heap.size w w' ∧ (l ≠ [] → ∃ cur, w'.heap[b']? = some (.cells cur 5 (0, 0))) := by
  go_enter Try.func46, Try.ntmps46
  go_wp2_with (at_builtin; refine wpList_app w rfl (.const (.slice none 0 0)) (.tmp 3) rfl w.heap.size (.slice none 0 0) [] rfl (Row.nil_ _ _) b A n c l rfl hs hn (by simp; omega) (Nat.le_refl _) ?_; intro v' w1 hrow1 hmod hat; obtain ⟨A', c', b', hv', hlc, hcm, _, hb', hs', _⟩ := hrow1.sl; have hblk := Lib.hid (Row.blk_sl hrow1 hv' hs'); subst hv')
  go_ret
  have hb1 : Below w.heap.size w w1 := hmod.below (Nat.le_refl _) (fun i _ h => by simp [Value.ownBlock] at h)
  have hx : Below w1.heap.size w1 (w1.alloc (.cells #[.slice A' n c', .bool false] 108)) := (Below.refl _ _).alloc (Nat.le_refl _) _
  have hn' : n = l.length := hn.symm
  have hne : b' ≠ w1.heap.size ∨ l = [] := by
    rcases Nat.eq_zero_or_pos l.length with h | h
    · exact .inr (List.eq_nil_of_length_eq_zero h)
    · exact .inl (by have := Sl.lt hs' (by simp only [List.nil_append, ne_eq, bv_nil_iff]; rintro rfl; simp at h); omega)
  simp only [List.nil_append] at hs' hlc
  have hnew : (w1.alloc (.cells #[.slice A' n c', .bool false] 108)).heap[w1.heap.size]? = some (.cells #[.slice A' n c', .bool false] 108 (0, 0)) := heap_alloc_new w1 _
  rw [hn'] at hnew ⊢
  rcases hne with hne | rfl
  · refine ⟨_, b', rfl, ⟨hne, A', c', hnew, hlc, hcm, Sl.alloc hs' _⟩, hb1.size, hb', hb1.alloc hb1.size _, fun hl => ?_⟩
    obtain ⟨cur, hcur⟩ := hblk.out (by simpa using hl)
    exact ⟨cur, (Below.heap_alloc _ _ _ (Array.getElem?_eq_some_iff.1 hcur).1).trans hcur⟩
  · exact ⟨_, w1.heap.size + 1, rfl, ⟨by omega, A', c', hnew, hlc, hcm, Sl.nil_ _ _ _⟩, hb1.size, by have := hb1.size; omega, hb1.alloc hb1.size _, fun hl => absurd rfl hl⟩

theorem Read_calls (A : Option Addr) (l : List UInt8) (n c b : Nat) (w : World) (hs : Bs w b A l) (hn : l.length = n) (hlen : n ≤ 140737488355328) :
    Calls Try.prog 46 #[.slice A n c] w fun e w' => ∃ g b', e = .returned (.pointer (some ⟨g, 0, none⟩)) ∧ EyeAt w' g b' l false ∧ w.heap.size ≤ g ∧ w.heap.size ≤ b' ∧ Below w.heap.size w w' :=
  (Read_own A l n c b w hs hn hlen).mono fun _ _ ⟨g, b', h1, h2, h3, h4, h5, _⟩ => ⟨g, b', h1, h2, h3, h4, h5⟩

theorem EyeAt.modne {w w' : World} {g b : Nat} {l : List UInt8} {wr : Bool} (h : EyeAt w g b l wr) {S : Nat → Prop} (hm : Mod S w w') (hg : ¬ S g) (hb : l ≠ [] → ¬ S b) : EyeAt w' g b l wr := by
  obtain ⟨hne, A, c, h1, h2, h3, h4⟩ := h
  exact ⟨hne, A, c, by rw [hm.block g (Array.getElem?_eq_some_iff.1 h1).1 hg]; exact h1, h2, h3, Bs.modne h4 hm hb⟩
end Go.Proofs.Ytioahddobogpjaa
