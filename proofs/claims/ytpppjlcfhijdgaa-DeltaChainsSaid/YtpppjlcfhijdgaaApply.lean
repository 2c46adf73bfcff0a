/- Apply: the view with these cells there. Conditions: the places are the view's; as many cells as places; the cells fit. -/
import Derived.Test.YtpppjlcfhijdgaaRises
import Derived.BigRegion
namespace Go.Proofs.Ytpppjlcfhijdgaa
open Go.RowKit

set_option maxHeartbeats 16000000 in
set_option maxRecDepth 40000 in
theorem Apply_calls (t h : Nat) (Ap : Option Addr) (ps : List UInt8) (np cp bp : Nat) (Ac : Option Addr) (cs : List (Int × Nat)) (nc cc bc : Nat) (V : List (Int × Nat)) (d : Bool) (w : World)
    (hps : Bs w bp Ap ps) (hpn : ps.length = np) (hcs : Sl w bc Ac (cv cs)) (hcn : cs.length = nc) (hnn : np = nc) (hl : np ≤ 1000000) (hV : V.length ≤ 48) (hok : okC V) (hoc : okC cs)
    (hin : ∀ i (hi : i < ps.length), ps[i].toNat < V.length) (hd : ((hashL (putTo V ps cs np) : Int) == (h : Int)) = d) :
    Calls Try.prog 17 #[.agg (dA t h Ap np cp Ac nc cc), .agg (bdL V)] w fun e w' => e = .returned (.tuple #[.agg (bdL (if d = true then putTo V ps cs np else V)), .int .i64 (if d = true then 0 else 13)]) ∧ Below w.heap.size w w' := by
  subst hnn hcn
  have b1 := below_alloc1 w (.cells (dA t h Ap cs.length cp Ac cs.length cc) 38)
  have b2 := b1.alloc b1.size (.cells (bdL V) 32)
  have b3 := b2.alloc b2.size (.cells (bdL []) 32)
  have hb := b3.alloc b3.size (.cells (bdL V) 32)
  have qd := (((BoxD.new_ w t h (.slice Ap cs.length cp) (.slice Ac cs.length cc)).alloc (.cells (bdL V) 32)).alloc (.cells (bdL []) 32)).alloc (.cells (bdL V) 32)
  have q3 := (BoxL.new_ (w.alloc (.cells (dA t h Ap cs.length cp Ac cs.length cc) 38)) V).alloc (.cells (bdL []) 32)
  rw [show (w.alloc (.cells (dA t h Ap cs.length cp Ac cs.length cc) 38)).heap.size = w.heap.size + 1 by simp] at q3
  have q3' := q3.alloc (.cells (bdL V) 32)
  have q4 := (BoxL.new_ ((w.alloc (.cells (dA t h Ap cs.length cp Ac cs.length cc) 38)).alloc (.cells (bdL V) 32)) []).alloc (.cells (bdL V) 32)
  rw [show ((w.alloc (.cells (dA t h Ap cs.length cp Ac cs.length cc) 38)).alloc (.cells (bdL V) 32)).heap.size = w.heap.size + 2 by simp] at q4
  have q6 := BoxL.new_ (((w.alloc (.cells (dA t h Ap cs.length cp Ac cs.length cc) 38)).alloc (.cells (bdL V) 32)).alloc (.cells (bdL []) 32)) V
  rw [show (((w.alloc (.cells (dA t h Ap cs.length cp Ac cs.length cc) 38)).alloc (.cells (bdL V) 32)).alloc (.cells (bdL []) 32)).heap.size = w.heap.size + 3 by simp] at q6
  have hlp0 : 0 < ps.length → bp < w.heap.size := fun h0 => Bs.lt hps (by rintro rfl; simp at h0)
  have hlc0 : 0 < cs.length → bc < w.heap.size := fun h0 => sl_lt hcs h0
  have hps := Sl.ext hps hb
  have hcs := Sl.ext hcs hb
  have hz4 : ((((w.alloc (.cells (dA t h Ap cs.length cp Ac cs.length cc) 38)).alloc (.cells (bdL V) 32)).alloc (.cells (bdL []) 32)).alloc (.cells (bdL V) 32)).heap.size = w.heap.size + 4 := by simp
  have HZ4 := Lib.hid hz4
  obtain ⟨e2, e3⟩ := And.intro qd.c2 qd.c3
  have HD := Lib.hid hd
  have HPN := Lib.hid hpn
  have HIN := Lib.hid hin
  clear b1 b2 b3 hz4 hd hin hpn
  go_enter Try.func17, Try.ntmps17
  go_wp2_with (first | ((with_reducible refine at_al 32 4 ?_); refine wpList_al rfl rfl (some 4) rfl (w.heap.size + 2) (by simp) ?_) | ((with_reducible refine at_ld 32 3 ?_); refine wpList_ld rfl (.tmp 3) rfl (w.heap.size + 1) rfl V q3 ?_) | ((with_reducible refine at_al 32 6 ?_); refine wpList_al rfl rfl (some 6) rfl (w.heap.size + 3) (by simp) ?_) | ((with_reducible refine at_st 32 6 9 ?_); refine wpList_put rfl (.tmp 6) (.tmp 9) rfl (show (((w.alloc (.cells (dA t h Ap cs.length cp Ac cs.length cc) 38)).alloc (.cells (bdL V) 32)).alloc (.cells (bdL []) 32)).heap.size = w.heap.size + 3 by simp) V rfl rfl ?_))
  clear e2 e3 q3
  obtain ⟨wz, hwz⟩ : ∃ wz, wz = ((((w.alloc (.cells (dA t h Ap cs.length cp Ac cs.length cc) 38)).alloc (.cells (bdL V) 32)).alloc (.cells (bdL []) 32)).alloc (.cells (bdL V) 32)) := ⟨_, rfl⟩
  rw [← hwz] at hb qd q3' q4 q6 hps hcs HZ4 ⊢
  have q6 : BoxL wz (w.heap.size + 3) (putTo V ps cs 0) := by rw [putTo_zero]; exact q6
  clear hwz
  go_loopw [17] (fun i wr => ∃ k : Nat, k ≤ cs.length ∧ i = .int .i64 k ∧ BoxL wr (w.heap.size + 3) (putTo V ps cs k) ∧ BoxL wr (w.heap.size + 1) V ∧ BoxL wr (w.heap.size + 2) [] ∧ BoxD wr w.heap.size t h (.slice Ap cs.length cp) (.slice Ac cs.length cc) ∧ Bs wr bp Ap ps ∧ Sl wr bc Ac (cv cs) ∧ Below w.heap.size w wr) (fun i _ => cs.length - (intOf i).toNat)
  case atStart => exact ⟨0, Nat.zero_le _, rfl, q6, q3', q4, qd, hps, hcs, hb⟩
  case round =>
    clear q6 q3' q4 qd hps hcs hb
    obtain ⟨k, hk, rfl, q6, q3, q4, qd, hps, hcs, hb⟩ := hrel
    have hXl := putTo_length V ps cs k
    have hXo := putTo_ok hok hoc ps k
    by_cases hlt : k < cs.length
    · have hkp : k < ps.length := by rw [HPN.out]; exact hlt
      have HS := Lib.hid (putTo_succ (V := V) hkp hlt)
      have hpi := HIN.out k hkp
      have hci := okC_get hoc hlt
      obtain ⟨op, rfl, f0⟩ := Bs.at_ hps hkp
      clear f0
      obtain ⟨oc, rfl, f0⟩ := sl_off hcs hlt
      clear f0
      obtain ⟨X, hX⟩ : ∃ X, X = putTo V ps cs k := ⟨_, rfl⟩
      obtain ⟨Pn, hPn⟩ : ∃ Pn, Pn = ps[k].toNat := ⟨_, rfl⟩
      obtain ⟨cx, hcx⟩ : ∃ cx, cx = cs[k].1 := ⟨_, rfl⟩
      obtain ⟨cy, hcy⟩ : ∃ cy, cy = cs[k].2 := ⟨_, rfl⟩
      rw [← hX] at q6 hXl hXo HS
      rw [← hPn] at hpi HS
      rw [show cs[k] = (cx, cy) by rw [hcx, hcy]] at HS
      have hP8 : Pn ≤ 255 := by rw [hPn]; have := ps[k].toNat_lt; omega
      have HP := Lib.hid hPn
      have HCX := Lib.hid hcx
      have HCY := Lib.hid hcy
      have hPut := fun W => Put_in X Pn cx cy W (by omega) (by omega)
      clear hX hPn hcx hcy hci
      have ej : (k : Int) < (cs.length : Int) := by omega
      have epw : IntKind.i64.wrap (Pn : Int) = (Pn : Int) := IntWalk.i64_in _ (by omega)
      have hbz := hb.size
      have hl6 := q6.lt
      have hl3 := q3.lt
      have hl4 := q4.lt
      have hld := qd.lt
      have hxp : bp ≠ w.heap.size + 3 := by have := hlp0 (by omega); omega
      have hxc : bc ≠ w.heap.size + 3 := by have := hlc0 (by omega); omega
      go_wp2_with fail
      refine wp_region_held_drew (S := fun w' => BoxD w' w.heap.size t h (.slice (some ⟨bp, op, none⟩) cs.length cp) (.slice (some ⟨bc, oc, none⟩) cs.length cc) ∧ Bs w' bp (some ⟨bp, op, none⟩) ps ∧ Sl w' bc (some ⟨bc, oc, none⟩) (cv cs)) (by kernel_rfl) ?_ (fun hHeld => ?_)
      · exact ⟨qd, hps, hcs⟩
      refine wpAnyH_take (i := 1) (v := ?zv1) (by simp only [List.getElem?_toArray, List.getElem?_cons_succ, List.getElem?_cons_zero]; rfl) (by kernel_rfl) (by kernel_rfl) (by kernel_rfl) (by exact fun _ _ _ h => h) (Or.inl ⟨by rfl, ?zy1⟩) hHeld ?_
      case zy1 => (intro w hSw; (try dsimp only at hSw); have hy2 := hSw.1.c2; have hy3 := hSw.1.c3; have hyp := bs_at hSw.2.1 hkp; have hy0 := (sl_at hSw.2.2 hlt).1; have hy1 := (sl_at hSw.2.2 hlt).2; rw [← HP.out] at hyp; rw [← HCX.out] at hy0; rw [← HCY.out] at hy1; clear hSw; go_simp; try (with_reducible rfl))
      try simp only [Act.put, List.setIfInBounds_toArray, List.set_cons_zero, List.set_cons_succ]
      refine wpAnyH_take (i := 2) (v := ?zv2) (by simp only [List.getElem?_toArray, List.getElem?_cons_succ, List.getElem?_cons_zero]; rfl) (by kernel_rfl) (by kernel_rfl) (by kernel_rfl) (by exact fun _ _ _ h => h) (Or.inl ⟨by rfl, ?zy2⟩) hHeld ?_
      case zy2 => (intro w hSw; (try dsimp only at hSw); have hy2 := hSw.1.c2; have hy3 := hSw.1.c3; have hyp := bs_at hSw.2.1 hkp; have hy0 := (sl_at hSw.2.2 hlt).1; have hy1 := (sl_at hSw.2.2 hlt).2; rw [← HP.out] at hyp; rw [← HCX.out] at hy0; rw [← HCY.out] at hy1; clear hSw; go_simp; try (with_reducible rfl))
      try simp only [Act.put, List.setIfInBounds_toArray, List.set_cons_zero, List.set_cons_succ]
      refine wpAnyH_take (i := 3) (v := ?zv3) (by simp only [List.getElem?_toArray, List.getElem?_cons_succ, List.getElem?_cons_zero]; rfl) (by kernel_rfl) (by kernel_rfl) (by kernel_rfl) (by exact fun _ _ _ h => h) (Or.inl ⟨by rfl, ?zy3⟩) hHeld ?_
      case zy3 => (intro w hSw; (try dsimp only at hSw); have hy2 := hSw.1.c2; have hy3 := hSw.1.c3; have hyp := bs_at hSw.2.1 hkp; have hy0 := (sl_at hSw.2.2 hlt).1; have hy1 := (sl_at hSw.2.2 hlt).2; rw [← HP.out] at hyp; rw [← HCX.out] at hy0; rw [← HCY.out] at hy1; clear hSw; go_simp; try (with_reducible rfl))
      try simp only [Act.put, List.setIfInBounds_toArray, List.set_cons_zero, List.set_cons_succ]
      refine wpAnyH_take (i := 4) (v := ?zv4) (by simp only [List.getElem?_toArray, List.getElem?_cons_succ, List.getElem?_cons_zero]; rfl) (by kernel_rfl) (by kernel_rfl) (by kernel_rfl) (by exact fun _ _ _ h => h) (Or.inl ⟨by rfl, ?zy4⟩) hHeld ?_
      case zy4 => (intro w hSw; (try dsimp only at hSw); have hy2 := hSw.1.c2; have hy3 := hSw.1.c3; have hyp := bs_at hSw.2.1 hkp; have hy0 := (sl_at hSw.2.2 hlt).1; have hy1 := (sl_at hSw.2.2 hlt).2; rw [← HP.out] at hyp; rw [← HCX.out] at hy0; rw [← HCY.out] at hy1; clear hSw; go_simp; try (with_reducible rfl))
      try simp only [Act.put, List.setIfInBounds_toArray, List.set_cons_zero, List.set_cons_succ]
      refine wpAnyH_take (i := 5) (v := ?zv5) (by simp only [List.getElem?_toArray, List.getElem?_cons_succ, List.getElem?_cons_zero]; rfl) (by kernel_rfl) (by kernel_rfl) (by kernel_rfl) (by exact fun _ _ _ h => h) (Or.inl ⟨by rfl, ?zy5⟩) hHeld ?_
      case zy5 => (intro w hSw; (try dsimp only at hSw); have hy2 := hSw.1.c2; have hy3 := hSw.1.c3; have hyp := bs_at hSw.2.1 hkp; have hy0 := (sl_at hSw.2.2 hlt).1; have hy1 := (sl_at hSw.2.2 hlt).2; rw [← HP.out] at hyp; rw [← HCX.out] at hy0; rw [← HCY.out] at hy1; clear hSw; go_simp; try (with_reducible rfl))
      try simp only [Act.put, List.setIfInBounds_toArray, List.set_cons_zero, List.set_cons_succ]
      refine wpAnyH_take (i := 6) (v := ?zv6) (by simp only [List.getElem?_toArray, List.getElem?_cons_succ, List.getElem?_cons_zero]; rfl) (by kernel_rfl) (by kernel_rfl) (by kernel_rfl) (by exact fun _ _ _ h => h) (Or.inl ⟨by rfl, ?zy6⟩) hHeld ?_
      case zy6 => (intro w hSw; (try dsimp only at hSw); have hy2 := hSw.1.c2; have hy3 := hSw.1.c3; have hyp := bs_at hSw.2.1 hkp; have hy0 := (sl_at hSw.2.2 hlt).1; have hy1 := (sl_at hSw.2.2 hlt).2; rw [← HP.out] at hyp; rw [← HCX.out] at hy0; rw [← HCY.out] at hy1; clear hSw; go_simp; try (with_reducible rfl))
      try simp only [Act.put, List.setIfInBounds_toArray, List.set_cons_zero, List.set_cons_succ]
      refine wpAnyH_take (i := 7) (v := ?zv7) (by simp only [List.getElem?_toArray, List.getElem?_cons_succ, List.getElem?_cons_zero]; rfl) (by kernel_rfl) (by kernel_rfl) (by kernel_rfl) (by exact fun _ _ _ h => h) (Or.inl ⟨by rfl, ?zy7⟩) hHeld ?_
      case zy7 => (intro w hSw; (try dsimp only at hSw); have hy2 := hSw.1.c2; have hy3 := hSw.1.c3; have hyp := bs_at hSw.2.1 hkp; have hy0 := (sl_at hSw.2.2 hlt).1; have hy1 := (sl_at hSw.2.2 hlt).2; rw [← HP.out] at hyp; rw [← HCX.out] at hy0; rw [← HCY.out] at hy1; clear hSw; go_simp; try (with_reducible rfl))
      try simp only [Act.put, List.setIfInBounds_toArray, List.set_cons_zero, List.set_cons_succ]
      refine wpAnyH_take (i := 8) (v := ?zv8) (by simp only [List.getElem?_toArray, List.getElem?_cons_succ, List.getElem?_cons_zero]; rfl) (by kernel_rfl) (by kernel_rfl) (by kernel_rfl) (by exact fun _ _ _ h => h) (Or.inl ⟨by rfl, ?zy8⟩) hHeld ?_
      case zy8 => (intro w hSw; (try dsimp only at hSw); have hy2 := hSw.1.c2; have hy3 := hSw.1.c3; have hyp := bs_at hSw.2.1 hkp; have hy0 := (sl_at hSw.2.2 hlt).1; have hy1 := (sl_at hSw.2.2 hlt).2; rw [← HP.out] at hyp; rw [← HCX.out] at hy0; rw [← HCY.out] at hy1; clear hSw; go_simp; try (with_reducible rfl))
      try simp only [Act.put, List.setIfInBounds_toArray, List.set_cons_zero, List.set_cons_succ]
      refine wpAnyH_take (i := 9) (v := ?zv9) (by simp only [List.getElem?_toArray, List.getElem?_cons_succ, List.getElem?_cons_zero]; rfl) (by kernel_rfl) (by kernel_rfl) (by kernel_rfl) (by exact fun _ _ _ h => h) (Or.inl ⟨by rfl, ?zy9⟩) hHeld ?_
      case zy9 => (intro w hSw; (try dsimp only at hSw); have hy2 := hSw.1.c2; have hy3 := hSw.1.c3; have hyp := bs_at hSw.2.1 hkp; have hy0 := (sl_at hSw.2.2 hlt).1; have hy1 := (sl_at hSw.2.2 hlt).2; rw [← HP.out] at hyp; rw [← HCX.out] at hy0; rw [← HCY.out] at hy1; clear hSw; go_simp; try (with_reducible rfl))
      try simp only [Act.put, List.setIfInBounds_toArray, List.set_cons_zero, List.set_cons_succ]
      refine wpAnyH_take (i := 10) (v := ?zv10) (by simp only [List.getElem?_toArray, List.getElem?_cons_succ, List.getElem?_cons_zero]; rfl) (by kernel_rfl) (by kernel_rfl) (by kernel_rfl) (by exact fun _ _ _ h => h) (Or.inl ⟨by rfl, ?zy10⟩) hHeld ?_
      case zy10 => (intro w hSw; (try dsimp only at hSw); have hy2 := hSw.1.c2; have hy3 := hSw.1.c3; have hyp := bs_at hSw.2.1 hkp; have hy0 := (sl_at hSw.2.2 hlt).1; have hy1 := (sl_at hSw.2.2 hlt).2; rw [← HP.out] at hyp; rw [← HCX.out] at hy0; rw [← HCY.out] at hy1; clear hSw; go_simp; try (with_reducible rfl))
      try simp only [Act.put, List.setIfInBounds_toArray, List.set_cons_zero, List.set_cons_succ]
      refine wpAnyH_take (i := 11) (v := ?zv11) (by simp only [List.getElem?_toArray, List.getElem?_cons_succ, List.getElem?_cons_zero]; rfl) (by kernel_rfl) (by kernel_rfl) (by kernel_rfl) (by exact fun _ _ _ h => h) (Or.inl ⟨by rfl, ?zy11⟩) hHeld ?_
      case zy11 => (intro w hSw; (try dsimp only at hSw); have hy2 := hSw.1.c2; have hy3 := hSw.1.c3; have hyp := bs_at hSw.2.1 hkp; have hy0 := (sl_at hSw.2.2 hlt).1; have hy1 := (sl_at hSw.2.2 hlt).2; rw [← HP.out] at hyp; rw [← HCX.out] at hy0; rw [← HCY.out] at hy1; clear hSw; go_simp; try (with_reducible rfl))
      try simp only [Act.put, List.setIfInBounds_toArray, List.set_cons_zero, List.set_cons_succ]
      refine wpAnyH_ready (rs := [0]) (by kernel_rfl) (by simp) ?_
      refine AllReadyH.cons (by simp only [List.getElem?_toArray, List.getElem?_cons_zero]; rfl) (fun KK hKK => ?_) AllReadyH.nil
      rw [if_pos (by rfl)]
      refine wp_load_row 32 (.tmp 6) rfl (w.heap.size + 3) rfl _ _ _ _ q6 Try.underlying32 rfl (bd_size _ _ _) ?_
      refine hKK.out _ _ ?_ (fun hHeld => ?_)
      · exact ⟨qd, hps, hcs⟩
      clear hKK KK
      try simp only [Act.put]
      refine wpAnyH_ready (rs := [12]) (by kernel_rfl) (by simp) ?_
      refine AllReadyH.cons (by simp only [List.getElem?_toArray, List.getElem?_cons_succ, List.getElem?_cons_zero]; rfl) (fun KK hKK => ?_) AllReadyH.nil
      go_simp
      (with_reducible refine (hPut _).mono ?_)
      rintro e w6 ⟨rfl, h9⟩
      have h9 := below_undrew2 h9
      have q6 := q6.ext h9
      have q3 := q3.ext h9
      have q4 := q4.ext h9
      have qd := qd.ext h9
      have hps := Sl.ext hps h9
      have hcs := Sl.ext hcs h9
      have hb := hb.trans (h9.mono hb.size)
      have hz6 := h9.size
      clear h9
      go_wp2_with fail
      refine hKK.out _ _ ?_ (fun hHeld => ?_)
      · exact ⟨qd, hps, hcs⟩
      clear hKK KK
      try simp only [Act.put, List.setIfInBounds_toArray, List.set_cons_zero, List.set_cons_succ]
      refine wpAnyH_take (i := 13) (v := ?zv13) (by simp only [List.getElem?_toArray, List.getElem?_cons_succ, List.getElem?_cons_zero]; rfl) (by kernel_rfl) (by kernel_rfl) (by kernel_rfl) (by exact fun _ _ _ h => h) (Or.inl ⟨by rfl, ?zy13⟩) hHeld ?_
      case zy13 => (intro w hSw; (try dsimp only at hSw); have hy2 := hSw.1.c2; have hy3 := hSw.1.c3; have hyp := bs_at hSw.2.1 hkp; have hy0 := (sl_at hSw.2.2 hlt).1; have hy1 := (sl_at hSw.2.2 hlt).2; rw [← HP.out] at hyp; rw [← HCX.out] at hy0; rw [← HCY.out] at hy1; clear hSw; go_simp; try (with_reducible rfl))
      try simp only [Act.put, List.setIfInBounds_toArray, List.set_cons_zero, List.set_cons_succ]
      refine wpAnyH_take (i := 14) (v := ?zv14) (by simp only [List.getElem?_toArray, List.getElem?_cons_succ, List.getElem?_cons_zero]; rfl) (by kernel_rfl) (by kernel_rfl) (by kernel_rfl) (by exact fun _ _ _ h => h) (Or.inl ⟨by rfl, ?zy14⟩) hHeld ?_
      case zy14 => (intro w hSw; (try dsimp only at hSw); have hy2 := hSw.1.c2; have hy3 := hSw.1.c3; have hyp := bs_at hSw.2.1 hkp; have hy0 := (sl_at hSw.2.2 hlt).1; have hy1 := (sl_at hSw.2.2 hlt).2; rw [← HP.out] at hyp; rw [← HCX.out] at hy0; rw [← HCY.out] at hy1; clear hSw; go_simp; try (with_reducible rfl))
      try simp only [Act.put, List.setIfInBounds_toArray, List.set_cons_zero, List.set_cons_succ]
      refine wpAnyH_take (i := 15) (v := ?zv15) (by simp only [List.getElem?_toArray, List.getElem?_cons_succ, List.getElem?_cons_zero]; rfl) (by kernel_rfl) (by kernel_rfl) (by kernel_rfl) (by exact fun _ _ _ h => h) (Or.inl ⟨by rfl, ?zy15⟩) hHeld ?_
      case zy15 => (intro w hSw; (try dsimp only at hSw); have hy2 := hSw.1.c2; have hy3 := hSw.1.c3; have hyp := bs_at hSw.2.1 hkp; have hy0 := (sl_at hSw.2.2 hlt).1; have hy1 := (sl_at hSw.2.2 hlt).2; rw [← HP.out] at hyp; rw [← HCX.out] at hy0; rw [← HCY.out] at hy1; clear hSw; go_simp; try (with_reducible rfl))
      try simp only [Act.put, List.setIfInBounds_toArray, List.set_cons_zero, List.set_cons_succ]
      refine wpAnyH_ready (rs := [16]) (by kernel_rfl) (by simp) ?_
      refine AllReadyH.cons (by simp only [List.getElem?_toArray, List.getElem?_cons_succ, List.getElem?_cons_zero]; rfl) (fun KK hKK => ?_) AllReadyH.nil
      rw [if_pos (by rfl)]
      refine wp_store_row 32 (.tmp 6) (.tmp 34) rfl (w.heap.size + 3) (bdL (X.set Pn (cx, cy))) rfl rfl _ _ q6 (bd_size _ _ _) (by rw [bdL_size, bdL_size]) (bdA_all _ _ _) ?_
      have q6 := q6.row_ (X.set Pn (cx, cy))
      have q3 := q3.orow (show w.heap.size + 1 ≠ w.heap.size + 3 by omega) (bdL (X.set Pn (cx, cy)))
      have q4 := q4.orow (show w.heap.size + 2 ≠ w.heap.size + 3 by omega) (bdL (X.set Pn (cx, cy)))
      have qd := bd_orow qd (show w.heap.size ≠ w.heap.size + 3 by omega) (bdL (X.set Pn (cx, cy)))
      have hps := sl_row hps hxp (bdL (X.set Pn (cx, cy)))
      have hcs := sl_row hcs hxc (bdL (X.set Pn (cx, cy)))
      have hb := below_setRow hb (w.heap.size + 3) (bdL (X.set Pn (cx, cy))) (by omega)
      refine hKK.out _ _ ?_ (fun hHeld => ?_)
      · exact ⟨qd, hps, hcs⟩
      clear hKK KK
      try simp only [Act.put]
      refine wpAnyH_take (i := 17) (v := ?zv17) (by simp only [List.getElem?_toArray, List.getElem?_cons_succ, List.getElem?_cons_zero]; rfl) (by kernel_rfl) (by kernel_rfl) (by kernel_rfl) (by exact fun _ _ _ h => h) (Or.inl ⟨by rfl, ?zy17⟩) hHeld ?_
      case zy17 => (intro w hSw; (try dsimp only at hSw); have hy2 := hSw.1.c2; have hy3 := hSw.1.c3; have hyp := bs_at hSw.2.1 hkp; have hy0 := (sl_at hSw.2.2 hlt).1; have hy1 := (sl_at hSw.2.2 hlt).2; rw [← HP.out] at hyp; rw [← HCX.out] at hy0; rw [← HCY.out] at hy1; clear hSw; go_simp; try (with_reducible rfl))
      try simp only [Act.put, List.setIfInBounds_toArray, List.set_cons_zero, List.set_cons_succ]
      refine wpAnyH_done (by kernel_rfl) ?_ _
      have q6 : BoxL (w6.setRow (w.heap.size + 3) (bdL (X.set Pn (cx, cy)))) (w.heap.size + 3) (putTo V ps cs (k + 1)) := by rw [HS.out]; exact q6
      go_wp2_with fail
      go_roundw
      case rel => exact ⟨k + 1, by omega, by go_num, q6, q3, q4, qd, hps, hcs, hb⟩
      case measure => simp [intOf]; omega
    · obtain rfl : k = cs.length := by omega
      have hHs := fun W => Hash_calls (putTo V ps cs cs.length) W (by omega) hXo
      have hd := HD.out
      obtain ⟨X, hX⟩ : ∃ X, X = putTo V ps cs cs.length := ⟨_, rfl⟩
      have HX := Lib.hid hX
      rw [← hX] at hHs hd q6
      obtain ⟨H, hH⟩ : ∃ H, H = hashL X := ⟨_, rfl⟩
      rw [← hH] at hHs hd
      clear hX hH hps hcs HD HIN hXl hXo
      go_wp2_with fail
      refine wp_region_held_drew (S := fun w' => BoxL w' (w.heap.size + 3) X ∧ BoxD w' w.heap.size t h (.slice Ap cs.length cp) (.slice Ac cs.length cc)) (by kernel_rfl) ?_ (fun hHeld => ?_)
      · exact ⟨q6, qd⟩
      refine wpAnyH_take (i := 0) (by simp only [List.getElem?_toArray, List.getElem?_cons_zero]; rfl) (by kernel_rfl) (by kernel_rfl) (by kernel_rfl) (by exact fun _ _ _ h => h) (by exact yieldsIf_ld (by kernel_rfl) (.tmp 6) rfl (w.heap.size + 3) rfl X (fun w h => h.1)) hHeld ?_
      try simp only [Act.put, List.setIfInBounds_toArray, List.set_cons_zero, List.set_cons_succ]
      refine wpAnyH_take (i := 2) (v := ?yv2) (by simp only [List.getElem?_toArray, List.getElem?_cons_succ, List.getElem?_cons_zero]; rfl) (by kernel_rfl) (by kernel_rfl) (by kernel_rfl) (by exact fun _ _ _ h => h) (Or.inl ⟨by rfl, ?yy2⟩) hHeld ?_
      case yy2 => (intro w hSw; (try dsimp only at hSw); have hy2 := hSw.2.c1; clear hSw; go_simp; try (with_reducible rfl))
      try simp only [Act.put, List.setIfInBounds_toArray, List.set_cons_zero, List.set_cons_succ]
      refine wpAnyH_take (i := 3) (v := ?yv3) (by simp only [List.getElem?_toArray, List.getElem?_cons_succ, List.getElem?_cons_zero]; rfl) (by kernel_rfl) (by kernel_rfl) (by kernel_rfl) (by exact fun _ _ _ h => h) (Or.inl ⟨by rfl, ?yy3⟩) hHeld ?_
      case yy3 => (intro w hSw; (try dsimp only at hSw); have hy2 := hSw.2.c1; clear hSw; go_simp; try (with_reducible rfl))
      try simp only [Act.put, List.setIfInBounds_toArray, List.set_cons_zero, List.set_cons_succ]
      refine wpAnyH_ready (rs := [1]) (by kernel_rfl) (by simp) ?_
      refine AllReadyH.cons (by simp only [List.getElem?_toArray, List.getElem?_cons_succ, List.getElem?_cons_zero]; rfl) (fun KK hKK => ?_) AllReadyH.nil
      go_simp
      (with_reducible refine (hHs _).mono ?_)
      rintro e w6 ⟨rfl, h9⟩
      have h9 := below_undrew2 h9
      have q6 := q6.ext h9
      have q3 := q3.ext h9
      have q4 := q4.ext h9
      have qd := qd.ext h9
      have hb := hb.trans (h9.mono hb.size)
      clear h9
      go_wp2_with fail
      refine hKK.out _ _ ?_ (fun hHeld => ?_)
      · exact ⟨q6, qd⟩
      clear hKK KK
      try simp only [Act.put, List.setIfInBounds_toArray, List.set_cons_zero, List.set_cons_succ]
      refine wpAnyH_take (i := 4) (v := ?yv4) (by simp only [List.getElem?_toArray, List.getElem?_cons_succ, List.getElem?_cons_zero]; rfl) (by kernel_rfl) (by kernel_rfl) (by kernel_rfl) (by exact fun _ _ _ h => h) (Or.inl ⟨by rfl, ?yy4⟩) hHeld ?_
      case yy4 => (intro w hSw; (try dsimp only at hSw); have hy2 := hSw.2.c1; clear hSw; go_simp; try (with_reducible rfl))
      try simp only [Act.put, List.setIfInBounds_toArray, List.set_cons_zero, List.set_cons_succ]
      refine wpAnyH_done (by kernel_rfl) ?_ _
      cases d with
      | true =>
        go_wp2_with (first | ((with_reducible refine at_ld 32 6 ?_); refine wpList_ld rfl (.tmp 6) rfl (w.heap.size + 3) rfl X q6 ?_) | ((with_reducible refine at_st 32 4 47 ?_); refine wpList_st rfl (.tmp 4) (.tmp 47) rfl (w.heap.size + 2) [] X rfl rfl q4 ?_))
        exact bodyPost_ret (wp_result_bd _ _ _ rfl _ _ (w.heap.size + 2) (bdF X) (bdG X) X.length rfl (q4.row_ X)) rfl ⟨by rw [← HX.out]; rfl, below_setRow hb _ _ (by omega)⟩
      | false =>
        go_wp2_with (first | ((with_reducible refine at_ld 32 3 ?_); refine wpList_ld rfl (.tmp 3) rfl (w.heap.size + 1) rfl V q3 ?_) | ((with_reducible refine at_st 32 4 46 ?_); refine wpList_st rfl (.tmp 4) (.tmp 46) rfl (w.heap.size + 2) [] V rfl rfl q4 ?_))
        exact bodyPost_ret (wp_result_bd _ _ _ rfl _ _ (w.heap.size + 2) (bdF V) (bdG V) V.length rfl (q4.row_ V)) rfl ⟨rfl, below_setRow hb _ _ (by omega)⟩
end Go.Proofs.Ytpppjlcfhijdgaa
