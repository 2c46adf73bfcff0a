/- Clip's Count and Split: how many pieces, and the pieces, in new memory. Conditions: the lengths fit. -/
import Derived.Test.YtgpedkdebifooaaDoorClipP
import Derived.OwnWalk
namespace Go.Proofs.YtgpedkdebifooaaDoor
open Go.RowKit

set_option maxHeartbeats 400000 in
theorem Count_calls (n : Nat) (w : World) (h : n ≤ 1024) :
    Calls Tryd.prog 65 #[.int .i64 (n : Int)] w fun e w' => e = .returned (.int .i64 ((cnt n : Nat) : Int)) ∧ w' = w := by
  have e1 := IntWalk.i64_in ((n : Int) + 64) (by omega)
  have e2 := IntWalk.i64_in ((n : Int) + 64 - 1) (by omega)
  have e3 : ((n : Int) + 64 - 1).tdiv 64 = (((n + 63) / 64 : Nat) : Int) := by rw [Int.tdiv_eq_ediv_of_nonneg (by omega)]; omega
  have e4 := IntWalk.i64_in ((((n + 63) / 64 : Nat) : Int)) (by omega)
  have e5 : (if ((1 : Int) < (((n + 63) / 64 : Nat) : Int)) then (((n + 63) / 64 : Nat) : Int) else 1) = ((cnt n : Nat) : Int) := by unfold cnt; split <;> split <;> omega
  obtain ⟨c, hc⟩ : ∃ c, c = cnt n := ⟨_, rfl⟩
  obtain ⟨d, hd⟩ : ∃ d, d = (n + 63) / 64 := ⟨_, rfl⟩
  rw [← hc] at e5 ⊢
  rw [← hd] at e3 e4 e5
  clear hc hd
  go_enter Tryd.func65, Tryd.ntmps65
  go_wp2_with fail
  go_ret
  exact ⟨rfl, rfl⟩
set_option maxHeartbeats 400000 in
theorem Count_out (z : Int) (w : World) (h : z < 0 ∨ 1024 < z) :
    Calls Tryd.prog 65 #[.int .i64 z] w fun e w' => e = .returned (.int .i64 0) ∧ w' = w := by
  have e1 : (decide (z < 0) || decide (1024 < z)) = true := by simpa using h
  by_cases h0 : z < 0
  · go_enter Tryd.func65, Tryd.ntmps65
    go_wp2_with fail
    go_ret
    exact ⟨rfl, rfl⟩
  · have h1 : 1024 < z := by omega
    go_enter Tryd.func65, Tryd.ntmps65
    go_wp2_with fail
    go_ret
    exact ⟨rfl, rfl⟩

theorem piece_info : (Tryd.prog.info? 96).map (fun i => (i.zero, i.size, i.bytes)) = some (some (.agg #[.bool false, .bool false, .slice none 0 0]), 3, 32) := by kernel_rfl
theorem set_next (xs : List PV) (k m : Nat) (y : PV) (hx : xs.length = k) (hk : k < m) : (xs ++ List.replicate (m - k) pz).set k y = (xs ++ [y]) ++ List.replicate (m - (k + 1)) pz := by
  obtain ⟨r, hr⟩ : ∃ r, m - k = r + 1 := ⟨m - k - 1, by omega⟩
  rw [List.set_append_right _ _ (by omega), hx, Nat.sub_self, hr, List.replicate_succ, List.set_cons_zero, show m - (k + 1) = r by omega]
  simp
theorem drop_next (l : List UInt8) (k r s : Nat) (hr : r = (l.drop (64 * k)).length) (hs : s = min 64 r) : (l.drop (64 * k)).drop s = l.drop (64 * (k + 1)) := by
  simp only [List.length_drop] at hr
  rw [List.drop_drop]
  by_cases h : 64 ≤ r
  · rw [show 64 * k + s = 64 * (k + 1) by omega]
  · rw [List.drop_eq_nil_of_le (by omega), List.drop_eq_nil_of_le (by omega)]
theorem splitP_next (l : List UInt8) (k : Nat) (hk : k < cnt l.length) : (splitP l).take (k + 1) = (splitP l).take k ++ [pieceAt l k] := by
  rw [List.take_succ_eq_append_getElem (by rw [splitP_length]; exact hk), splitP_get]
/-- A piece whose data lies in a block of bytes. -/
structure PV.InT (w : World) (x : PV) : Prop where
  in_ : PV.In w x
  typ : x.p.data ≠ [] → ∃ cur fr, w.heap[x.b]? = some (.cells cur 5 fr)
theorem PV.InT.mod {w w' : World} {x : PV} (h : PV.InT w x) {S : Nat → Prop} (hm : Mod S w w') (hs : x.p.data ≠ [] → ¬ S x.b) : PV.InT w' x := by
  refine ⟨⟨Bs.modne h.in_.1 hm hs, h.in_.2⟩, fun h0 => ?_⟩
  obtain ⟨cur, fr, hc⟩ := h.typ h0
  exact ⟨cur, fr, (hm.block _ (Array.getElem?_eq_some_iff.1 hc).1 (hs h0)).trans hc⟩
theorem at_mkS {P : Program} {ops : Array Oper} {rest : List Oper} {a : Act} {w : World} {Q : Exit → Act → World → Prop} {d : Option Tmp} {ty : TypeId} {pos : String} {af : Array Edge} {g : Option (Nat × Bool)} (T : TypeId) (x y : Tmp) (h : wpList P ops Q (Oper.mk d (.makeSlice T (.tmp x) (.tmp y)) ty pos af g :: rest) a w) : wpList P ops Q (Oper.mk d (.makeSlice T (.tmp x) (.tmp y)) ty pos af g :: rest) a w := h
theorem at_caS {P : Program} {ops : Array Oper} {rest : List Oper} {a : Act} {w : World} {Q : Exit → Act → World → Prop} {ty : TypeId} {pos : String} {af : Array Edge} {g : Option (Nat × Bool)} (k : Tmp) (c : Call) (h : wpList P ops Q (Oper.mk (some k) (.call c) ty pos af g :: rest) a w) : wpList P ops Q (Oper.mk (some k) (.call c) ty pos af g :: rest) a w := h

set_option maxHeartbeats 1000000 in
set_option maxRecDepth 20000 in
theorem Split_calls (A : Option Addr) (l : List UInt8) (n c b : Nat) (w : World) (hs : Bs w b A l) (hn : l.length = n) (h1 : n ≤ 1024) (hc : n ≤ c) (hcm : c ≤ maxLen) :
    Calls Tryd.prog 32 #[.slice A n c] w fun e w' => ∃ v xs, e = .returned (.tuple #[v, .int .i64 0]) ∧ xs.map PV.p = splitP l ∧ RowP 96 w' w.heap.size v xs ∧ (∀ x ∈ xs, PV.InT w' x ∧ w.heap.size ≤ x.b) ∧ Below w.heap.size w w' := by
  obtain ⟨m, hm⟩ : ∃ m, m = cnt l.length := ⟨_, rfl⟩
  have hm1 : 1 ≤ m := by rw [hm]; exact cnt_pos _
  have hm2 : m ≤ 16 := by rw [hm]; exact cnt_le _ (by omega)
  have hC := Count_calls n
  rw [← hn, ← hm, hn] at hC
  have hne : ((m : Int) == 0) = false := by simp; omega
  unfold maxLen at hcm
  have HM := Lib.hid hm
  have HN := Lib.hid hn
  clear hm hn
  go_enter Tryd.func32, Tryd.ntmps32
  go_wp2_with fail
  refine (hC w h1).mono ?_
  rintro e w1 ⟨rfl, rfl⟩
  obtain ⟨i0, hi0, hz0, hz1, hz2⟩ := info_parts piece_info
  go_wp2_with (refine at_mkS 82 13 13 ?_; go_loud (refine wpList_make_full _ rfl (.tmp 13) (.tmp 13) 82 rfl w1.heap.size 96 i0 _ 3 Tryd.underlying82 hi0 hz0 hz1 _ _ (m : Int) (m : Int) m rfl rfl rfl rfl (by rw [hz2]; omega) (by simp only [maxLen]; omega) (Nat.le_refl _) ?_); intro w2 hown hgr)
  obtain ⟨g, hg⟩ : ∃ g, g = w1.heap.size := ⟨_, rfl⟩
  rw [pvs_pz] at hown
  have hb2 : Below w1.heap.size w1 w2 := (Mod.of_grown hgr).below (Nat.le_refl _) (fun i _ h => by cases h)
  have hg2 : w1.heap.size < w2.heap.size := (World.ownsRow.lt hown w1.heap.size rfl).2
  have hown0 : RowP 96 w2 w1.heap.size (.slice (some ⟨w1.heap.size, 0, none⟩) m m) ([] ++ List.replicate (m - 0) pz) := by unfold RowP; simpa using hown
  have hs2 := Sl.ext hs hb2
  rw [← hg] at hown0 hg2 ⊢
  have HG := Lib.hid hg
  have hbl : l ≠ [] → b < g := fun hl => by have := Bs.lt hs hl; omega
  have HBL := Lib.hid hbl
  clear hown hgr hs hg hC hi0 hz0 hz1 hz2 hbl
  go_loopw [0, 17] (fun v i wr => ∃ (k : Nat) (xs : List PV) (A' : Option Addr) (r c' : Nat), k ≤ m ∧ i = .int .i64 k ∧ v = .slice A' r c' ∧ Hid (r = (l.drop (64 * k)).length) ∧ r ≤ c' ∧ c' ≤ 9223372036854775807 ∧ Bs wr b A' (l.drop (64 * k)) ∧ Hid (xs.length = k) ∧ Hid (xs.map PV.p = (splitP l).take k) ∧ Hid (RowP 96 wr g (.slice (some ⟨g, 0, none⟩) m m) (xs ++ List.replicate (m - k) pz)) ∧ Hid (∀ x ∈ xs, PV.InT wr x ∧ g + 1 ≤ x.b) ∧ Below w1.heap.size w1 wr) (fun _ i _ => m - (intOf i).toNat)
  case atStart => exact ⟨0, [], A, n, c, Nat.zero_le _, rfl, rfl, Lib.hid (by have := HN.out; simp; omega), hc, hcm, by simpa using hs2, Lib.hid rfl, Lib.hid rfl, Lib.hid hown0, Lib.hid (by simp), hb2⟩
  case round =>
    obtain ⟨k, xs, A', r, c', hk, rfl, rfl, hr, hrc, hcc, hbs, hxl, hxp, hown, hin, hb⟩ := hrel
    by_cases hlt : k < m
    · obtain ⟨d, hd⟩ : ∃ d, d = (l.drop (64 * k)).take 64 := ⟨_, rfl⟩
      obtain ⟨s, hss⟩ : ∃ s, s = min 64 r := ⟨_, rfl⟩
      have hdl : d.length = s := by rw [hd, hss, hr.out]; simp only [List.length_take]
      obtain ⟨f, hf⟩ : ∃ f, f = decide (k = 0) := ⟨_, rfl⟩
      obtain ⟨la, hla⟩ : ∃ la, la = decide (k + 1 = m) := ⟨_, rfl⟩
      have e26 : ((k : Int) == 0) = f := by rw [hf, Bool.eq_iff_iff]; simp
      have e29 := IntWalk.i64_in ((m : Int) - 1) (by omega)
      have e30 : ((k : Int) == (m : Int) - 1) = la := by rw [hla, Bool.eq_iff_iff]; simp; omega
      have hsr : s ≤ r := by omega
      have HD := Lib.hid hd
      have HS := Lib.hid hss
      have HF := Lib.hid hf
      have HLA := Lib.hid hla
      have hsd : Bs wr b A' d := by rw [hd]; unfold Bs; rw [← bv_take]; exact hbs.take 64
      have HDL := Lib.hid hdl
      clear hd hss hf hla hdl
      have emn : (if (r : Int) < 64 then (r : Int) else 64) = (s : Int) := by have := HS.out; split <;> omega
      have hs64 : s ≤ 64 := by have := HS.out; omega
      have hgw : g + 1 ≤ wr.heap.size := by have := (World.ownsRow.lt hown.out g rfl).2; omega
      go_wp2_with (refine at_caS 34 _ ?_; go_loud (refine wpList_app wr rfl (.const (.slice none 0 0)) (.tmp 33) rfl (g + 1) _ [] rfl (Row.nil_ wr (g + 1)) b A' s c' d rfl hsd HDL.out (by simp; omega) hgw ?_); intro v' w3 hrow hmod _; (have hown3 := ownsP_mod hown.out hmod (fun k hk h => by cases h)); (obtain ⟨g', cap, hv, -, hgl, -, ⟨u0, c0⟩, ⟨u1, c1⟩, ⟨u2, c2⟩, hfr, hset⟩ := RowP.set_ hown3 (k := k) (by have := hxl.out; simp; omega)); (injection hv with hv hz1 hz2); (injection hv with hv); (injection hv with hv hz3 hz4); subst hv; (clear hz1 hz2 hz3 hz4); (have f0 := hfr (k * 3)); (have f1 := hfr (k * 3 + 1)); (have f2 := hfr (k * 3 + 2)); (obtain ⟨A3, c3, b3, rfl, -, -, -, hb3, hs3, -⟩ := hrow.sl); (rw [List.nil_append] at hs3 hrow ⊢); (have HTY := Lib.hid (fun h0 => Row.blk_sl hrow rfl hs3 h0)); (rw [HDL.out]); (have HSET := Lib.hid hset); (have HOWN := Lib.hid hown3); clear hset hown3 hfr hrow)
      go_roundw
      case rel =>
        have hbw := hb.size
        obtain ⟨W, hW⟩ : ∃ W, W = ((w3.setCell ⟨g, k * 3, none⟩ (.bool f)).setCell ⟨g, k * 3 + 1, none⟩ (.bool la)).setCell ⟨g, k * 3 + 2, none⟩ (.slice A3 s c3) := ⟨_, rfl⟩
        rw [← hW]
        have hmW : Mod (fun i => i = g) w3 W := by
          rw [hW]
          exact ((Mod.setCell w3 ⟨g, k * 3, none⟩ _).trans (Mod.setCell _ ⟨g, k * 3 + 1, none⟩ _) (fun i _ h => h) (fun i _ h => h)).trans (Mod.setCell _ ⟨g, k * 3 + 2, none⟩ _) (fun i _ h => h) (fun i _ h => h)
        have hm3 : Mod (fun i => i = g) wr W := hmod.trans hmW (fun i _ h => by cases h) (fun i _ h => h)
        have hrow := HSET.out ⟨⟨f, la, d⟩, A3, c3, b3⟩ W (by rw [hW, HDL.out])
        rw [set_next xs k m _ hxl.out hlt] at hrow
        have hnx := drop_next l k r s hr.out HS.out
        have hrl : (l.drop (64 * k)).length = r := hr.out.symm
        have hbs2 := Sl.drop hbs (k := s) (cap := c') (by rw [bv_length, hrl]; exact hrc)
        rw [bv_drop, hnx] at hbs2
        have hy : (⟨f, la, d⟩ : Pc) = pieceAt l k := by
          rw [HF.out, HLA.out, HD.out, HM.out]; rfl
        refine ⟨k + 1, xs ++ [⟨⟨f, la, d⟩, A3, c3, b3⟩], _, _, _, by omega, by go_num, rfl, Lib.hid ?_, by omega, by omega, ?_, Lib.hid (by have := hxl.out; simp; omega), Lib.hid ?_, Lib.hid hrow, Lib.hid ?_, hb.trans (hm3.below hbw (fun i hi h => by have := HG.out; omega))⟩
        · rw [← hnx, List.length_drop, hrl]
        · exact Bs.modne hbs2 hm3 (fun hl h => by have := HBL.out (by rintro rfl; simp at hl); omega)
        · rw [splitP_next l k (by rw [← HM.out]; exact hlt), List.map_append, hxp.out, List.map_cons, List.map_nil, hy]
        · intro x hx
          rw [List.mem_append] at hx
          rcases hx with hx | hx
          · obtain ⟨h1, h3⟩ := hin.out x hx
            exact ⟨h1.mod hm3 (fun _ h => by omega), h3⟩
          · simp only [List.mem_singleton] at hx
            subst hx
            have hT3 : PV.InT w3 ⟨⟨f, la, d⟩, A3, c3, b3⟩ := ⟨⟨hs3, by have := HDL.out; simp only [maxLen]; omega⟩, fun h0 => by obtain ⟨cur, hc⟩ := HTY.out h0; exact ⟨cur, _, hc⟩⟩
            refine ⟨hT3.mod hmW (fun _ h => ?_), hb3⟩
            have h2 : b3 = g := h
            omega
      case measure => simp [intOf]; omega
    · go_wp2_with fail
      go_ret2
      have hkm : k = m := by omega
      subst hkm
      have hown2 := hown.out
      simp only [Nat.sub_self, List.replicate_zero, List.append_nil] at hown2
      have hg1 := HG.out
      have hw := hown2.1
      refine ⟨_, xs, rfl, ?_, ?_, fun x hx => ⟨(hin.out x hx).1, by have := (hin.out x hx).2; omega⟩, hb⟩
      · rw [hxp.out, List.take_of_length_le (by rw [splitP_length, ← HM.out]; exact Nat.le_refl _)]
      · rw [← hg1]; have e : xs.length = k := hxl.out; unfold RowP; rw [e]; unfold RowP at hown2; rw [e] at hown2; exact hown2

set_option maxHeartbeats 400000 in
theorem Split_long (A : Option Addr) (n c : Nat) (w : World) (h1 : 1024 < n) (hm : n ≤ maxLen) :
    Calls Tryd.prog 32 #[.slice A n c] w fun e w' => e = .returned (.tuple #[.slice none 0 0, .int .i64 4]) ∧ w' = w := by
  unfold maxLen at hm
  have hC := fun W => Count_out (n : Int) W (Or.inr (by omega))
  go_enter Tryd.func32, Tryd.ntmps32
  go_wp2_with fail
  refine (hC w).mono ?_
  rintro e w1 ⟨rfl, rfl⟩
  go_wp2_with fail
  go_ret2
  exact ⟨rfl, rfl⟩
end Go.Proofs.YtgpedkdebifooaaDoor
