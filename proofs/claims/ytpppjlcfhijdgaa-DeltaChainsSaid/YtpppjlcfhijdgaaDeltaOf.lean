/- Of: what one is told of a board's touched places. Conditions: a board has 48 cells at most; the cells and the numbers fit. -/
import Derived.Test.YtpppjlcfhijdgaaDeltaN
import Derived.BigRegion
import Derived.Deep.DeepCutAuto
namespace Go.Proofs.Ytpppjlcfhijdgaa
open Go.RowKit

theorem rows_ne {w : World} {B B' n m : Nat} {v v' : Value} {xs ys : List Value} (h : w.ownsRow B 5 1 v n xs) (h' : w.ownsRow B' 29 2 v' m ys) {i : Nat} (hv : v.ownBlock = some i) (hv' : v'.ownBlock = some i) : False := by
  rcases h'.2 with ⟨rfl, _⟩ | ⟨g', cap, cur, rfl, _, hh, _⟩
  · simp [Value.ownBlock] at hv'
  · have e : g' = i := by simpa [Value.ownBlock] using hv'
    subst e
    exact own_ne h hh (by decide) hv
set_option maxHeartbeats 16000000 in
set_option maxRecDepth 40000 in
theorem Of_calls (L : List (Int × Nat)) (t : Nat) (o : Int) (tick : Nat) (w : World) (hL : L.length ≤ 48) (hok : okC L) (ht : t ≤ 18446744073709551615) (_ : tick < 4294967296) :
    Calls Try.prog 11 #[.agg (bdL L), .int .u64 t, .int .i64 o, .int .u32 tick] w fun e w' => ∃ vp vc, e = .returned (.agg #[.int .u32 tick, .int .u32 (hashL (viewL o L) : Nat), vp, vc]) ∧ Row w' w.heap.size vp (placesB t L.length) ∧ RowC 29 w' w.heap.size vc (cellsTo (viewL o L) t L.length) ∧ Below w.heap.size w w' := by
  have hV := fun W => View_calls L o W hL hok
  have hH := fun W => Hash_calls (viewL o L) W (by simp; omega) (okC_view hok o)
  have hC := fun W => Cells_calls (viewL o L) W (by simp; omega)
  obtain ⟨V, hVe⟩ : ∃ V, V = viewL o L := ⟨_, rfl⟩
  have hVl : V.length = L.length := by rw [hVe]; simp
  have hVL : V.length ≤ 48 := by omega
  rw [← hVe] at hV hH hC
  rw [← hVe, ← hVl]
  obtain ⟨H, hHe⟩ : ∃ H, H = hashL V := ⟨_, rfl⟩
  rw [← hHe] at hH ⊢
  have q4 := (BoxL.new_ w L).alloc (.cells #[.int .u32 0, .int .u32 0, .slice none 0 0, .slice none 0 0] 38)
  have r8 : BoxD ((w.alloc (.cells (bdL L) 32)).alloc (.cells #[.int .u32 0, .int .u32 0, .slice none 0 0, .slice none 0 0] 38)) (w.heap.size + 1) 0 0 (.slice none 0 0) (.slice none 0 0) := by
    have := BoxD.new_ (w.alloc (.cells (bdL L) 32)) 0 0 (.slice none 0 0) (.slice none 0 0)
    rwa [show (w.alloc (.cells (bdL L) 32)).heap.size = w.heap.size + 1 by simp] at this
  have hb := below_alloc2 w (.cells (bdL L) 32) (.cells #[.int .u32 0, .int .u32 0, .slice none 0 0, .slice none 0 0] 38)
  clear hVe hVl hHe
  go_enter Try.func11, Try.ntmps11
  go_wp2_with ((with_reducible refine at_ld 32 4 ?_); refine wpList_ld rfl (.tmp 4) rfl w.heap.size rfl L q4 ?_)
  refine (hV _).mono ?_
  rintro e w1 ⟨rfl, hb1⟩
  have q4 := q4.ext hb1
  have r8 := r8.ext hb1
  have hb := hb.trans (hb1.mono hb.size)
  clear hb1
  clear hV
  clear q4
  have r8 := r8.alloc (.cells (bdL V) 32)
  have hb := hb.alloc hb.size (.cells (bdL V) 32)
  have q9 := BoxL.new_ w1 V
  go_wp2_with (first | ((with_reducible refine at_al 32 9 ?_); refine wpList_al rfl rfl (some 9) rfl w1.heap.size rfl ?_) | ((with_reducible refine at_st 32 9 15 ?_); refine wpList_put rfl (.tmp 9) (.tmp 15) rfl rfl V rfl rfl ?_) | ((with_reducible refine at_ld 32 9 ?_); refine wpList_ld rfl (.tmp 9) rfl w1.heap.size rfl V q9 ?_))
  refine (hH _).mono ?_
  rintro e w2 ⟨rfl, hb2⟩
  have r8 := r8.ext hb2
  have q9 := q9.ext hb2
  have hb := hb.trans (hb2.mono hb.size)
  clear hb2
  clear hH
  have z := BoxD.new_ w2 tick H (.slice none 0 0) (.slice none 0 0)
  have hz8 := r8.lt
  have r8 := r8.alloc (.cells #[.int .u32 (tick : Int), .int .u32 (H : Int), .slice none 0 0, .slice none 0 0] 38)
  have q9 := q9.alloc (.cells #[.int .u32 (tick : Int), .int .u32 (H : Int), .slice none 0 0, .slice none 0 0] 38)
  have hb := hb.alloc hb.size (.cells #[.int .u32 (tick : Int), .int .u32 (H : Int), .slice none 0 0, .slice none 0 0] 38)
  go_wp2_with ((with_reducible refine at_ld 32 9 ?_); refine wpList_ld rfl (.tmp 9) rfl w1.heap.size rfl V q9 ?_)
  refine (hC _).mono ?_
  rintro e w3 ⟨v, rfl, hrow, hb3⟩
  have r8 := r8.ext hb3
  have q9 := q9.ext hb3
  have z := z.ext hb3
  have hb := hb.trans (hb3.mono hb.size)
  clear hb3
  clear hC
  obtain ⟨A5, c5, b5, rfl, hx1, hx2, hx3, hx4, hs5, hx5⟩ := hrow.sl
  have hb5 : w2.heap.size < b5 := by have := hx4; simp at this; omega
  clear hrow hx1 hx2 hx3 hx4 hx5
  have hzl := hb.size
  have hzlt := z.lt
  have h8lt := r8.lt
  have hblt : 0 < V.length → b5 < w3.heap.size := fun h => Sl.lt hs5 (by intro h0; have := congrArg List.length h0; rw [cv_length, List.length_nil] at this; omega)
  go_wp2_with fail
  go_loopw [11, 23] (fun q i wr => ∃ (k : Nat) (vp vc : Value), k ≤ V.length ∧ i = .int .i64 k ∧ Row wr w3.heap.size vp (placesB t k) ∧ RowC 29 wr w3.heap.size vc (cellsTo V t k) ∧ w3.heap.size ≤ wr.heap.size ∧ BoxD wr w2.heap.size tick H vp vc ∧ BoxD wr (w.heap.size + 1) 0 0 (.slice none 0 0) (.slice none 0 0) ∧ Sl wr b5 A5 (cv V) ∧ Below w.heap.size w wr) (fun _ i _ => V.length - (intOf i).toNat)
  case atStart => exact ⟨0, _, _, Nat.zero_le _, rfl, Row.nil_ _ _, RowC.nil_ _ _ _, Nat.le_refl _, z, r8, hs5, hb⟩
  case round =>
    clear z r8 hs5 hb
    obtain ⟨k, vp, vc, hk, rfl, hp, hc, hB, z, r8, hs5, hb⟩ := hrel
    by_cases hlt : k < V.length
    · obtain ⟨off, rfl, f0, f1⟩ := sl_off hs5 hlt
      have hbit := bit_asked t k ht
      obtain ⟨d, hd⟩ : ∃ d, d = t.testBit k := ⟨_, rfl⟩
      rw [← hd] at hbit
      have ph := placesB_hit (t := t) (k := k)
      have pm := placesB_miss (t := t) (k := k)
      have ch := cellsTo_hit (t := t) hlt
      have cm := cellsTo_miss (V := V) (t := t) (k := k)
      have hpl := placesTo_len t k
      rw [← hd] at ph pm ch cm
      obtain ⟨pr, hpr⟩ : ∃ pr, pr = V[k] := ⟨_, rfl⟩
      rw [← hpr] at f0 f1 ch
      obtain ⟨X, Y⟩ := pr
      simp only at f0 f1
      have PH := Lib.hid ph
      have PM := Lib.hid pm
      have CH := Lib.hid ch
      have CM := Lib.hid cm
      have ej : (k : Int) < (V.length : Int) := by omega
      have ek : (k : Int) < 64 := by omega
      clear hd hpr ph pm ch cm
      cases d with
      | false =>
        have hx := hb.alloc hb.size (.cells #[.int .i32 X, .int .u32 (Y : Int)] 29)
        have h9 := below_alloc1 wr (.cells #[.int .i32 X, .int .u32 (Y : Int)] 29)
        go_wp2_with fail
        go_roundw
        case rel => exact ⟨k + 1, _, _, by omega, by go_num, by rw [PM.out (by trivial)]; exact Row.ext hp h9, by rw [CM.out (by trivial)]; exact RowC.ext hc h9, by simp; omega, z.ext h9, r8.ext h9, Sl.ext hs5 h9, hx⟩
        case measure => simp [intOf]; omega
      | true =>
        have hx := hb.alloc hb.size (.cells #[.int .i32 X, .int .u32 (Y : Int)] 29)
        have h9 := below_alloc1 wr (.cells #[.int .i32 X, .int .u32 (Y : Int)] 29)
        have hp1 := Row.ext hp h9
        have hc1 := RowC.ext hc h9
        have z1 := z.ext h9
        have r81 := r8.ext h9
        have hs51 := Sl.ext hs5 h9
        have kx := BoxC.new_ wr X Y
        have zc2 := z1.c2
        have zc3 := z1.c3
        have zf2 := z1.fr 2
        have zf3 := z1.fr 3
        have hu : (Value.int .u8 (k : Int)) = .int .u8 ((UInt8.ofNat k).toNat : Int) := by rw [u8_ofNat]; congr 1; omega
        have hkw : IntKind.u8.wrap (k : Int) = (k : Int) := IntWalk.u8_in _ (by omega)
        have hkm : (k : Int) % 256 = (k : Int) := by omega
        have hB1 : w3.heap.size ≤ (wr.alloc (.cells #[.int .i32 X, .int .u32 (Y : Int)] 29)).heap.size := by simp; omega
        have hblt' := hblt (by omega)
        have h10 := below_alloc1 (wr.alloc (.cells #[.int .i32 X, .int .u32 (Y : Int)] 29)) (.cells #[.int .u8 (k : Int)] 5)
        have hp2 := Row.ext hp1 h10
        have hc2 := RowC.ext hc1 h10
        have z2 := z1.ext h10
        have kx2 := kx.ext h10
        have hsb : Sl ((wr.alloc (.cells #[.int .i32 X, .int .u32 (Y : Int)] 29)).alloc (.cells #[.int .u8 (k : Int)] 5)) (wr.heap.size + 1) (some ⟨wr.heap.size + 1, 0, none⟩) (bv [UInt8.ofNat k]) := by
          rw [show bv [UInt8.ofNat k] = [.int .u8 (k : Int)] by rw [hu]; rfl]
          have h11 := Sl.one_new (wr.alloc (.cells #[.int .i32 X, .int .u32 (Y : Int)] 29)) (.int .u8 (k : Int)) 5
          rwa [show (wr.alloc (.cells #[.int .i32 X, .int .u32 (Y : Int)] 29)).heap.size = wr.heap.size + 1 by simp] at h11
        clear hu
        have hplt := World.ownsRow.lt hp
        have hclt := World.ownsRow.lt hc
        go_wp2_with (first | ((with_reducible refine at_ca 38 _ ?_); refine wpList_app _ rfl (.tmp 34) (.tmp 37) rfl w3.heap.size vp (placesB t k) rfl hp2 _ (some ⟨_, 0, none⟩) 1 1 [UInt8.ofNat k] rfl hsb rfl (by simp; omega) (by simp; omega) ?_; intro v7 w7 hrow7 hmod7 hat7; (obtain ⟨A7, c7, b7, hv7, _⟩ := Row.sl hrow7); (obtain ⟨N7, hN7⟩ : ∃ N7, N7 = (placesB t k ++ [UInt8.ofNat k]).length := ⟨_, rfl⟩); (rw [← hN7] at hv7); (have HN7 := Lib.hid hN7); (clear hN7); (subst hv7); (have z7 := z2.mod hmod7 (fun h => by have := (hplt _ h).1; omega)); (have zc2 := z7.c2); (have zf2 := z7.fr 2); (have z7s := z7.set2 (.slice A7 N7 c7)); (have zc3 := z7s.c3); (have zf3 := z7s.fr 3); (have k7 : BoxC w7 wr.heap.size X Y := (hmod7.block _ (by simp; omega) (fun h => by have := (hplt _ h).2; omega)).trans kx2); (have k7s := k7.other (p := ⟨w2.heap.size, 2, none⟩) (by simp; omega) (.slice A7 N7 c7)); (obtain ⟨m0, m1⟩ := And.intro k7s.c0 k7s.c1); (have hc7 := RowC.mod hc2 hmod7 (fun i hi h => rows_ne hp2 hc2 h hi)); (have hc7s := RowC.mod hc7 (Mod.setCell w7 ⟨w2.heap.size, 2, none⟩ (.slice A7 N7 c7)) (fun i hi h => by have h1 := (hclt i hi).1; have h2 : i = w2.heap.size := h; omega)); (have hsn := Sl.cell_new (w7.setCell ⟨w2.heap.size, 2, none⟩ (.slice A7 N7 c7)) (X, Y) 29); (rw [show (w7.setCell ⟨w2.heap.size, 2, none⟩ (.slice A7 N7 c7)).heap.size = w7.heap.size by simp [World.setCell]] at hsn); (have hz7 := hmod7.size)) | ((with_reducible refine at_ca 44 _ ?_); refine wpList_appC _ Try.underlying22 cellB_info rfl (.tmp 41) (.tmp 43) rfl w3.heap.size vc (cellsTo V t k) rfl (World.ownsRow.alloc hc7s _) _ (some ⟨_, 0, none⟩) 1 1 [(X, Y)] rfl hsn rfl (by simp; omega) (by simp [World.setCell] at hz7 ⊢; omega) ?_; intro v8 w8 hrow8 hmod8 hat8; (obtain ⟨A8, c8, b8, hv8, _⟩ := RowC.sl hrow8); (obtain ⟨N8, hN8⟩ : ∃ N8, N8 = (cellsTo V t k ++ [(X, Y)]).length := ⟨_, rfl⟩); (rw [← hN8] at hv8); (have HN8 := Lib.hid hN8); (clear hN8); (subst hv8); (have z8 := (z7s.alloc _).mod hmod8 (fun h => by have := (hclt _ h).1; omega)); (have zc3 := z8.c3); (have zf3 := z8.fr 3)))
        have ra := Row.mod hrow7 (Mod.setCell w7 ⟨w2.heap.size, 2, none⟩ (.slice A7 N7 c7)) (fun i hi h => by have h1 := (World.ownsRow.lt hrow7 i hi).1; have h2 : i = w2.heap.size := h; omega)
        have rb := Row.ext ra (below_alloc1 (w7.setCell ⟨w2.heap.size, 2, none⟩ (.slice A7 N7 c7)) (.cells #[.int .i32 X, .int .u32 (Y : Int)] 29))
        have rc := Row.mod rb hmod8 (fun i hi h => rows_ne rb (World.ownsRow.alloc hc7s (.cells #[.int .i32 X, .int .u32 (Y : Int)] 29)) hi h)
        have rd := Row.mod rc (Mod.setCell w8 ⟨w2.heap.size, 3, none⟩ (.slice A8 N8 c8)) (fun i hi h => by have h1 := (World.ownsRow.lt rc i hi).1; have h2 : i = w2.heap.size := h; omega)
        have re := RowC.mod hrow8 (Mod.setCell w8 ⟨w2.heap.size, 3, none⟩ (.slice A8 N8 c8)) (fun i hi h => by have h1 := (World.ownsRow.lt hrow8 i hi).1; have h2 : i = w2.heap.size := h; omega)
        have g7 := (r81.ext h10).mod hmod7 (fun h => by have := (hplt _ h).1; omega)
        have g8 := (((g7.other (p := ⟨w2.heap.size, 2, none⟩) (Nat.ne_of_lt hz8) (.slice A7 N7 c7)).alloc (.cells #[.int .i32 X, .int .u32 (Y : Int)] 29)).mod hmod8 (fun h => by have := (hclt _ h).1; omega)).other (p := ⟨w2.heap.size, 3, none⟩) (Nat.ne_of_lt hz8) (.slice A8 N8 c8)
        have l7 := Sl.mod (Sl.ext hs51 h10) hmod7 (fun h => by have := (hplt _ h).1; omega)
        have l8 := Sl.setCell (Sl.mod (Sl.alloc (Sl.setCell l7 (p := ⟨w2.heap.size, 2, none⟩) (by simp; omega) (.slice A7 N7 c7)) (.cells #[.int .i32 X, .int .u32 (Y : Int)] 29)) hmod8 (fun h => by have := (hclt _ h).1; omega)) (p := ⟨w2.heap.size, 3, none⟩) (by simp; omega) (.slice A8 N8 c8)
        have b7' := (hx.trans (h10.mono hx.size)).trans (hmod7.below (B := w.heap.size) (by simp; omega) (fun i hi h => by have := (hplt _ h).1; omega))
        have b7s := b7'.setCell (p := ⟨w2.heap.size, 2, none⟩) (by simp; omega) (.slice A7 N7 c7)
        have b7t := b7s.alloc b7s.size (.cells #[.int .i32 X, .int .u32 (Y : Int)] 29)
        have b8' := b7t.trans (hmod8.below (B := w.heap.size) b7t.size (fun i hi h => by have := (hclt _ h).1; omega))
        have b9' := b8'.setCell (p := ⟨w2.heap.size, 3, none⟩) (by simp; omega) (.slice A8 N8 c8)
        have hsz8 := hmod8.size
        go_roundw
        case rel => exact ⟨k + 1, (.slice A7 N7 c7), (.slice A8 N8 c8), by omega, by go_num, by rw [PH.out (by trivial)]; exact rd, by rw [CH.out (by trivial)]; exact re, by simp [World.setCell] at hsz8 hz7 ⊢; omega, z8.set3 _, g8, l8, b9'⟩
        case measure => simp [intOf]; omega
    · obtain rfl : k = V.length := by omega
      obtain ⟨A7, c7, b7, hv7, _⟩ := Row.sl hp
      obtain ⟨A8, c8, b8, hv8, _⟩ := RowC.sl hc
      obtain ⟨N7, hN7⟩ : ∃ N7, N7 = (placesB t V.length).length := ⟨_, rfl⟩
      rw [← hN7] at hv7
      clear hN7
      obtain ⟨N8, hN8⟩ : ∃ N8, N8 = (cellsTo V t V.length).length := ⟨_, rfl⟩
      rw [← hN8] at hv8
      clear hN8
      subst hv7 hv8
      have zc0 := z.c0
      have rc0 := r8.c0
      have rf0 := r8.fr 0
      have zc1 := z.c1
      have rc1 := r8.c1
      have rf1 := r8.fr 1
      have zc2 := z.c2
      have rc2 := r8.c2
      have rf2 := r8.fr 2
      have zc3 := z.c3
      have rc3 := r8.c3
      have rf3 := r8.fr 3
      have hzlt' := hzlt
      go_wp2_with fail
      have q0 := heap_setCell_same wr (w.heap.size + 1) 0 _ _ (.int .u32 (tick : Int)) r8
      have rp0 := Row.mod hp (Mod.setCell wr ⟨w.heap.size + 1, 0, none⟩ (.int .u32 (tick : Int))) (fun i hi h => by have h1 := (World.ownsRow.lt hp i hi).1; have h2 : i = w.heap.size + 1 := h; omega)
      have rc0' := RowC.mod hc (Mod.setCell wr ⟨w.heap.size + 1, 0, none⟩ (.int .u32 (tick : Int))) (fun i hi h => by have h1 := (World.ownsRow.lt hc i hi).1; have h2 : i = w.heap.size + 1 := h; omega)
      have bb0 := hb.setCell (p := ⟨w.heap.size + 1, 0, none⟩) (by simp) (.int .u32 (tick : Int))
      have q1 := heap_setCell_same (wr.setCell ⟨w.heap.size + 1, 0, none⟩ (.int .u32 (tick : Int))) (w.heap.size + 1) 1 _ _ (.int .u32 (H : Int)) q0
      have rp1 := Row.mod rp0 (Mod.setCell (wr.setCell ⟨w.heap.size + 1, 0, none⟩ (.int .u32 (tick : Int))) ⟨w.heap.size + 1, 1, none⟩ (.int .u32 (H : Int))) (fun i hi h => by have h1 := (World.ownsRow.lt hp i hi).1; have h2 : i = w.heap.size + 1 := h; omega)
      have rc1' := RowC.mod rc0' (Mod.setCell (wr.setCell ⟨w.heap.size + 1, 0, none⟩ (.int .u32 (tick : Int))) ⟨w.heap.size + 1, 1, none⟩ (.int .u32 (H : Int))) (fun i hi h => by have h1 := (World.ownsRow.lt hc i hi).1; have h2 : i = w.heap.size + 1 := h; omega)
      have bb1 := bb0.setCell (p := ⟨w.heap.size + 1, 1, none⟩) (by simp) (.int .u32 (H : Int))
      have q2 := heap_setCell_same ((wr.setCell ⟨w.heap.size + 1, 0, none⟩ (.int .u32 (tick : Int))).setCell ⟨w.heap.size + 1, 1, none⟩ (.int .u32 (H : Int))) (w.heap.size + 1) 2 _ _ (.slice A7 N7 c7) q1
      have rp2 := Row.mod rp1 (Mod.setCell ((wr.setCell ⟨w.heap.size + 1, 0, none⟩ (.int .u32 (tick : Int))).setCell ⟨w.heap.size + 1, 1, none⟩ (.int .u32 (H : Int))) ⟨w.heap.size + 1, 2, none⟩ (.slice A7 N7 c7)) (fun i hi h => by have h1 := (World.ownsRow.lt hp i hi).1; have h2 : i = w.heap.size + 1 := h; omega)
      have rc2' := RowC.mod rc1' (Mod.setCell ((wr.setCell ⟨w.heap.size + 1, 0, none⟩ (.int .u32 (tick : Int))).setCell ⟨w.heap.size + 1, 1, none⟩ (.int .u32 (H : Int))) ⟨w.heap.size + 1, 2, none⟩ (.slice A7 N7 c7)) (fun i hi h => by have h1 := (World.ownsRow.lt hc i hi).1; have h2 : i = w.heap.size + 1 := h; omega)
      have bb2 := bb1.setCell (p := ⟨w.heap.size + 1, 2, none⟩) (by simp) (.slice A7 N7 c7)
      have q3 := heap_setCell_same (((wr.setCell ⟨w.heap.size + 1, 0, none⟩ (.int .u32 (tick : Int))).setCell ⟨w.heap.size + 1, 1, none⟩ (.int .u32 (H : Int))).setCell ⟨w.heap.size + 1, 2, none⟩ (.slice A7 N7 c7)) (w.heap.size + 1) 3 _ _ (.slice A8 N8 c8) q2
      have rp3 := Row.mod rp2 (Mod.setCell (((wr.setCell ⟨w.heap.size + 1, 0, none⟩ (.int .u32 (tick : Int))).setCell ⟨w.heap.size + 1, 1, none⟩ (.int .u32 (H : Int))).setCell ⟨w.heap.size + 1, 2, none⟩ (.slice A7 N7 c7)) ⟨w.heap.size + 1, 3, none⟩ (.slice A8 N8 c8)) (fun i hi h => by have h1 := (World.ownsRow.lt hp i hi).1; have h2 : i = w.heap.size + 1 := h; omega)
      have rc3' := RowC.mod rc2' (Mod.setCell (((wr.setCell ⟨w.heap.size + 1, 0, none⟩ (.int .u32 (tick : Int))).setCell ⟨w.heap.size + 1, 1, none⟩ (.int .u32 (H : Int))).setCell ⟨w.heap.size + 1, 2, none⟩ (.slice A7 N7 c7)) ⟨w.heap.size + 1, 3, none⟩ (.slice A8 N8 c8)) (fun i hi h => by have h1 := (World.ownsRow.lt hc i hi).1; have h2 : i = w.heap.size + 1 := h; omega)
      have bb3 := bb2.setCell (p := ⟨w.heap.size + 1, 3, none⟩) (by simp) (.slice A8 N8 c8)
      exact bodyPost_ret (results_cell_row (P := Try.prog) rfl _ _ (w.heap.size + 1) _ #[.int .u32 (tick : Int), .int .u32 (H : Int), .slice A7 N7 c7, .slice A8 N8 c8] (0, 0) _ rfl q3 Try.underlying38 rfl (by kernel_rfl)) rfl ⟨_, _, rfl, owns_low rp3 (by omega), owns_low rc3' (by omega), bb3⟩
end Go.Proofs.Ytpppjlcfhijdgaa
