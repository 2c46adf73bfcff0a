/- How a frame that came in reads, in the words of this seat's walks. No condition. -/
import Derived.Test.YtbkimknfhpbcfaaOpen
import Derived.Test.YtbkimknfhpbcfaaFrN
import Derived.Deep.Fields
namespace Go.Proofs.Ytbkimknfhpbcfaa
open Go.ChangeShapes Go.WideShapes Go.ChangeAt Go.RowKit Go.Deep

set_option maxRecDepth 100000 in
theorem trod_bytesF {H : Type} {enc : TypeId × Value → H} {W : World} {b0 fuel : Nat} {spare : Nat → Bool} {held : Bool} {v : Value} {x : DataW H × List MemPlace} (hf : DataW.trod enc Try.prog W b0 spare held fuel 27 [v] = some x) :
    ∃ A n c b l, v = .slice A n c ∧ l.length = n ∧ n ≤ maxLen ∧ Bs W b A l := by
  rcases open_ints Try.underlying27 Try.underlying5 (by kernel_rfl) hf with ⟨hcs, _⟩ | ⟨x, l, c, zs, hcs, _, hl, hm, hz, _, hcell, hwz⟩
  · injection hcs with hcs
    exact ⟨none, 0, 0, 0, [], hcs, rfl, by simp [maxLen], Sl.nil_ _ _ _⟩
  · injection hcs with hcs
    obtain ⟨b, l', hl', hs⟩ := ints_bs (by rw [hz]; split <;> omega) hcell hwz
    exact ⟨_, _, _, b, l', hcs, hl', by omega, hs⟩
set_option maxRecDepth 100000 in
theorem acks_under : ∃ f0 f1 : Field, Try.prog.underlying 26 = some (.struct #[f0, f1]) ∧ f0.type = 23 ∧ f1.type = 24 ∧ f0.offset = 0 ∧ f1.offset = 1 :=
  ⟨_, _, Try.underlying26, rfl, rfl, rfl, rfl⟩
set_option maxRecDepth 100000 in
theorem frame_fields : ∃ f0 f1 f2 f3 f4 f5 f6 : Field, Try.prog.underlying 29 = some (.struct #[f0, f1, f2, f3, f4, f5, f6]) ∧ (f0.type = 22 ∧ f1.type = 23 ∧ f2.type = 26 ∧ f3.type = 4 ∧ f4.type = 4 ∧ f5.type = 4 ∧ f6.type = 27) ∧ (f0.offset = 0 ∧ f1.offset = 1 ∧ f2.offset = 2 ∧ f3.offset = 4 ∧ f4.offset = 5 ∧ f5.offset = 6 ∧ f6.offset = 7) :=
  ⟨_, _, _, _, _, _, _, Try.underlying29, ⟨rfl, rfl, rfl, rfl, rfl, rfl, rfl⟩, ⟨rfl, rfl, rfl, rfl, rfl, rfl, rfl⟩⟩
theorem cells_u16 : Try.prog.cellsOf 22 = 1 := by kernel_rfl
theorem cells_seq : Try.prog.cellsOf 23 = 1 := by kernel_rfl
theorem cells_u32 : Try.prog.cellsOf 24 = 1 := by kernel_rfl
theorem cells_acks : Try.prog.cellsOf 26 = 2 := by kernel_rfl
theorem cells_bool : Try.prog.cellsOf 4 = 1 := by kernel_rfl
theorem cells_bytes : Try.prog.cellsOf 27 = 1 := by kernel_rfl
theorem cells_frame : Try.prog.cellsOf 29 = 8 := by kernel_rfl

set_option maxHeartbeats 1000000 in
set_option maxRecDepth 100000 in
theorem trod_frame {H : Type} {enc : TypeId × Value → H} {W : World} {b0 fuel : Nat} {spare : Nat → Bool} {held : Bool} {cs : List Value} {x : DataW H × List MemPlace} (hlen : cs.length = 8) (ht : DataW.trod enc Try.prog W b0 spare held fuel 29 cs = some x) :
    ∃ (f : Fr) (A : Option Addr) (c b : Nat), cs = (f.cells A c).toList ∧ f.Ok ∧ f.data.length ≤ maxLen ∧ Bs W b A f.data := by
  obtain ⟨f0, f1, f2, f3, f4, f5, f6, hu, ⟨t0, t1, t2, t3, t4, t5, t6⟩, ⟨o0, o1, o2, o3, o4, o5, o6⟩⟩ := frame_fields
  obtain ⟨ys, n', _, _, _, hyl, hf⟩ := DataW.trod_struct hu ht
  match cs, hlen with
  | [v0, v1, v2, v3, v4, v5, v6, v7], _ =>
    match ys, hyl with
    | [y0, y1, y2, y3, y4, y5, y6], _ =>
      have g0 := hf 0 f0 rfl
      have g1 := hf 1 f1 rfl
      have g2 := hf 2 f2 rfl
      have g3 := hf 3 f3 rfl
      have g4 := hf 4 f4 rfl
      have g5 := hf 5 f5 rfl
      have g6 := hf 6 f6 rfl
      rw [o0, t0, cells_u16] at g0
      rw [o1, t1, cells_seq] at g1
      rw [o2, t2, cells_acks] at g2
      rw [o3, t3, cells_bool] at g3
      rw [o4, t4, cells_bool] at g4
      rw [o5, t5, cells_bool] at g5
      rw [o6, t6, cells_bytes] at g6
      simp only [List.drop_zero, List.drop_succ_cons, List.take_succ_cons, List.take_zero, List.getElem?_cons_zero, List.getElem?_cons_succ] at g0 g1 g2 g3 g4 g5 g6
      obtain ⟨a0, e0, _, w0⟩ := DataW.trod_int Try.underlying22 g0
      obtain ⟨a1, e1, _, w1⟩ := DataW.trod_int Try.underlying23 g1
      obtain ⟨h0, h1, hu2, u0, u1, p0, p1⟩ := acks_under
      obtain ⟨zs, m', _, _, _, hzl, hg⟩ := DataW.trod_struct hu2 g2
      match zs, hzl with
      | [z0, z1], _ =>
        have k0 := hg 0 h0 rfl
        have k1 := hg 1 h1 rfl
        rw [p0, u0, cells_seq] at k0
        rw [p1, u1, cells_u32] at k1
        simp only [List.drop_zero, List.drop_succ_cons, List.take_succ_cons, List.take_zero, List.getElem?_cons_zero, List.getElem?_cons_succ] at k0 k1
        obtain ⟨a2, e2, _, w2⟩ := DataW.trod_int Try.underlying23 k0
        obtain ⟨a3, e3, _, w3⟩ := DataW.trod_int Try.underlying24 k1
        obtain ⟨b4, e4, _⟩ := DataW.trod_bool Try.underlying4 g3
        obtain ⟨b5, e5, _⟩ := DataW.trod_bool Try.underlying4 g4
        obtain ⟨b6, e6, _⟩ := DataW.trod_bool Try.underlying4 g5
        obtain ⟨A, n, c, b, l, e7, hl, hm, hs⟩ := trod_bytesF g6
        injection e0 with e0
        injection e1 with e1
        injection e2 with e2
        injection e3 with e3
        injection e4 with e4
        injection e5 with e5
        injection e6 with e6
        have c0 := bounds_u16 w0
        have c1 := bounds_u16 w1
        have c2 := bounds_u16 w2
        have c3 := bounds_u32 w3
        refine ⟨⟨a0.toNat, a1.toNat, a2.toNat, a3.toNat, b4, b5, b6, l⟩, A, c, b, ?_, ⟨by simp only; omega, by simp only; omega, by simp only; omega, by simp only; omega⟩, by simp only; omega, hs⟩
        simp only
        rw [e0, e1, e2, e3, e4, e5, e6, e7, hl, Int.toNat_of_nonneg c0.1, Int.toNat_of_nonneg c1.1, Int.toNat_of_nonneg c2.1, Int.toNat_of_nonneg c3.1]

set_option maxRecDepth 100000 in
theorem open_frame {H : Type} {enc : TypeId × Value → H} {W : World} {base b0 : Nat} {spare : Nat → Bool} {held : Bool} {r : Reach} {v : Value} {d : DataW H} {p : List MemPlace} (hv : Value.okWide Try.prog W r base 29 v) (h : DataW.Trod enc Try.prog W b0 spare held 29 v d p) :
    ∃ (f : Fr) (A : Option Addr) (c b : Nat), v = .agg (f.cells A c) ∧ f.Ok ∧ f.data.length ≤ maxLen ∧ Bs W b A f.data := by
  obtain ⟨f0, f1, f2, f3, f4, f5, f6, hu, _, _⟩ := frame_fields
  obtain ⟨cs, rfl, hsz⟩ := okWide_struct hu hv
  obtain ⟨fuel, hf⟩ := h
  obtain ⟨f, A, c, b, hy, ho, hl, hs⟩ := trod_frame (by simpa [Value.cells] using hsz.trans cells_frame) hf
  refine ⟨f, A, c, b, ?_, ho, hl, hs⟩
  congr 1
  apply Array.ext'
  simpa [Value.cells] using hy
end Go.Proofs.Ytbkimknfhpbcfaa
