/- The reference's Lay: a field's bytes, in new memory. Conditions: the field's numbers fit, its blob is short. -/
import Derived.Test.YtokjkbbijfiloaaRefNum
import Derived.Deep.RegionHeld3
namespace Go.Proofs.Ytokjkbbijfiloaa
open Go.RowKit

/-- A field, plainly. -/
structure Fld where
  kind : Nat
  n : Nat
  b : List UInt8
  most : Nat
/-- Its numbers fit. -/
def Fld.Ok (f : Fld) : Prop := f.kind < 256 ∧ f.n ≤ 18446744073709551615 ∧ f.most ≤ 18446744073709551615
/-- A field's value. -/
abbrev Fld.cells (f : Fld) (A : Option Addr) (c : Nat) : List Value := [.int .u8 (f.kind : Int), .int .u64 (f.n : Int), .slice A f.b.length c, .int .u64 (f.most : Int)]
/-- A field's bytes. -/
def layF (f : Fld) : List UInt8 :=
  if f.kind % 5 = 0 then low f.n 1 else if f.kind % 5 = 1 then low f.n 2 else if f.kind % 5 = 2 then low f.n 4 else if f.kind % 5 = 3 then num f.n else num f.b.length ++ f.b

theorem field_cell2 (w : World) (a b d s : Value) (t : TypeId) : (w.alloc (.cells #[a, b, s, d] t)).cell? ⟨w.heap.size, 2, none⟩ = some s := by
  rw [cell_of_row _ _ _ _ _ _ (heap_alloc_new w _)]; rfl
theorem cell_alloc {w : World} {p : Addr} {u : Value} {o : Obj} (h : w.cell? p = some u) : (w.alloc o).cell? p = some u := (World.cell?_alloc_lt w o p (World.block_lt_of_cell? w p h)).trans h
theorem cell_below {B : Nat} {w w1 : World} {p : Addr} {u : Value} (hb : Below B w w1) (hp : p.block < B) (h : w.cell? p = some u) : w1.cell? p = some u := (hb.cell hp).trans h

set_option maxHeartbeats 1000000 in
theorem Lay_blob (k n : Nat) (l : List UInt8) (most : Nat) (A : Option Addr) (c b : Nat) (w : World) (hk : k < 256) (hs : Bs w b A l) (hlen : l.length ≤ 140737488355000) (h : k % 5 = 4) :
    Calls Try.prog 13 #[.agg #[.int .u8 (k : Int), .int .u64 (n : Int), .slice A l.length c, .int .u64 (most : Int)]] w fun e w' => ∃ v, e = .returned v ∧ Row w' w.heap.size v (layF ⟨k, n, l, most⟩) ∧ Below w.heap.size w w' := by
  have hx : Below w.heap.size w (w.alloc (.cells #[.int .u8 (k : Int), .int .u64 (n : Int), .slice A l.length c, .int .u64 (most : Int)] 30)) := (Below.refl _ _).alloc (Nat.le_refl _) _
  have hq0 : ((k : Int) % 5 == 0) = false := by simp; omega
  have hq1 : ((k : Int) % 5 == 1) = false := by simp; omega
  have hq2 : ((k : Int) % 5 == 2) = false := by simp; omega
  have hq : ((k : Int) % 5 == 3) = false := by simp; omega
  have hl : layF ⟨k, n, l, most⟩ = num l.length ++ l := by simp [layF, h]
  have HL := Lib.hid hl
  have hnum := numF_length 10 l.length
  clear hl h
  have hsx := hs.ext hx
  have hc0 := field_cell2 w (.int .u8 (k : Int)) (.int .u64 (n : Int)) (.int .u64 (most : Int)) (.slice A l.length c) 30
  go_enter Try.func13, Try.ntmps13
  go_wp2_with fail
  have hw : IntKind.u64.wrap (l.length : Int) = (l.length : Int) := IntWalk.u64_in _ (by omega)
  have hnl : (num l.length).length ≤ 10 := hnum
  have hx0 : w.heap.size < (w.alloc (.cells #[.int .u8 (k : Int), .int .u64 (n : Int), .slice A l.length c, .int .u64 (most : Int)] 30)).heap.size := by simp
  go_region_held3 (fun w' => w'.cell? ⟨w.heap.size, 2, none⟩ = some (.slice A l.length c)) (first | exact hc0 | exact hc1 | exact cell_alloc hc1 | exact hc2)
    (first
      | (go_at_call 34; refine (Num_calls l.length _ (by omega)).mono ?_; rintro e w1 ⟨v, rfl, hrow, hb⟩; obtain ⟨A1, c1, b1, rfl, _, _, _, _, hs1, _⟩ := hrow.sl; have hc1 := cell_below (p := ⟨w.heap.size, 2, none⟩) hb hx0 hc0; have hs2 := Sl.ext (w := (w.alloc (.cells #[.int .u8 (k : Int), .int .u64 (n : Int), .slice A l.length c, .int .u64 (most : Int)] 30)).drew) hsx hb; clear hrow)
      | (go_at_call 12; refine (Join_calls _ [.slice A1 (num l.length).length c1, .slice A l.length c] [num l.length, l] 2 2 w1.heap.size _ (Sl.cells_new w1 _ _) ((Bss.cons hs1 rfl (Bss.cons hs2 rfl (Bss.nil_ _))).ext ((Below.refl _ _).alloc (Nat.le_refl _) _)) rfl (by simp [maxLen]) (by simp; omega)).mono ?_; rintro e w2 ⟨v2, rfl, hrow2, hb2⟩; have hc2 := cell_below (p := ⟨w.heap.size, 2, none⟩) hb2 (by simp; have := hb.size; simp at this; omega) (cell_alloc hc1)))
  go_wp2_with fail
  go_ret
  have hbs := hb.size
  simp only [World.size_drew] at hb
  have hb1 : Below w.heap.size w w1 := hx.trans (Below.mono (B := (w.alloc (.cells #[.int .u8 (k : Int), .int .u64 (n : Int), .slice A l.length c, .int .u64 (most : Int)] 30)).heap.size) ⟨hb.os, hb.tape, hb.output, hb.size, hb.block⟩ (by simp))
  have hs1' := hb1.size
  exact ⟨v2, rfl, (hrow2.low (by simp; omega)).cast (by rw [HL.out]; simp), (hb1.alloc hs1' _).trans (hb2.mono (by simp; omega))⟩

set_option maxHeartbeats 1000000 in
theorem Lay_calls (f : Fld) (A : Option Addr) (c b : Nat) (w : World) (hf : f.Ok) (hs : Bs w b A f.b) (hlen : f.b.length ≤ 140737488355000) :
    Calls Try.prog 13 #[.agg (f.cells A c).toArray] w fun e w' => ∃ v, e = .returned v ∧ Row w' w.heap.size v (layF f) ∧ Below w.heap.size w w' := by
  obtain ⟨k, n, l, most⟩ := f
  obtain ⟨hk, hn, _⟩ := hf
  simp only [Fld.cells] at *
  have hx : Below w.heap.size w (w.alloc (.cells #[.int .u8 (k : Int), .int .u64 (n : Int), .slice A l.length c, .int .u64 (most : Int)] 30)) := (Below.refl _ _).alloc (Nat.le_refl _) _
  have hk5 : k % 5 = 0 ∨ k % 5 = 1 ∨ k % 5 = 2 ∨ k % 5 = 3 ∨ k % 5 = 4 := by omega
  have HN := Lib.hid hn
  clear hn
  rcases hk5 with h | h | h | h | h
  · have hq : ((k : Int) % 5 == 0) = true := by simp; omega
    have hl : layF ⟨k, n, l, most⟩ = low n 1 := by simp [layF, h]
    have HL := Lib.hid hl
    clear hl h
    go_enter Try.func13, Try.ntmps13
    go_wp2_with fail
    refine (Low_calls n 1 _ HN.out (by omega) (by omega)).mono ?_
    rintro e w1 ⟨v, rfl, hrow, hb⟩
    go_wp2_with fail
    go_ret
    exact ⟨v, rfl, (hrow.low hx.size).cast HL.out.symm, hx.trans (hb.mono hx.size)⟩
  · have hq0 : ((k : Int) % 5 == 0) = false := by simp; omega
    have hq : ((k : Int) % 5 == 1) = true := by simp; omega
    have hl : layF ⟨k, n, l, most⟩ = low n 2 := by simp [layF, h]
    have HL := Lib.hid hl
    clear hl h
    go_enter Try.func13, Try.ntmps13
    go_wp2_with fail
    refine (Low_calls n 2 _ HN.out (by omega) (by omega)).mono ?_
    rintro e w1 ⟨v, rfl, hrow, hb⟩
    go_wp2_with fail
    go_ret
    exact ⟨v, rfl, (hrow.low hx.size).cast HL.out.symm, hx.trans (hb.mono hx.size)⟩
  · have hq0 : ((k : Int) % 5 == 0) = false := by simp; omega
    have hq1 : ((k : Int) % 5 == 1) = false := by simp; omega
    have hq : ((k : Int) % 5 == 2) = true := by simp; omega
    have hl : layF ⟨k, n, l, most⟩ = low n 4 := by simp [layF, h]
    have HL := Lib.hid hl
    clear hl h
    go_enter Try.func13, Try.ntmps13
    go_wp2_with fail
    refine (Low_calls n 4 _ HN.out (by omega) (by omega)).mono ?_
    rintro e w1 ⟨v, rfl, hrow, hb⟩
    go_wp2_with fail
    go_ret
    exact ⟨v, rfl, (hrow.low hx.size).cast HL.out.symm, hx.trans (hb.mono hx.size)⟩
  · have hq0 : ((k : Int) % 5 == 0) = false := by simp; omega
    have hq1 : ((k : Int) % 5 == 1) = false := by simp; omega
    have hq2 : ((k : Int) % 5 == 2) = false := by simp; omega
    have hq : ((k : Int) % 5 == 3) = true := by simp; omega
    have hl : layF ⟨k, n, l, most⟩ = num n := by simp [layF, h]
    have HL := Lib.hid hl
    clear hl h
    go_enter Try.func13, Try.ntmps13
    go_wp2_with fail
    refine (Num_calls n _ HN.out).mono ?_
    rintro e w1 ⟨v, rfl, hrow, hb⟩
    go_wp2_with fail
    go_ret
    exact ⟨v, rfl, (hrow.low hx.size).cast HL.out.symm, hx.trans (hb.mono hx.size)⟩
  · exact Lay_blob k n l most A c b w hk hs hlen h
end Go.Proofs.Ytokjkbbijfiloaa
