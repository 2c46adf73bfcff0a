/- The laws' lay: a field is written by the pen: the document's bytes. Conditions: the field's numbers fit, its blob is short. -/
import Derived.Test.YtokjkbbijfiloaaFew
import Derived.Test.YtokjkbbijfiloaaPen
namespace Go.Proofs.Ytokjkbbijfiloaa
open Go.RowKit

theorem u8_ext (a b : Nat) (h : a % 256 = b % 256) : UInt8.ofNat a = UInt8.ofNat b := by
  apply UInt8.toNat_inj.1
  rw [UInt8.toNat_ofNat', UInt8.toNat_ofNat']
  exact h
theorem low_mod1 (n : Nat) : low (n % 256) 1 = low n 1 := by
  simp only [low, List.range_succ, List.range_zero, List.nil_append, List.map_cons, List.map_nil, List.cons.injEq, and_true]
  exact u8_ext _ _ (by omega)
theorem low_mod2 (n : Nat) : low (n % 65536) 2 = low n 2 := by
  simp only [low, List.range_succ, List.range_zero, List.nil_append, List.map_cons, List.map_nil, List.cons_append, List.cons.injEq, and_true]
  exact ⟨u8_ext _ _ (by omega), u8_ext _ _ (by omega)⟩
theorem low_mod4 (n : Nat) : low (n % 4294967296) 4 = low n 4 := by
  simp only [low, List.range_succ, List.range_zero, List.nil_append, List.map_cons, List.map_nil, List.cons_append, List.cons.injEq, and_true]
  exact ⟨u8_ext _ _ (by omega), u8_ext _ _ (by omega), u8_ext _ _ (by omega), u8_ext _ _ (by omega)⟩

theorem Wrote.cast {g : Nat} {r : Option Nat} {l l' : List UInt8} {w w' : World} {e : Ending} (h : Wrote g r l w e w') (he : l = l') : Wrote g r l' w e w' := he ▸ h
theorem Wrote.below {g : Nat} {r : Option Nat} {l : List UInt8} {w w1 w' : World} {e : Ending} (h : Wrote g r l w1 e w') (hb : Below w.heap.size w w1) : Wrote g r l w e w' := by
  obtain ⟨h1, r', h2, h3⟩ := h
  exact ⟨h1, r', h2, PenStep.below hb h3⟩

set_option maxHeartbeats 2000000 in
theorem lay_calls (g : Nat) (r : Option Nat) (l : List UInt8) (x : FV) (w : World) (hp : PenAt w g r l) (hx : FV.In w x) (hfar : x.f.b ≠ [] → x.b ≠ g ∧ r ≠ some x.b) (hlen : l.length + 10 + x.f.b.length ≤ 140737488355000) :
    Calls Try.prog 11 #[.pointer (some ⟨g, 0, none⟩), .agg x.cells.toArray] w (Wrote g r (l ++ layF x.f) w) := by
  obtain ⟨⟨k, n, bl, most⟩, A, c, b⟩ := x
  obtain ⟨hs, ⟨hk, hn, _⟩, _⟩ := hx
  simp only [FV.cells, Fld.cells] at *
  have hx : Below w.heap.size w (w.alloc (.cells #[.int .u8 (k : Int), .int .u64 (n : Int), .slice A bl.length c, .int .u64 (most : Int)] 30)) := (Below.refl _ _).alloc (Nat.le_refl _) _
  have hk5 : k % 5 = 0 ∨ k % 5 = 1 ∨ k % 5 = 2 ∨ k % 5 = 3 ∨ k % 5 = 4 := by omega
  have hp1 := hp.ext hx
  have HFAR := Lib.hid hfar
  have HN := Lib.hid hn
  clear hn hfar
  rcases hk5 with h | h | h | h | h
  · have hq : ((k : Int) % 5 == 0) = true := by simp; omega
    have hl : layF ⟨k, n, bl, most⟩ = low n 1 := by simp [layF, h]
    have HL := Lib.hid hl
    clear hl h
    go_enter Try.func11, Try.ntmps11
    go_wp2_with fail
    rw [show ((n : Int) % 256) = ((n % 256 : Nat) : Int) from by omega]
    refine (PenByte_calls _ _ _ (n % 256) _ hp1 (by omega) (by omega)).mono ?_
    rintro e w1 ⟨rfl, h2⟩
    go_wp2_with fail
    go_ret
    exact (Wrote.below ⟨rfl, h2⟩ hx).cast (by rw [HL.out, low_mod1])
  · have hq0 : ((k : Int) % 5 == 0) = false := by simp; omega
    have hq : ((k : Int) % 5 == 1) = true := by simp; omega
    have hl : layF ⟨k, n, bl, most⟩ = low n 2 := by simp [layF, h]
    have HL := Lib.hid hl
    clear hl h
    go_enter Try.func11, Try.ntmps11
    go_wp2_with fail
    rw [show IntKind.u16.wrap (n : Int) = ((n % 65536 : Nat) : Int) from by rw [IntKind.wrap_u16]; omega]
    refine (PenHalf_calls _ _ _ (n % 65536) _ hp1 (by omega) (by omega)).mono ?_
    rintro e w1 ⟨rfl, h2⟩
    go_wp2_with fail
    go_ret
    exact (Wrote.below ⟨rfl, h2⟩ hx).cast (by rw [HL.out, low_mod2])
  · have hq0 : ((k : Int) % 5 == 0) = false := by simp; omega
    have hq1 : ((k : Int) % 5 == 1) = false := by simp; omega
    have hq : ((k : Int) % 5 == 2) = true := by simp; omega
    have hl : layF ⟨k, n, bl, most⟩ = low n 4 := by simp [layF, h]
    have HL := Lib.hid hl
    clear hl h
    go_enter Try.func11, Try.ntmps11
    go_wp2_with fail
    rw [show ((n : Int) % 4294967296) = ((n % 4294967296 : Nat) : Int) from by omega]
    refine (PenWord_calls _ _ _ (n % 4294967296) _ hp1 (by omega) (by omega)).mono ?_
    rintro e w1 ⟨rfl, h2⟩
    go_wp2_with fail
    go_ret
    exact (Wrote.below ⟨rfl, h2⟩ hx).cast (by rw [HL.out, low_mod4])
  · have hq0 : ((k : Int) % 5 == 0) = false := by simp; omega
    have hq1 : ((k : Int) % 5 == 1) = false := by simp; omega
    have hq2 : ((k : Int) % 5 == 2) = false := by simp; omega
    have hq : ((k : Int) % 5 == 3) = true := by simp; omega
    have hl : layF ⟨k, n, bl, most⟩ = num n := by simp [layF, h]
    have HL := Lib.hid hl
    clear hl h
    go_enter Try.func11, Try.ntmps11
    go_wp2_with fail
    refine (PenNum_calls _ _ _ n _ hp1 HN.out (by omega)).mono ?_
    rintro e w1 ⟨rfl, h2⟩
    go_wp2_with fail
    go_ret
    exact (Wrote.below ⟨rfl, h2⟩ hx).cast (by rw [HL.out])
  · have hq0 : ((k : Int) % 5 == 0) = false := by simp; omega
    have hq1 : ((k : Int) % 5 == 1) = false := by simp; omega
    have hq2 : ((k : Int) % 5 == 2) = false := by simp; omega
    have hq : ((k : Int) % 5 == 3) = false := by simp; omega
    have hl : layF ⟨k, n, bl, most⟩ = num bl.length ++ bl := by simp [layF, h]
    have HL := Lib.hid hl
    clear hl h
    obtain ⟨b', hs', hf'⟩ : ∃ b', Bs (w.alloc (.cells #[.int .u8 (k : Int), .int .u64 (n : Int), .slice A bl.length c, .int .u64 (most : Int)] 30)) b' A bl ∧ b' ≠ g ∧ r ≠ some b' := by
      by_cases hbl : bl = []
      · subst hbl
        by_cases hr : r = some (g + 1)
        · exact ⟨g + 2, Sl.nil_ _ _ _, by omega, by rw [hr]; intro he; injection he with he; omega⟩
        · exact ⟨g + 1, Sl.nil_ _ _ _, by omega, hr⟩
      · exact ⟨b, Sl.ext hs hx, HFAR.out hbl⟩
    go_enter Try.func11, Try.ntmps11
    go_wp2_with fail
    refine (PenBlob_calls _ _ _ A bl bl.length c b' _ hp1 hs' rfl hf' (by omega)).mono ?_
    rintro e w1 ⟨rfl, h2⟩
    go_wp2_with fail
    go_ret
    exact (Wrote.below ⟨rfl, h2⟩ hx).cast (by rw [HL.out])
end Go.Proofs.Ytokjkbbijfiloaa
