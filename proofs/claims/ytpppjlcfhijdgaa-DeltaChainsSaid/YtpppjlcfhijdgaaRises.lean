/- rises, full: are the places a board's, rising, with a cell each; are they the first ones? Conditions: those said. -/
import Derived.Test.YtpppjlcfhijdgaaDeltaP
namespace Go.Proofs.Ytpppjlcfhijdgaa
open Go.RowKit

theorem bs_at {w : World} {b off : Nat} {l : List UInt8} (h : Bs w b (some ⟨b, off, none⟩) l) {k : Nat} (hk : k < l.length) : w.cell? ⟨b, off + k, none⟩ = some (.int .u8 (l[k].toNat : Int)) := by
  obtain ⟨off', e, h1⟩ := Bs.at_ h hk
  injection e with e
  injection e with _ e _
  subst e
  exact h1 k hk
theorem sl_at {w : World} {b off : Nat} {L : List (Int × Nat)} (h : Sl w b (some ⟨b, off, none⟩) (cv L)) {i : Nat} (hi : i < L.length) :
    w.cell? ⟨b, off + i * 2, none⟩ = some (.int .i32 L[i].1) ∧ w.cell? ⟨b, off + i * 2 + 1, none⟩ = some (.int .u32 ((L[i].2 : Nat) : Int)) := by
  obtain ⟨off', e, h1⟩ := sl_off h hi
  injection e with e
  injection e with _ e _
  subst e
  exact h1
theorem sl_row {w : World} {b g : Nat} {A : Option Addr} {xs : List Value} (h : Sl w b A xs) (hne : b ≠ g) (cs : Array Value) : Sl (w.setRow g cs) b A xs := h.keep fun _ => setRow_other w g b cs hne
theorem sl_lt {w : World} {b : Nat} {A : Option Addr} {L : List (Int × Nat)} (h : Sl w b A (cv L)) {i : Nat} (hi : i < L.length) : b < w.heap.size :=
  Sl.lt h (by intro h0; have := congrArg List.length h0; simp at this; omega)
theorem bd_orow {w : World} {b t h : Nat} {vp vc : Value} (q : BoxD w b t h vp vc) {g : Nat} (hne : b ≠ g) (cs : Array Value) : BoxD (w.setRow g cs) b t h vp vc := (setRow_other w g b cs hne).trans q
/-- A delta as a value. -/
abbrev dA (t h : Nat) (Ap : Option Addr) (np cp : Nat) (Ac : Option Addr) (nc cc : Nat) : Array Value := #[.int .u32 (t : Int), .int .u32 (h : Int), .slice Ap np cp, .slice Ac nc cc]
set_option maxHeartbeats 4000000 in
set_option maxRecDepth 20000 in
theorem Rises_yes (t h : Nat) (Ap : Option Addr) (ps : List UInt8) (np cp bp : Nat) (Ac : Option Addr) (nc cc : Nat) (d : Bool) (w : World) (hs : Bs w bp Ap ps) (hn : ps.length = np) (hr : risesB ps = true) (hl : np ≤ 1000000) (hd : ((np : Int) == (nc : Int)) = d) :
    Calls Try.prog 40 #[.agg (dA t h Ap np cp Ac nc cc)] w fun e w' => e = .returned (.bool d) ∧ Below w.heap.size w w' := by
  have hb := below_alloc1 w (.cells (dA t h Ap np cp Ac nc cc) 38)
  have q := BoxD.new_ w t h (.slice Ap np cp) (.slice Ac nc cc)
  obtain ⟨q2, q3⟩ := And.intro q.c2 q.c3
  have hs1 := Sl.alloc hs (.cells (dA t h Ap np cp Ac nc cc) 38)
  clear hs q
  have HR := Lib.hid hr
  clear hr
  subst hn
  go_enter Try.func40, Try.ntmps40
  go_wp2_with fail
  go_loop [8] (fun i => ∃ k : Nat, k ≤ ps.length ∧ i = .int .i64 k) (fun i => ps.length - (intOf i).toNat)
  case atStart => exact ⟨0, Nat.zero_le _, rfl⟩
  case round =>
    obtain ⟨k, hk, rfl⟩ := hrel
    by_cases hlt : k < ps.length
    · obtain ⟨off, rfl, hc⟩ := Bs.at_ hs1 hlt
      have f0 := hc k hlt
      obtain ⟨r1, r2⟩ := risesB_at HR.out hlt
      have ej : (k : Int) < (ps.length : Int) := by omega
      by_cases hk0 : k = 0
      · subst hk0
        simp only [Nat.add_zero] at f0
        obtain ⟨P, hP⟩ : ∃ P, P = ps[0].toNat := ⟨_, rfl⟩
        rw [← hP] at f0 r1
        clear hP r2 hc
        go_wp2_with fail
        go_round
        case rel => exact ⟨1, by omega, rfl⟩
        case measure => simp [intOf]; omega
      · have f1 := hc (k - 1) (by omega)
        have r3 := r2 (by omega)
        rw [show ps.getD (k - 1) 0 = ps[k - 1]'(by omega) by simp [List.getD, show k - 1 < ps.length by omega]] at r3
        obtain ⟨P, hP⟩ : ∃ P, P = ps[k].toNat := ⟨_, rfl⟩
        obtain ⟨R, hR⟩ : ∃ R, R = (ps[k - 1]'(by omega)).toNat := ⟨_, rfl⟩
        rw [← hP] at f0 r1 r3
        rw [← hR] at f1 r3
        have ek : 0 < k := by omega
        have el : (R : Int) < (P : Int) := by omega
        clear hP hR r2 hc
        go_wp2_with fail
        go_round
        case rel => exact ⟨k + 1, by omega, by go_num⟩
        case measure => simp [intOf]; omega
    · obtain rfl : k = ps.length := by omega
      go_wp2_with fail
      go_ret
      exact ⟨rfl, hb⟩
set_option maxHeartbeats 4000000 in
set_option maxRecDepth 20000 in
theorem full_yes (t h : Nat) (Ap : Option Addr) (ps : List UInt8) (np cp bp : Nat) (Ac : Option Addr) (cc : Nat) (w : World) (hs : Bs w bp Ap ps) (hn : ps.length = np) (hr : risesB ps = true) (hl : np ≤ 48) (hlast : ∀ i (hi : i < ps.length), ps[i].toNat = i) :
    Calls Try.prog 39 #[.agg (dA t h Ap np cp Ac np cc)] w fun e w' => e = .returned (.bool true) ∧ Below w.heap.size w w' := by
  have hb := below_alloc1 w (.cells (dA t h Ap np cp Ac np cc) 38)
  have q := BoxD.new_ w t h (.slice Ap np cp) (.slice Ac np cc)
  obtain ⟨q0, q1, q2, q3⟩ := And.intro q.c0 (And.intro q.c1 (And.intro q.c2 q.c3))
  have hs1 := Sl.alloc hs (.cells (dA t h Ap np cp Ac np cc) 38)
  have hR := fun W hs => Rises_yes t h Ap ps np cp bp Ac np cc true W hs hn hr (by omega) (by simp)
  clear hs hr
  have HL := Lib.hid hlast
  clear hlast
  by_cases h0 : np = 0
  · subst h0
    clear hn
    go_enter Try.func39, Try.ntmps39
    go_wp2_with fail
    refine (hR _ hs1).mono ?_
    rintro e w1 ⟨rfl, hb1⟩
    have q := q.ext hb1
    obtain ⟨q0, q1, q2, q3⟩ := And.intro q.c0 (And.intro q.c1 (And.intro q.c2 q.c3))
    have hb := hb.trans (hb1.mono hb.size)
    clear hb1
    go_wp2_with fail
    go_ret
    exact ⟨rfl, hb⟩
  · subst hn
    have e1 : (0 : Int) < (ps.length : Int) := by omega
    have e2 : decide ((ps.length : Int) - 1 < 0) = false := by simp; omega
    have e3 : (1 : Int) ≤ (ps.length : Int) := by omega
    obtain ⟨off, rfl, hc⟩ := Bs.at_ hs1 (show ps.length - 1 < ps.length by omega)
    clear hc
    go_enter Try.func39, Try.ntmps39
    go_wp2_with fail
    refine (hR _ hs1).mono ?_
    rintro e w1 ⟨rfl, hb1⟩
    have q := q.ext hb1
    obtain ⟨q0, q1, q2, q3⟩ := And.intro q.c0 (And.intro q.c1 (And.intro q.c2 q.c3))
    have hs1 := Sl.ext hs1 hb1
    have f0 := bs_at hs1 (show ps.length - 1 < ps.length by omega)
    rw [HL.out] at f0
    have hb := hb.trans (hb1.mono hb.size)
    clear hb1 hR
    go_wp2_with fail
    go_ret
    exact ⟨by simp; omega, hb⟩
end Go.Proofs.Ytpppjlcfhijdgaa
