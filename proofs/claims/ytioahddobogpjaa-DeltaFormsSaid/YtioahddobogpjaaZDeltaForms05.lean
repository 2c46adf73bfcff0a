/- Parts of one proof, in their order. -/
import Derived.Test.YtioahddobogpjaaZDeltaForms04
/- An eye's reads as functions of what is left. Conditions: as those of the reads. -/
namespace Go.Proofs.Ytioahddobogpjaa
open Go.RowKit

/-- Off the front, k bytes: their value, what is left, and whether it is wrong. -/
def rdN (k : Nat) (l : List UInt8) (bad : Bool) : Nat × List UInt8 × Bool := if k ≤ l.length then (valN (l.take k), l.drop k, bad) else (0, [], true)
theorem rdN_lt (k : Nat) (l : List UInt8) (bad : Bool) : (rdN k l bad).1 < 256 ^ k := by
  unfold rdN
  split
  · rename_i h
    have := valN_lt (l.take k)
    rwa [List.length_take, Nat.min_eq_left h] at this
  · exact Nat.pow_pos (by decide)
theorem rdN_of {g b k : Nat} {l : List UInt8} {bad : Bool} {K : IntKind} {w w' : World} {e : Ending} (h : ReadN g b k l bad K w e w') :
    e = .returned (.int K ((rdN k l bad).1 : Int)) ∧ EyeAt w' g b (rdN k l bad).2.1 (rdN k l bad).2.2 ∧ Mod (fun i => i = g) w w' := by
  by_cases hk : k ≤ l.length
  · unfold rdN
    rw [if_pos hk]
    exact h.1 hk
  · unfold rdN
    rw [if_neg hk]
    exact h.2 (by omega)
theorem rdN_nil {k n : Nat} {l l' : List UInt8} {bad bad' : Bool} (h : rdN k l bad = (n, l', bad')) (hl : l = []) : l' = [] := by
  subst hl
  unfold rdN at h
  split at h
  · injection h with _ h; injection h with h _; rw [← h]; simp
  · injection h with _ h; injection h with h _; exact h.symm
theorem EyeByte_f (g b : Nat) (l : List UInt8) (bad : Bool) (w : World) (he : EyeAt w g b l bad) :
    Calls Try.prog 48 #[.pointer (some ⟨g, 0, none⟩)] w fun e w' => ∃ n l' bad', e = .returned (.int .u8 (n : Nat)) ∧ rdN 1 l bad = (n, l', bad') ∧ n < 256 ∧ EyeAt w' g b l' bad' ∧ Mod (fun i => i = g) w w' :=
  (EyeByte_calls g b l bad w he).mono fun e w' h => by
    obtain ⟨h1, h2, h3⟩ := rdN_of h
    exact ⟨_, _, _, h1, rfl, rdN_lt 1 l bad, h2, h3⟩
theorem EyeWord_f (g b : Nat) (l : List UInt8) (bad : Bool) (w : World) (he : EyeAt w g b l bad) :
    Calls Try.prog 47 #[.pointer (some ⟨g, 0, none⟩)] w fun e w' => ∃ n l' bad', e = .returned (.int .u32 (n : Nat)) ∧ rdN 4 l bad = (n, l', bad') ∧ n < 4294967296 ∧ EyeAt w' g b l' bad' ∧ Mod (fun i => i = g) w w' :=
  (EyeWord_calls g b l bad w he).mono fun e w' h => by
    obtain ⟨h1, h2, h3⟩ := rdN_of h
    exact ⟨_, _, _, h1, rfl, rdN_lt 4 l bad, h2, h3⟩
end Go.Proofs.Ytioahddobogpjaa
/- rises of one that does not rise; ref07.Right of any. Conditions: those said. -/
namespace Go.Proofs.Ytioahddobogpjaa
open Go.RowKit

theorem riseAt_at {ps : List UInt8} {i : Nat} (hi : i < ps.length) : riseAt ps i = decide (ps[i].toNat < 48 ∧ (0 < i → (ps.getD (i - 1) 0).toNat < ps[i].toNat)) := by
  unfold riseAt
  rw [show ps.getD i 0 = ps[i] by simp [List.getD, hi]]
theorem risesB_of {ps : List UInt8} (h : ∀ j, j < ps.length → riseAt ps j = true) : risesB ps = true := List.all_eq_true.2 fun j hj => h j (List.mem_range.1 hj)
/-- The place ahead of k, or -1. -/
def lastOf (ps : List UInt8) (k : Nat) : Int := if k = 0 then -1 else ((ps.getD (k - 1) 0).toNat : Int)
theorem lastOf_succ {ps : List UInt8} {k : Nat} (h : k < ps.length) : lastOf ps (k + 1) = (ps[k].toNat : Int) := by
  simp [lastOf, List.getD, h]
theorem lastOf_lt (ps : List UInt8) (k : Nat) : -1 ≤ lastOf ps k ∧ lastOf ps k < 256 := by
  unfold lastOf
  split
  · omega
  · have := (ps.getD (k - 1) 0).toNat_lt
    omega
theorem riseAt_last {ps : List UInt8} {k : Nat} (h : k < ps.length) : riseAt ps k = decide (ps[k].toNat < 48 ∧ lastOf ps k < (ps[k].toNat : Int)) := by
  rw [riseAt_at h]
  unfold lastOf
  split
  · rename_i h0
    subst h0
    simp; intro; omega
  · rename_i h0
    have : 0 < k := by omega
    simp [this]
set_option maxHeartbeats 4000000 in
set_option maxRecDepth 20000 in
theorem Rises_no (t h : Nat) (Ap : Option Addr) (ps : List UInt8) (np cp bp : Nat) (Ac : Option Addr) (nc cc : Nat) (w : World) (hs : Bs w bp Ap ps) (hn : ps.length = np) (hr : risesB ps = false) (hl : np ≤ 1000000) :
    Calls Try.prog 40 #[.agg (dA t h Ap np cp Ac nc cc)] w fun e w' => e = .returned (.bool false) ∧ Below w.heap.size w w' := by
  have hb := below_alloc1 w (.cells (dA t h Ap np cp Ac nc cc) 38)
  have q := BoxD.new_ w t h (.slice Ap np cp) (.slice Ac nc cc)
  obtain ⟨q2, q3⟩ := And.intro q.c2 q.c3
  have hs1 := Sl.alloc hs (.cells (dA t h Ap np cp Ac nc cc) 38)
  clear hs q
  have HR := Lib.hid hr
  clear hr
  subst hn
  go_enter Try.func40, Try.ntmps40
  go_wp2_with fail
  go_loop [8] (fun i => ∃ k : Nat, k ≤ ps.length ∧ (∀ j, j < k → riseAt ps j = true) ∧ i = .int .i64 k) (fun i => ps.length - (intOf i).toNat)
  case atStart => exact ⟨0, Nat.zero_le _, fun j hj => absurd hj (Nat.not_lt_zero _), rfl⟩
  case round =>
    obtain ⟨k, hk, hall, rfl⟩ := hrel
    have HA := Lib.hid hall
    clear hall
    have hlt : k < ps.length := by
      refine Nat.lt_of_le_of_ne hk fun e => ?_
      have := risesB_of (ps := ps) (e ▸ HA.out)
      rw [HR.out] at this
      cases this
    obtain ⟨off, rfl, hc⟩ := Bs.at_ hs1 hlt
    have f0 := hc k hlt
    have hra := riseAt_at hlt
    have ej : (k : Int) < (ps.length : Int) := by omega
    have hnext : riseAt ps k = true → ∀ j, j < k + 1 → riseAt ps j = true := fun h j hj => (Nat.lt_succ_iff_lt_or_eq.1 hj).elim (HA.out j) (fun e => e ▸ h)
    have HX := Lib.hid hnext
    clear hnext
    by_cases hk0 : k = 0
    · subst hk0
      simp only [Nat.add_zero, Nat.lt_irrefl, false_implies, and_true] at f0 hra
      have HY := Lib.hid hra
      clear hra hc
      obtain ⟨P, hP⟩ : ∃ P, P = ps[0].toNat := ⟨_, rfl⟩
      have HP := Lib.hid hP
      rw [← hP] at f0
      clear hP
      by_cases r1 : P < 48
      · go_wp2_with fail
        go_round
        case rel => exact ⟨1, by omega, HX.out (by rw [HY.out, ← HP.out]; simpa using r1), rfl⟩
        case measure => simp [intOf]; omega
      · have r2 : (48 : Int) ≤ (P : Int) := by omega
        go_wp2_with fail
        go_ret
        exact ⟨rfl, hb⟩
    · have f1 := hc (k - 1) (by omega)
      rw [show ps.getD (k - 1) 0 = ps[k - 1]'(by omega) by simp [List.getD, show k - 1 < ps.length by omega]] at hra
      have HY := Lib.hid hra
      clear hra hc
      obtain ⟨P, hP⟩ : ∃ P, P = ps[k].toNat := ⟨_, rfl⟩
      obtain ⟨R, hR⟩ : ∃ R, R = (ps[k - 1]'(by omega)).toNat := ⟨_, rfl⟩
      have HP := Lib.hid hP
      have HR2 := Lib.hid hR
      rw [← hP] at f0
      rw [← hR] at f1
      have ek : 0 < k := by omega
      clear hP hR
      by_cases r1 : P < 48
      · by_cases r3 : R < P
        · have el : (R : Int) < (P : Int) := by omega
          go_wp2_with fail
          go_round
          case rel => exact ⟨k + 1, by omega, HX.out (by rw [HY.out, ← HP.out, ← HR2.out]; simp; omega), by go_num⟩
          case measure => simp [intOf]; omega
        · have el : (P : Int) ≤ (R : Int) := by omega
          go_wp2_with fail
          go_ret
          · exact ⟨rfl, hb⟩
          go_ret
          exact ⟨rfl, hb⟩
      · have r2 : (48 : Int) ≤ (P : Int) := by omega
        go_wp2_with fail
        go_ret
        exact ⟨rfl, hb⟩
set_option maxHeartbeats 4000000 in
set_option maxRecDepth 20000 in
theorem Right_calls (t h : Nat) (Ap : Option Addr) (ps : List UInt8) (np cp bp : Nat) (Ac : Option Addr) (nc cc : Nat) (d : Bool) (w : World) (hs : Bs w bp Ap ps) (hn : ps.length = np) (hl : np ≤ 1000000) (hd : ((np : Int) == (nc : Int)) = d) :
    Calls Try.prog 24 #[.agg (dA t h Ap np cp Ac nc cc)] w fun e w' => e = .returned (.bool (d && risesB ps)) ∧ Below w.heap.size w w' := by
  have hb := below_alloc1 w (.cells (dA t h Ap np cp Ac nc cc) 44)
  have q := BoxE.new_ w t h (.slice Ap np cp) (.slice Ac nc cc)
  have q2 := q.c2
  have q3 := q.c3
  have hs1 := Sl.alloc hs (.cells (dA t h Ap np cp Ac nc cc) 44)
  clear hs q
  subst hn
  obtain ⟨ans, hans⟩ : ∃ ans, ans = (d && risesB ps) := ⟨_, rfl⟩
  rw [← hans]
  have HA0 := Lib.hid hans
  clear hans
  go_enter Try.func24, Try.ntmps24
  cases d
  · have hne : ((ps.length : Int) != (nc : Int)) = true := by simp only [bne, hd]; rfl
    have ha : ans = false := by rw [HA0.out]; rfl
    subst ha
    go_wp2_with fail
    go_ret
    exact ⟨rfl, hb⟩
  · have hne : ((ps.length : Int) != (nc : Int)) = false := by simp only [bne, hd]; rfl
    have ha : ans = risesB ps := by rw [HA0.out]; rfl
    have HA1 := Lib.hid ha
    clear ha hd
    go_wp2_with fail
    go_loop [3, 16] (fun l i => ∃ k : Nat, k ≤ ps.length ∧ (∀ j, j < k → riseAt ps j = true) ∧ l = .int .i64 (lastOf ps k) ∧ i = .int .i64 k) (fun l i => ps.length - (intOf i).toNat)
    case atStart => exact ⟨0, Nat.zero_le _, fun j hj => absurd hj (Nat.not_lt_zero _), rfl, rfl⟩
    case round =>
      obtain ⟨k, hk, hall, rfl, rfl⟩ := hrel
      have HA := Lib.hid hall
      clear hall
      by_cases hlt : k < ps.length
      · obtain ⟨off, rfl, hc⟩ := Bs.at_ hs1 hlt
        have f0 := hc k hlt
        have ej : (k : Int) < (ps.length : Int) := by omega
        have hnext : riseAt ps k = true → ∀ j, j < k + 1 → riseAt ps j = true := fun h j hj => (Nat.lt_succ_iff_lt_or_eq.1 hj).elim (HA.out j) (fun e => e ▸ h)
        have hno : riseAt ps k = false → risesB ps = false := fun h => by
          cases hr : risesB ps
          · rfl
          · have := List.all_eq_true.1 hr k (List.mem_range.2 hlt)
            rw [h] at this
            cases this
        have HX := Lib.hid hnext
        have HN := Lib.hid hno
        have HY := Lib.hid (riseAt_last hlt)
        have HS := Lib.hid (lastOf_succ hlt)
        clear hnext hno hc
        obtain ⟨P, hP⟩ : ∃ P, P = ps[k].toNat := ⟨_, rfl⟩
        obtain ⟨R, hR⟩ : ∃ R, R = lastOf ps k := ⟨_, rfl⟩
        have hR1 := lastOf_lt ps k
        have hP256 := ps[k].toNat_lt
        have HP := Lib.hid hP
        have HR := Lib.hid hR
        rw [← hP] at f0 hP256
        rw [← hR] at hR1 ⊢
        obtain ⟨hR1, hR2⟩ := hR1
        have hw : wrap64 (P : Int) = (P : Int) := IntWalk.wrap64_in _ (by omega)
        clear hP hR
        by_cases r3 : R < (P : Int)
        · by_cases r1 : P < 48
          · have el : decide ((P : Int) ≤ R) = false := by simp; omega
            have em : decide ((P : Int) > 47) = false := by simp; omega
            have em2 : decide ((47 : Int) < (P : Int)) = false := by simp; omega
            go_wp2_with fail
            go_round
            case rel => exact ⟨k + 1, by omega, HX.out (by rw [HY.out, ← HP.out, ← HR.out]; simp; omega), by rw [HS.out, ← HP.out], by go_num⟩
            case measure => simp [intOf]; omega
          · have el : decide ((P : Int) ≤ R) = false := by simp; omega
            have em2 : decide ((47 : Int) < (P : Int)) = true := by simp; omega
            have ha : ans = false := by rw [HA1.out]; exact HN.out (by rw [HY.out, ← HP.out, ← HR.out]; simp; omega)
            subst ha
            go_wp2_with fail
            go_ret
            exact ⟨rfl, hb⟩
        · have el : (P : Int) ≤ R := by omega
          have ha : ans = false := by rw [HA1.out]; exact HN.out (by rw [HY.out, ← HP.out, ← HR.out]; simp; omega)
          subst ha
          go_wp2_with fail
          go_ret
          exact ⟨rfl, hb⟩
      · obtain rfl : k = ps.length := by omega
        have ha : ans = true := by rw [HA1.out]; exact risesB_of HA.out
        subst ha
        go_wp2_with fail
        go_ret
        exact ⟨rfl, hb⟩
end Go.Proofs.Ytioahddobogpjaa
/- Bytes of a delta that may not be: none. Conditions: those said. -/
namespace Go.Proofs.Ytioahddobogpjaa
open Go.RowKit

/-- May it be? -/
def rightB (ps : List UInt8) (nc : Nat) : Bool := ((ps.length : Int) == (nc : Int)) && risesB ps
theorem Rises_any (t h : Nat) (Ap : Option Addr) (ps : List UInt8) (np cp bp : Nat) (Ac : Option Addr) (nc cc : Nat) (w : World) (hs : Bs w bp Ap ps) (hn : ps.length = np) (hl : np ≤ 1000000) :
    Calls Try.prog 40 #[.agg (dA t h Ap np cp Ac nc cc)] w fun e w' => e = .returned (.bool (rightB ps nc)) ∧ Below w.heap.size w w' := by
  unfold rightB
  cases hr : risesB ps
  · rw [Bool.and_false]
    exact Rises_no t h Ap ps np cp bp Ac nc cc w hs hn hr hl
  · rw [Bool.and_true, hn]
    exact Rises_yes t h Ap ps np cp bp Ac nc cc _ w hs hn hr hl rfl
theorem Right_any (t h : Nat) (Ap : Option Addr) (ps : List UInt8) (np cp bp : Nat) (Ac : Option Addr) (nc cc : Nat) (w : World) (hs : Bs w bp Ap ps) (hn : ps.length = np) (hl : np ≤ 1000000) :
    Calls Try.prog 24 #[.agg (dA t h Ap np cp Ac nc cc)] w fun e w' => e = .returned (.bool (rightB ps nc)) ∧ Below w.heap.size w w' := by
  unfold rightB
  rw [hn]
  exact Right_calls t h Ap ps np cp bp Ac nc cc _ w hs hn hl rfl
theorem rightB_len {ps : List UInt8} {nc : Nat} (h : rightB ps nc = true) : ps.length = nc ∧ risesB ps = true := by
  simp only [rightB, Bool.and_eq_true, beq_iff_eq] at h
  exact ⟨by omega, h.2⟩
/-- What rises below 48 has no more than 48. -/
theorem rises_ge {ps : List UInt8} (h : risesB ps = true) : ∀ i (hi : i < ps.length), i ≤ ps[i].toNat
  | 0, _ => Nat.zero_le _
  | i + 1, hi => by
    have h1 := rises_ge h i (by omega)
    have h2 := (risesB_at h hi).2 (by omega)
    simp only [Nat.add_sub_cancel] at h2
    rw [show ps.getD i 0 = ps[i]'(by omega) by simp [List.getD, show i < ps.length by omega]] at h2
    omega
theorem rises_len {ps : List UInt8} (h : risesB ps = true) : ps.length ≤ 48 := by
  refine Nat.le_of_not_lt fun hl => ?_
  have h1 := rises_ge h 48 hl
  have h2 := (risesB_at h hl).1
  omega
set_option maxHeartbeats 4000000 in
set_option maxRecDepth 20000 in
theorem Bytes_no (t h : Nat) (Ap : Option Addr) (ps : List UInt8) (np cp bp : Nat) (Ac : Option Addr) (nc cc : Nat) (w : World) (hs : Bs w bp Ap ps) (hn : ps.length = np) (hr : rightB ps nc = false) (hl : np ≤ 1000000) :
    Calls Try.prog 20 #[.agg (dA t h Ap np cp Ac nc cc)] w fun e w' => e = .returned (.slice none 0 0) ∧ Below w.heap.size w w' := by
  have qd := BoxD.new_ w t h (.slice Ap np cp) (.slice Ac nc cc)
  have hb := below_alloc1 w (.cells (dA t h Ap np cp Ac nc cc) 38)
  have hps := Sl.ext hs hb
  have hR := fun W hs => Rises_any t h Ap ps np cp bp Ac nc cc W hs hn hl
  rw [hr] at hR
  clear hs hr hn
  obtain ⟨e0, e1, e2, e3⟩ := And.intro qd.c0 (And.intro qd.c1 (And.intro qd.c2 qd.c3))
  go_enter Try.func20, Try.ntmps20
  go_wp2_with fail
  refine (hR _ hps).mono ?_
  rintro e w1 ⟨rfl, h9⟩
  have hb := hb.trans (h9.mono hb.size)
  clear h9 hR e0 e1 e2 e3
  go_wp2_with fail
  go_ret
  exact ⟨rfl, hb⟩
end Go.Proofs.Ytioahddobogpjaa
/- What a delta's bytes read as, plainly: the head, a row of nine for each place; what a delta that may be wrote comes back. Conditions: those said. -/
namespace Go.Proofs.Ytioahddobogpjaa
open Go.RowKit

theorem rdN_low (k n : Nat) (r : List UInt8) (bad : Bool) (hn : n < 256 ^ k) : rdN k (low n k ++ r) bad = (n, r, bad) := by
  unfold rdN
  rw [if_pos (by simp), List.take_left' (by simp), List.drop_left' (by simp), valN_low, Nat.mod_eq_of_lt hn]
theorem rdN_yes {k : Nat} {l : List UInt8} (bad : Bool) (h : k ≤ l.length) : rdN k l bad = (valN (l.take k), l.drop k, bad) := by unfold rdN; rw [if_pos h]
theorem rdN_good {k n : Nat} {l l' : List UInt8} {bad : Bool} (h : rdN k l bad = (n, l', false)) : bad = false ∧ l.length = k + l'.length := by
  unfold rdN at h
  split at h
  · rename_i hk
    injection h with h1 h
    injection h with h2 h3
    refine ⟨h3, ?_⟩
    rw [← h2, List.length_drop]
    omega
  · injection h with _ h
    injection h with _ h
    cases h

/-- What is read row by row: the places, the cells, what is left, was it wrong. -/
structure GD where
  ps : List UInt8
  cs : List (Int × Nat)
  l : List UInt8
  bad : Bool
def rowD (r : GD) : GD :=
  let a := rdN 1 r.l r.bad
  let b := rdN 4 a.2.1 a.2.2
  let c := rdN 4 b.2.1 b.2.2
  ⟨r.ps ++ [UInt8.ofNat a.1], r.cs ++ [(IntKind.i32.wrap (b.1 : Int), c.1)], c.2.1, c.2.2⟩
def rowsD (l : List UInt8) (bad : Bool) : Nat → GD
  | 0 => ⟨[], [], l, bad⟩
  | k + 1 => rowD (rowsD l bad k)
theorem rowsD_len (l : List UInt8) (bad : Bool) (k : Nat) : (rowsD l bad k).ps.length = k ∧ (rowsD l bad k).cs.length = k := by
  induction k with
  | zero => exact ⟨rfl, rfl⟩
  | succ k ih => simp [rowsD, rowD, ih.1, ih.2]
theorem rowD_good {r : GD} (h : (rowD r).bad = false) : r.bad = false ∧ r.l.length = 9 + (rowD r).l.length := by
  obtain ⟨n0, l0, b0, y0⟩ : ∃ n l b, rdN 1 r.l r.bad = (n, l, b) := ⟨_, _, _, rfl⟩
  obtain ⟨n1, l1, b1, y1⟩ : ∃ n l b, rdN 4 l0 b0 = (n, l, b) := ⟨_, _, _, rfl⟩
  obtain ⟨n2, l2, b2, y2⟩ : ∃ n l b, rdN 4 l1 b1 = (n, l, b) := ⟨_, _, _, rfl⟩
  have e : rowD r = ⟨r.ps ++ [UInt8.ofNat n0], r.cs ++ [(IntKind.i32.wrap (n1 : Int), n2)], l2, b2⟩ := by
    unfold rowD
    simp only [y0, y1, y2]
  rw [e] at h ⊢
  simp only at h ⊢
  subst h
  obtain ⟨rfl, e2⟩ := rdN_good y2
  obtain ⟨rfl, e1⟩ := rdN_good y1
  obtain ⟨e3, e0⟩ := rdN_good y0
  exact ⟨e3, by omega⟩
theorem rowsD_good {l : List UInt8} {bad : Bool} : ∀ (k : Nat), (rowsD l bad k).bad = false → bad = false ∧ l.length = 9 * k + (rowsD l bad k).l.length
  | 0, h => ⟨h, by simp [rowsD]⟩
  | k + 1, h => by
    obtain ⟨h1, h2⟩ := rowD_good h
    obtain ⟨h3, h4⟩ := rowsD_good k h1
    refine ⟨h3, ?_⟩
    show l.length = 9 * (k + 1) + (rowD (rowsD l bad k)).l.length
    omega
/-- A row of a list that is long enough. -/
theorem rowD_long {r : GD} (hb : r.bad = false) (hl : 9 ≤ r.l.length) : rowD r = ⟨r.ps ++ [r.l[0]'(by omega)], r.cs ++ [(IntKind.i32.wrap ((valN ((r.l.drop 1).take 4) : Nat) : Int), valN ((r.l.drop 5).take 4))], r.l.drop 9, false⟩ := by
  unfold rowD
  rw [rdN_yes r.bad (by omega)]
  simp only
  rw [rdN_yes r.bad (by rw [List.length_drop]; omega)]
  simp only
  rw [rdN_yes r.bad (by rw [List.length_drop, List.length_drop]; omega)]
  simp only [List.drop_drop, hb]
  congr 2
  obtain ⟨x, t, e⟩ : ∃ x t, r.l = x :: t := List.exists_cons_of_length_pos (by omega)
  simp only [e, List.take_succ_cons, List.take_zero, List.getElem_cons_zero, List.cons.injEq, and_true]
  apply UInt8.toNat_inj.1
  rw [UInt8.toNat_ofNat', valN_cons]
  have := x.toNat_lt
  simp [valN]
theorem rowsD_long {l : List UInt8} {n : Nat} (hl : 9 * n ≤ l.length) : ∀ k, k ≤ n → (rowsD l false k).l = l.drop (9 * k) ∧ (rowsD l false k).bad = false
  | 0, _ => ⟨rfl, rfl⟩
  | k + 1, hk => by
    obtain ⟨h1, h2⟩ := rowsD_long hl k (by omega)
    have h3 : 9 ≤ (rowsD l false k).l.length := by rw [h1, List.length_drop]; omega
    show (rowD _).l = _ ∧ (rowD _).bad = false
    rw [rowD_long h2 h3]
    refine ⟨?_, rfl⟩
    simp only [h1, List.drop_drop]
    congr 1
/-- All that is read. -/
structure PD where
  t : Nat
  h : Nat
  n : Nat
  g : GD
def gotD (p : List UInt8) : PD :=
  let x0 := rdN 4 p false
  let x1 := rdN 4 x0.2.1 x0.2.2
  let x2 := rdN 1 x1.2.1 x1.2.2
  ⟨x0.1, x1.1, x2.1, rowsD x2.2.1 x2.2.2 x2.1⟩
def PD.ok (q : PD) : Bool := decide (q.g.bad = false ∧ q.g.l = []) && risesB q.g.ps
/-- Of bytes of another length there is none. -/
theorem gotD_len {p : List UInt8} (h : (gotD p).g.bad = false) : p.length = 9 + 9 * (gotD p).n + (gotD p).g.l.length := by
  obtain ⟨n0, l0, b0, y0⟩ : ∃ n l b, rdN 4 p false = (n, l, b) := ⟨_, _, _, rfl⟩
  obtain ⟨n1, l1, b1, y1⟩ : ∃ n l b, rdN 4 l0 b0 = (n, l, b) := ⟨_, _, _, rfl⟩
  obtain ⟨n2, l2, b2, y2⟩ : ∃ n l b, rdN 1 l1 b1 = (n, l, b) := ⟨_, _, _, rfl⟩
  have e : gotD p = ⟨n0, n1, n2, rowsD l2 b2 n2⟩ := by
    unfold gotD
    simp only [y0, y1, y2]
  rw [e] at h ⊢
  simp only at h ⊢
  obtain ⟨rfl, e3⟩ := rowsD_good n2 h
  obtain ⟨rfl, e2⟩ := rdN_good y2
  obtain ⟨rfl, e1⟩ := rdN_good y1
  obtain ⟨_, e0⟩ := rdN_good y0
  omega
/-- The head of bytes that have one. -/
theorem gotD_head {p : List UInt8} (h : 9 ≤ p.length) : gotD p = ⟨valN (p.take 4), valN ((p.drop 4).take 4), (p[8]'(by omega)).toNat, rowsD (p.drop 9) false (p[8]'(by omega)).toNat⟩ := by
  have hv : valN ((p.drop 8).take 1) = (p[8]'(by omega)).toNat := by
    rw [List.drop_eq_getElem_cons (by omega), List.take_succ_cons, List.take_zero, valN_cons]
    simp [valN]
  unfold gotD
  rw [rdN_yes false (by omega)]
  simp only
  rw [rdN_yes false (by rw [List.length_drop]; omega)]
  simp only
  rw [rdN_yes false (by rw [List.length_drop, List.length_drop]; omega)]
  simp only [List.drop_drop, Nat.reduceAdd, hv]
theorem gotD_bad {p : List UInt8} (h : p.length < 9) : (gotD p).ok = false := by
  unfold PD.ok
  rw [decide_eq_false, Bool.false_and]
  rintro ⟨h1, h2⟩
  have := gotD_len h1
  omega
theorem gotD_off {p : List UInt8} (h : 9 ≤ p.length) (hn : p.length ≠ 9 + 9 * (p[8]'(by omega)).toNat) : (gotD p).ok = false := by
  unfold PD.ok
  rw [decide_eq_false, Bool.false_and]
  rintro ⟨h1, h2⟩
  have e := gotD_len h1
  rw [h2, List.length_nil, gotD_head h] at e
  exact hn e
theorem gotD_on {p : List UInt8} (h : 9 ≤ p.length) (hn : p.length = 9 + 9 * (p[8]'(by omega)).toNat) : (gotD p).ok = risesB (gotD p).g.ps := by
  obtain ⟨h1, h2⟩ := rowsD_long (l := p.drop 9) (n := (p[8]'(by omega)).toNat) (by rw [List.length_drop]; omega) _ (Nat.le_refl _)
  unfold PD.ok
  rw [decide_eq_true, Bool.true_and]
  rw [gotD_head h]
  refine ⟨h2, ?_⟩
  rw [h1]
  apply List.drop_eq_nil_of_le
  rw [List.length_drop]
  omega
theorem i32_uN {x : Int} (h : -2147483648 ≤ x ∧ x ≤ 2147483647) : IntKind.i32.wrap ((uN x : Nat) : Int) = x := by
  rw [IntKind.wrap_i32]
  unfold uN
  omega
theorem rowD_own (ps' : List UInt8) (cs' : List (Int × Nat)) (x : UInt8) (c : Int × Nat) (r : List UInt8) (hc : (-2147483648 ≤ c.1 ∧ c.1 ≤ 2147483647) ∧ c.2 < 4294967296) : rowD ⟨ps', cs', (low x.toNat 1 ++ cellB c) ++ r, false⟩ = ⟨ps' ++ [x], cs' ++ [c], r, false⟩ := by
  have h1 := rdN_low 1 x.toNat (low (uN c.1) 4 ++ (low c.2 4 ++ r)) false x.toNat_lt
  have h2 := rdN_low 4 (uN c.1) (low c.2 4 ++ r) false (uN_lt _)
  have h3 := rdN_low 4 c.2 r false hc.2
  have e : (low x.toNat 1 ++ cellB c) ++ r = low x.toNat 1 ++ (low (uN c.1) 4 ++ (low c.2 4 ++ r)) := by simp [cellB]
  unfold rowD
  rw [e]
  simp only [h1, h2, h3, i32_uN hc.1]
  congr 2
  simp
theorem rowsD_own {ps : List UInt8} {cs : List (Int × Nat)} (hl : ps.length = cs.length) (hok : okC cs) : ∀ k, k ≤ ps.length → rowsD (dRows ps cs ps.length) false k = ⟨ps.take k, cs.take k, ((ps.zip cs).drop k).flatMap fun pc => low pc.1.toNat 1 ++ cellB pc.2, false⟩
  | 0, _ => by
    simp only [rowsD, List.take_zero, List.drop_zero, dRows]
    congr 1
    rw [List.take_of_length_le (by rw [List.length_zip]; omega)]
  | k + 1, hk => by
    have hz : k < (ps.zip cs).length := by rw [List.length_zip]; omega
    have ih := rowsD_own hl hok k (by omega)
    show rowD _ = _
    rw [ih, List.drop_eq_getElem_cons hz, List.flatMap_cons, List.getElem_zip, rowD_own _ _ _ _ _ (okC_get hok _), ← List.take_succ_eq_append_getElem (by omega), ← List.take_succ_eq_append_getElem (by omega)]
/-- A delta's own bytes come back. -/
theorem gotD_own {t h : Nat} {ps : List UInt8} {cs : List (Int × Nat)} (ht : t < 4294967296) (hh : h < 4294967296) (hl : ps.length = cs.length) (hok : okC cs) (hn : ps.length ≤ 48) : gotD (dB t h ps cs) = ⟨t, h, ps.length, ⟨ps, cs, [], false⟩⟩ := by
  have e : dB t h ps cs = low t 4 ++ (low h 4 ++ (low ps.length 1 ++ dRows ps cs ps.length)) := by simp [dB, dHead]
  have h0 := rdN_low 4 t (low h 4 ++ (low ps.length 1 ++ dRows ps cs ps.length)) false ht
  have h1 := rdN_low 4 h (low ps.length 1 ++ dRows ps cs ps.length) false hh
  have h2 := rdN_low 1 ps.length (dRows ps cs ps.length) false (by omega)
  have h3 := rowsD_own hl hok ps.length (Nat.le_refl _)
  unfold gotD
  rw [e]
  simp only [h0, h1, h2, h3]
  congr 2
  · exact List.take_length
  · rw [hl]; exact List.take_length
  · rw [List.drop_eq_nil_of_le (by rw [List.length_zip]; omega)]; rfl
end Go.Proofs.Ytioahddobogpjaa
/- Parse of any bytes: what is read row by row; a delta only if all is right. Conditions: those said. -/
namespace Go.Proofs.Ytioahddobogpjaa
open Go.RowKit
set_option linter.unusedVariables false

/-- What holds in the loop. -/
structure FP (w : World) (K g be wB t h : Nat) (l : List UInt8) (bad : Bool) (W : World) (up uc vp : Value) (ps : List UInt8) (vc : Value) (cs : List (Int × Nat)) : Prop where
  z : BoxD W K t h up uc
  e : EyeAt W g be l bad
  rp : Row W wB vp ps
  rc : RowC 29 W wB vc cs
  q : BoxD W w.heap.size 0 0 (.slice none 0 0) (.slice none 0 0)
  b : Below w.heap.size w W
  zB : wB ≤ W.heap.size
  n : w.heap.size < K ∧ g < K ∧ be < K ∧ K < wB ∧ w.heap.size ≤ be ∧ w.heap.size < g
namespace FP
variable {w W W' : World} {K g be wB t h : Nat} {l l' : List UInt8} {bad bad' : Bool} {up uc vp vc : Value} {ps ps' : List UInt8} {cs cs' : List (Int × Nat)}
theorem ext (f : FP w K g be wB t h l bad W up uc vp ps vc cs) (x : Below W.heap.size W W') : FP w K g be wB t h l bad W' up uc vp ps vc cs :=
  ⟨f.z.ext x, f.e.ext x, Row.ext f.rp x, RowC.ext f.rc x, f.q.ext x, f.b.trans (x.mono f.b.size), Nat.le_trans f.zB x.size, f.n⟩
theorem eye (f : FP w K g be wB t h l bad W up uc vp ps vc cs) (e : EyeAt W' g be l' bad') (hm : Mod (fun i => i = g) W W') : FP w K g be wB t h l' bad' W' up uc vp ps vc cs :=
  have n := f.n
  ⟨f.z.mod hm (by omega), e, Row.mod f.rp hm (fun i hi h => by have := (World.ownsRow.lt f.rp i hi).1; omega), RowC.mod f.rc hm (fun i hi h => by have := (World.ownsRow.lt f.rc i hi).1; omega), f.q.mod hm (by omega), f.b.trans (hm.below (B := w.heap.size) f.b.size (fun i hi h => by omega)), Nat.le_trans f.zB hm.size, n⟩
theorem app1 (f : FP w K g be wB t h l bad W up uc vp ps vc cs) {vp' : Value} (rp : Row W' wB vp' ps') (hm : Mod (fun i => vp.ownBlock = some i) W W') : FP w K g be wB t h l bad W' up uc vp' ps' vc cs :=
  have n := f.n
  have hl := fun i h => (World.ownsRow.lt f.rp i h).1
  ⟨f.z.mod hm (fun h => by have := hl _ h; omega), f.e.mod hm (fun h => by have := hl _ h; omega) (fun h => by have := hl _ h; omega), rp, RowC.mod f.rc hm (fun i hi h => rows_ne f.rp f.rc h hi), f.q.mod hm (fun h => by have := hl _ h; omega), f.b.trans (hm.below (B := w.heap.size) f.b.size (fun i hi h => by have := hl _ h; omega)), Nat.le_trans f.zB hm.size, n⟩
theorem app2 (f : FP w K g be wB t h l bad W up uc vp ps vc cs) {vc' : Value} (rc : RowC 29 W' wB vc' cs') (hm : Mod (fun i => vc.ownBlock = some i) W W') : FP w K g be wB t h l bad W' up uc vp ps vc' cs' :=
  have n := f.n
  have hl := fun i h => (World.ownsRow.lt f.rc i h).1
  ⟨f.z.mod hm (fun h => by have := hl _ h; omega), f.e.mod hm (fun h => by have := hl _ h; omega) (fun h => by have := hl _ h; omega), Row.mod f.rp hm (fun i hi h => rows_ne f.rp f.rc hi h), rc, f.q.mod hm (fun h => by have := hl _ h; omega), f.b.trans (hm.below (B := w.heap.size) f.b.size (fun i hi h => by have := hl _ h; omega)), Nat.le_trans f.zB hm.size, n⟩
theorem stow (f : FP w K g be wB t h l bad W up uc vp ps vc cs) {up' uc' : Value} (z : BoxD W' K t h up' uc') (hm : Mod (fun i => i = K) W W') : FP w K g be wB t h l bad W' up' uc' vp ps vc cs :=
  have n := f.n
  ⟨z, f.e.mod hm (by omega) (by omega), Row.mod f.rp hm (fun i hi h => by have := (World.ownsRow.lt f.rp i hi).1; omega), RowC.mod f.rc hm (fun i hi h => by have := (World.ownsRow.lt f.rc i hi).1; omega), f.q.mod hm (by omega), f.b.trans (hm.below (B := w.heap.size) f.b.size (fun i hi h => by omega)), Nat.le_trans f.zB hm.size, n⟩
end FP
theorem rowD_of {r : GD} {n0 n1 n2 : Nat} {l0 l1 l2 : List UInt8} {b0 b1 b2 : Bool} (y0 : rdN 1 r.l r.bad = (n0, l0, b0)) (y1 : rdN 4 l0 b0 = (n1, l1, b1)) (y2 : rdN 4 l1 b1 = (n2, l2, b2)) : rowD r = ⟨r.ps ++ [UInt8.ofNat n0], r.cs ++ [(IntKind.i32.wrap (n1 : Int), n2)], l2, b2⟩ := by
  unfold rowD
  simp only [y0, y1, y2]
theorem one_new (W : World) {n : Nat} (hn : n < 256) : Bs (World.alloc W (.cells #[.int .u8 (n : Int)] 5)) W.heap.size (some ⟨W.heap.size, 0, none⟩) [UInt8.ofNat n] := by
  have hu : (Value.int .u8 (n : Int)) = .int .u8 ((UInt8.ofNat n).toNat : Int) := by rw [u8_ofNat]; congr 1; omega
  unfold Bs
  rw [show bv [UInt8.ofNat n] = [.int .u8 (n : Int)] by rw [hu]; rfl]
  exact Sl.one_new W _ _
set_option maxHeartbeats 16000000 in
set_option maxRecDepth 40000 in
theorem Parse_any (A : Option Addr) (p : List UInt8) (n c b : Nat) (w : World) (hs : Bs w b A p) (hn : p.length = n) (hm : n ≤ 100000) (T0 H0 : Nat) (P0 : List UInt8) (C0 : List (Int × Nat)) (E0 : Nat)
    (hR : (T0, H0, P0, C0, E0) = if (gotD p).ok then ((gotD p).t, (gotD p).h, (gotD p).g.ps, (gotD p).g.cs, 0) else (0, 0, [], [], 2)) :
    Calls Try.prog 26 #[.slice A n c] w fun e w' => ∃ vp vc, e = .returned (.tuple #[.agg #[.int .u32 (T0 : Int), .int .u32 (H0 : Int), vp, vc], .int .i64 (E0 : Int)]) ∧ Row w' w.heap.size vp P0 ∧ RowC 29 w' w.heap.size vc C0 ∧ Below w.heap.size w w' := by
  have q : BoxD (w.alloc (.cells #[.int .u32 0, .int .u32 0, .slice none 0 0, .slice none 0 0] 38)) w.heap.size 0 0 (.slice none 0 0) (.slice none 0 0) := BoxD.new_ w 0 0 (.slice none 0 0) (.slice none 0 0)
  have hb := below_alloc1 w (.cells #[.int .u32 0, .int .u32 0, .slice none 0 0, .slice none 0 0] 38)
  replace hs := Sl.ext hs hb
  have HR := Lib.hid hR
  clear hR
  go_enter Try.func26, Try.ntmps26
  go_wp2_with fail
  refine (Read_calls A p n c b _ hs hn (by omega)).mono ?_
  rintro e w3 ⟨g, be0, rfl, hE, hg, hbe, h1⟩
  have hql := q.lt
  have hgE : w.heap.size < g := by omega
  have q0lt : w.heap.size < be0 := by omega
  obtain ⟨be, hE, hbl, hbE⟩ : ∃ be, EyeAt w3 g be p false ∧ be < w3.heap.size ∧ w.heap.size ≤ be := by
    by_cases h0 : p = []
    · obtain ⟨_, Ae, ce, k1, k2, k3, _⟩ := hE
      subst h0
      exact ⟨w.heap.size, ⟨by omega, Ae, ce, k1, k2, k3, Sl.nil_ _ _ _⟩, by have := h1.size; omega, Nat.le_refl _⟩
    · obtain ⟨_, Ae, ce, _, _, _, k4⟩ := id hE
      exact ⟨be0, hE, Bs.lt k4 h0, by omega⟩
  replace q := q.ext h1
  replace hb := hb.trans (h1.mono hb.size)
  have hgl := hE.lt
  clear h1 hs hg hbe hn q0lt
  go_wp2_with fail
  refine (EyeWord_f g be p false _ hE).mono ?_
  rintro e w4 ⟨t, l0, x0, rfl, y0, z0, hE, h1⟩
  replace q := q.mod h1 (by omega)
  replace hb := hb.trans (h1.below hb.size (fun i hi e => by omega))
  replace hbl := Nat.lt_of_lt_of_le hbl h1.size
  replace hgl := Nat.lt_of_lt_of_le hgl h1.size
  clear h1
  go_wp2_with fail
  refine (EyeWord_f g be l0 x0 _ hE).mono ?_
  rintro e w5 ⟨h, l1, x1, rfl, y1, z1, hE, h1⟩
  replace q := q.mod h1 (by omega)
  replace hb := hb.trans (h1.below hb.size (fun i hi e => by omega))
  replace hbl := Nat.lt_of_lt_of_le hbl h1.size
  replace hgl := Nat.lt_of_lt_of_le hgl h1.size
  clear h1
  have z := BoxD.new_ w5 t h (.slice none 0 0) (.slice none 0 0)
  have h3 := below_alloc1 w5 (.cells #[.int .u32 (t : Int), .int .u32 (h : Int), .slice none 0 0, .slice none 0 0] 38)
  go_upto_region 3 with fail
  replace q := q.ext h3
  replace hb := hb.trans (h3.mono hb.size)
  replace hE := hE.ext h3
  obtain ⟨K, hK⟩ : ∃ K, K = w5.heap.size := ⟨_, rfl⟩
  obtain ⟨w6, hw6⟩ : ∃ w6, w6 = w5.alloc (.cells #[.int .u32 (t : Int), .int .u32 (h : Int), .slice none 0 0, .slice none 0 0] 38) := ⟨_, rfl⟩
  rw [← hw6] at q hb hE z ⊢
  rw [← hK] at z hbl hgl ⊢
  have hKl := z.lt
  clear hw6 hK h3
  go_wp2_with fail
  refine (EyeByte_f g be l1 x1 _ hE).mono ?_
  rintro e w7 ⟨N, l2, x2, rfl, y2, z2, hE, h1⟩
  replace z := z.mod h1 (by omega)
  replace q := q.mod h1 (by omega)
  replace hb := hb.trans (h1.below hb.size (fun i hi e => by omega))
  have hK7 := Nat.lt_of_lt_of_le hKl h1.size
  have HG : Hid (gotD p = ⟨t, h, N, rowsD l2 x2 N⟩) := Lib.hid (by unfold gotD; simp only [y0, y1, y2])
  obtain ⟨wB, hwB⟩ : ∃ wB, wB = w7.heap.size := ⟨_, rfl⟩
  have hzB : wB ≤ w7.heap.size := by omega
  have f : FP w K g be wB t h l2 x2 w7 (.slice none 0 0) (.slice none 0 0) (.slice none 0 0) [] (.slice none 0 0) [] := ⟨z, hE, Row.nil_ _ _, RowC.nil_ _ _ _, q, hb, hzB, ⟨by omega, by omega, by omega, by omega, by omega, by omega⟩⟩
  clear h1 y0 y1 y2 z q hb hE hwB hzB
  go_wp2_with fail
  go_loopw [15] (fun i wr => ∃ (k : Nat) (vp vc : Value), k ≤ N ∧ i = .int .u8 (k : Int) ∧ FP w K g be wB t h (rowsD l2 x2 k).l (rowsD l2 x2 k).bad wr vp vc vp (rowsD l2 x2 k).ps vc (rowsD l2 x2 k).cs) (fun i _ => N - (intOf i).toNat)
  case atStart => exact ⟨0, _, _, Nat.zero_le _, rfl, f⟩
  case round =>
    clear f
    obtain ⟨k, vp, vc, hk, rfl, f⟩ := hrel
    have HL := Lib.hid (rowsD_len l2 x2 k)
    by_cases hlt : k < N
    · have HS : Hid (rowsD l2 x2 (k + 1) = rowD (rowsD l2 x2 k)) := Lib.hid rfl
      obtain ⟨R, hRk⟩ : ∃ R, R = rowsD l2 x2 k := ⟨_, rfl⟩
      rw [← hRk] at f HS HL
      clear hRk
      go_upto_region 5 with fail
      go_cut [15] (fun i15 w9 => ∃ (vp' : Value) (n0 : Nat) (l3 : List UInt8) (x3 : Bool) (wy : World), wy = w9 ∧ i15 = .int .u8 (k : Int) ∧ n0 < 256 ∧ rdN 1 R.l R.bad = (n0, l3, x3) ∧ FP w K g be wB t h l3 x3 wy vp' vc vp' (R.ps ++ [UInt8.ofNat n0]) vc R.cs)
      case first =>
        go_wp2_with fail
        refine wp_region_E (fun j => j == 7) (fun w9 => BoxD w9 K t h vp vc) (by kernel_rfl) ?_ (fun hHeld => ?_)
        · exact (by first | exact f.z | exact f.z.ext (below_drew (Below.refl _ _)))
        obtain ⟨wd1', hwd⟩ : ∃ wd1', wd1' = World.drew wr := ⟨_, rfl⟩
        have h9 : Below wr.heap.size wr wd1' := by rw [hwd]; exact below_drew (Below.refl _ _)
        rw [← hwd] at hHeld ⊢
        clear hwd
        replace f := f.ext h9
        clear h9
        refine wpAnyE_take (i := 0) (by simp only [List.getElem?_toArray]; rfl) (by kernel_rfl) (by kernel_rfl) (by kernel_rfl) (by kernel_rfl) (by kernel_rfl) (by exact fun _ _ _ h => h) (by exact yk (.pointer (some ⟨K, 2, none⟩)) (by kernel_rfl) (fun _ => by kernel_rfl)) hHeld ?_
        refine wpAnyE_take (i := 1) (by simp only [List.getElem?_toArray]; rfl) (by kernel_rfl) (by kernel_rfl) (by kernel_rfl) (by kernel_rfl) (by kernel_rfl) (by exact fun _ _ _ h => h) (by exact yk_ldP (by kernel_rfl) (.tmp 17) rfl ⟨K, 2, none⟩ vp (by kernel_rfl) (fun w hh => hh.c2)) hHeld ?_
        refine wpAnyE_take (i := 2) (by simp only [List.getElem?_toArray]; rfl) (by kernel_rfl) (by kernel_rfl) (by kernel_rfl) (by kernel_rfl) (by kernel_rfl) (by exact fun _ _ _ h => h) (by exact yk (.pointer (some ⟨g, 0, none⟩)) (by kernel_rfl) (fun _ => by kernel_rfl)) hHeld ?_
        refine wpAnyE_ready (rs := [3]) (by kernel_rfl) (by simp) ?_
        refine EachE.cons (by rfl) (by simp only [List.getElem?_toArray]; rfl) (fun KK hKK => ?_) EachE.nil
        rw [if_pos (by kernel_rfl)]
        refine wp_callF 48 #[.pointer (some ⟨g, 0, none⟩)] (by kernel_rfl) ?_
        refine (EyeByte_f g be _ _ _ f.e).mono ?_
        rintro e w2' ⟨n0, l3, x3, rfl, y3, hn0, hE, h9⟩
        replace f := f.eye hE h9
        clear h9 hE
        refine ⟨_, rfl, ?_⟩
        refine hKK.out _ _ ?_ (fun hHeld => ?_)
        · exact (by first | exact f.z | exact f.z.ext (below_drew (Below.refl _ _)))
        clear hKK KK
        refine wpAnyE_ready (rs := [4]) (by kernel_rfl) (by simp) ?_
        refine EachE.cons (by rfl) (by simp only [List.getElem?_toArray]; rfl) (fun KK hKK => ?_) EachE.nil
        rw [if_pos (by kernel_rfl)]
        refine wp_bsB (.tmp 20) rfl (n0 : Int) (by kernel_rfl) ?_
        have k1 := one_new w2' hn0
        have h9 := below_alloc1 w2' (.cells #[.int .u8 (n0 : Int)] 5)
        obtain ⟨w3', e⟩ : ∃ w3', w3' = World.alloc w2' (.cells #[.int .u8 (n0 : Int)] 5) := ⟨_, rfl⟩
        rw [← e] at k1 h9 ⊢
        obtain ⟨b1, hb1⟩ : ∃ b1, b1 = w2'.heap.size := ⟨_, rfl⟩
        rw [← hb1] at k1 ⊢
        replace f := f.ext h9
        clear e h9 hb1
        refine hKK.out _ _ ?_ (fun hHeld => ?_)
        · exact (by first | exact f.z | exact f.z.ext (below_drew (Below.refl _ _)))
        clear hKK KK
        refine wpAnyE_ready (rs := [5]) (by kernel_rfl) (by simp) ?_
        refine EachE.cons (by rfl) (by simp only [List.getElem?_toArray]; rfl) (fun KK hKK => ?_) EachE.nil
        rw [if_pos (by kernel_rfl)]
        refine wp_appB (.tmp 18) (.tmp 21) rfl wB vp _ (by kernel_rfl) f.rp b1 (some ⟨b1, 0, none⟩) 1 1 [UInt8.ofNat n0] (by kernel_rfl) k1 rfl (by have := HL.out.1; omega) f.zB ?_
        intro v7 w4' rp' hm
        obtain ⟨A7, c7, b7, hv7, -⟩ := Row.sl rp'
        obtain ⟨N7, hN7⟩ : ∃ N7, (R.ps ++ [UInt8.ofNat n0]).length = N7 := ⟨_, rfl⟩
        rw [hN7] at hv7
        subst hv7
        replace f := f.app1 rp' hm
        clear k1 hm rp' hN7
        refine hKK.out _ _ ?_ (fun hHeld => ?_)
        · exact (by first | exact f.z | exact f.z.ext (below_drew (Below.refl _ _)))
        clear hKK KK
        refine wpAnyE_take (i := 6) (by simp only [List.getElem?_toArray]; rfl) (by kernel_rfl) (by kernel_rfl) (by kernel_rfl) (by kernel_rfl) (by kernel_rfl) (by exact fun _ _ _ h => h) (by exact yk (.pointer (some ⟨K, 2, none⟩)) (by kernel_rfl) (fun _ => by kernel_rfl)) hHeld ?_
        try simp only [Act.put, List.setIfInBounds_toArray, List.set_cons_zero, List.set_cons_succ]
        refine wpAnyE_ready (rs := [7]) (by kernel_rfl) (by simp) ?_
        refine EachE.last (by rfl) (by simp only [List.getElem?_toArray]; rfl) (fun KK hKK => ?_)
        rw [if_pos (by kernel_rfl)]
        refine wp_stP (.tmp 23) (.tmp 22) rfl ⟨K, 2, none⟩ A7 N7 c7 (by kernel_rfl) (by kernel_rfl) _ f.z.c2 (f.z.fr 2) ?_
        replace f := f.stow (f.z.set2 (.slice A7 N7 c7)) (Mod.setCell w4' ⟨K, 2, none⟩ (.slice A7 N7 c7))
        obtain ⟨w5', e⟩ : ∃ w5', w5' = World.setCell w4' ⟨K, 2, none⟩ (.slice A7 N7 c7) := ⟨_, rfl⟩
        rw [← e] at f ⊢
        clear e
        refine hKK.out _ _ ?_
        clear hKK KK
        refine wpAnyE_done (by kernel_rfl) ?_ _
        go_wp2_with fail
        go_meet
        exact ⟨_, n0, l3, x3, _, rfl, rfl, hn0, y3, f⟩
      case rest =>
        obtain ⟨vp', n0, l3, x3, wy, rfl, rfl, hn0, y3, f⟩ := hcut
        go_upto_region 6 with fail
        go_wp2_with fail
        refine wp_region_E (fun j => j == 11) (fun w9 => BoxD w9 K t h vp' vc) (by kernel_rfl) ?_ (fun hHeld => ?_)
        · exact (by first | exact f.z | exact f.z.ext (below_drew (Below.refl _ _)))
        obtain ⟨wd6', hwd⟩ : ∃ wd6', wd6' = World.drew wy := ⟨_, rfl⟩
        have h9 : Below wy.heap.size wy wd6' := by rw [hwd]; exact below_drew (Below.refl _ _)
        rw [← hwd] at hHeld ⊢
        clear hwd
        replace f := f.ext h9
        clear h9
        refine wpAnyE_take (i := 0) (by simp only [List.getElem?_toArray]; rfl) (by kernel_rfl) (by kernel_rfl) (by kernel_rfl) (by kernel_rfl) (by kernel_rfl) (by exact fun _ _ _ h => h) (by exact yk (.pointer (some ⟨K, 3, none⟩)) (by kernel_rfl) (fun _ => by kernel_rfl)) hHeld ?_
        refine wpAnyE_take (i := 1) (by simp only [List.getElem?_toArray]; rfl) (by kernel_rfl) (by kernel_rfl) (by kernel_rfl) (by kernel_rfl) (by kernel_rfl) (by exact fun _ _ _ h => h) (by exact yk_ldC (by kernel_rfl) (.tmp 24) rfl ⟨K, 3, none⟩ vc (by kernel_rfl) (fun w hh => hh.c3)) hHeld ?_
        refine wpAnyE_take (i := 2) (by simp only [List.getElem?_toArray]; rfl) (by kernel_rfl) (by kernel_rfl) (by kernel_rfl) (by kernel_rfl) (by kernel_rfl) (by exact fun _ _ _ h => h) (by exact yk (.pointer (some ⟨g, 0, none⟩)) (by kernel_rfl) (fun _ => by kernel_rfl)) hHeld ?_
        refine wpAnyE_take (i := 5) (by simp only [List.getElem?_toArray]; rfl) (by kernel_rfl) (by kernel_rfl) (by kernel_rfl) (by kernel_rfl) (by kernel_rfl) (by exact fun _ _ _ h => h) (by exact yk (.pointer (some ⟨g, 0, none⟩)) (by kernel_rfl) (fun _ => by kernel_rfl)) hHeld ?_
        refine wpAnyE_ready (rs := [3]) (by kernel_rfl) (by simp) ?_
        refine EachE.cons (by rfl) (by simp only [List.getElem?_toArray]; rfl) (fun KK hKK => ?_) EachE.nil
        rw [if_pos (by kernel_rfl)]
        refine wp_callF 47 #[.pointer (some ⟨g, 0, none⟩)] (by kernel_rfl) ?_
        refine (EyeWord_f g be _ _ _ f.e).mono ?_
        rintro e w7' ⟨n1, l4, x4, rfl, y4, hn1, hE, h9⟩
        replace f := f.eye hE h9
        clear h9 hE
        refine ⟨_, rfl, ?_⟩
        refine hKK.out _ _ ?_ (fun hHeld => ?_)
        · exact (by first | exact f.z | exact f.z.ext (below_drew (Below.refl _ _)))
        clear hKK KK
        refine wpAnyE_take (i := 4) (by simp only [List.getElem?_toArray]; rfl) (by kernel_rfl) (by kernel_rfl) (by kernel_rfl) (by kernel_rfl) (by kernel_rfl) (by exact fun _ _ _ h => h) (by exact yk (.int .i32 (IntKind.i32.wrap (n1 : Int))) (by kernel_rfl) (fun _ => by kernel_rfl)) hHeld ?_
        refine wpAnyE_ready (rs := [6]) (by kernel_rfl) (by simp) ?_
        refine EachE.cons (by rfl) (by simp only [List.getElem?_toArray]; rfl) (fun KK hKK => ?_) EachE.nil
        rw [if_pos (by kernel_rfl)]
        refine wp_callF 47 #[.pointer (some ⟨g, 0, none⟩)] (by kernel_rfl) ?_
        refine (EyeWord_f g be _ _ _ f.e).mono ?_
        rintro e w8' ⟨n2, l5, x5, rfl, y5, hn2, hE, h9⟩
        replace f := f.eye hE h9
        clear h9 hE
        refine ⟨_, rfl, ?_⟩
        refine hKK.out _ _ ?_ (fun hHeld => ?_)
        · exact (by first | exact f.z | exact f.z.ext (below_drew (Below.refl _ _)))
        clear hKK KK
        refine wpAnyE_take (i := 7) (by simp only [List.getElem?_toArray]; rfl) (by kernel_rfl) (by kernel_rfl) (by kernel_rfl) (by kernel_rfl) (by kernel_rfl) (by exact fun _ _ _ h => h) (by exact yk (.agg #[.int .i32 (IntKind.i32.wrap (n1 : Int)), .int .u32 (n2 : Int)]) (by kernel_rfl) (fun _ => by kernel_rfl)) hHeld ?_
        refine wpAnyE_ready (rs := [8]) (by kernel_rfl) (by simp) ?_
        refine EachE.cons (by rfl) (by simp only [List.getElem?_toArray]; rfl) (fun KK hKK => ?_) EachE.nil
        rw [if_pos (by kernel_rfl)]
        refine wp_bsC (.tmp 31) rfl (IntKind.i32.wrap (n1 : Int)) n2 (by kernel_rfl) ?_
        have k1 := Sl.cell_new w8' (IntKind.i32.wrap (n1 : Int), n2) 29
        simp only at k1
        have h9 := below_alloc1 w8' (.cells #[.int .i32 (IntKind.i32.wrap (n1 : Int)), .int .u32 (n2 : Int)] 29)
        obtain ⟨w9', e⟩ : ∃ w9', w9' = World.alloc w8' (.cells #[.int .i32 (IntKind.i32.wrap (n1 : Int)), .int .u32 (n2 : Int)] 29) := ⟨_, rfl⟩
        rw [← e] at k1 h9 ⊢
        obtain ⟨b1, hb1⟩ : ∃ b1, b1 = w8'.heap.size := ⟨_, rfl⟩
        rw [← hb1] at k1 ⊢
        replace f := f.ext h9
        clear e h9 hb1
        refine hKK.out _ _ ?_ (fun hHeld => ?_)
        · exact (by first | exact f.z | exact f.z.ext (below_drew (Below.refl _ _)))
        clear hKK KK
        refine wpAnyE_ready (rs := [9]) (by kernel_rfl) (by simp) ?_
        refine EachE.cons (by rfl) (by simp only [List.getElem?_toArray]; rfl) (fun KK hKK => ?_) EachE.nil
        rw [if_pos (by kernel_rfl)]
        refine wp_appC (.tmp 25) (.tmp 32) rfl wB vc _ (by kernel_rfl) f.rc b1 (some ⟨b1, 0, none⟩) 1 1 [(IntKind.i32.wrap (n1 : Int), n2)] (by kernel_rfl) k1 rfl (by have := HL.out.2; omega) f.zB ?_
        intro v8 w10' rc' hm
        obtain ⟨A8, c8, b8, hv8, -⟩ := RowC.sl rc'
        obtain ⟨N8, hN8⟩ : ∃ N8, (R.cs ++ [(IntKind.i32.wrap (n1 : Int), n2)]).length = N8 := ⟨_, rfl⟩
        rw [hN8] at hv8
        subst hv8
        replace f := f.app2 rc' hm
        clear k1 hm rc' hN8
        refine hKK.out _ _ ?_ (fun hHeld => ?_)
        · exact (by first | exact f.z | exact f.z.ext (below_drew (Below.refl _ _)))
        clear hKK KK
        refine wpAnyE_take (i := 10) (by simp only [List.getElem?_toArray]; rfl) (by kernel_rfl) (by kernel_rfl) (by kernel_rfl) (by kernel_rfl) (by kernel_rfl) (by exact fun _ _ _ h => h) (by exact yk (.pointer (some ⟨K, 3, none⟩)) (by kernel_rfl) (fun _ => by kernel_rfl)) hHeld ?_
        try simp only [Act.put, List.setIfInBounds_toArray, List.set_cons_zero, List.set_cons_succ]
        refine wpAnyE_ready (rs := [11]) (by kernel_rfl) (by simp) ?_
        refine EachE.last (by rfl) (by simp only [List.getElem?_toArray]; rfl) (fun KK hKK => ?_)
        rw [if_pos (by kernel_rfl)]
        refine wp_stC (.tmp 34) (.tmp 33) rfl ⟨K, 3, none⟩ A8 N8 c8 (by kernel_rfl) (by kernel_rfl) _ f.z.c3 (f.z.fr 3) ?_
        replace f := f.stow (f.z.set3 (.slice A8 N8 c8)) (Mod.setCell w10' ⟨K, 3, none⟩ (.slice A8 N8 c8))
        obtain ⟨w11', e⟩ : ∃ w11', w11' = World.setCell w10' ⟨K, 3, none⟩ (.slice A8 N8 c8) := ⟨_, rfl⟩
        rw [← e] at f ⊢
        clear e
        refine hKK.out _ _ ?_
        clear hKK KK
        refine wpAnyE_done (by kernel_rfl) ?_ _
        have hw8 : IntKind.u8.wrap ((k : Int) + 1) = ((k + 1 : Nat) : Int) := by rw [IntKind.wrap_u8]; omega
        go_wp2_with fail
        go_roundw
        case rel => exact ⟨k + 1, vp', _, by omega, by go_num, by rw [HS.out, rowD_of y3 y4 y5]; exact f⟩
        case measure => simp [intOf]; omega
    · obtain rfl : k = N := by omega
      obtain ⟨R, hRk⟩ : ∃ R, R = rowsD l2 x2 k := ⟨_, rfl⟩
      rw [← hRk] at f HL HG
      obtain ⟨dn, hdn⟩ : ∃ dn, dn = doneErr R.l R.bad := ⟨_, rfl⟩
      have DC := Done_calls g be R.l R.bad wr f.e
      rw [← hdn] at DC
      obtain ⟨za, hza⟩ : ∃ z, z = (dn != 0) := ⟨_, rfl⟩
      obtain ⟨zb, hzb⟩ : ∃ z, z = rightB R.ps R.cs.length := ⟨_, rfl⟩
      have HOK : Hid ((gotD p).ok = (!za && zb)) := Lib.hid (by
        have e1 : decide (R.bad = false ∧ R.l = []) = !za := by
          rw [hza, hdn, doneErr, Bool.eq_iff_iff]
          by_cases h : R.bad = true ∨ R.l ≠ []
          · rw [if_pos h]
            cases hbd : R.bad <;> simp [hbd] at h ⊢
            exact h
          · rw [if_neg h]
            cases hbd : R.bad <;> simp [hbd] at h ⊢
            exact h
        have e2 : risesB R.ps = zb := by
          rw [hzb, rightB, HL.out.1, HL.out.2]
          simp
        rw [HG.out, PD.ok]
        simp only [e1, e2])
      have hza' := hza.symm
      obtain ⟨Pp, cp, bp, hv7, -, -, -, -, hsp, -⟩ := Row.sl f.rp
      obtain ⟨Pc, cc, bc, hv8, -, -, -, -, hsc, -⟩ := RowC.sl f.rc
      obtain ⟨N7, hN7⟩ : ∃ N7, N7 = R.ps.length := ⟨_, rfl⟩
      obtain ⟨N8, hN8⟩ : ∃ N8, N8 = R.cs.length := ⟨_, rfl⟩
      rw [← hN7] at hv7
      rw [← hN8] at hv8 hzb
      subst hv7 hv8
      have hRi := fun W hh => Rises_any t h Pp R.ps N7 cp bp Pc N8 cc W hh hN7.symm (by have := HL.out.1; omega)
      rw [← hzb] at hRi
      have HG2 : Hid ((gotD p).t = t ∧ (gotD p).h = h ∧ (gotD p).g.ps = R.ps ∧ (gotD p).g.cs = R.cs) := Lib.hid (by rw [HG.out]; exact ⟨rfl, rfl, rfl, rfl⟩)
      clear hza hzb hdn hRk HG hN7 hN8 hsc
      go_wp2_with fail
      refine DC.mono ?_
      rintro e w15 ⟨rfl, rfl⟩
      clear DC
      obtain ⟨a0, a1, a2, a3⟩ := And.intro f.q.c0 (And.intro f.q.c1 (And.intro f.q.c2 f.q.c3))
      obtain ⟨f0, f1, f2, f3⟩ := And.intro (f.q.fr 0) (And.intro (f.q.fr 1) (And.intro (f.q.fr 2) (f.q.fr 3)))
      obtain ⟨b0, b1, b2, b3⟩ := And.intro f.z.c0 (And.intro f.z.c1 (And.intro f.z.c2 f.z.c3))
      cases za with
      | true =>
        go_wp2_with fail
        have hq4 := four_setD wr w.heap.size (.int .u32 0) (.int .u32 0) (.slice none 0 0) (.slice none 0 0) f.q
        have hm4 := mod_set4 wr w.heap.size (.int .u32 0) (.int .u32 0) (.slice none 0 0) (.slice none 0 0)
        have hr := HR.out
        rw [HOK.out] at hr
        simp only [Bool.not_true, Bool.false_and, Bool.false_eq_true, if_false, Prod.mk.injEq] at hr
        obtain ⟨rfl, rfl, rfl, rfl, rfl⟩ := hr
        refine bodyPost_ret (results_ct (P := Try.prog) rfl _ _ w.heap.size _ _ (0, 0) _ rfl hq4 Try.underlying38 rfl (by kernel_rfl)) rfl ⟨_, _, rfl, Row.nil_ _ _, RowC.nil_ _ _ _, ?_⟩
        exact f.b.trans (hm4.below f.b.size (fun i hi hh => by have hh : i = w.heap.size := hh; omega))
      | false =>
        go_wp2_with fail
        refine (hRi _ hsp).mono ?_
        rintro e w16 ⟨rfl, h1⟩
        replace f := f.ext h1
        clear a0 a1 a2 a3 f0 f1 f2 f3 b0 b1 b2 b3 h1
        obtain ⟨a0, a1, a2, a3⟩ := And.intro f.q.c0 (And.intro f.q.c1 (And.intro f.q.c2 f.q.c3))
        obtain ⟨f0, f1, f2, f3⟩ := And.intro (f.q.fr 0) (And.intro (f.q.fr 1) (And.intro (f.q.fr 2) (f.q.fr 3)))
        obtain ⟨b0, b1, b2, b3⟩ := And.intro f.z.c0 (And.intro f.z.c1 (And.intro f.z.c2 f.z.c3))
        cases zb with
        | false =>
          go_wp2_with fail
          have hq4 := four_setD w16 w.heap.size (.int .u32 0) (.int .u32 0) (.slice none 0 0) (.slice none 0 0) f.q
          have hm4 := mod_set4 w16 w.heap.size (.int .u32 0) (.int .u32 0) (.slice none 0 0) (.slice none 0 0)
          have hr := HR.out
          rw [HOK.out] at hr
          simp only [Bool.and_false, Bool.false_eq_true, if_false, Prod.mk.injEq] at hr
          obtain ⟨rfl, rfl, rfl, rfl, rfl⟩ := hr
          refine bodyPost_ret (results_ct (P := Try.prog) rfl _ _ w.heap.size _ _ (0, 0) _ rfl hq4 Try.underlying38 rfl (by kernel_rfl)) rfl ⟨_, _, rfl, Row.nil_ _ _, RowC.nil_ _ _ _, ?_⟩
          exact f.b.trans (hm4.below f.b.size (fun i hi hh => by have hh : i = w.heap.size := hh; omega))
        | true =>
          have hq4 := four_setD w16 w.heap.size (.int .u32 (t : Int)) (.int .u32 (h : Int)) (.slice Pp N7 cp) (.slice Pc N8 cc) f.q
          have hm4 := mod_set4 w16 w.heap.size (.int .u32 (t : Int)) (.int .u32 (h : Int)) (.slice Pp N7 cp) (.slice Pc N8 cc)
          have HF := Lib.hid f
          have HM := Lib.hid hm4
          clear f hm4
          go_wp2_with fail
          have hr := HR.out
          rw [HOK.out, HG2.out.1, HG2.out.2.1, HG2.out.2.2.1, HG2.out.2.2.2] at hr
          simp only [Bool.not_false, Bool.and_self, if_true, Prod.mk.injEq] at hr
          obtain ⟨rfl, rfl, rfl, rfl, rfl⟩ := hr
          refine bodyPost_ret (results_ct (P := Try.prog) rfl _ _ w.heap.size _ _ (0, 0) _ rfl hq4 Try.underlying38 rfl (by kernel_rfl)) rfl ⟨_, _, rfl, ?_, ?_, ?_⟩
          · exact owns_low (Row.mod HF.out.rp HM.out (fun i hi hh => by have := (World.ownsRow.lt HF.out.rp i hi).1; have := HF.out.n; have hh : i = w.heap.size := hh; omega)) (by have := HF.out.n; omega)
          · exact owns_low (RowC.mod HF.out.rc HM.out (fun i hi hh => by have := (World.ownsRow.lt HF.out.rc i hi).1; have := HF.out.n; have hh : i = w.heap.size := hh; omega)) (by have := HF.out.n; omega)
          · exact HF.out.b.trans (HM.out.below HF.out.b.size (fun i hi hh => by have hh : i = w.heap.size := hh; omega))
end Go.Proofs.Ytioahddobogpjaa
/- The document's Parse of any bytes. Conditions: those said. -/
namespace Go.Proofs.Ytioahddobogpjaa
open Go.RowKit
set_option linter.unusedVariables false

theorem bs_sub {w : World} {b off : Nat} {l : List UInt8} (h : Bs w b (some ⟨b, off, none⟩) l) (i m : Nat) : Bs w b (some ⟨b, off + i, none⟩) ((l.drop i).take m) := fun hx => by
  have hl : bv l ≠ [] := by
    rintro h0
    rw [bv_nil_iff] at h0
    subst h0
    simp at hx
  obtain ⟨off', e, hc⟩ := h hl
  injection e with e
  injection e with _ e _
  subst e
  refine ⟨off + i, rfl, fun j u hu => ?_⟩
  rw [Nat.add_assoc]
  refine hc (i + j) u ?_
  rw [← bv_take, ← bv_drop, List.getElem?_take] at hu
  split at hu
  · rw [← hu, List.getElem?_drop]
  · cases hu
theorem bs_drop {w : World} {b off : Nat} {l : List UInt8} (h : Bs w b (some ⟨b, off, none⟩) l) (i : Nat) : Bs w b (some ⟨b, off + i, none⟩) (l.drop i) := by
  have := bs_sub h i (l.drop i).length
  rwa [List.take_length] at this
theorem be_row {w : World} {b t h : Nat} {vp vc : Value} (q : BoxE w b t h vp vc) (t' h' : Nat) (vp' vc' : Value) : BoxE (w.setRow b #[.int .u32 (t' : Int), .int .u32 (h' : Int), vp', vc']) b t' h' vp' vc' := setRow_heap w b _ _ _ _ q
section
variable {ops : Array Oper} {S : World → Prop} {op : Oper} {a : Act}
theorem yk_cvW (hw : Region.wanted op (yielded ops a.tmps) = true) (x : Operand) (ho : op.op = .convert 23 24 x) (y : Int) (hx : a.eval x = .int .u64 y) (hy : IntKind.u32.wrap y = y) : YieldsIf Try.prog ops S op (.int .u32 y) a :=
  .inl ⟨hw, fun w _ => by
    unfold execOp
    simp only [ho, hx]
    go_simp⟩
end
/-- What holds in the loop. -/
structure FR (w : World) (K wB t h b : Nat) (A : Option Addr) (l : List UInt8) (W : World) (up uc vp : Value) (ps : List UInt8) (vc : Value) (cs : List (Int × Nat)) : Prop where
  z : BoxE W K t h up uc
  s : Bs W b A l
  rp : Row W wB vp ps
  rc : RowC 83 W wB vc cs
  q : BoxE W w.heap.size 0 0 (.slice none 0 0) (.slice none 0 0)
  bl : Below w.heap.size w W
  zB : wB ≤ W.heap.size
  n : w.heap.size < K ∧ b < w.heap.size ∧ K < wB
namespace FR
variable {w W W' : World} {K wB t h b : Nat} {A A' : Option Addr} {l l' : List UInt8} {up uc vp vc : Value} {ps ps' : List UInt8} {cs cs' : List (Int × Nat)}
theorem ext (f : FR w K wB t h b A l W up uc vp ps vc cs) (x : Below W.heap.size W W') : FR w K wB t h b A l W' up uc vp ps vc cs :=
  ⟨f.z.ext x, Sl.ext f.s x, Row.ext f.rp x, RowC.ext f.rc x, f.q.ext x, f.bl.trans (x.mono f.bl.size), Nat.le_trans f.zB x.size, f.n⟩
theorem on (f : FR w K wB t h b A l W up uc vp ps vc cs) (s : Bs W b A' l') : FR w K wB t h b A' l' W up uc vp ps vc cs := ⟨f.z, s, f.rp, f.rc, f.q, f.bl, f.zB, f.n⟩
theorem app1 (f : FR w K wB t h b A l W up uc vp ps vc cs) {vp' : Value} (rp : Row W' wB vp' ps') (hm : Mod (fun i => vp.ownBlock = some i) W W') : FR w K wB t h b A l W' up uc vp' ps' vc cs :=
  have n := f.n
  have hl := fun i h => (World.ownsRow.lt f.rp i h).1
  ⟨f.z.mod hm (fun h => by have := hl _ h; omega), Sl.mod f.s hm (fun h => by have := hl _ h; omega), rp, RowC.mod f.rc hm (fun i hi h => rowsR_ne f.rp f.rc h hi), f.q.mod hm (fun h => by have := hl _ h; omega), f.bl.trans (hm.below (B := w.heap.size) f.bl.size (fun i hi h => by have := hl _ h; omega)), Nat.le_trans f.zB hm.size, n⟩
theorem app2 (f : FR w K wB t h b A l W up uc vp ps vc cs) {vc' : Value} (rc : RowC 83 W' wB vc' cs') (hm : Mod (fun i => vc.ownBlock = some i) W W') : FR w K wB t h b A l W' up uc vp ps vc' cs' :=
  have n := f.n
  have hl := fun i h => (World.ownsRow.lt f.rc i h).1
  ⟨f.z.mod hm (fun h => by have := hl _ h; omega), Sl.mod f.s hm (fun h => by have := hl _ h; omega), Row.mod f.rp hm (fun i hi h => rowsR_ne f.rp f.rc hi h), rc, f.q.mod hm (fun h => by have := hl _ h; omega), f.bl.trans (hm.below (B := w.heap.size) f.bl.size (fun i hi h => by have := hl _ h; omega)), Nat.le_trans f.zB hm.size, n⟩
theorem stow (f : FR w K wB t h b A l W up uc vp ps vc cs) {up' uc' : Value} (z : BoxE W' K t h up' uc') (hm : Mod (fun i => i = K) W W') : FR w K wB t h b A l W' up' uc' vp ps vc cs :=
  have n := f.n
  ⟨z, Sl.mod f.s hm (by omega), Row.mod f.rp hm (fun i hi h => by have := (World.ownsRow.lt f.rp i hi).1; omega), RowC.mod f.rc hm (fun i hi h => by have := (World.ownsRow.lt f.rc i hi).1; omega), f.q.mod hm (by omega), f.bl.trans (hm.below (B := w.heap.size) f.bl.size (fun i hi h => by omega)), Nat.le_trans f.zB hm.size, n⟩
end FR
set_option maxHeartbeats 16000000 in
set_option maxRecDepth 40000 in
theorem RParse_short (A : Option Addr) (p : List UInt8) (n c b : Nat) (w : World) (hn : p.length = n) (h9 : n < 9) :
    Calls Try.prog 30 #[.slice A n c] w fun e w' => e = .returned (.tuple #[.agg #[.int .u32 0, .int .u32 0, .slice none 0 0, .slice none 0 0], .bool false]) ∧ Below w.heap.size w w' := by
  have q : BoxE (w.alloc (.cells #[.int .u32 0, .int .u32 0, .slice none 0 0, .slice none 0 0] 44)) w.heap.size 0 0 (.slice none 0 0) (.slice none 0 0) := BoxE.new_ w 0 0 (.slice none 0 0) (.slice none 0 0)
  have hb := below_alloc1 w (.cells #[.int .u32 0, .int .u32 0, .slice none 0 0, .slice none 0 0] 44)
  have e1 : decide ((n : Int) < 9) = true := by simp; omega
  have e2 : (n : Int) < 9 := by omega
  have HQ := Lib.hid q
  have HB := Lib.hid hb
  clear q hb hn
  go_enter Try.func30, Try.ntmps30
  go_wp2_with fail
  refine bodyPost_ret (results_ct (P := Try.prog) rfl _ _ w.heap.size _ _ (0, 0) _ rfl HQ.out Try.underlying44 rfl (by kernel_rfl)) rfl ⟨rfl, ?_⟩
  exact HB.out
set_option maxHeartbeats 16000000 in
set_option maxRecDepth 40000 in
theorem RParse_off (b off : Nat) (p : List UInt8) (n c : Nat) (w : World) (hs : Bs w b (some ⟨b, off, none⟩) p) (hn : p.length = n) (h9 : 9 ≤ n) (hoff : n ≠ 9 + 9 * (p[8]'(by omega)).toNat) :
    Calls Try.prog 30 #[.slice (some ⟨b, off, none⟩) n c] w fun e w' => e = .returned (.tuple #[.agg #[.int .u32 0, .int .u32 0, .slice none 0 0, .slice none 0 0], .bool false]) ∧ Below w.heap.size w w' := by
  have q : BoxE (w.alloc (.cells #[.int .u32 0, .int .u32 0, .slice none 0 0, .slice none 0 0] 44)) w.heap.size 0 0 (.slice none 0 0) (.slice none 0 0) := BoxE.new_ w 0 0 (.slice none 0 0) (.slice none 0 0)
  have hb := below_alloc1 w (.cells #[.int .u32 0, .int .u32 0, .slice none 0 0, .slice none 0 0] 44)
  replace hs := Sl.ext hs hb
  have g8 := bs_at hs (k := 8) (by omega)
  obtain ⟨P, hP⟩ : ∃ P, P = (p[8]'(by omega)).toNat := ⟨_, rfl⟩
  rw [← hP] at g8 hoff
  have hP8 : P < 256 := by rw [hP]; exact UInt8.toNat_lt _
  have e1 : decide ((n : Int) < 9) = false := by simp; omega
  have e2 : ((n : Int) != 9 + 9 * (P : Int)) = true := by simp; omega
  have e3 : (8 : Int) < (n : Int) := by omega
  have HQ := Lib.hid q
  have HB := Lib.hid hb
  clear q hb hn hP hoff hs
  go_enter Try.func30, Try.ntmps30
  go_wp2_with fail
  refine bodyPost_ret (results_ct (P := Try.prog) rfl _ _ w.heap.size _ _ (0, 0) _ rfl HQ.out Try.underlying44 rfl (by kernel_rfl)) rfl ⟨rfl, ?_⟩
  exact HB.out
set_option maxHeartbeats 16000000 in
set_option maxRecDepth 40000 in
theorem RParse_on (b off : Nat) (p : List UInt8) (n c N : Nat) (w : World) (hs : Bs w b (some ⟨b, off, none⟩) p) (hn : p.length = n) (hnc : n ≤ c) (h9 : 9 ≤ n) (hN : N = (p[8]'(by omega)).toNat) (hon : n = 9 + 9 * N) (T0 H0 : Nat) (P0 : List UInt8) (C0 : List (Int × Nat)) (ok : Bool)
    (hR : (T0, H0, P0, C0, ok) = if (gotD p).ok then ((gotD p).t, (gotD p).h, (gotD p).g.ps, (gotD p).g.cs, true) else (0, 0, [], [], false)) :
    Calls Try.prog 30 #[.slice (some ⟨b, off, none⟩) n c] w fun e w' => ∃ vp vc, e = .returned (.tuple #[.agg #[.int .u32 (T0 : Int), .int .u32 (H0 : Int), vp, vc], .bool ok]) ∧ Row w' w.heap.size vp P0 ∧ RowC 83 w' w.heap.size vc C0 ∧ Below w.heap.size w w' := by
  have q : BoxE (w.alloc (.cells #[.int .u32 0, .int .u32 0, .slice none 0 0, .slice none 0 0] 44)) w.heap.size 0 0 (.slice none 0 0) (.slice none 0 0) := BoxE.new_ w 0 0 (.slice none 0 0) (.slice none 0 0)
  have hb := below_alloc1 w (.cells #[.int .u32 0, .int .u32 0, .slice none 0 0, .slice none 0 0] 44)
  have hbl : b < w.heap.size := Bs.lt hs (by rintro rfl; simp at hn; omega)
  replace hs := Sl.ext hs hb
  have g8 := bs_at hs (k := 8) (by omega)
  rw [← hN] at g8
  have hN8 : N < 256 := by rw [hN]; exact UInt8.toNat_lt _
  obtain ⟨t, ht⟩ : ∃ t, t = valN (p.take 4) := ⟨_, rfl⟩
  obtain ⟨h, hh⟩ : ∃ h, h = valN ((p.drop 4).take 4) := ⟨_, rfl⟩
  have htl : t < 4294967296 := by
    have := valN_lt (p.take 4)
    rwa [← ht, List.length_take, Nat.min_eq_left (by omega)] at this
  have hhl : h < 4294967296 := by
    have := valN_lt ((p.drop 4).take 4)
    rwa [← hh, List.length_take, List.length_drop, Nat.min_eq_left (by omega)] at this
  have hG := gotD_head (p := p) (by omega)
  rw [← hN, ← ht, ← hh] at hG
  have hok := gotD_on (p := p) (by omega) (by rw [← hN]; omega)
  have hlong := rowsD_long (l := p.drop 9) (n := N) (by rw [List.length_drop]; omega)
  have hV1 := fun W hs' => Value_calls (some ⟨b, off, none⟩) (p.take 4) 4 c b W hs' (by rw [List.length_take]; omega) (by omega)
  have hV2 := fun W hs' => Value_calls (some ⟨b, off + 4, none⟩) ((p.drop 4).take 4) 4 (c - 4) b W hs' (by rw [List.length_take, List.length_drop]; omega) (by omega)
  rw [← ht] at hV1
  rw [← hh] at hV2
  have e1 : decide ((n : Int) < 9) = false := by simp; omega
  have e2 : ((n : Int) != 9 + 9 * (N : Int)) = false := by simp; omega
  have e3 : (8 : Int) < (n : Int) := by omega
  have HR := Lib.hid hR
  have HG := Lib.hid hG
  have HOK := Lib.hid hok
  have HLO := Lib.hid hlong
  have HPN := Lib.hid hn
  have HON := Lib.hid hon
  have c4 : (4 : Int) ≤ (c : Int) := by omega
  have c8 : (8 : Int) ≤ (c : Int) := by omega
  have c9 : (9 : Int) ≤ (n : Int) := by omega
  have cn4 : ¬ c = 4 := by omega
  have hcn : n ≤ c := hnc
  obtain ⟨wz, hwz⟩ : ∃ wz, wz = w.alloc (.cells #[.int .u32 0, .int .u32 0, .slice none 0 0, .slice none 0 0] 44) := ⟨_, rfl⟩
  have hcw1 : IntKind.u32.wrap (t : Int) = (t : Int) := IntWalk.u32_in _ (by omega)
  have hcw2 : IntKind.u32.wrap (h : Int) = (h : Int) := IntWalk.u32_in _ (by omega)
  clear hR hG hok hlong hN ht hh hn hon hnc
  go_enter Try.func30, Try.ntmps30
  go_upto_region 1 with fail
  rw [← hwz] at q hb hs g8 ⊢
  clear hwz
  go_upto_region 3 with fail
  clear g8 e1 e2 e3
  go_cut [4] (fun v4 w9 => ∃ (K : Nat) (wy : World), wy = w9 ∧ v4 = .pointer (some ⟨K, 0, none⟩) ∧ w.heap.size < K ∧ BoxE wy K t h (.slice none 0 0) (.slice none 0 0) ∧ BoxE wy w.heap.size 0 0 (.slice none 0 0) (.slice none 0 0) ∧ Bs wy b (some ⟨b, off, none⟩) p ∧ Below w.heap.size w wy)
  case first =>
    go_wp2_with fail
    refine wp_region_E (fun j => j == 10) (fun w9 => w.heap.size ≤ w9.heap.size) (by kernel_rfl) ?_ (fun hHeld => ?_)
    · exact hb.size
    obtain ⟨wd1', hwd⟩ : ∃ wd1', wd1' = World.drew wz := ⟨_, rfl⟩
    have h9 : Below wz.heap.size wz wd1' := by rw [hwd]; exact below_drew (Below.refl _ _)
    rw [← hwd] at hHeld ⊢
    clear hwd
    replace q := q.ext h9
    replace hs := Sl.ext hs h9
    replace hb := hb.trans (h9.mono hb.size)
    clear h9
    refine wpAnyE_take (i := 0) (by simp only [List.getElem?_toArray]; rfl) (by kernel_rfl) (by kernel_rfl) (by kernel_rfl) (by kernel_rfl) (by kernel_rfl) (by exact fun _ _ _ h => h) (by exact yk (.slice (some ⟨b, off, none⟩) n c) (by kernel_rfl) (fun _ => by kernel_rfl)) hHeld ?_
    refine wpAnyE_take (i := 1) (v := .slice (some ⟨b, off, none⟩) 4 c) (by simp only [List.getElem?_toArray]; rfl) (by kernel_rfl) (by kernel_rfl) (by kernel_rfl) (by kernel_rfl) (by kernel_rfl) (by exact fun _ _ _ h => h) (.inl ⟨by kernel_rfl, fun ww hSw => by clear hSw; go_simp⟩) hHeld ?_
    refine wpAnyE_take (i := 4) (by simp only [List.getElem?_toArray]; rfl) (by kernel_rfl) (by kernel_rfl) (by kernel_rfl) (by kernel_rfl) (by kernel_rfl) (by exact fun _ _ _ h => h) (by exact yk (.slice (some ⟨b, off, none⟩) n c) (by kernel_rfl) (fun _ => by kernel_rfl)) hHeld ?_
    refine wpAnyE_take (i := 5) (v := .slice (some ⟨b, off + 4, none⟩) 4 (c - 4)) (by simp only [List.getElem?_toArray]; rfl) (by kernel_rfl) (by kernel_rfl) (by kernel_rfl) (by kernel_rfl) (by kernel_rfl) (by exact fun _ _ _ h => h) (.inl ⟨by kernel_rfl, fun ww hSw => by clear hSw; go_simp⟩) hHeld ?_
    refine wpAnyE_ready (rs := [2, 9]) (by kernel_rfl) (by simp) ?_
    refine EachE.cons (by rfl) (by simp only [List.getElem?_toArray]; rfl) (fun KK hKK => ?_) (EachE.cons (by rfl) (by simp only [List.getElem?_toArray]; rfl) (fun KK hKK => ?_) EachE.nil)
    ·
     rw [if_pos (by kernel_rfl)]
     refine wp_callF 54 #[.slice (some ⟨b, off, none⟩) 4 c] (by kernel_rfl) ?_
     refine (hV1 _ (bs_sub hs 0 4)).mono ?_
     rintro e wv ⟨rfl, rfl⟩
     refine ⟨_, rfl, ?_⟩
     refine hKK.out _ _ ?_ (fun hHeld => ?_)
     · exact hb.size
     clear hKK KK
     refine wpAnyE_take (i := 3) (by simp only [List.getElem?_toArray]; rfl) (by kernel_rfl) (by kernel_rfl) (by kernel_rfl) (by kernel_rfl) (by kernel_rfl) (by exact fun _ _ _ h => h) (by exact yk_cvW (by kernel_rfl) (.tmp 23) rfl (t : Int) (by kernel_rfl) hcw1) hHeld ?_
     refine wpAnyE_ready (rs := [6, 9]) (by kernel_rfl) (by simp) ?_
     refine EachE.cons (by rfl) (by simp only [List.getElem?_toArray]; rfl) (fun KK hKK => ?_) (EachE.cons (by rfl) (by simp only [List.getElem?_toArray]; rfl) (fun KK hKK => ?_) EachE.nil)
     ·
      rw [if_pos (by kernel_rfl)]
      refine wp_callF 54 #[.slice (some ⟨b, off + 4, none⟩) 4 (c - 4)] (by kernel_rfl) ?_
      refine (hV2 _ (bs_sub hs 4 4)).mono ?_
      rintro e wv ⟨rfl, rfl⟩
      refine ⟨_, rfl, ?_⟩
      refine hKK.out _ _ ?_ (fun hHeld => ?_)
      · exact hb.size
      clear hKK KK
      refine wpAnyE_take (i := 7) (by simp only [List.getElem?_toArray]; rfl) (by kernel_rfl) (by kernel_rfl) (by kernel_rfl) (by kernel_rfl) (by kernel_rfl) (by exact fun _ _ _ h => h) (by exact yk_cvW (by kernel_rfl) (.tmp 27) rfl (h : Int) (by kernel_rfl) hcw2) hHeld ?_
      refine wpAnyE_take (i := 8) (by simp only [List.getElem?_toArray]; rfl) (by kernel_rfl) (by kernel_rfl) (by kernel_rfl) (by kernel_rfl) (by kernel_rfl) (by exact fun _ _ _ h => h) (by exact yk (.agg #[.int .u32 (t : Int), .int .u32 (h : Int), .slice none 0 0, .slice none 0 0]) (by kernel_rfl) (fun _ => by kernel_rfl)) hHeld ?_
      refine wpAnyE_ready (rs := [9]) (by kernel_rfl) (by simp) ?_
      refine EachE.cons (by rfl) (by simp only [List.getElem?_toArray]; rfl) (fun KK hKK => ?_) EachE.nil
      rw [if_pos (by kernel_rfl)]
      refine wp_alE rfl ?_
      have z := BoxE.new_ wd1' 0 0 (.slice none 0 0) (.slice none 0 0)
      have h9 := below_alloc1 wd1' (.cells #[.int .u32 ((0 : Nat) : Int), .int .u32 ((0 : Nat) : Int), .slice none 0 0, .slice none 0 0] 44)
      have hKw : w.heap.size < wd1'.heap.size := q.lt
      obtain ⟨w2', e⟩ : ∃ w2', w2' = World.alloc wd1' (.cells #[.int .u32 ((0 : Nat) : Int), .int .u32 ((0 : Nat) : Int), .slice none 0 0, .slice none 0 0] 44) := ⟨_, rfl⟩
      rw [← e] at z h9 ⊢
      obtain ⟨K, hK⟩ : ∃ K, K = wd1'.heap.size := ⟨_, rfl⟩
      rw [← hK] at z hKw ⊢
      have hKq : w.heap.size ≠ K := by omega
      have hKb : b ≠ K := by omega
      replace q := q.ext h9
      replace hs := Sl.ext hs h9
      replace hb := hb.trans (h9.mono hb.size)
      clear e hK h9
      refine hKK.out _ _ ?_ (fun hHeld => ?_)
      · exact hb.size
      clear hKK KK
      try simp only [Act.put, List.setIfInBounds_toArray, List.set_cons_zero, List.set_cons_succ]
      refine wpAnyE_ready (rs := [10]) (by kernel_rfl) (by simp) ?_
      refine EachE.last (by rfl) (by simp only [List.getElem?_toArray]; rfl) (fun KK hKK => ?_)
      rw [if_pos (by kernel_rfl)]
      refine wp_stE (.tmp 4) (.tmp 29) rfl K t h none 0 0 none 0 0 (by kernel_rfl) (by kernel_rfl) z ?_
      have hm := mod_setRow w2' K #[.int .u32 (t : Int), .int .u32 (h : Int), .slice none 0 0, .slice none 0 0]
      replace z := be_row z t h (.slice none 0 0) (.slice none 0 0)
      replace q := q.mod hm hKq
      replace hs := Sl.mod hs hm hKb
      replace hb := hb.trans (hm.below hb.size (fun i hi hh => by have hh : i = K := hh; omega))
      obtain ⟨w3', e⟩ : ∃ w3', w3' = World.setRow w2' K #[.int .u32 (t : Int), .int .u32 (h : Int), .slice none 0 0, .slice none 0 0] := ⟨_, rfl⟩
      rw [← e] at z q hs hb ⊢
      clear e hm
      refine hKK.out _ _ ?_
      clear hKK KK
      refine wpAnyE_done (by kernel_rfl) ?_ _
      go_wp2_with fail
      go_meet
      exact ⟨K, _, rfl, rfl, hKw, z, q, hs, hb⟩
     ·
      rw [if_pos (by kernel_rfl)]
      refine wp_alE rfl ?_
      have z := BoxE.new_ wd1' 0 0 (.slice none 0 0) (.slice none 0 0)
      have h9 := below_alloc1 wd1' (.cells #[.int .u32 ((0 : Nat) : Int), .int .u32 ((0 : Nat) : Int), .slice none 0 0, .slice none 0 0] 44)
      have hKw : w.heap.size < wd1'.heap.size := q.lt
      obtain ⟨w4', e⟩ : ∃ w4', w4' = World.alloc wd1' (.cells #[.int .u32 ((0 : Nat) : Int), .int .u32 ((0 : Nat) : Int), .slice none 0 0, .slice none 0 0] 44) := ⟨_, rfl⟩
      rw [← e] at z h9 ⊢
      obtain ⟨K, hK⟩ : ∃ K, K = wd1'.heap.size := ⟨_, rfl⟩
      rw [← hK] at z hKw ⊢
      have hKq : w.heap.size ≠ K := by omega
      have hKb : b ≠ K := by omega
      replace q := q.ext h9
      replace hs := Sl.ext hs h9
      replace hb := hb.trans (h9.mono hb.size)
      clear e hK h9
      refine hKK.out _ _ ?_ (fun hHeld => ?_)
      · exact hb.size
      clear hKK KK
      refine wpAnyE_ready (rs := [6]) (by kernel_rfl) (by simp) ?_
      refine EachE.cons (by rfl) (by simp only [List.getElem?_toArray]; rfl) (fun KK hKK => ?_) EachE.nil
      rw [if_pos (by kernel_rfl)]
      refine wp_callF 54 #[.slice (some ⟨b, off + 4, none⟩) 4 (c - 4)] (by kernel_rfl) ?_
      refine (hV2 _ (bs_sub hs 4 4)).mono ?_
      rintro e wv ⟨rfl, rfl⟩
      refine ⟨_, rfl, ?_⟩
      refine hKK.out _ _ ?_ (fun hHeld => ?_)
      · exact hb.size
      clear hKK KK
      refine wpAnyE_take (i := 7) (by simp only [List.getElem?_toArray]; rfl) (by kernel_rfl) (by kernel_rfl) (by kernel_rfl) (by kernel_rfl) (by kernel_rfl) (by exact fun _ _ _ h => h) (by exact yk_cvW (by kernel_rfl) (.tmp 27) rfl (h : Int) (by kernel_rfl) hcw2) hHeld ?_
      refine wpAnyE_take (i := 8) (by simp only [List.getElem?_toArray]; rfl) (by kernel_rfl) (by kernel_rfl) (by kernel_rfl) (by kernel_rfl) (by kernel_rfl) (by exact fun _ _ _ h => h) (by exact yk (.agg #[.int .u32 (t : Int), .int .u32 (h : Int), .slice none 0 0, .slice none 0 0]) (by kernel_rfl) (fun _ => by kernel_rfl)) hHeld ?_
      try simp only [Act.put, List.setIfInBounds_toArray, List.set_cons_zero, List.set_cons_succ]
      refine wpAnyE_ready (rs := [10]) (by kernel_rfl) (by simp) ?_
      refine EachE.last (by rfl) (by simp only [List.getElem?_toArray]; rfl) (fun KK hKK => ?_)
      rw [if_pos (by kernel_rfl)]
      refine wp_stE (.tmp 4) (.tmp 29) rfl K t h none 0 0 none 0 0 (by kernel_rfl) (by kernel_rfl) z ?_
      have hm := mod_setRow w4' K #[.int .u32 (t : Int), .int .u32 (h : Int), .slice none 0 0, .slice none 0 0]
      replace z := be_row z t h (.slice none 0 0) (.slice none 0 0)
      replace q := q.mod hm hKq
      replace hs := Sl.mod hs hm hKb
      replace hb := hb.trans (hm.below hb.size (fun i hi hh => by have hh : i = K := hh; omega))
      obtain ⟨w5', e⟩ : ∃ w5', w5' = World.setRow w4' K #[.int .u32 (t : Int), .int .u32 (h : Int), .slice none 0 0, .slice none 0 0] := ⟨_, rfl⟩
      rw [← e] at z q hs hb ⊢
      clear e hm
      refine hKK.out _ _ ?_
      clear hKK KK
      refine wpAnyE_done (by kernel_rfl) ?_ _
      go_wp2_with fail
      go_meet
      exact ⟨K, _, rfl, rfl, hKw, z, q, hs, hb⟩
    ·
     rw [if_pos (by kernel_rfl)]
     refine wp_alE rfl ?_
     have z := BoxE.new_ wd1' 0 0 (.slice none 0 0) (.slice none 0 0)
     have h9 := below_alloc1 wd1' (.cells #[.int .u32 ((0 : Nat) : Int), .int .u32 ((0 : Nat) : Int), .slice none 0 0, .slice none 0 0] 44)
     have hKw : w.heap.size < wd1'.heap.size := q.lt
     obtain ⟨w6', e⟩ : ∃ w6', w6' = World.alloc wd1' (.cells #[.int .u32 ((0 : Nat) : Int), .int .u32 ((0 : Nat) : Int), .slice none 0 0, .slice none 0 0] 44) := ⟨_, rfl⟩
     rw [← e] at z h9 ⊢
     obtain ⟨K, hK⟩ : ∃ K, K = wd1'.heap.size := ⟨_, rfl⟩
     rw [← hK] at z hKw ⊢
     have hKq : w.heap.size ≠ K := by omega
     have hKb : b ≠ K := by omega
     replace q := q.ext h9
     replace hs := Sl.ext hs h9
     replace hb := hb.trans (h9.mono hb.size)
     clear e hK h9
     refine hKK.out _ _ ?_ (fun hHeld => ?_)
     · exact hb.size
     clear hKK KK
     refine wpAnyE_ready (rs := [2]) (by kernel_rfl) (by simp) ?_
     refine EachE.cons (by rfl) (by simp only [List.getElem?_toArray]; rfl) (fun KK hKK => ?_) EachE.nil
     rw [if_pos (by kernel_rfl)]
     refine wp_callF 54 #[.slice (some ⟨b, off, none⟩) 4 c] (by kernel_rfl) ?_
     refine (hV1 _ (bs_sub hs 0 4)).mono ?_
     rintro e wv ⟨rfl, rfl⟩
     refine ⟨_, rfl, ?_⟩
     refine hKK.out _ _ ?_ (fun hHeld => ?_)
     · exact hb.size
     clear hKK KK
     refine wpAnyE_take (i := 3) (by simp only [List.getElem?_toArray]; rfl) (by kernel_rfl) (by kernel_rfl) (by kernel_rfl) (by kernel_rfl) (by kernel_rfl) (by exact fun _ _ _ h => h) (by exact yk_cvW (by kernel_rfl) (.tmp 23) rfl (t : Int) (by kernel_rfl) hcw1) hHeld ?_
     refine wpAnyE_ready (rs := [6]) (by kernel_rfl) (by simp) ?_
     refine EachE.cons (by rfl) (by simp only [List.getElem?_toArray]; rfl) (fun KK hKK => ?_) EachE.nil
     rw [if_pos (by kernel_rfl)]
     refine wp_callF 54 #[.slice (some ⟨b, off + 4, none⟩) 4 (c - 4)] (by kernel_rfl) ?_
     refine (hV2 _ (bs_sub hs 4 4)).mono ?_
     rintro e wv ⟨rfl, rfl⟩
     refine ⟨_, rfl, ?_⟩
     refine hKK.out _ _ ?_ (fun hHeld => ?_)
     · exact hb.size
     clear hKK KK
     refine wpAnyE_take (i := 7) (by simp only [List.getElem?_toArray]; rfl) (by kernel_rfl) (by kernel_rfl) (by kernel_rfl) (by kernel_rfl) (by kernel_rfl) (by exact fun _ _ _ h => h) (by exact yk_cvW (by kernel_rfl) (.tmp 27) rfl (h : Int) (by kernel_rfl) hcw2) hHeld ?_
     refine wpAnyE_take (i := 8) (by simp only [List.getElem?_toArray]; rfl) (by kernel_rfl) (by kernel_rfl) (by kernel_rfl) (by kernel_rfl) (by kernel_rfl) (by exact fun _ _ _ h => h) (by exact yk (.agg #[.int .u32 (t : Int), .int .u32 (h : Int), .slice none 0 0, .slice none 0 0]) (by kernel_rfl) (fun _ => by kernel_rfl)) hHeld ?_
     try simp only [Act.put, List.setIfInBounds_toArray, List.set_cons_zero, List.set_cons_succ]
     refine wpAnyE_ready (rs := [10]) (by kernel_rfl) (by simp) ?_
     refine EachE.last (by rfl) (by simp only [List.getElem?_toArray]; rfl) (fun KK hKK => ?_)
     rw [if_pos (by kernel_rfl)]
     refine wp_stE (.tmp 4) (.tmp 29) rfl K t h none 0 0 none 0 0 (by kernel_rfl) (by kernel_rfl) z ?_
     have hm := mod_setRow w6' K #[.int .u32 (t : Int), .int .u32 (h : Int), .slice none 0 0, .slice none 0 0]
     replace z := be_row z t h (.slice none 0 0) (.slice none 0 0)
     replace q := q.mod hm hKq
     replace hs := Sl.mod hs hm hKb
     replace hb := hb.trans (hm.below hb.size (fun i hi hh => by have hh : i = K := hh; omega))
     obtain ⟨w7', e⟩ : ∃ w7', w7' = World.setRow w6' K #[.int .u32 (t : Int), .int .u32 (h : Int), .slice none 0 0, .slice none 0 0] := ⟨_, rfl⟩
     rw [← e] at z q hs hb ⊢
     clear e hm
     refine hKK.out _ _ ?_
     clear hKK KK
     refine wpAnyE_done (by kernel_rfl) ?_ _
     go_wp2_with fail
     go_meet
     exact ⟨K, _, rfl, rfl, hKw, z, q, hs, hb⟩
  case rest =>
    obtain ⟨K, wy, rfl, rfl, hKw, z, q, hs, hb⟩ := hcut
    clear hV1 hV2
    have hKl := z.lt
    obtain ⟨wB, hwB⟩ : ∃ wB, wB = wy.heap.size := ⟨_, rfl⟩
    have hzB : wB ≤ wy.heap.size := by omega
    have f : FR w K wB t h b (some ⟨b, off + 9, none⟩) (p.drop 9) wy (.slice none 0 0) (.slice none 0 0) (.slice none 0 0) [] (.slice none 0 0) [] := ⟨z, bs_drop hs 9, Row.nil_ _ _, RowC.nil_ _ _ _, q, hb, hzB, ⟨by omega, by omega, by omega⟩⟩
    clear z q hs hb hzB hKl hwB
    by_cases h9c : c = 9
    · have hn9 : n = 9 := by omega
      subst h9c hn9
      obtain rfl : N = 0 := by have := HON.out; omega
      obtain ⟨R, hRk⟩ : ∃ R, R = rowsD (p.drop 9) false 0 := ⟨_, rfl⟩
      have hR0 : R = ⟨[], [], p.drop 9, false⟩ := hRk
      have hps0 : ([] : List UInt8) = R.ps := by rw [hR0]
      have hcs0 : ([] : List (Int × Nat)) = R.cs := by rw [hR0]
      rw [hps0, hcs0] at f
      have HL : Hid (R.ps.length = 0 ∧ R.cs.length = 0) := Lib.hid (by rw [hR0]; exact ⟨rfl, rfl⟩)
      clear hR0 hps0 hcs0
      obtain ⟨vp, vc, f⟩ : ∃ vp vc, FR w K wB t h b (some ⟨b, off + 9, none⟩) (p.drop 9) wy vp vc vp R.ps vc R.cs := ⟨_, _, f⟩
      go_wp2_with fail
      go_loopw [5] (fun v5 wr => v5 = .slice (some ⟨b, off, none⟩) 0 0 ∧ wr = wy) (fun _ _ => 0)
      case atStart => exact ⟨rfl, rfl⟩
      case round =>
        obtain ⟨rfl, rfl⟩ := hrel
        obtain ⟨zb, hzb⟩ : ∃ z, z = rightB R.ps R.cs.length := ⟨_, rfl⟩
        have HZ : Hid ((gotD p).ok = zb) := Lib.hid (by rw [HOK.out, HG.out, hzb, rightB, HL.out.1, HL.out.2, ← hRk]; simp)
        have HG2 : Hid ((gotD p).t = t ∧ (gotD p).h = h ∧ (gotD p).g.ps = R.ps ∧ (gotD p).g.cs = R.cs) := Lib.hid (by rw [HG.out, hRk]; exact ⟨rfl, rfl, rfl, rfl⟩)
        obtain ⟨Pp, cp, bp, hv7, -, -, -, -, hsp, -⟩ := Row.sl f.rp
        obtain ⟨Pc, cc, bc, hv8, -, -, -, -, hsc, -⟩ := RowC.sl f.rc
        obtain ⟨N7, hN7⟩ : ∃ N7, N7 = R.ps.length := ⟨_, rfl⟩
        obtain ⟨N8, hN8⟩ : ∃ N8, N8 = R.cs.length := ⟨_, rfl⟩
        rw [← hN7] at hv7
        rw [← hN8] at hv8 hzb
        subst hv7 hv8
        have hRi := fun W hh => Right_any t h Pp R.ps N7 cp bp Pc N8 cc W hh hN7.symm (by have := HL.out.1; omega)
        rw [← hzb] at hRi
        clear hzb hRk hN7 hN8 hsc
        obtain ⟨b0, b1, b2, b3⟩ := And.intro f.z.c0 (And.intro f.z.c1 (And.intro f.z.c2 f.z.c3))
        have ej : decide ((0 : Int) > 0) = false := by decide
        go_wp2_with fail
        refine (hRi _ hsp).mono ?_
        rintro e w16 ⟨rfl, h1⟩
        replace f := f.ext h1
        clear b0 b1 b2 b3 h1
        obtain ⟨a0, a1, a2, a3⟩ := And.intro f.q.c0 (And.intro f.q.c1 (And.intro f.q.c2 f.q.c3))
        obtain ⟨f0, f1, f2, f3⟩ := And.intro (f.q.fr 0) (And.intro (f.q.fr 1) (And.intro (f.q.fr 2) (f.q.fr 3)))
        obtain ⟨b0, b1, b2, b3⟩ := And.intro f.z.c0 (And.intro f.z.c1 (And.intro f.z.c2 f.z.c3))
        cases zb with
        | false =>
          have hq4 := four_setE w16 w.heap.size (.int .u32 0) (.int .u32 0) (.slice none 0 0) (.slice none 0 0) f.q
          have hm4 := mod_set4 w16 w.heap.size (.int .u32 0) (.int .u32 0) (.slice none 0 0) (.slice none 0 0)
          go_wp2_with fail
          have hr := HR.out
          rw [HZ.out] at hr
          simp only [Bool.false_eq_true, if_false, Prod.mk.injEq] at hr
          obtain ⟨rfl, rfl, rfl, rfl, rfl⟩ := hr
          refine bodyPost_ret (results_ct (P := Try.prog) rfl _ _ w.heap.size _ _ (0, 0) _ rfl hq4 Try.underlying44 rfl (by kernel_rfl)) rfl ⟨_, _, rfl, Row.nil_ _ _, RowC.nil_ _ _ _, ?_⟩
          exact f.bl.trans (hm4.below f.bl.size (fun i hi hh => by have hh : i = w.heap.size := hh; omega))
        | true =>
          have hq4 := four_setE w16 w.heap.size (.int .u32 (t : Int)) (.int .u32 (h : Int)) (.slice Pp N7 cp) (.slice Pc N8 cc) f.q
          have hm4 := mod_set4 w16 w.heap.size (.int .u32 (t : Int)) (.int .u32 (h : Int)) (.slice Pp N7 cp) (.slice Pc N8 cc)
          have HF := Lib.hid f
          have HM := Lib.hid hm4
          clear f hm4
          go_wp2_with fail
          have hr := HR.out
          rw [HZ.out, HG2.out.1, HG2.out.2.1, HG2.out.2.2.1, HG2.out.2.2.2] at hr
          simp only [if_true, Prod.mk.injEq] at hr
          obtain ⟨rfl, rfl, rfl, rfl, rfl⟩ := hr
          refine bodyPost_ret (results_ct (P := Try.prog) rfl _ _ w.heap.size _ _ (0, 0) _ rfl hq4 Try.underlying44 rfl (by kernel_rfl)) rfl ⟨_, _, rfl, ?_, ?_, ?_⟩
          · exact owns_low (Row.mod HF.out.rp HM.out (fun i hi hh => by have := (World.ownsRow.lt HF.out.rp i hi).1; have := HF.out.n; have hh : i = w.heap.size := hh; omega)) (by have := HF.out.n; omega)
          · exact owns_low (RowC.mod HF.out.rc HM.out (fun i hi hh => by have := (World.ownsRow.lt HF.out.rc i hi).1; have := HF.out.n; have hh : i = w.heap.size := hh; omega)) (by have := HF.out.n; omega)
          · exact HF.out.bl.trans (HM.out.below HF.out.bl.size (fun i hi hh => by have hh : i = w.heap.size := hh; omega))
    · have hm0 : ((p.drop 9).length : Int) = (n : Int) - 9 := by rw [List.length_drop, HPN.out]; omega
      go_wp2_with fail
      go_loopw [5] (fun v5 wr => ∃ (k m c5 : Nat) (A5 : Option Addr) (vp vc : Value), k ≤ N ∧ v5 = .slice A5 m c5 ∧ m = 9 * (N - k) ∧ m ≤ c5 ∧ FR w K wB t h b A5 (rowsD (p.drop 9) false k).l wr vp vc vp (rowsD (p.drop 9) false k).ps vc (rowsD (p.drop 9) false k).cs) (fun v5 _ => (match v5 with | .slice _ m _ => m | _ => 0))
      case atStart => exact ⟨0, n - 9, c - 9, _, _, _, Nat.zero_le _, rfl, by have := HON.out; omega, by omega, f⟩
      case round =>
        clear f hm0
        obtain ⟨k, m, c5, A5, vp, vc, hk, rfl, hm, hmc, f⟩ := hrel
        have HL := Lib.hid (rowsD_len (p.drop 9) false k)
        have HLK := Lib.hid (HLO.out k hk)
        by_cases hlt : k < N
        · have HS : Hid (rowsD (p.drop 9) false (k + 1) = rowD (rowsD (p.drop 9) false k)) := Lib.hid rfl
          obtain ⟨R, hRk⟩ : ∃ R, R = rowsD (p.drop 9) false k := ⟨_, rfl⟩
          rw [← hRk] at f HS HL HLK
          clear hRk
          have hRl : R.l.length = m := by rw [HLK.out.1, List.length_drop, List.length_drop, HPN.out]; have := HON.out; omega
          have hm9 : 9 ≤ m := by omega
          have HD := Lib.hid (rowD_long (r := R) HLK.out.2 (by omega))
          obtain ⟨off5, rfl, -⟩ := Bs.at_ f.s (k := 0) (by omega)
          have hB0 := bs_at f.s (k := 0) (by omega)
          obtain ⟨x0, hx0⟩ : ∃ x0, x0 = R.l[0]'(by omega) := ⟨_, rfl⟩
          rw [← hx0] at hB0 HD
          obtain ⟨n0, hn0⟩ : ∃ n0, n0 = x0.toNat := ⟨_, rfl⟩
          have hn08 : n0 < 256 := by rw [hn0]; exact x0.toNat_lt
          have HX0 : Hid (UInt8.ofNat n0 = x0) := Lib.hid (by rw [hn0]; simp)
          obtain ⟨n1, hn1⟩ : ∃ n1, n1 = valN ((R.l.drop 1).take 4) := ⟨_, rfl⟩
          obtain ⟨n2, hn2⟩ : ∃ n2, n2 = valN ((R.l.drop 5).take 4) := ⟨_, rfl⟩
          have hn1l : n1 < 4294967296 := by
            have := valN_lt ((R.l.drop 1).take 4)
            rwa [← hn1, List.length_take, List.length_drop, Nat.min_eq_left (by omega)] at this
          have hn2l : n2 < 4294967296 := by
            have := valN_lt ((R.l.drop 5).take 4)
            rwa [← hn2, List.length_take, List.length_drop, Nat.min_eq_left (by omega)] at this
          rw [← hn1, ← hn2] at HD
          have hV1 := fun W hs' => Value_calls (some ⟨b, off5 + 1, none⟩) ((R.l.drop 1).take 4) 4 (c5 - 1) b W hs' (by rw [List.length_take, List.length_drop]; omega) (by omega)
          have hV2 := fun W hs' => Value_calls (some ⟨b, off5 + 5, none⟩) ((R.l.drop 5).take 4) 4 (c5 - 5) b W hs' (by rw [List.length_take, List.length_drop]; omega) (by omega)
          rw [← hn1] at hV1
          rw [← hn2] at hV2
          have hcx1 : IntKind.u32.wrap (n1 : Int) = (n1 : Int) := IntWalk.u32_in _ (by omega)
          have hcx2 : IntKind.u32.wrap (n2 : Int) = (n2 : Int) := IntWalk.u32_in _ (by omega)
          have ej : decide ((m : Int) > 0) = true := by simp; omega
          have ej2 : (0 : Int) < (m : Int) := by omega
          have d5 : (5 : Int) ≤ (c5 : Int) := by omega
          have d9 : (9 : Int) ≤ (c5 : Int) := by omega
          have d9m : (9 : Int) ≤ (m : Int) := by omega
          have dn1 : ¬ c5 = 1 := by omega
          have dn5 : ¬ c5 = 5 := by omega
          have HX := Lib.hid hx0
          have HN0 := Lib.hid hn0
          clear hx0 hn0 hn1 hn2
          go_upto_region 7 with fail
          skip -- LOOK7
          clear ej
          go_wp2_with fail
          refine wp_region_E (fun j => j == 8) (fun w9 => BoxE w9 K t h vp vc ∧ Bs w9 b (some ⟨b, off5, none⟩) R.l) (by kernel_rfl) ?_ (fun hHeld => ?_)
          · exact (by first | exact ⟨f.z, f.s⟩ | exact ⟨f.z.ext (below_drew (Below.refl _ _)), Sl.ext f.s (below_drew (Below.refl _ _))⟩)
          obtain ⟨wd8', hwd⟩ : ∃ wd8', wd8' = World.drew wr := ⟨_, rfl⟩
          have h9 : Below wr.heap.size wr wd8' := by rw [hwd]; exact below_drew (Below.refl _ _)
          rw [← hwd] at hHeld ⊢
          clear hwd
          replace f := f.ext h9
          clear h9
          refine wpAnyE_take (i := 0) (by simp only [List.getElem?_toArray]; rfl) (by kernel_rfl) (by kernel_rfl) (by kernel_rfl) (by kernel_rfl) (by kernel_rfl) (by exact fun _ _ _ h => h) (by exact yk (.pointer (some ⟨K, 2, none⟩)) (by kernel_rfl) (fun _ => by kernel_rfl)) hHeld ?_
          refine wpAnyE_take (i := 1) (by simp only [List.getElem?_toArray]; rfl) (by kernel_rfl) (by kernel_rfl) (by kernel_rfl) (by kernel_rfl) (by kernel_rfl) (by exact fun _ _ _ h => h) (by exact yk_ldP (by kernel_rfl) (.tmp 37) rfl ⟨K, 2, none⟩ vp (by kernel_rfl) (fun w hh => hh.1.c2)) hHeld ?_
          refine wpAnyE_take (i := 2) (by simp only [List.getElem?_toArray]; rfl) (by kernel_rfl) (by kernel_rfl) (by kernel_rfl) (by kernel_rfl) (by kernel_rfl) (by exact fun _ _ _ h => h) (by exact yk (.slice (some ⟨b, off5, none⟩) m c5) (by kernel_rfl) (fun _ => by kernel_rfl)) hHeld ?_
          refine wpAnyE_take (i := 3) (v := .pointer (some ⟨b, off5, none⟩)) (by simp only [List.getElem?_toArray]; rfl) (by kernel_rfl) (by kernel_rfl) (by kernel_rfl) (by kernel_rfl) (by kernel_rfl) (by exact fun _ _ _ h => h) (.inl ⟨by kernel_rfl, fun ww hSw => by clear hSw; go_simp⟩) hHeld ?_
          refine wpAnyE_take (i := 4) (by simp only [List.getElem?_toArray]; rfl) (by kernel_rfl) (by kernel_rfl) (by kernel_rfl) (by kernel_rfl) (by kernel_rfl) (by exact fun _ _ _ h => h) (by exact yk_ldU (by kernel_rfl) (.tmp 40) rfl ⟨b, off5, none⟩ (n0 : Int) (by kernel_rfl) (fun w hh => (bs_at hh.2 (k := 0) (by omega)).trans (by rw [HN0.out, HX.out]))) hHeld ?_
          refine wpAnyE_ready (rs := [5]) (by kernel_rfl) (by simp) ?_
          refine EachE.cons (by rfl) (by simp only [List.getElem?_toArray]; rfl) (fun KK hKK => ?_) EachE.nil
          rw [if_pos (by kernel_rfl)]
          refine wp_bsB (.tmp 41) rfl (n0 : Int) (by kernel_rfl) ?_
          have k1 := one_new wd8' hn08
          have h9 := below_alloc1 wd8' (.cells #[.int .u8 (n0 : Int)] 5)
          obtain ⟨w9', e⟩ : ∃ w9', w9' = World.alloc wd8' (.cells #[.int .u8 (n0 : Int)] 5) := ⟨_, rfl⟩
          rw [← e] at k1 h9 ⊢
          obtain ⟨b1, hb1⟩ : ∃ b1, b1 = wd8'.heap.size := ⟨_, rfl⟩
          rw [← hb1] at k1 ⊢
          replace f := f.ext h9
          clear e h9 hb1
          refine hKK.out _ _ ?_ (fun hHeld => ?_)
          · exact (by first | exact ⟨f.z, f.s⟩ | exact ⟨f.z.ext (below_drew (Below.refl _ _)), Sl.ext f.s (below_drew (Below.refl _ _))⟩)
          clear hKK KK
          refine wpAnyE_ready (rs := [6]) (by kernel_rfl) (by simp) ?_
          refine EachE.cons (by rfl) (by simp only [List.getElem?_toArray]; rfl) (fun KK hKK => ?_) EachE.nil
          rw [if_pos (by kernel_rfl)]
          refine wp_appB (.tmp 38) (.tmp 42) rfl wB vp _ (by kernel_rfl) f.rp b1 (some ⟨b1, 0, none⟩) 1 1 [UInt8.ofNat n0] (by kernel_rfl) k1 rfl (by have := HL.out.1; omega) f.zB ?_
          intro v7 w10' rp' hm
          obtain ⟨A7, c7, b7, hv7, -⟩ := Row.sl rp'
          obtain ⟨N7, hN7⟩ : ∃ N7, (R.ps ++ [UInt8.ofNat n0]).length = N7 := ⟨_, rfl⟩
          rw [hN7] at hv7
          subst hv7
          replace f := f.app1 rp' hm
          clear k1 hm rp' hN7
          refine hKK.out _ _ ?_ (fun hHeld => ?_)
          · exact (by first | exact ⟨f.z, f.s⟩ | exact ⟨f.z.ext (below_drew (Below.refl _ _)), Sl.ext f.s (below_drew (Below.refl _ _))⟩)
          clear hKK KK
          refine wpAnyE_take (i := 7) (by simp only [List.getElem?_toArray]; rfl) (by kernel_rfl) (by kernel_rfl) (by kernel_rfl) (by kernel_rfl) (by kernel_rfl) (by exact fun _ _ _ h => h) (by exact yk (.pointer (some ⟨K, 2, none⟩)) (by kernel_rfl) (fun _ => by kernel_rfl)) hHeld ?_
          try simp only [Act.put, List.setIfInBounds_toArray, List.set_cons_zero, List.set_cons_succ]
          refine wpAnyE_ready (rs := [8]) (by kernel_rfl) (by simp) ?_
          refine EachE.last (by rfl) (by simp only [List.getElem?_toArray]; rfl) (fun KK hKK => ?_)
          rw [if_pos (by kernel_rfl)]
          refine wp_stP (.tmp 44) (.tmp 43) rfl ⟨K, 2, none⟩ A7 N7 c7 (by kernel_rfl) (by kernel_rfl) _ f.z.c2 (f.z.fr 2) ?_
          replace f := f.stow (f.z.set2 (.slice A7 N7 c7)) (Mod.setCell w10' ⟨K, 2, none⟩ (.slice A7 N7 c7))
          obtain ⟨w11', e⟩ : ∃ w11', w11' = World.setCell w10' ⟨K, 2, none⟩ (.slice A7 N7 c7) := ⟨_, rfl⟩
          rw [← e] at f ⊢
          clear e
          refine hKK.out _ _ ?_
          clear hKK KK
          refine wpAnyE_done (by kernel_rfl) ?_ _
          clear hB0
          go_wp2_with fail
          refine wp_region_E (fun j => j == 14 || j == 15) (fun w9 => BoxE w9 K t h (.slice A7 N7 c7) vc) (by kernel_rfl) ?_ (fun hHeld => ?_)
          · exact (by first | exact f.z | exact f.z.ext (below_drew (Below.refl _ _)))
          obtain ⟨wd12', hwd⟩ : ∃ wd12', wd12' = World.drew w11' := ⟨_, rfl⟩
          have h9 : Below w11'.heap.size w11' wd12' := by rw [hwd]; exact below_drew (Below.refl _ _)
          rw [← hwd] at hHeld ⊢
          clear hwd
          replace f := f.ext h9
          clear h9
          refine wpAnyE_take (i := 0) (by simp only [List.getElem?_toArray]; rfl) (by kernel_rfl) (by kernel_rfl) (by kernel_rfl) (by kernel_rfl) (by kernel_rfl) (by exact fun _ _ _ h => h) (by exact yk (.pointer (some ⟨K, 3, none⟩)) (by kernel_rfl) (fun _ => by kernel_rfl)) hHeld ?_
          refine wpAnyE_take (i := 1) (by simp only [List.getElem?_toArray]; rfl) (by kernel_rfl) (by kernel_rfl) (by kernel_rfl) (by kernel_rfl) (by kernel_rfl) (by exact fun _ _ _ h => h) (by exact yk_ldCs (by kernel_rfl) (.tmp 45) rfl ⟨K, 3, none⟩ vc (by kernel_rfl) (fun w hh => hh.c3)) hHeld ?_
          refine wpAnyE_take (i := 2) (by simp only [List.getElem?_toArray]; rfl) (by kernel_rfl) (by kernel_rfl) (by kernel_rfl) (by kernel_rfl) (by kernel_rfl) (by exact fun _ _ _ h => h) (by exact yk (.slice (some ⟨b, off5, none⟩) m c5) (by kernel_rfl) (fun _ => by kernel_rfl)) hHeld ?_
          refine wpAnyE_take (i := 3) (v := .slice (some ⟨b, off5 + 1, none⟩) 4 (c5 - 1)) (by simp only [List.getElem?_toArray]; rfl) (by kernel_rfl) (by kernel_rfl) (by kernel_rfl) (by kernel_rfl) (by kernel_rfl) (by exact fun _ _ _ h => h) (.inl ⟨by kernel_rfl, fun ww hSw => by clear hSw; go_simp⟩) hHeld ?_
          refine wpAnyE_take (i := 7) (by simp only [List.getElem?_toArray]; rfl) (by kernel_rfl) (by kernel_rfl) (by kernel_rfl) (by kernel_rfl) (by kernel_rfl) (by exact fun _ _ _ h => h) (by exact yk (.slice (some ⟨b, off5, none⟩) m c5) (by kernel_rfl) (fun _ => by kernel_rfl)) hHeld ?_
          refine wpAnyE_take (i := 8) (v := .slice (some ⟨b, off5 + 5, none⟩) 4 (c5 - 5)) (by simp only [List.getElem?_toArray]; rfl) (by kernel_rfl) (by kernel_rfl) (by kernel_rfl) (by kernel_rfl) (by kernel_rfl) (by exact fun _ _ _ h => h) (.inl ⟨by kernel_rfl, fun ww hSw => by clear hSw; go_simp⟩) hHeld ?_
          refine wpAnyE_ready (rs := [4]) (by kernel_rfl) (by simp) ?_
          refine EachE.cons (by rfl) (by simp only [List.getElem?_toArray]; rfl) (fun KK hKK => ?_) EachE.nil
          rw [if_pos (by kernel_rfl)]
          refine wp_callF 54 #[.slice (some ⟨b, off5 + 1, none⟩) 4 (c5 - 1)] (by kernel_rfl) ?_
          refine (hV1 _ (bs_sub f.s 1 4)).mono ?_
          rintro e wv ⟨rfl, rfl⟩
          refine ⟨_, rfl, ?_⟩
          refine hKK.out _ _ ?_ (fun hHeld => ?_)
          · exact (by first | exact f.z | exact f.z.ext (below_drew (Below.refl _ _)))
          clear hKK KK
          refine wpAnyE_take (i := 5) (by simp only [List.getElem?_toArray]; rfl) (by kernel_rfl) (by kernel_rfl) (by kernel_rfl) (by kernel_rfl) (by kernel_rfl) (by exact fun _ _ _ h => h) (by exact yk_cvW (by kernel_rfl) (.tmp 49) rfl (n1 : Int) (by kernel_rfl) hcx1) hHeld ?_
          refine wpAnyE_take (i := 6) (by simp only [List.getElem?_toArray]; rfl) (by kernel_rfl) (by kernel_rfl) (by kernel_rfl) (by kernel_rfl) (by kernel_rfl) (by exact fun _ _ _ h => h) (by exact yk (.int .i32 (IntKind.i32.wrap (n1 : Int))) (by kernel_rfl) (fun _ => by kernel_rfl)) hHeld ?_
          refine wpAnyE_ready (rs := [9]) (by kernel_rfl) (by simp) ?_
          refine EachE.cons (by rfl) (by simp only [List.getElem?_toArray]; rfl) (fun KK hKK => ?_) EachE.nil
          rw [if_pos (by kernel_rfl)]
          refine wp_callF 54 #[.slice (some ⟨b, off5 + 5, none⟩) 4 (c5 - 5)] (by kernel_rfl) ?_
          refine (hV2 _ (bs_sub f.s 5 4)).mono ?_
          rintro e wv ⟨rfl, rfl⟩
          refine ⟨_, rfl, ?_⟩
          refine hKK.out _ _ ?_ (fun hHeld => ?_)
          · exact (by first | exact f.z | exact f.z.ext (below_drew (Below.refl _ _)))
          clear hKK KK
          refine wpAnyE_take (i := 10) (by simp only [List.getElem?_toArray]; rfl) (by kernel_rfl) (by kernel_rfl) (by kernel_rfl) (by kernel_rfl) (by kernel_rfl) (by exact fun _ _ _ h => h) (by exact yk_cvW (by kernel_rfl) (.tmp 54) rfl (n2 : Int) (by kernel_rfl) hcx2) hHeld ?_
          refine wpAnyE_take (i := 11) (by simp only [List.getElem?_toArray]; rfl) (by kernel_rfl) (by kernel_rfl) (by kernel_rfl) (by kernel_rfl) (by kernel_rfl) (by exact fun _ _ _ h => h) (by exact yk (.agg #[.int .i32 (IntKind.i32.wrap (n1 : Int)), .int .u32 (n2 : Int)]) (by kernel_rfl) (fun _ => by kernel_rfl)) hHeld ?_
          refine wpAnyE_ready (rs := [12]) (by kernel_rfl) (by simp) ?_
          refine EachE.cons (by rfl) (by simp only [List.getElem?_toArray]; rfl) (fun KK hKK => ?_) EachE.nil
          rw [if_pos (by kernel_rfl)]
          refine wp_bsRC (.tmp 56) rfl (IntKind.i32.wrap (n1 : Int)) n2 (by kernel_rfl) ?_
          have k1 := Sl.cell_new wd12' (IntKind.i32.wrap (n1 : Int), n2) 83
          simp only at k1
          have h9 := below_alloc1 wd12' (.cells #[.int .i32 (IntKind.i32.wrap (n1 : Int)), .int .u32 (n2 : Int)] 83)
          obtain ⟨w13', e⟩ : ∃ w13', w13' = World.alloc wd12' (.cells #[.int .i32 (IntKind.i32.wrap (n1 : Int)), .int .u32 (n2 : Int)] 83) := ⟨_, rfl⟩
          rw [← e] at k1 h9 ⊢
          obtain ⟨b1, hb1⟩ : ∃ b1, b1 = wd12'.heap.size := ⟨_, rfl⟩
          rw [← hb1] at k1 ⊢
          replace f := f.ext h9
          clear e h9 hb1
          refine hKK.out _ _ ?_ (fun hHeld => ?_)
          · exact (by first | exact f.z | exact f.z.ext (below_drew (Below.refl _ _)))
          clear hKK KK
          refine wpAnyE_ready (rs := [13]) (by kernel_rfl) (by simp) ?_
          refine EachE.cons (by rfl) (by simp only [List.getElem?_toArray]; rfl) (fun KK hKK => ?_) EachE.nil
          rw [if_pos (by kernel_rfl)]
          refine wp_appRC (.tmp 46) (.tmp 57) rfl wB vc _ (by kernel_rfl) f.rc b1 (some ⟨b1, 0, none⟩) 1 1 [(IntKind.i32.wrap (n1 : Int), n2)] (by kernel_rfl) k1 rfl (by have := HL.out.2; omega) f.zB ?_
          intro v8 w14' rc' hm
          obtain ⟨A8, c8, b8, hv8, -⟩ := RowC.sl rc'
          obtain ⟨N8, hN8⟩ : ∃ N8, (R.cs ++ [(IntKind.i32.wrap (n1 : Int), n2)]).length = N8 := ⟨_, rfl⟩
          rw [hN8] at hv8
          subst hv8
          replace f := f.app2 rc' hm
          clear k1 hm rc' hN8
          refine hKK.out _ _ ?_ (fun hHeld => ?_)
          · exact (by first | exact f.z | exact f.z.ext (below_drew (Below.refl _ _)))
          clear hKK KK
          try simp only [Act.put, List.setIfInBounds_toArray, List.set_cons_zero, List.set_cons_succ]
          refine wpAnyE_ready (rs := [14]) (by kernel_rfl) (by simp) ?_
          refine EachE.last (by rfl) (by simp only [List.getElem?_toArray]; rfl) (fun KK hKK => ?_)
          rw [if_pos (by kernel_rfl)]
          refine wp_pure (.pointer (some ⟨K, 3, none⟩)) (fun _ => by kernel_rfl) ?_
          refine hKK.out _ _ ?_
          clear hKK KK
          try simp only [Act.put]
          refine wpAnyE_ready (rs := [15]) (by kernel_rfl) (by simp) ?_
          refine EachE.last (by rfl) (by simp only [List.getElem?_toArray]; rfl) (fun KK hKK => ?_)
          rw [if_pos (by kernel_rfl)]
          refine wp_stCs (.tmp 59) (.tmp 58) rfl ⟨K, 3, none⟩ A8 N8 c8 (by kernel_rfl) (by kernel_rfl) _ f.z.c3 (f.z.fr 3) ?_
          replace f := f.stow (f.z.set3 (.slice A8 N8 c8)) (Mod.setCell w14' ⟨K, 3, none⟩ (.slice A8 N8 c8))
          obtain ⟨w15', e⟩ : ∃ w15', w15' = World.setCell w14' ⟨K, 3, none⟩ (.slice A8 N8 c8) := ⟨_, rfl⟩
          rw [← e] at f ⊢
          clear e
          refine hKK.out _ _ ?_
          clear hKK KK
          refine wpAnyE_done (by kernel_rfl) ?_ _
          have hs9 : Bs w15' b (if c5 = 9 then some ⟨b, off5, none⟩ else some ⟨b, off5 + 9, none⟩) (R.l.drop 9) := by
            by_cases h1 : c5 = 9
            · have hdr := Sl.drop f.s (k := 9) (cap := c5) (by simp; omega)
              rw [bv_drop, if_pos h1] at hdr
              rw [if_pos h1]
              exact hdr
            · rw [if_neg h1]
              exact bs_drop f.s 9
          have HF := Lib.hid (f.on hs9)
          clear f hs9
          go_wp2_with fail
          go_roundw
          case rel => exact ⟨k + 1, _, _, _, _, _, by omega, rfl, by omega, by omega, by rw [HS.out, HD.out, ← HX0.out]; exact HF.out⟩
          case measure => simp; omega
        · obtain rfl : k = N := by omega
          obtain rfl : m = 0 := by omega
          clear hm hk hmc hlt
          obtain ⟨R, hRk⟩ : ∃ R, R = rowsD (p.drop 9) false k := ⟨_, rfl⟩
          rw [← hRk] at f HL
          obtain ⟨zb, hzb⟩ : ∃ z, z = rightB R.ps R.cs.length := ⟨_, rfl⟩
          have HZ : Hid ((gotD p).ok = zb) := Lib.hid (by rw [HOK.out, HG.out, hzb, rightB, HL.out.1, HL.out.2, ← hRk]; simp)
          have HG2 : Hid ((gotD p).t = t ∧ (gotD p).h = h ∧ (gotD p).g.ps = R.ps ∧ (gotD p).g.cs = R.cs) := Lib.hid (by rw [HG.out, hRk]; exact ⟨rfl, rfl, rfl, rfl⟩)
          obtain ⟨Pp, cp, bp, hv7, -, -, -, -, hsp, -⟩ := Row.sl f.rp
          obtain ⟨Pc, cc, bc, hv8, -, -, -, -, hsc, -⟩ := RowC.sl f.rc
          obtain ⟨N7, hN7⟩ : ∃ N7, N7 = R.ps.length := ⟨_, rfl⟩
          obtain ⟨N8, hN8⟩ : ∃ N8, N8 = R.cs.length := ⟨_, rfl⟩
          rw [← hN7] at hv7
          rw [← hN8] at hv8 hzb
          subst hv7 hv8
          have hRi := fun W hh => Right_any t h Pp R.ps N7 cp bp Pc N8 cc W hh hN7.symm (by have := HL.out.1; omega)
          rw [← hzb] at hRi
          clear hzb hRk hN7 hN8 hsc
          obtain ⟨b0, b1, b2, b3⟩ := And.intro f.z.c0 (And.intro f.z.c1 (And.intro f.z.c2 f.z.c3))
          have ej : decide ((0 : Int) > 0) = false := by decide
          go_wp2_with fail
          refine (hRi _ hsp).mono ?_
          rintro e w16 ⟨rfl, h1⟩
          replace f := f.ext h1
          clear b0 b1 b2 b3 h1
          obtain ⟨a0, a1, a2, a3⟩ := And.intro f.q.c0 (And.intro f.q.c1 (And.intro f.q.c2 f.q.c3))
          obtain ⟨f0, f1, f2, f3⟩ := And.intro (f.q.fr 0) (And.intro (f.q.fr 1) (And.intro (f.q.fr 2) (f.q.fr 3)))
          obtain ⟨b0, b1, b2, b3⟩ := And.intro f.z.c0 (And.intro f.z.c1 (And.intro f.z.c2 f.z.c3))
          cases zb with
          | false =>
            have hq4 := four_setE w16 w.heap.size (.int .u32 0) (.int .u32 0) (.slice none 0 0) (.slice none 0 0) f.q
            have hm4 := mod_set4 w16 w.heap.size (.int .u32 0) (.int .u32 0) (.slice none 0 0) (.slice none 0 0)
            go_wp2_with fail
            have hr := HR.out
            rw [HZ.out] at hr
            simp only [Bool.false_eq_true, if_false, Prod.mk.injEq] at hr
            obtain ⟨rfl, rfl, rfl, rfl, rfl⟩ := hr
            refine bodyPost_ret (results_ct (P := Try.prog) rfl _ _ w.heap.size _ _ (0, 0) _ rfl hq4 Try.underlying44 rfl (by kernel_rfl)) rfl ⟨_, _, rfl, Row.nil_ _ _, RowC.nil_ _ _ _, ?_⟩
            exact f.bl.trans (hm4.below f.bl.size (fun i hi hh => by have hh : i = w.heap.size := hh; omega))
          | true =>
            have hq4 := four_setE w16 w.heap.size (.int .u32 (t : Int)) (.int .u32 (h : Int)) (.slice Pp N7 cp) (.slice Pc N8 cc) f.q
            have hm4 := mod_set4 w16 w.heap.size (.int .u32 (t : Int)) (.int .u32 (h : Int)) (.slice Pp N7 cp) (.slice Pc N8 cc)
            have HF := Lib.hid f
            have HM := Lib.hid hm4
            clear f hm4
            go_wp2_with fail
            have hr := HR.out
            rw [HZ.out, HG2.out.1, HG2.out.2.1, HG2.out.2.2.1, HG2.out.2.2.2] at hr
            simp only [if_true, Prod.mk.injEq] at hr
            obtain ⟨rfl, rfl, rfl, rfl, rfl⟩ := hr
            refine bodyPost_ret (results_ct (P := Try.prog) rfl _ _ w.heap.size _ _ (0, 0) _ rfl hq4 Try.underlying44 rfl (by kernel_rfl)) rfl ⟨_, _, rfl, ?_, ?_, ?_⟩
            · exact owns_low (Row.mod HF.out.rp HM.out (fun i hi hh => by have := (World.ownsRow.lt HF.out.rp i hi).1; have := HF.out.n; have hh : i = w.heap.size := hh; omega)) (by have := HF.out.n; omega)
            · exact owns_low (RowC.mod HF.out.rc HM.out (fun i hi hh => by have := (World.ownsRow.lt HF.out.rc i hi).1; have := HF.out.n; have hh : i = w.heap.size := hh; omega)) (by have := HF.out.n; omega)
            · exact HF.out.bl.trans (HM.out.below HF.out.bl.size (fun i hi hh => by have hh : i = w.heap.size := hh; omega))
/-- What a delta's bytes read as: nothing of one that isn't right. -/
def rT (p : List UInt8) : Nat := if (gotD p).ok then (gotD p).t else 0
def rH (p : List UInt8) : Nat := if (gotD p).ok then (gotD p).h else 0
def rP (p : List UInt8) : List UInt8 := if (gotD p).ok then (gotD p).g.ps else []
def rC (p : List UInt8) : List (Int × Nat) := if (gotD p).ok then (gotD p).g.cs else []
def rE (p : List UInt8) : Nat := if (gotD p).ok then 0 else 2
theorem gotD_lens (p : List UInt8) : (gotD p).g.ps.length = (gotD p).n ∧ (gotD p).g.cs.length = (gotD p).n ∧ (gotD p).n < 256 := by
  obtain ⟨n0, l0, b0, y0⟩ : ∃ n l b, rdN 4 p false = (n, l, b) := ⟨_, _, _, rfl⟩
  obtain ⟨n1, l1, b1, y1⟩ : ∃ n l b, rdN 4 l0 b0 = (n, l, b) := ⟨_, _, _, rfl⟩
  obtain ⟨n2, l2, b2, y2⟩ : ∃ n l b, rdN 1 l1 b1 = (n, l, b) := ⟨_, _, _, rfl⟩
  have e : gotD p = ⟨n0, n1, n2, rowsD l2 b2 n2⟩ := by
    unfold gotD
    simp only [y0, y1, y2]
  have h2 := rdN_lt 1 l1 b1
  rw [y2] at h2
  rw [e]
  exact ⟨(rowsD_len _ _ _).1, (rowsD_len _ _ _).2, h2⟩
theorem rP_len (p : List UInt8) : (rP p).length < 256 ∧ (rC p).length = (rP p).length := by
  have h := gotD_lens p
  unfold rP rC
  split
  · omega
  · simp
theorem Parse_r (A : Option Addr) (p : List UInt8) (n c b : Nat) (w : World) (hs : Bs w b A p) (hn : p.length = n) (hm : n ≤ 100000) :
    Calls Try.prog 26 #[.slice A n c] w fun e w' => ∃ vp vc, e = .returned (.tuple #[.agg #[.int .u32 (rT p : Int), .int .u32 (rH p : Int), vp, vc], .int .i64 (rE p : Int)]) ∧ Row w' w.heap.size vp (rP p) ∧ RowC 29 w' w.heap.size vc (rC p) ∧ Below w.heap.size w w' :=
  Parse_any A p n c b w hs hn hm _ _ _ _ _ (by unfold rT rH rP rC rE; split <;> rfl)
theorem RParse_r (A : Option Addr) (p : List UInt8) (n c b : Nat) (w : World) (hs : Bs w b A p) (hn : p.length = n) (hnc : n ≤ c) :
    Calls Try.prog 30 #[.slice A n c] w fun e w' => ∃ vp vc, e = .returned (.tuple #[.agg #[.int .u32 (rT p : Int), .int .u32 (rH p : Int), vp, vc], .bool (gotD p).ok]) ∧ Row w' w.heap.size vp (rP p) ∧ RowC 83 w' w.heap.size vc (rC p) ∧ Below w.heap.size w w' := by
  have hbad : (gotD p).ok = false → rT p = 0 ∧ rH p = 0 ∧ rP p = [] ∧ rC p = [] := fun h => by
    unfold rT rH rP rC
    rw [h]
    exact ⟨rfl, rfl, rfl, rfl⟩
  by_cases h9 : n < 9
  · have hb := gotD_bad (p := p) (by omega)
    obtain ⟨e1, e2, e3, e4⟩ := hbad hb
    rw [hb, e1, e2, e3, e4]
    exact (RParse_short A p n c b w hn h9).mono fun e w' ⟨h1, h2⟩ => ⟨_, _, h1, Row.nil_ _ _, RowC.nil_ _ _ _, h2⟩
  · obtain ⟨off, rfl, -⟩ := Bs.at_ hs (k := 0) (by omega)
    by_cases hoff : n = 9 + 9 * (p[8]'(by omega)).toNat
    · exact RParse_on b off p n c _ w hs hn hnc (by omega) rfl hoff _ _ _ _ _ (by unfold rT rH rP rC; cases (gotD p).ok <;> rfl)
    · have hb := gotD_off (p := p) (by omega) (by omega)
      obtain ⟨e1, e2, e3, e4⟩ := hbad hb
      rw [hb, e1, e2, e3, e4]
      exact (RParse_off b off p n c w hs hn (by omega) hoff).mono fun e w' ⟨h1, h2⟩ => ⟨_, _, h1, Row.nil_ _ _, RowC.nil_ _ _ _, h2⟩
end Go.Proofs.Ytioahddobogpjaa
/- The reference's Cut: the first bytes of a list, in new memory; nothing that was there turns. Condition: the result's length fits. -/
namespace Go.Proofs.Ytioahddobogpjaa
open Go.RowKit

set_option maxHeartbeats 400000 in
theorem Cut_calls (A : Option Addr) (l : List UInt8) (n c b : Nat) (m : Int) (w : World) (hs : Bs w b A l) (hn : l.length = n) (h1 : n ≤ maxLen) (h2 : (l.take m.toNat).length ≤ 140737488355328) :
    Calls Try.prog 23 #[.slice A n c, .int .i64 m] w fun e w' => ∃ v, e = .returned v ∧ Row w' w.heap.size v (l.take m.toNat) ∧ Below w.heap.size w w' := by
  unfold maxLen at h1
  have HN := Lib.hid hn
  have HL := Lib.hid h2
  clear hn h2
  go_enter Try.func23, Try.ntmps23
  go_wp2
  go_loopw [5, 10] (fun v i wr => ∃ k : Nat, k ≤ n ∧ i = .int .i64 k ∧ Row wr w.heap.size v (l.take (min k m.toNat)) ∧ Below w.heap.size w wr) (fun _ i _ => n - (intOf i).toNat)
  case atStart => exact ⟨0, Nat.zero_le _, rfl, by simpa using Row.nil_ _ _, Below.refl _ _⟩
  case round =>
    obtain ⟨k, hk, rfl, hown, hb⟩ := hrel
    by_cases hlt : k < n
    · have hkl : k < l.length := by rw [HN.out]; exact hlt
      obtain ⟨oa, rfl, hca⟩ := Bs.at_ (Sl.ext hs hb) hkl
      have ca := hca k hkl
      obtain ⟨q, hq⟩ : ∃ q, q = l[k] := ⟨_, rfl⟩
      rw [← hq] at ca
      have HQ := Lib.hid hq
      have hbs : w.heap.size ≤ wr.heap.size := hb.size
      clear hca hq
      by_cases hm : (k : Int) < m
      · have e1 : l.take (min k m.toNat) ++ [q] = l.take (min (k + 1) m.toNat) := by
          rw [HQ.out, show min k m.toNat = k by omega, show min (k + 1) m.toNat = k + 1 by omega, List.take_succ_eq_append_getElem hkl]
        have hle : (l.take (min k m.toNat)).length + 1 ≤ 140737488355328 := by
          have := HL.out
          simp only [List.length_take] at this ⊢
          omega
        have E1 := Lib.hid e1
        clear e1
        go_wp2_with (at_builtin; go_loud (refine wpList_app1 wr rfl (.tmp 18) (.tmp 20) rfl w.heap.size _ _ rfl hown q rfl rfl hle hbs ?_); intro v' w1 hown' hmod _)
        go_roundw
        case rel => exact ⟨k + 1, by omega, by go_num, hown'.cast E1.out, hb.trans (hmod.below hbs (fun i hi hv => by have := (hown.lt i hv).1; omega))⟩
        case measure => simp [intOf]; omega
      · have e1 : l.take (min k m.toNat) = l.take (min (k + 1) m.toNat) := by
          rw [show min k m.toNat = min (k + 1) m.toNat by omega]
        have E1 := Lib.hid e1
        clear e1
        go_wp2
        go_roundw
        case rel => exact ⟨k + 1, by omega, by go_num, hown.cast E1.out, hb⟩
        case measure => simp [intOf]; omega
    · go_wp2
      go_ret
      refine ⟨_, rfl, hown.cast ?_, hb⟩
      have := HN.out
      rw [show min k m.toNat = min l.length m.toNat by omega, List.take_eq_take_iff]
      omega
end Go.Proofs.Ytioahddobogpjaa
