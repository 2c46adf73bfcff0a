/- Parts of one proof, in their order. -/
import Derived.Test.YtioahddobogpjaaZDeltaForms02
import Derived.BigRegion
import Derived.Deep.DeepCutAuto
/- Deltas in plain words: cells put at places, one by one; of what was touched the new view is made; places that rise. Conditions: those said. -/
namespace Go.Proofs.Ytioahddobogpjaa
open Go.RowKit

/-- V with the first k cells of cs at the places of ps. -/
def putTo (V : List (Int × Nat)) (ps : List UInt8) (cs : List (Int × Nat)) (k : Nat) : List (Int × Nat) := ((ps.zip cs).take k).foldl (fun V pc => V.set pc.1.toNat pc.2) V
theorem putTo_zero (V : List (Int × Nat)) (ps : List UInt8) (cs : List (Int × Nat)) : putTo V ps cs 0 = V := by simp [putTo]
theorem putTo_succ {V : List (Int × Nat)} {ps : List UInt8} {cs : List (Int × Nat)} {k : Nat} (h1 : k < ps.length) (h2 : k < cs.length) : putTo V ps cs (k + 1) = (putTo V ps cs k).set ps[k].toNat cs[k] := by
  unfold putTo
  rw [List.take_succ_eq_append_getElem (by simp; omega), List.foldl_append]
  simp
@[simp] theorem putTo_length (V : List (Int × Nat)) (ps : List UInt8) (cs : List (Int × Nat)) (k : Nat) : (putTo V ps cs k).length = V.length := by
  unfold putTo
  generalize (ps.zip cs).take k = l
  induction l generalizing V with
  | nil => rfl
  | cons c l ih => rw [List.foldl_cons, ih]; simp
theorem putTo_ok {V : List (Int × Nat)} {cs : List (Int × Nat)} (h : okC V) (hc : okC cs) (ps : List UInt8) (k : Nat) : okC (putTo V ps cs k) := by
  unfold putTo
  have h1 : ∀ x ∈ (ps.zip cs).take k, (-2147483648 ≤ x.2.1 ∧ x.2.1 ≤ 2147483647) ∧ x.2.2 < 4294967296 := fun x hx => hc _ (List.of_mem_zip (List.mem_of_mem_take hx)).2
  generalize (ps.zip cs).take k = l at h1
  induction l generalizing V with
  | nil => exact h
  | cons c l ih =>
    rw [List.foldl_cons]
    exact ih (okC_set h _ (h1 c (by simp))) fun x hx => h1 x (by simp [hx])
theorem fold_set (P : List Nat) (f : Nat → Int × Nat) (V : List (Int × Nat)) (j : Nat) : (P.foldl (fun V i => V.set i (f i)) V)[j]? = if j ∈ P ∧ j < V.length then some (f j) else V[j]? := by
  induction P generalizing V with
  | nil => simp
  | cons i P ih =>
    rw [List.foldl_cons, ih, List.length_set, List.getElem?_set]
    by_cases hi : i = j
    · subst hi
      by_cases hl : i < V.length
      · simp [hl]
      · simp [hl]
    · have : ¬ j = i := fun h => hi h.symm
      simp [hi, this]
theorem fold_byte (P : List Nat) (hP : ∀ i ∈ P, i < 48) (f : Nat → Int × Nat) (V : List (Int × Nat)) : P.foldl (fun V i => V.set (UInt8.ofNat i).toNat (f i)) V = P.foldl (fun V i => V.set i (f i)) V := by
  induction P generalizing V with
  | nil => rfl
  | cons i P ih =>
    have h1 := hP i (by simp)
    rw [List.foldl_cons, List.foldl_cons, ih (fun x hx => hP x (by simp [hx])), show (UInt8.ofNat i).toNat = i by simp [UInt8.toNat_ofNat']; omega]
theorem placesTo_lt {t n i : Nat} (h : i ∈ placesTo t n) : i < n := (placesTo_mem.1 h).1
/-- Of the view ahead of a step, and what was touched of that behind it, the latter is made. -/
theorem put_touched {V W : List (Int × Nat)} {t n k : Nat} (hV : V.length = n) (hW : W.length = n) (hn : n ≤ 48) (hk : (placesTo t n).length ≤ k) (h : ∀ i (h1 : i < V.length) (h2 : i < W.length), t.testBit i = false → V[i] = W[i]) : putTo V (placesB t n) (cellsTo W t n) k = W := by
  unfold putTo placesB cellsTo
  rw [List.zip_map', List.take_of_length_le (by simpa using hk), List.foldl_map, fold_byte _ (fun i hi => by have := placesTo_lt hi; omega)]
  apply List.ext_getElem?
  intro j
  rw [fold_set]
  by_cases hj : j < n
  · by_cases ht : t.testBit j = true
    · rw [if_pos ⟨placesTo_mem.2 ⟨hj, ht⟩, by omega⟩]
      simp [List.getD, hW, hj]
    · rw [if_neg (fun hh => ht (placesTo_mem.1 hh.1).2), List.getElem?_eq_getElem (by omega), List.getElem?_eq_getElem (by omega), h j (by omega) (by omega) (by simpa using ht)]
  · rw [if_neg (by omega), List.getElem?_eq_none (by omega), List.getElem?_eq_none (by omega)]
theorem placesTo_all {n : Nat} (h : n ≤ 48) : placesTo 281474976710655 n = List.range n := by
  unfold placesTo
  rw [List.filter_eq_self]
  intro i hi
  have h1 := List.mem_range.1 hi
  rw [show (281474976710655 : Nat) = 2 ^ 48 - 1 by decide, Nat.testBit_two_pow_sub_one]
  simp; omega
theorem cellsTo_all {W : List (Int × Nat)} (h : W.length ≤ 48) : cellsTo W 281474976710655 W.length = W := by
  unfold cellsTo
  rw [placesTo_all h]
  apply List.ext_getElem (by simp)
  intro i h1 h2
  simp [List.getD, h2]
/-- Is the place at i one of a board's, and behind the one ahead of it? -/
def riseAt (ps : List UInt8) (i : Nat) : Bool := decide ((ps.getD i 0).toNat < 48 ∧ (0 < i → (ps.getD (i - 1) 0).toNat < (ps.getD i 0).toNat))
def risesB (ps : List UInt8) : Bool := (List.range ps.length).all (riseAt ps)
theorem risesB_at {ps : List UInt8} (h : risesB ps = true) {i : Nat} (hi : i < ps.length) : ps[i].toNat < 48 ∧ (0 < i → (ps.getD (i - 1) 0).toNat < ps[i].toNat) := by
  have := List.all_eq_true.1 h i (List.mem_range.2 hi)
  simp only [riseAt, decide_eq_true_eq] at this
  rw [show ps.getD i 0 = ps[i] by simp [List.getD, hi]] at this
  exact this
theorem placesTo_getElem_lt {t n i j : Nat} (hij : i < j) (hj : j < (placesTo t n).length) : (placesTo t n)[i]'(by omega) < (placesTo t n)[j] := by
  have h : (placesTo t n).Pairwise (· < ·) := List.Pairwise.sublist List.filter_sublist (List.pairwise_lt_range)
  exact (List.pairwise_iff_getElem.1 h) i j (by omega) hj hij
theorem placesB_rises {t n : Nat} (hn : n ≤ 48) : risesB (placesB t n) = true := by
  refine List.all_eq_true.2 fun i hi => ?_
  have hi := List.mem_range.1 hi
  have hl : i < (placesTo t n).length := by simpa using hi
  have e : ∀ k (hk : k < (placesTo t n).length), ((placesB t n).getD k 0).toNat = (placesTo t n)[k] := fun k hk => by
    have h1 := placesTo_lt (List.getElem_mem hk)
    simp only [placesB, List.getD, List.getElem?_map, List.getElem?_eq_getElem hk, Option.map_some, Option.getD_some]
    simp [UInt8.toNat_ofNat']; omega
  have h1 := placesTo_lt (List.getElem_mem hl)
  simp only [riseAt, decide_eq_true_eq]
  rw [e i hl]
  refine ⟨by omega, fun h0 => ?_⟩
  rw [e (i - 1) (by omega)]
  exact placesTo_getElem_lt (by omega) hl
end Go.Proofs.Ytioahddobogpjaa
/- rises, full: are the places a board's, rising, with a cell each; are they the first ones? Conditions: those said. -/
namespace Go.Proofs.Ytioahddobogpjaa
open Go.RowKit

theorem bs_at {w : World} {b off : Nat} {l : List UInt8} (h : Bs w b (some ⟨b, off, none⟩) l) {k : Nat} (hk : k < l.length) : w.cell? ⟨b, off + k, none⟩ = some (.int .u8 (l[k].toNat : Int)) := by
  obtain ⟨off', e, h1⟩ := Bs.at_ h hk
  injection e with e
  injection e with _ e _
  subst e
  exact h1 k hk
theorem sl_at {w : World} {b off : Nat} {L : List (Int × Nat)} (h : Sl w b (some ⟨b, off, none⟩) (cv L)) {i : Nat} (hi : i < L.length) :
    w.cell? ⟨b, off + i * 2, none⟩ = some (.int .i32 L[i].1) ∧ w.cell? ⟨b, off + i * 2 + 1, none⟩ = some (.int .u32 ((L[i].2 : Nat) : Int)) := by
  obtain ⟨off', e, h1⟩ := sl_off h hi
  injection e with e
  injection e with _ e _
  subst e
  exact h1
theorem sl_row {w : World} {b g : Nat} {A : Option Addr} {xs : List Value} (h : Sl w b A xs) (hne : b ≠ g) (cs : Array Value) : Sl (w.setRow g cs) b A xs := h.keep fun _ => setRow_other w g b cs hne
theorem sl_lt {w : World} {b : Nat} {A : Option Addr} {L : List (Int × Nat)} (h : Sl w b A (cv L)) {i : Nat} (hi : i < L.length) : b < w.heap.size :=
  Sl.lt h (by intro h0; have := congrArg List.length h0; simp at this; omega)
theorem bd_orow {w : World} {b t h : Nat} {vp vc : Value} (q : BoxD w b t h vp vc) {g : Nat} (hne : b ≠ g) (cs : Array Value) : BoxD (w.setRow g cs) b t h vp vc := (setRow_other w g b cs hne).trans q
/-- A delta as a value. -/
abbrev dA (t h : Nat) (Ap : Option Addr) (np cp : Nat) (Ac : Option Addr) (nc cc : Nat) : Array Value := #[.int .u32 (t : Int), .int .u32 (h : Int), .slice Ap np cp, .slice Ac nc cc]
set_option maxHeartbeats 4000000 in
set_option maxRecDepth 20000 in
theorem Rises_yes (t h : Nat) (Ap : Option Addr) (ps : List UInt8) (np cp bp : Nat) (Ac : Option Addr) (nc cc : Nat) (d : Bool) (w : World) (hs : Bs w bp Ap ps) (hn : ps.length = np) (hr : risesB ps = true) (hl : np ≤ 1000000) (hd : ((np : Int) == (nc : Int)) = d) :
    Calls Try.prog 40 #[.agg (dA t h Ap np cp Ac nc cc)] w fun e w' => e = .returned (.bool d) ∧ Below w.heap.size w w' := by
  have hb := below_alloc1 w (.cells (dA t h Ap np cp Ac nc cc) 38)
  have q := BoxD.new_ w t h (.slice Ap np cp) (.slice Ac nc cc)
  obtain ⟨q2, q3⟩ := And.intro q.c2 q.c3
  have hs1 := Sl.alloc hs (.cells (dA t h Ap np cp Ac nc cc) 38)
  clear hs q
  have HR := Lib.hid hr
  clear hr
  subst hn
  go_enter Try.func40, Try.ntmps40
  go_wp2_with fail
  go_loop [8] (fun i => ∃ k : Nat, k ≤ ps.length ∧ i = .int .i64 k) (fun i => ps.length - (intOf i).toNat)
  case atStart => exact ⟨0, Nat.zero_le _, rfl⟩
  case round =>
    obtain ⟨k, hk, rfl⟩ := hrel
    by_cases hlt : k < ps.length
    · obtain ⟨off, rfl, hc⟩ := Bs.at_ hs1 hlt
      have f0 := hc k hlt
      obtain ⟨r1, r2⟩ := risesB_at HR.out hlt
      have ej : (k : Int) < (ps.length : Int) := by omega
      by_cases hk0 : k = 0
      · subst hk0
        simp only [Nat.add_zero] at f0
        obtain ⟨P, hP⟩ : ∃ P, P = ps[0].toNat := ⟨_, rfl⟩
        rw [← hP] at f0 r1
        clear hP r2 hc
        go_wp2_with fail
        go_round
        case rel => exact ⟨1, by omega, rfl⟩
        case measure => simp [intOf]; omega
      · have f1 := hc (k - 1) (by omega)
        have r3 := r2 (by omega)
        rw [show ps.getD (k - 1) 0 = ps[k - 1]'(by omega) by simp [List.getD, show k - 1 < ps.length by omega]] at r3
        obtain ⟨P, hP⟩ : ∃ P, P = ps[k].toNat := ⟨_, rfl⟩
        obtain ⟨R, hR⟩ : ∃ R, R = (ps[k - 1]'(by omega)).toNat := ⟨_, rfl⟩
        rw [← hP] at f0 r1 r3
        rw [← hR] at f1 r3
        have ek : 0 < k := by omega
        have el : (R : Int) < (P : Int) := by omega
        clear hP hR r2 hc
        go_wp2_with fail
        go_round
        case rel => exact ⟨k + 1, by omega, by go_num⟩
        case measure => simp [intOf]; omega
    · obtain rfl : k = ps.length := by omega
      go_wp2_with fail
      go_ret
      exact ⟨rfl, hb⟩
set_option maxHeartbeats 4000000 in
set_option maxRecDepth 20000 in
theorem full_yes (t h : Nat) (Ap : Option Addr) (ps : List UInt8) (np cp bp : Nat) (Ac : Option Addr) (cc : Nat) (w : World) (hs : Bs w bp Ap ps) (hn : ps.length = np) (hr : risesB ps = true) (hl : np ≤ 48) (hlast : ∀ i (hi : i < ps.length), ps[i].toNat = i) :
    Calls Try.prog 39 #[.agg (dA t h Ap np cp Ac np cc)] w fun e w' => e = .returned (.bool true) ∧ Below w.heap.size w w' := by
  have hb := below_alloc1 w (.cells (dA t h Ap np cp Ac np cc) 38)
  have q := BoxD.new_ w t h (.slice Ap np cp) (.slice Ac np cc)
  obtain ⟨q0, q1, q2, q3⟩ := And.intro q.c0 (And.intro q.c1 (And.intro q.c2 q.c3))
  have hs1 := Sl.alloc hs (.cells (dA t h Ap np cp Ac np cc) 38)
  have hR := fun W hs => Rises_yes t h Ap ps np cp bp Ac np cc true W hs hn hr (by omega) (by simp)
  clear hs hr
  have HL := Lib.hid hlast
  clear hlast
  by_cases h0 : np = 0
  · subst h0
    clear hn
    go_enter Try.func39, Try.ntmps39
    go_wp2_with fail
    refine (hR _ hs1).mono ?_
    rintro e w1 ⟨rfl, hb1⟩
    have q := q.ext hb1
    obtain ⟨q0, q1, q2, q3⟩ := And.intro q.c0 (And.intro q.c1 (And.intro q.c2 q.c3))
    have hb := hb.trans (hb1.mono hb.size)
    clear hb1
    go_wp2_with fail
    go_ret
    exact ⟨rfl, hb⟩
  · subst hn
    have e1 : (0 : Int) < (ps.length : Int) := by omega
    have e2 : decide ((ps.length : Int) - 1 < 0) = false := by simp; omega
    have e3 : (1 : Int) ≤ (ps.length : Int) := by omega
    obtain ⟨off, rfl, hc⟩ := Bs.at_ hs1 (show ps.length - 1 < ps.length by omega)
    clear hc
    go_enter Try.func39, Try.ntmps39
    go_wp2_with fail
    refine (hR _ hs1).mono ?_
    rintro e w1 ⟨rfl, hb1⟩
    have q := q.ext hb1
    obtain ⟨q0, q1, q2, q3⟩ := And.intro q.c0 (And.intro q.c1 (And.intro q.c2 q.c3))
    have hs1 := Sl.ext hs1 hb1
    have f0 := bs_at hs1 (show ps.length - 1 < ps.length by omega)
    rw [HL.out] at f0
    have hb := hb.trans (hb1.mono hb.size)
    clear hb1 hR
    go_wp2_with fail
    go_ret
    exact ⟨by simp; omega, hb⟩
end Go.Proofs.Ytioahddobogpjaa
/- Apply: the view with these cells there. Conditions: the places are the view's; as many cells as places; the cells fit. -/
namespace Go.Proofs.Ytioahddobogpjaa
open Go.RowKit

set_option maxHeartbeats 16000000 in
set_option maxRecDepth 40000 in
theorem Apply_calls (t h : Nat) (Ap : Option Addr) (ps : List UInt8) (np cp bp : Nat) (Ac : Option Addr) (cs : List (Int × Nat)) (nc cc bc : Nat) (V : List (Int × Nat)) (d : Bool) (w : World)
    (hps : Bs w bp Ap ps) (hpn : ps.length = np) (hcs : Sl w bc Ac (cv cs)) (hcn : cs.length = nc) (hnn : np = nc) (hl : np ≤ 1000000) (hV : V.length ≤ 48) (hok : okC V) (hoc : okC cs)
    (hin : ∀ i (hi : i < ps.length), ps[i].toNat < V.length) (hd : ((hashL (putTo V ps cs np) : Int) == (h : Int)) = d) :
    Calls Try.prog 17 #[.agg (dA t h Ap np cp Ac nc cc), .agg (bdL V)] w fun e w' => e = .returned (.tuple #[.agg (bdL (if d = true then putTo V ps cs np else V)), .int .i64 (if d = true then 0 else 13)]) ∧ Below w.heap.size w w' := by
  subst hnn hcn
  have b1 := below_alloc1 w (.cells (dA t h Ap cs.length cp Ac cs.length cc) 38)
  have b2 := b1.alloc b1.size (.cells (bdL V) 32)
  have b3 := b2.alloc b2.size (.cells (bdL []) 32)
  have hb := b3.alloc b3.size (.cells (bdL V) 32)
  have qd := (((BoxD.new_ w t h (.slice Ap cs.length cp) (.slice Ac cs.length cc)).alloc (.cells (bdL V) 32)).alloc (.cells (bdL []) 32)).alloc (.cells (bdL V) 32)
  have q3 := (BoxL.new_ (w.alloc (.cells (dA t h Ap cs.length cp Ac cs.length cc) 38)) V).alloc (.cells (bdL []) 32)
  rw [show (w.alloc (.cells (dA t h Ap cs.length cp Ac cs.length cc) 38)).heap.size = w.heap.size + 1 by simp] at q3
  have q3' := q3.alloc (.cells (bdL V) 32)
  have q4 := (BoxL.new_ ((w.alloc (.cells (dA t h Ap cs.length cp Ac cs.length cc) 38)).alloc (.cells (bdL V) 32)) []).alloc (.cells (bdL V) 32)
  rw [show ((w.alloc (.cells (dA t h Ap cs.length cp Ac cs.length cc) 38)).alloc (.cells (bdL V) 32)).heap.size = w.heap.size + 2 by simp] at q4
  have q6 := BoxL.new_ (((w.alloc (.cells (dA t h Ap cs.length cp Ac cs.length cc) 38)).alloc (.cells (bdL V) 32)).alloc (.cells (bdL []) 32)) V
  rw [show (((w.alloc (.cells (dA t h Ap cs.length cp Ac cs.length cc) 38)).alloc (.cells (bdL V) 32)).alloc (.cells (bdL []) 32)).heap.size = w.heap.size + 3 by simp] at q6
  have hlp0 : 0 < ps.length → bp < w.heap.size := fun h0 => Bs.lt hps (by rintro rfl; simp at h0)
  have hlc0 : 0 < cs.length → bc < w.heap.size := fun h0 => sl_lt hcs h0
  have hps := Sl.ext hps hb
  have hcs := Sl.ext hcs hb
  have hz4 : ((((w.alloc (.cells (dA t h Ap cs.length cp Ac cs.length cc) 38)).alloc (.cells (bdL V) 32)).alloc (.cells (bdL []) 32)).alloc (.cells (bdL V) 32)).heap.size = w.heap.size + 4 := by simp
  have HZ4 := Lib.hid hz4
  obtain ⟨e2, e3⟩ := And.intro qd.c2 qd.c3
  have HD := Lib.hid hd
  have HPN := Lib.hid hpn
  have HIN := Lib.hid hin
  clear b1 b2 b3 hz4 hd hin hpn
  go_enter Try.func17, Try.ntmps17
  go_wp2_with (first | ((with_reducible refine at_al 32 4 ?_); refine wpList_al rfl rfl (some 4) rfl (w.heap.size + 2) (by simp) ?_) | ((with_reducible refine at_ld 32 3 ?_); refine wpList_ld rfl (.tmp 3) rfl (w.heap.size + 1) rfl V q3 ?_) | ((with_reducible refine at_al 32 6 ?_); refine wpList_al rfl rfl (some 6) rfl (w.heap.size + 3) (by simp) ?_) | ((with_reducible refine at_st 32 6 9 ?_); refine wpList_put rfl (.tmp 6) (.tmp 9) rfl (show (((w.alloc (.cells (dA t h Ap cs.length cp Ac cs.length cc) 38)).alloc (.cells (bdL V) 32)).alloc (.cells (bdL []) 32)).heap.size = w.heap.size + 3 by simp) V rfl rfl ?_))
  clear e2 e3 q3
  obtain ⟨wz, hwz⟩ : ∃ wz, wz = ((((w.alloc (.cells (dA t h Ap cs.length cp Ac cs.length cc) 38)).alloc (.cells (bdL V) 32)).alloc (.cells (bdL []) 32)).alloc (.cells (bdL V) 32)) := ⟨_, rfl⟩
  rw [← hwz] at hb qd q3' q4 q6 hps hcs HZ4 ⊢
  have q6 : BoxL wz (w.heap.size + 3) (putTo V ps cs 0) := by rw [putTo_zero]; exact q6
  clear hwz
  go_loopw [17] (fun i wr => ∃ k : Nat, k ≤ cs.length ∧ i = .int .i64 k ∧ BoxL wr (w.heap.size + 3) (putTo V ps cs k) ∧ BoxL wr (w.heap.size + 1) V ∧ BoxL wr (w.heap.size + 2) [] ∧ BoxD wr w.heap.size t h (.slice Ap cs.length cp) (.slice Ac cs.length cc) ∧ Bs wr bp Ap ps ∧ Sl wr bc Ac (cv cs) ∧ Below w.heap.size w wr) (fun i _ => cs.length - (intOf i).toNat)
  case atStart => exact ⟨0, Nat.zero_le _, rfl, q6, q3', q4, qd, hps, hcs, hb⟩
  case round =>
    clear q6 q3' q4 qd hps hcs hb
    obtain ⟨k, hk, rfl, q6, q3, q4, qd, hps, hcs, hb⟩ := hrel
    have hXl := putTo_length V ps cs k
    have hXo := putTo_ok hok hoc ps k
    by_cases hlt : k < cs.length
    · have hkp : k < ps.length := by rw [HPN.out]; exact hlt
      have HS := Lib.hid (putTo_succ (V := V) hkp hlt)
      have hpi := HIN.out k hkp
      have hci := okC_get hoc hlt
      obtain ⟨op, rfl, f0⟩ := Bs.at_ hps hkp
      clear f0
      obtain ⟨oc, rfl, f0⟩ := sl_off hcs hlt
      clear f0
      obtain ⟨X, hX⟩ : ∃ X, X = putTo V ps cs k := ⟨_, rfl⟩
      obtain ⟨Pn, hPn⟩ : ∃ Pn, Pn = ps[k].toNat := ⟨_, rfl⟩
      obtain ⟨cx, hcx⟩ : ∃ cx, cx = cs[k].1 := ⟨_, rfl⟩
      obtain ⟨cy, hcy⟩ : ∃ cy, cy = cs[k].2 := ⟨_, rfl⟩
      rw [← hX] at q6 hXl hXo HS
      rw [← hPn] at hpi HS
      rw [show cs[k] = (cx, cy) by rw [hcx, hcy]] at HS
      have hP8 : Pn ≤ 255 := by rw [hPn]; have := ps[k].toNat_lt; omega
      have HP := Lib.hid hPn
      have HCX := Lib.hid hcx
      have HCY := Lib.hid hcy
      have hPut := fun W => Put_in X Pn cx cy W (by omega) (by omega)
      clear hX hPn hcx hcy hci
      have ej : (k : Int) < (cs.length : Int) := by omega
      have epw : IntKind.i64.wrap (Pn : Int) = (Pn : Int) := IntWalk.i64_in _ (by omega)
      have hbz := hb.size
      have hl6 := q6.lt
      have hl3 := q3.lt
      have hl4 := q4.lt
      have hld := qd.lt
      have hxp : bp ≠ w.heap.size + 3 := by have := hlp0 (by omega); omega
      have hxc : bc ≠ w.heap.size + 3 := by have := hlc0 (by omega); omega
      go_wp2_with fail
      refine wp_region_held_drew (S := fun w' => BoxD w' w.heap.size t h (.slice (some ⟨bp, op, none⟩) cs.length cp) (.slice (some ⟨bc, oc, none⟩) cs.length cc) ∧ Bs w' bp (some ⟨bp, op, none⟩) ps ∧ Sl w' bc (some ⟨bc, oc, none⟩) (cv cs)) (by kernel_rfl) ?_ (fun hHeld => ?_)
      · exact ⟨qd, hps, hcs⟩
      refine wpAnyH_take (i := 1) (v := ?zv1) (by simp only [List.getElem?_toArray, List.getElem?_cons_succ, List.getElem?_cons_zero]; rfl) (by kernel_rfl) (by kernel_rfl) (by kernel_rfl) (by exact fun _ _ _ h => h) (Or.inl ⟨by rfl, ?zy1⟩) hHeld ?_
      case zy1 => (intro w hSw; (try dsimp only at hSw); have hy2 := hSw.1.c2; have hy3 := hSw.1.c3; have hyp := bs_at hSw.2.1 hkp; have hy0 := (sl_at hSw.2.2 hlt).1; have hy1 := (sl_at hSw.2.2 hlt).2; rw [← HP.out] at hyp; rw [← HCX.out] at hy0; rw [← HCY.out] at hy1; clear hSw; go_simp; try (with_reducible rfl))
      try simp only [Act.put, List.setIfInBounds_toArray, List.set_cons_zero, List.set_cons_succ]
      refine wpAnyH_take (i := 2) (v := ?zv2) (by simp only [List.getElem?_toArray, List.getElem?_cons_succ, List.getElem?_cons_zero]; rfl) (by kernel_rfl) (by kernel_rfl) (by kernel_rfl) (by exact fun _ _ _ h => h) (Or.inl ⟨by rfl, ?zy2⟩) hHeld ?_
      case zy2 => (intro w hSw; (try dsimp only at hSw); have hy2 := hSw.1.c2; have hy3 := hSw.1.c3; have hyp := bs_at hSw.2.1 hkp; have hy0 := (sl_at hSw.2.2 hlt).1; have hy1 := (sl_at hSw.2.2 hlt).2; rw [← HP.out] at hyp; rw [← HCX.out] at hy0; rw [← HCY.out] at hy1; clear hSw; go_simp; try (with_reducible rfl))
      try simp only [Act.put, List.setIfInBounds_toArray, List.set_cons_zero, List.set_cons_succ]
      refine wpAnyH_take (i := 3) (v := ?zv3) (by simp only [List.getElem?_toArray, List.getElem?_cons_succ, List.getElem?_cons_zero]; rfl) (by kernel_rfl) (by kernel_rfl) (by kernel_rfl) (by exact fun _ _ _ h => h) (Or.inl ⟨by rfl, ?zy3⟩) hHeld ?_
      case zy3 => (intro w hSw; (try dsimp only at hSw); have hy2 := hSw.1.c2; have hy3 := hSw.1.c3; have hyp := bs_at hSw.2.1 hkp; have hy0 := (sl_at hSw.2.2 hlt).1; have hy1 := (sl_at hSw.2.2 hlt).2; rw [← HP.out] at hyp; rw [← HCX.out] at hy0; rw [← HCY.out] at hy1; clear hSw; go_simp; try (with_reducible rfl))
      try simp only [Act.put, List.setIfInBounds_toArray, List.set_cons_zero, List.set_cons_succ]
      refine wpAnyH_take (i := 4) (v := ?zv4) (by simp only [List.getElem?_toArray, List.getElem?_cons_succ, List.getElem?_cons_zero]; rfl) (by kernel_rfl) (by kernel_rfl) (by kernel_rfl) (by exact fun _ _ _ h => h) (Or.inl ⟨by rfl, ?zy4⟩) hHeld ?_
      case zy4 => (intro w hSw; (try dsimp only at hSw); have hy2 := hSw.1.c2; have hy3 := hSw.1.c3; have hyp := bs_at hSw.2.1 hkp; have hy0 := (sl_at hSw.2.2 hlt).1; have hy1 := (sl_at hSw.2.2 hlt).2; rw [← HP.out] at hyp; rw [← HCX.out] at hy0; rw [← HCY.out] at hy1; clear hSw; go_simp; try (with_reducible rfl))
      try simp only [Act.put, List.setIfInBounds_toArray, List.set_cons_zero, List.set_cons_succ]
      refine wpAnyH_take (i := 5) (v := ?zv5) (by simp only [List.getElem?_toArray, List.getElem?_cons_succ, List.getElem?_cons_zero]; rfl) (by kernel_rfl) (by kernel_rfl) (by kernel_rfl) (by exact fun _ _ _ h => h) (Or.inl ⟨by rfl, ?zy5⟩) hHeld ?_
      case zy5 => (intro w hSw; (try dsimp only at hSw); have hy2 := hSw.1.c2; have hy3 := hSw.1.c3; have hyp := bs_at hSw.2.1 hkp; have hy0 := (sl_at hSw.2.2 hlt).1; have hy1 := (sl_at hSw.2.2 hlt).2; rw [← HP.out] at hyp; rw [← HCX.out] at hy0; rw [← HCY.out] at hy1; clear hSw; go_simp; try (with_reducible rfl))
      try simp only [Act.put, List.setIfInBounds_toArray, List.set_cons_zero, List.set_cons_succ]
      refine wpAnyH_take (i := 6) (v := ?zv6) (by simp only [List.getElem?_toArray, List.getElem?_cons_succ, List.getElem?_cons_zero]; rfl) (by kernel_rfl) (by kernel_rfl) (by kernel_rfl) (by exact fun _ _ _ h => h) (Or.inl ⟨by rfl, ?zy6⟩) hHeld ?_
      case zy6 => (intro w hSw; (try dsimp only at hSw); have hy2 := hSw.1.c2; have hy3 := hSw.1.c3; have hyp := bs_at hSw.2.1 hkp; have hy0 := (sl_at hSw.2.2 hlt).1; have hy1 := (sl_at hSw.2.2 hlt).2; rw [← HP.out] at hyp; rw [← HCX.out] at hy0; rw [← HCY.out] at hy1; clear hSw; go_simp; try (with_reducible rfl))
      try simp only [Act.put, List.setIfInBounds_toArray, List.set_cons_zero, List.set_cons_succ]
      refine wpAnyH_take (i := 7) (v := ?zv7) (by simp only [List.getElem?_toArray, List.getElem?_cons_succ, List.getElem?_cons_zero]; rfl) (by kernel_rfl) (by kernel_rfl) (by kernel_rfl) (by exact fun _ _ _ h => h) (Or.inl ⟨by rfl, ?zy7⟩) hHeld ?_
      case zy7 => (intro w hSw; (try dsimp only at hSw); have hy2 := hSw.1.c2; have hy3 := hSw.1.c3; have hyp := bs_at hSw.2.1 hkp; have hy0 := (sl_at hSw.2.2 hlt).1; have hy1 := (sl_at hSw.2.2 hlt).2; rw [← HP.out] at hyp; rw [← HCX.out] at hy0; rw [← HCY.out] at hy1; clear hSw; go_simp; try (with_reducible rfl))
      try simp only [Act.put, List.setIfInBounds_toArray, List.set_cons_zero, List.set_cons_succ]
      refine wpAnyH_take (i := 8) (v := ?zv8) (by simp only [List.getElem?_toArray, List.getElem?_cons_succ, List.getElem?_cons_zero]; rfl) (by kernel_rfl) (by kernel_rfl) (by kernel_rfl) (by exact fun _ _ _ h => h) (Or.inl ⟨by rfl, ?zy8⟩) hHeld ?_
      case zy8 => (intro w hSw; (try dsimp only at hSw); have hy2 := hSw.1.c2; have hy3 := hSw.1.c3; have hyp := bs_at hSw.2.1 hkp; have hy0 := (sl_at hSw.2.2 hlt).1; have hy1 := (sl_at hSw.2.2 hlt).2; rw [← HP.out] at hyp; rw [← HCX.out] at hy0; rw [← HCY.out] at hy1; clear hSw; go_simp; try (with_reducible rfl))
      try simp only [Act.put, List.setIfInBounds_toArray, List.set_cons_zero, List.set_cons_succ]
      refine wpAnyH_take (i := 9) (v := ?zv9) (by simp only [List.getElem?_toArray, List.getElem?_cons_succ, List.getElem?_cons_zero]; rfl) (by kernel_rfl) (by kernel_rfl) (by kernel_rfl) (by exact fun _ _ _ h => h) (Or.inl ⟨by rfl, ?zy9⟩) hHeld ?_
      case zy9 => (intro w hSw; (try dsimp only at hSw); have hy2 := hSw.1.c2; have hy3 := hSw.1.c3; have hyp := bs_at hSw.2.1 hkp; have hy0 := (sl_at hSw.2.2 hlt).1; have hy1 := (sl_at hSw.2.2 hlt).2; rw [← HP.out] at hyp; rw [← HCX.out] at hy0; rw [← HCY.out] at hy1; clear hSw; go_simp; try (with_reducible rfl))
      try simp only [Act.put, List.setIfInBounds_toArray, List.set_cons_zero, List.set_cons_succ]
      refine wpAnyH_take (i := 10) (v := ?zv10) (by simp only [List.getElem?_toArray, List.getElem?_cons_succ, List.getElem?_cons_zero]; rfl) (by kernel_rfl) (by kernel_rfl) (by kernel_rfl) (by exact fun _ _ _ h => h) (Or.inl ⟨by rfl, ?zy10⟩) hHeld ?_
      case zy10 => (intro w hSw; (try dsimp only at hSw); have hy2 := hSw.1.c2; have hy3 := hSw.1.c3; have hyp := bs_at hSw.2.1 hkp; have hy0 := (sl_at hSw.2.2 hlt).1; have hy1 := (sl_at hSw.2.2 hlt).2; rw [← HP.out] at hyp; rw [← HCX.out] at hy0; rw [← HCY.out] at hy1; clear hSw; go_simp; try (with_reducible rfl))
      try simp only [Act.put, List.setIfInBounds_toArray, List.set_cons_zero, List.set_cons_succ]
      refine wpAnyH_take (i := 11) (v := ?zv11) (by simp only [List.getElem?_toArray, List.getElem?_cons_succ, List.getElem?_cons_zero]; rfl) (by kernel_rfl) (by kernel_rfl) (by kernel_rfl) (by exact fun _ _ _ h => h) (Or.inl ⟨by rfl, ?zy11⟩) hHeld ?_
      case zy11 => (intro w hSw; (try dsimp only at hSw); have hy2 := hSw.1.c2; have hy3 := hSw.1.c3; have hyp := bs_at hSw.2.1 hkp; have hy0 := (sl_at hSw.2.2 hlt).1; have hy1 := (sl_at hSw.2.2 hlt).2; rw [← HP.out] at hyp; rw [← HCX.out] at hy0; rw [← HCY.out] at hy1; clear hSw; go_simp; try (with_reducible rfl))
      try simp only [Act.put, List.setIfInBounds_toArray, List.set_cons_zero, List.set_cons_succ]
      refine wpAnyH_ready (rs := [0]) (by kernel_rfl) (by simp) ?_
      refine AllReadyH.cons (by simp only [List.getElem?_toArray, List.getElem?_cons_zero]; rfl) (fun KK hKK => ?_) AllReadyH.nil
      rw [if_pos (by rfl)]
      refine wp_load_row 32 (.tmp 6) rfl (w.heap.size + 3) rfl _ _ _ _ q6 Try.underlying32 rfl (bd_size _ _ _) ?_
      refine hKK.out _ _ ?_ (fun hHeld => ?_)
      · exact ⟨qd, hps, hcs⟩
      clear hKK KK
      try simp only [Act.put]
      refine wpAnyH_ready (rs := [12]) (by kernel_rfl) (by simp) ?_
      refine AllReadyH.cons (by simp only [List.getElem?_toArray, List.getElem?_cons_succ, List.getElem?_cons_zero]; rfl) (fun KK hKK => ?_) AllReadyH.nil
      go_simp
      (with_reducible refine (hPut _).mono ?_)
      rintro e w6 ⟨rfl, h9⟩
      have h9 := below_undrew2 h9
      have q6 := q6.ext h9
      have q3 := q3.ext h9
      have q4 := q4.ext h9
      have qd := qd.ext h9
      have hps := Sl.ext hps h9
      have hcs := Sl.ext hcs h9
      have hb := hb.trans (h9.mono hb.size)
      have hz6 := h9.size
      clear h9
      go_wp2_with fail
      refine hKK.out _ _ ?_ (fun hHeld => ?_)
      · exact ⟨qd, hps, hcs⟩
      clear hKK KK
      try simp only [Act.put, List.setIfInBounds_toArray, List.set_cons_zero, List.set_cons_succ]
      refine wpAnyH_take (i := 13) (v := ?zv13) (by simp only [List.getElem?_toArray, List.getElem?_cons_succ, List.getElem?_cons_zero]; rfl) (by kernel_rfl) (by kernel_rfl) (by kernel_rfl) (by exact fun _ _ _ h => h) (Or.inl ⟨by rfl, ?zy13⟩) hHeld ?_
      case zy13 => (intro w hSw; (try dsimp only at hSw); have hy2 := hSw.1.c2; have hy3 := hSw.1.c3; have hyp := bs_at hSw.2.1 hkp; have hy0 := (sl_at hSw.2.2 hlt).1; have hy1 := (sl_at hSw.2.2 hlt).2; rw [← HP.out] at hyp; rw [← HCX.out] at hy0; rw [← HCY.out] at hy1; clear hSw; go_simp; try (with_reducible rfl))
      try simp only [Act.put, List.setIfInBounds_toArray, List.set_cons_zero, List.set_cons_succ]
      refine wpAnyH_take (i := 14) (v := ?zv14) (by simp only [List.getElem?_toArray, List.getElem?_cons_succ, List.getElem?_cons_zero]; rfl) (by kernel_rfl) (by kernel_rfl) (by kernel_rfl) (by exact fun _ _ _ h => h) (Or.inl ⟨by rfl, ?zy14⟩) hHeld ?_
      case zy14 => (intro w hSw; (try dsimp only at hSw); have hy2 := hSw.1.c2; have hy3 := hSw.1.c3; have hyp := bs_at hSw.2.1 hkp; have hy0 := (sl_at hSw.2.2 hlt).1; have hy1 := (sl_at hSw.2.2 hlt).2; rw [← HP.out] at hyp; rw [← HCX.out] at hy0; rw [← HCY.out] at hy1; clear hSw; go_simp; try (with_reducible rfl))
      try simp only [Act.put, List.setIfInBounds_toArray, List.set_cons_zero, List.set_cons_succ]
      refine wpAnyH_take (i := 15) (v := ?zv15) (by simp only [List.getElem?_toArray, List.getElem?_cons_succ, List.getElem?_cons_zero]; rfl) (by kernel_rfl) (by kernel_rfl) (by kernel_rfl) (by exact fun _ _ _ h => h) (Or.inl ⟨by rfl, ?zy15⟩) hHeld ?_
      case zy15 => (intro w hSw; (try dsimp only at hSw); have hy2 := hSw.1.c2; have hy3 := hSw.1.c3; have hyp := bs_at hSw.2.1 hkp; have hy0 := (sl_at hSw.2.2 hlt).1; have hy1 := (sl_at hSw.2.2 hlt).2; rw [← HP.out] at hyp; rw [← HCX.out] at hy0; rw [← HCY.out] at hy1; clear hSw; go_simp; try (with_reducible rfl))
      try simp only [Act.put, List.setIfInBounds_toArray, List.set_cons_zero, List.set_cons_succ]
      refine wpAnyH_ready (rs := [16]) (by kernel_rfl) (by simp) ?_
      refine AllReadyH.cons (by simp only [List.getElem?_toArray, List.getElem?_cons_succ, List.getElem?_cons_zero]; rfl) (fun KK hKK => ?_) AllReadyH.nil
      rw [if_pos (by rfl)]
      refine wp_store_row 32 (.tmp 6) (.tmp 34) rfl (w.heap.size + 3) (bdL (X.set Pn (cx, cy))) rfl rfl _ _ q6 (bd_size _ _ _) (by rw [bdL_size, bdL_size]) (bdA_all _ _ _) ?_
      have q6 := q6.row_ (X.set Pn (cx, cy))
      have q3 := q3.orow (show w.heap.size + 1 ≠ w.heap.size + 3 by omega) (bdL (X.set Pn (cx, cy)))
      have q4 := q4.orow (show w.heap.size + 2 ≠ w.heap.size + 3 by omega) (bdL (X.set Pn (cx, cy)))
      have qd := bd_orow qd (show w.heap.size ≠ w.heap.size + 3 by omega) (bdL (X.set Pn (cx, cy)))
      have hps := sl_row hps hxp (bdL (X.set Pn (cx, cy)))
      have hcs := sl_row hcs hxc (bdL (X.set Pn (cx, cy)))
      have hb := below_setRow hb (w.heap.size + 3) (bdL (X.set Pn (cx, cy))) (by omega)
      refine hKK.out _ _ ?_ (fun hHeld => ?_)
      · exact ⟨qd, hps, hcs⟩
      clear hKK KK
      try simp only [Act.put]
      refine wpAnyH_take (i := 17) (v := ?zv17) (by simp only [List.getElem?_toArray, List.getElem?_cons_succ, List.getElem?_cons_zero]; rfl) (by kernel_rfl) (by kernel_rfl) (by kernel_rfl) (by exact fun _ _ _ h => h) (Or.inl ⟨by rfl, ?zy17⟩) hHeld ?_
      case zy17 => (intro w hSw; (try dsimp only at hSw); have hy2 := hSw.1.c2; have hy3 := hSw.1.c3; have hyp := bs_at hSw.2.1 hkp; have hy0 := (sl_at hSw.2.2 hlt).1; have hy1 := (sl_at hSw.2.2 hlt).2; rw [← HP.out] at hyp; rw [← HCX.out] at hy0; rw [← HCY.out] at hy1; clear hSw; go_simp; try (with_reducible rfl))
      try simp only [Act.put, List.setIfInBounds_toArray, List.set_cons_zero, List.set_cons_succ]
      refine wpAnyH_done (by kernel_rfl) ?_ _
      have q6 : BoxL (w6.setRow (w.heap.size + 3) (bdL (X.set Pn (cx, cy)))) (w.heap.size + 3) (putTo V ps cs (k + 1)) := by rw [HS.out]; exact q6
      go_wp2_with fail
      go_roundw
      case rel => exact ⟨k + 1, by omega, by go_num, q6, q3, q4, qd, hps, hcs, hb⟩
      case measure => simp [intOf]; omega
    · obtain rfl : k = cs.length := by omega
      have hHs := fun W => Hash_calls (putTo V ps cs cs.length) W (by omega) hXo
      have hd := HD.out
      obtain ⟨X, hX⟩ : ∃ X, X = putTo V ps cs cs.length := ⟨_, rfl⟩
      have HX := Lib.hid hX
      rw [← hX] at hHs hd q6
      obtain ⟨H, hH⟩ : ∃ H, H = hashL X := ⟨_, rfl⟩
      rw [← hH] at hHs hd
      clear hX hH hps hcs HD HIN hXl hXo
      go_wp2_with fail
      refine wp_region_held_drew (S := fun w' => BoxL w' (w.heap.size + 3) X ∧ BoxD w' w.heap.size t h (.slice Ap cs.length cp) (.slice Ac cs.length cc)) (by kernel_rfl) ?_ (fun hHeld => ?_)
      · exact ⟨q6, qd⟩
      refine wpAnyH_take (i := 0) (by simp only [List.getElem?_toArray, List.getElem?_cons_zero]; rfl) (by kernel_rfl) (by kernel_rfl) (by kernel_rfl) (by exact fun _ _ _ h => h) (by exact yieldsIf_ld (by kernel_rfl) (.tmp 6) rfl (w.heap.size + 3) rfl X (fun w h => h.1)) hHeld ?_
      try simp only [Act.put, List.setIfInBounds_toArray, List.set_cons_zero, List.set_cons_succ]
      refine wpAnyH_take (i := 2) (v := ?yv2) (by simp only [List.getElem?_toArray, List.getElem?_cons_succ, List.getElem?_cons_zero]; rfl) (by kernel_rfl) (by kernel_rfl) (by kernel_rfl) (by exact fun _ _ _ h => h) (Or.inl ⟨by rfl, ?yy2⟩) hHeld ?_
      case yy2 => (intro w hSw; (try dsimp only at hSw); have hy2 := hSw.2.c1; clear hSw; go_simp; try (with_reducible rfl))
      try simp only [Act.put, List.setIfInBounds_toArray, List.set_cons_zero, List.set_cons_succ]
      refine wpAnyH_take (i := 3) (v := ?yv3) (by simp only [List.getElem?_toArray, List.getElem?_cons_succ, List.getElem?_cons_zero]; rfl) (by kernel_rfl) (by kernel_rfl) (by kernel_rfl) (by exact fun _ _ _ h => h) (Or.inl ⟨by rfl, ?yy3⟩) hHeld ?_
      case yy3 => (intro w hSw; (try dsimp only at hSw); have hy2 := hSw.2.c1; clear hSw; go_simp; try (with_reducible rfl))
      try simp only [Act.put, List.setIfInBounds_toArray, List.set_cons_zero, List.set_cons_succ]
      refine wpAnyH_ready (rs := [1]) (by kernel_rfl) (by simp) ?_
      refine AllReadyH.cons (by simp only [List.getElem?_toArray, List.getElem?_cons_succ, List.getElem?_cons_zero]; rfl) (fun KK hKK => ?_) AllReadyH.nil
      go_simp
      (with_reducible refine (hHs _).mono ?_)
      rintro e w6 ⟨rfl, h9⟩
      have h9 := below_undrew2 h9
      have q6 := q6.ext h9
      have q3 := q3.ext h9
      have q4 := q4.ext h9
      have qd := qd.ext h9
      have hb := hb.trans (h9.mono hb.size)
      clear h9
      go_wp2_with fail
      refine hKK.out _ _ ?_ (fun hHeld => ?_)
      · exact ⟨q6, qd⟩
      clear hKK KK
      try simp only [Act.put, List.setIfInBounds_toArray, List.set_cons_zero, List.set_cons_succ]
      refine wpAnyH_take (i := 4) (v := ?yv4) (by simp only [List.getElem?_toArray, List.getElem?_cons_succ, List.getElem?_cons_zero]; rfl) (by kernel_rfl) (by kernel_rfl) (by kernel_rfl) (by exact fun _ _ _ h => h) (Or.inl ⟨by rfl, ?yy4⟩) hHeld ?_
      case yy4 => (intro w hSw; (try dsimp only at hSw); have hy2 := hSw.2.c1; clear hSw; go_simp; try (with_reducible rfl))
      try simp only [Act.put, List.setIfInBounds_toArray, List.set_cons_zero, List.set_cons_succ]
      refine wpAnyH_done (by kernel_rfl) ?_ _
      cases d with
      | true =>
        go_wp2_with (first | ((with_reducible refine at_ld 32 6 ?_); refine wpList_ld rfl (.tmp 6) rfl (w.heap.size + 3) rfl X q6 ?_) | ((with_reducible refine at_st 32 4 47 ?_); refine wpList_st rfl (.tmp 4) (.tmp 47) rfl (w.heap.size + 2) [] X rfl rfl q4 ?_))
        exact bodyPost_ret (wp_result_bd _ _ _ rfl _ _ (w.heap.size + 2) (bdF X) (bdG X) X.length rfl (q4.row_ X)) rfl ⟨by rw [← HX.out]; rfl, below_setRow hb _ _ (by omega)⟩
      | false =>
        go_wp2_with (first | ((with_reducible refine at_ld 32 3 ?_); refine wpList_ld rfl (.tmp 3) rfl (w.heap.size + 1) rfl V q3 ?_) | ((with_reducible refine at_st 32 4 46 ?_); refine wpList_st rfl (.tmp 4) (.tmp 46) rfl (w.heap.size + 2) [] V rfl rfl q4 ?_))
        exact bodyPost_ret (wp_result_bd _ _ _ rfl _ _ (w.heap.size + 2) (bdF V) (bdG V) V.length rfl (q4.row_ V)) rfl ⟨rfl, below_setRow hb _ _ (by omega)⟩
end Go.Proofs.Ytioahddobogpjaa
/- Full: all places; Board: the board of a delta's cells. Conditions: those said. -/
namespace Go.Proofs.Ytioahddobogpjaa
open Go.RowKit

set_option maxHeartbeats 4000000 in
set_option maxRecDepth 20000 in
theorem Full_calls (L : List (Int × Nat)) (o : Int) (tick : Nat) (w : World) (hL : L.length ≤ 48) (hok : okC L) (ht : tick < 4294967296) :
    Calls Try.prog 12 #[.agg (bdL L), .int .i64 o, .int .u32 tick] w fun e w' => ∃ vp vc, e = .returned (.agg #[.int .u32 tick, .int .u32 (hashL (viewL o L) : Nat), vp, vc]) ∧ Row w' w.heap.size vp (placesB 281474976710655 L.length) ∧ RowC 29 w' w.heap.size vc (viewL o L) ∧ Below w.heap.size w w' := by
  have hO := fun W => Of_calls L 281474976710655 o tick W hL hok (by omega) ht
  have hcl : cellsTo (viewL o L) 281474976710655 L.length = viewL o L := by
    have := cellsTo_all (W := viewL o L) (by simp; omega)
    rwa [viewL_length] at this
  rw [hcl] at hO
  obtain ⟨H, hH⟩ : ∃ H, H = hashL (viewL o L) := ⟨_, rfl⟩
  rw [← hH] at hO ⊢
  clear hH hcl
  have q3 := (BoxL.new_ w L).alloc (.cells #[.int .u32 0, .int .u32 0, .slice none 0 0, .slice none 0 0] 38)
  have r6 : BoxD ((w.alloc (.cells (bdL L) 32)).alloc (.cells #[.int .u32 0, .int .u32 0, .slice none 0 0, .slice none 0 0] 38)) (w.heap.size + 1) 0 0 (.slice none 0 0) (.slice none 0 0) := by
    have := BoxD.new_ (w.alloc (.cells (bdL L) 32)) 0 0 (.slice none 0 0) (.slice none 0 0)
    rwa [show (w.alloc (.cells (bdL L) 32)).heap.size = w.heap.size + 1 by simp] at this
  have hb := below_alloc2 w (.cells (bdL L) 32) (.cells #[.int .u32 0, .int .u32 0, .slice none 0 0, .slice none 0 0] 38)
  go_enter Try.func12, Try.ntmps12
  go_wp2_with ((with_reducible refine at_ld 32 3 ?_); refine wpList_ld rfl (.tmp 3) rfl w.heap.size rfl L q3 ?_)
  refine (hO _).mono ?_
  rintro e w1 ⟨vp, vc, rfl, hp, hc, h1⟩
  have r6 := r6.ext h1
  obtain ⟨Ap, cp, bp, hvp, _⟩ := Row.sl hp
  obtain ⟨Ac, cc, bc, hvc, _⟩ := RowC.sl hc
  obtain ⟨n, hn⟩ : ∃ n, n = (placesB 281474976710655 L.length).length := ⟨_, rfl⟩
  obtain ⟨m, hm⟩ : ∃ m, m = (viewL o L).length := ⟨_, rfl⟩
  rw [← hn] at hvp
  rw [← hm] at hvc
  clear hn hm
  subst hvp hvc
  have hb := hb.trans (h1.mono hb.size)
  have hp := owns_low hp (show w.heap.size ≤ _ by simp; omega)
  have hc := owns_low hc (show w.heap.size ≤ _ by simp; omega)
  have hz1 := h1.size
  simp at hz1
  obtain ⟨p0, p1, p2, p3⟩ := And.intro r6.c0 (And.intro r6.c1 (And.intro r6.c2 r6.c3))
  have pf0 := r6.fr 0
  have pf1 := r6.fr 1
  have pf2 := r6.fr 2
  have pf3 := r6.fr 3
  clear h1 hO q3
  go_wp2_with fail
  have hnp := own_ne hp r6 (by decide)
  have hnc := own_ne hc r6 (by decide)
  have q0 := heap_setCell_same w1 (w.heap.size + 1) 0 _ _ (.int .u32 (tick : Int)) r6
  have rp0 := owns_mod hp (Mod.setCell w1 ⟨w.heap.size + 1, 0, none⟩ (.int .u32 (tick : Int))) (fun i hi h => by have h2 : i = w.heap.size + 1 := h; subst h2; first | exact hnp hi | exact hnc hi)
  have rc0 := owns_mod hc (Mod.setCell w1 ⟨w.heap.size + 1, 0, none⟩ (.int .u32 (tick : Int))) (fun i hi h => by have h2 : i = w.heap.size + 1 := h; subst h2; first | exact hnp hi | exact hnc hi)
  have bb0 := hb.setCell (p := ⟨w.heap.size + 1, 0, none⟩) (by simp) (.int .u32 (tick : Int))
  have q1 := heap_setCell_same (w1.setCell ⟨w.heap.size + 1, 0, none⟩ (.int .u32 (tick : Int))) (w.heap.size + 1) 1 _ _ (.int .u32 (H : Int)) q0
  have rp1 := owns_mod rp0 (Mod.setCell (w1.setCell ⟨w.heap.size + 1, 0, none⟩ (.int .u32 (tick : Int))) ⟨w.heap.size + 1, 1, none⟩ (.int .u32 (H : Int))) (fun i hi h => by have h2 : i = w.heap.size + 1 := h; subst h2; first | exact hnp hi | exact hnc hi)
  have rc1 := owns_mod rc0 (Mod.setCell (w1.setCell ⟨w.heap.size + 1, 0, none⟩ (.int .u32 (tick : Int))) ⟨w.heap.size + 1, 1, none⟩ (.int .u32 (H : Int))) (fun i hi h => by have h2 : i = w.heap.size + 1 := h; subst h2; first | exact hnp hi | exact hnc hi)
  have bb1 := bb0.setCell (p := ⟨w.heap.size + 1, 1, none⟩) (by simp) (.int .u32 (H : Int))
  have q2 := heap_setCell_same ((w1.setCell ⟨w.heap.size + 1, 0, none⟩ (.int .u32 (tick : Int))).setCell ⟨w.heap.size + 1, 1, none⟩ (.int .u32 (H : Int))) (w.heap.size + 1) 2 _ _ (.slice Ap n cp) q1
  have rp2 := owns_mod rp1 (Mod.setCell ((w1.setCell ⟨w.heap.size + 1, 0, none⟩ (.int .u32 (tick : Int))).setCell ⟨w.heap.size + 1, 1, none⟩ (.int .u32 (H : Int))) ⟨w.heap.size + 1, 2, none⟩ (.slice Ap n cp)) (fun i hi h => by have h2 : i = w.heap.size + 1 := h; subst h2; first | exact hnp hi | exact hnc hi)
  have rc2 := owns_mod rc1 (Mod.setCell ((w1.setCell ⟨w.heap.size + 1, 0, none⟩ (.int .u32 (tick : Int))).setCell ⟨w.heap.size + 1, 1, none⟩ (.int .u32 (H : Int))) ⟨w.heap.size + 1, 2, none⟩ (.slice Ap n cp)) (fun i hi h => by have h2 : i = w.heap.size + 1 := h; subst h2; first | exact hnp hi | exact hnc hi)
  have bb2 := bb1.setCell (p := ⟨w.heap.size + 1, 2, none⟩) (by simp) (.slice Ap n cp)
  have q3 := heap_setCell_same (((w1.setCell ⟨w.heap.size + 1, 0, none⟩ (.int .u32 (tick : Int))).setCell ⟨w.heap.size + 1, 1, none⟩ (.int .u32 (H : Int))).setCell ⟨w.heap.size + 1, 2, none⟩ (.slice Ap n cp)) (w.heap.size + 1) 3 _ _ (.slice Ac m cc) q2
  have rp3 := owns_mod rp2 (Mod.setCell (((w1.setCell ⟨w.heap.size + 1, 0, none⟩ (.int .u32 (tick : Int))).setCell ⟨w.heap.size + 1, 1, none⟩ (.int .u32 (H : Int))).setCell ⟨w.heap.size + 1, 2, none⟩ (.slice Ap n cp)) ⟨w.heap.size + 1, 3, none⟩ (.slice Ac m cc)) (fun i hi h => by have h2 : i = w.heap.size + 1 := h; subst h2; first | exact hnp hi | exact hnc hi)
  have rc3 := owns_mod rc2 (Mod.setCell (((w1.setCell ⟨w.heap.size + 1, 0, none⟩ (.int .u32 (tick : Int))).setCell ⟨w.heap.size + 1, 1, none⟩ (.int .u32 (H : Int))).setCell ⟨w.heap.size + 1, 2, none⟩ (.slice Ap n cp)) ⟨w.heap.size + 1, 3, none⟩ (.slice Ac m cc)) (fun i hi h => by have h2 : i = w.heap.size + 1 := h; subst h2; first | exact hnp hi | exact hnc hi)
  have bb3 := bb2.setCell (p := ⟨w.heap.size + 1, 3, none⟩) (by simp) (.slice Ac m cc)
  exact bodyPost_ret (results_cell_row (P := Try.prog) rfl _ _ (w.heap.size + 1) _ #[.int .u32 (tick : Int), .int .u32 (H : Int), .slice Ap n cp, .slice Ac m cc] (0, 0) _ rfl q3 Try.underlying38 rfl (by kernel_rfl)) rfl ⟨_, _, rfl, rp3, rc3, bb3⟩
set_option maxHeartbeats 16000000 in
set_option maxRecDepth 40000 in
theorem Board_calls (t h : Nat) (Ap : Option Addr) (ps : List UInt8) (np cp bp : Nat) (Ac : Option Addr) (cs : List (Int × Nat)) (cc bc : Nat) (d : Bool) (w : World)
    (hps : Bs w bp Ap ps) (hpn : ps.length = np) (hcs : Sl w bc Ac (cv cs)) (hcn : cs.length = np) (hl : np ≤ 48) (hr : risesB ps = true) (hlast : ∀ i (hi : i < ps.length), ps[i].toNat = i) (hoc : okC cs)
    (hd : ((hashL cs : Int) == (h : Int)) = d) :
    Calls Try.prog 19 #[.agg (dA t h Ap np cp Ac np cc)] w fun e w' => e = .returned (.tuple #[.agg (bdL (if d = true then cs else [])), .int .i64 (if d = true then 0 else 13)]) ∧ Below w.heap.size w w' := by
  have q1 := BoxD.new_ w t h (.slice Ap np cp) (.slice Ac np cc)
  have b1 := below_alloc1 w (.cells (dA t h Ap np cp Ac np cc) 38)
  have q1 := q1.alloc (.cells (bdL []) 32)
  have q2 := BoxL.new_ (w.alloc (.cells (dA t h Ap np cp Ac np cc) 38)) []
  rw [show (w.alloc (.cells (dA t h Ap np cp Ac np cc) 38)).heap.size = w.heap.size + 1 by simp] at q2
  have hb := b1.alloc b1.size (.cells (bdL []) 32)
  have hps := Sl.ext hps hb
  have hcs := Sl.ext hcs hb
  have hF := fun W hs => full_yes t h Ap ps np cp bp Ac cc W hs hpn hr hl hlast
  have hN := fun W hs => New_in Ac cs np cc bc W hs hcn hl
  have hHs := fun W => Hash_calls cs W (by omega) hoc
  obtain ⟨H, hH⟩ : ∃ H, H = hashL cs := ⟨_, rfl⟩
  rw [← hH] at hHs hd
  clear hH hr hlast
  obtain ⟨e0, e1, e2, e3⟩ := And.intro q1.c0 (And.intro q1.c1 (And.intro q1.c2 q1.c3))
  go_enter Try.func19, Try.ntmps19
  go_wp2_with ((with_reducible refine at_al 32 2 ?_); refine wpList_al rfl rfl (some 2) rfl (w.heap.size + 1) (by simp) ?_)
  (with_reducible refine (hF _ hps).mono ?_)
  rintro e w1 ⟨rfl, h9⟩
  have q1 := q1.ext h9
  have q2 := q2.ext h9
  have hcs := Sl.ext hcs h9
  have hb := hb.trans (h9.mono hb.size)
  clear h9
  obtain ⟨e0, e1, e2, e3⟩ := And.intro q1.c0 (And.intro q1.c1 (And.intro q1.c2 q1.c3))
  clear hF hps
  go_wp2_with fail
  (with_reducible refine (hN _ hcs).mono ?_)
  rintro e w2 ⟨rfl, h9⟩
  have q1 := q1.ext h9
  have q2 := q2.ext h9
  have hcs := Sl.ext hcs h9
  have hb := hb.trans (h9.mono hb.size)
  clear h9
  clear hN hcs e0 e1 e2 e3
  have q4 := BoxL.new_ w2 cs
  have q1 := q1.alloc (.cells (bdL cs) 32)
  have q2 := q2.alloc (.cells (bdL cs) 32)
  have hb := hb.alloc hb.size (.cells (bdL cs) 32)
  have hw4 : w2.heap.size < (w2.alloc (.cells (bdL cs) 32)).heap.size := by simp
  have hz2 := hb.size
  simp at hz2
  go_wp2_with (first | ((with_reducible refine at_al 32 4 ?_); refine wpList_al rfl rfl (some 4) rfl w2.heap.size rfl ?_) | ((with_reducible refine at_st 32 4 14 ?_); refine wpList_put rfl (.tmp 4) (.tmp 14) rfl rfl cs rfl rfl ?_))
  refine wp_region_held_drew (S := fun w' => BoxL w' w2.heap.size cs ∧ BoxD w' w.heap.size t h (.slice Ap np cp) (.slice Ac np cc)) (by kernel_rfl) ?_ (fun hHeld => ?_)
  · exact ⟨q4, q1⟩
  refine wpAnyH_take (i := 0) (v := ?zv0) (by simp only [List.getElem?_toArray, List.getElem?_cons_zero]; rfl) (by kernel_rfl) (by kernel_rfl) (by kernel_rfl) (by exact fun _ _ _ h => h) (Or.inl ⟨by kernel_rfl, ?zy0⟩) hHeld ?_
  case zy0 => (intro w hSw; (try dsimp only at hSw); have hy1 := hSw.2.c1; clear hSw; go_simp; try (with_reducible rfl))
  try simp only [Act.put, List.setIfInBounds_toArray, List.set_cons_zero, List.set_cons_succ]
  refine wpAnyH_take (i := 1) (v := ?zv1) (by simp only [List.getElem?_toArray, List.getElem?_cons_succ, List.getElem?_cons_zero]; rfl) (by kernel_rfl) (by kernel_rfl) (by kernel_rfl) (by exact fun _ _ _ h => h) (Or.inl ⟨by kernel_rfl, ?zy1⟩) hHeld ?_
  case zy1 => (intro w hSw; (try dsimp only at hSw); have hy1 := hSw.2.c1; clear hSw; go_simp; try (with_reducible rfl))
  try simp only [Act.put, List.setIfInBounds_toArray, List.set_cons_zero, List.set_cons_succ]
  refine wpAnyH_take (i := 2) (v := ?zv2) (by simp only [List.getElem?_toArray, List.getElem?_cons_succ, List.getElem?_cons_zero]; rfl) (by kernel_rfl) (by kernel_rfl) (by kernel_rfl) (by exact fun _ _ _ h => h) (Or.inl ⟨by kernel_rfl, ?zy2⟩) hHeld ?_
  case zy2 => (intro w hSw; (try dsimp only at hSw); have hy1 := hSw.2.c1; clear hSw; go_simp; try (with_reducible rfl))
  try simp only [Act.put, List.setIfInBounds_toArray, List.set_cons_zero, List.set_cons_succ]
  refine wpAnyH_take (i := 3) (by simp only [List.getElem?_toArray, List.getElem?_cons_succ, List.getElem?_cons_zero]; rfl) (by kernel_rfl) (by kernel_rfl) (by kernel_rfl) (by exact fun _ _ _ h => h) (by exact yieldsIf_ld (by kernel_rfl) (.tmp 4) rfl w2.heap.size rfl cs (fun w h => h.1)) hHeld ?_
  try simp only [Act.put, List.setIfInBounds_toArray, List.set_cons_zero, List.set_cons_succ]
  refine wpAnyH_take (i := 5) (v := ?zv5) (by simp only [List.getElem?_toArray, List.getElem?_cons_succ, List.getElem?_cons_zero]; rfl) (by kernel_rfl) (by kernel_rfl) (by kernel_rfl) (by exact fun _ _ _ h => h) (Or.inl ⟨by kernel_rfl, ?zy5⟩) hHeld ?_
  case zy5 => (intro w hSw; (try dsimp only at hSw); have hy1 := hSw.2.c1; clear hSw; go_simp; try (with_reducible rfl))
  try simp only [Act.put, List.setIfInBounds_toArray, List.set_cons_zero, List.set_cons_succ]
  refine wpAnyH_take (i := 6) (v := ?zv6) (by simp only [List.getElem?_toArray, List.getElem?_cons_succ, List.getElem?_cons_zero]; rfl) (by kernel_rfl) (by kernel_rfl) (by kernel_rfl) (by exact fun _ _ _ h => h) (Or.inl ⟨by kernel_rfl, ?zy6⟩) hHeld ?_
  case zy6 => (intro w hSw; (try dsimp only at hSw); have hy1 := hSw.2.c1; clear hSw; go_simp; try (with_reducible rfl))
  try simp only [Act.put, List.setIfInBounds_toArray, List.set_cons_zero, List.set_cons_succ]
  refine wpAnyH_ready (rs := [4]) (by kernel_rfl) (by simp) ?_
  refine AllReadyH.cons (by simp only [List.getElem?_toArray, List.getElem?_cons_succ, List.getElem?_cons_zero]; rfl) (fun KK hKK => ?_) AllReadyH.nil
  rw [if_pos (by kernel_rfl)]
  go_simp
  (with_reducible refine (hHs _).mono ?_)
  rintro e w3 ⟨rfl, h9⟩
  have h9 := below_undrew2 h9
  have q4 := q4.ext h9
  have q1 := q1.ext h9
  have q2 := q2.ext h9
  have hb := hb.trans (h9.mono hb.size)
  have hz3 := h9.size
  clear h9
  go_wp2_with fail
  refine hKK.out _ _ ?_ (fun hHeld => ?_)
  · exact ⟨q4, q1⟩
  clear hKK KK
  try simp only [Act.put, List.setIfInBounds_toArray, List.set_cons_zero, List.set_cons_succ]
  refine wpAnyH_take (i := 7) (v := ?zv7) (by simp only [List.getElem?_toArray, List.getElem?_cons_succ, List.getElem?_cons_zero]; rfl) (by kernel_rfl) (by kernel_rfl) (by kernel_rfl) (by exact fun _ _ _ h => h) (Or.inl ⟨by kernel_rfl, ?zy7⟩) hHeld ?_
  case zy7 => (intro w hSw; (try dsimp only at hSw); have hy1 := hSw.2.c1; clear hSw; go_simp; try (with_reducible rfl))
  try simp only [Act.put, List.setIfInBounds_toArray, List.set_cons_zero, List.set_cons_succ]
  refine wpAnyH_take (i := 8) (v := ?zv8) (by simp only [List.getElem?_toArray, List.getElem?_cons_succ, List.getElem?_cons_zero]; rfl) (by kernel_rfl) (by kernel_rfl) (by kernel_rfl) (by exact fun _ _ _ h => h) (Or.inl ⟨by kernel_rfl, ?zy8⟩) hHeld ?_
  case zy8 => (intro w hSw; (try dsimp only at hSw); have hy1 := hSw.2.c1; clear hSw; go_simp; try (with_reducible rfl))
  try simp only [Act.put, List.setIfInBounds_toArray, List.set_cons_zero, List.set_cons_succ]
  refine wpAnyH_done (by kernel_rfl) ?_ _
  cases d with
  | true =>
    go_wp2_with (first | ((with_reducible refine at_ld 32 4 ?_); refine wpList_ld rfl (.tmp 4) rfl w2.heap.size rfl cs q4 ?_) | ((with_reducible refine at_st 32 2 26 ?_); refine wpList_st rfl (.tmp 2) (.tmp 26) rfl (w.heap.size + 1) [] cs rfl rfl q2 ?_))
    exact bodyPost_ret (wp_result_bd _ _ _ rfl _ _ (w.heap.size + 1) (bdF cs) (bdG cs) cs.length rfl (q2.row_ cs)) rfl ⟨rfl, below_setRow hb _ _ (by omega)⟩
  | false =>
    go_wp2_with (first | ((with_reducible refine at_bd 32 25 _ ?_); refine wpList_build_bd0 rfl rfl ?_) | ((with_reducible refine at_st 32 2 25 ?_); refine wpList_st rfl (.tmp 2) (.tmp 25) rfl (w.heap.size + 1) [] [] rfl rfl q2 ?_))
    exact bodyPost_ret (wp_result_bd _ _ _ rfl _ _ (w.heap.size + 1) (bdF []) (bdG []) 0 rfl (q2.row_ [])) rfl ⟨rfl, below_setRow hb _ _ (by omega)⟩
end Go.Proofs.Ytioahddobogpjaa
/- What stays when a whole row is written; the places and cells of what was touched. Conditions: those said. -/
namespace Go.Proofs.Ytioahddobogpjaa
open Go.RowKit

theorem sl_row_ne {w : World} {b g : Nat} {A : Option Addr} {xs : List Value} (h : Sl w b A xs) (hne : xs ≠ [] → b ≠ g) (cs : Array Value) : Sl (w.setRow g cs) b A xs := fun hx => (h.keep fun _ => setRow_other w g b cs (hne hx)) hx
theorem mod_setRow (w : World) (g : Nat) (cs : Array Value) : Mod (fun i => i = g) w (w.setRow g cs) := ⟨rfl, rfl, rfl, by simp, fun i _ hn => setRow_other w g i cs hn⟩
theorem own_row_ne {w : World} {B n sz g : Nat} {e : TypeId} {v : Value} {xs : List Value} (h : w.ownsRow B e sz v n xs) (hne : ∀ k, v.ownBlock = some k → k ≠ g) (cs : Array Value) : (w.setRow g cs).ownsRow B e sz v n xs := owns_mod h (mod_setRow w g cs) hne
theorem bd_row {w : World} {b t h : Nat} {vp vc : Value} (q : BoxD w b t h vp vc) (t' h' : Nat) (vp' vc' : Value) : BoxD (w.setRow b #[.int .u32 (t' : Int), .int .u32 (h' : Int), vp', vc']) b t' h' vp' vc' := setRow_heap w b _ _ _ _ q
theorem wp_al {o : Oper} {a : Act} {w : World} {K : Act → World → Prop} {Q : Exit → Act → World → Prop} (ho : o.op = .alloc 32) (h : K (a.put o.dst (.pointer (some ⟨w.heap.size, 0, none⟩))) (w.alloc (.cells (bdL []) 32))) : o.wp Try.prog a w K Q := by
  unfold Oper.wp execOp
  simp only [ho, Instr.alloc, newVar, newRow, run_newObj_alloc, Sem.run_bind, Sem.run_pure, Result.andThen_ok, bd_zero, Value.cells]
  exact h
theorem cellsTo_ok {V : List (Int × Nat)} (h : okC V) (t n : Nat) : okC (cellsTo V t n) := fun c hc => by
  obtain ⟨i, _, rfl⟩ := List.mem_map.1 hc
  rcases Nat.lt_or_ge i V.length with hi | hi
  · rw [show V.getD i (0, 0) = V[i] by simp [List.getD, hi]]
    exact okC_get h hi
  · rw [show V.getD i (0, 0) = (0, 0) by simp [List.getD, List.getElem?_eq_none hi]]
    exact ⟨⟨by omega, by omega⟩, by omega⟩
theorem placesB_get {t n i : Nat} (hn : n ≤ 48) (hi : i < (placesB t n).length) : ((placesB t n)[i]).toNat = (placesTo t n)[i]'(by simpa using hi) := by
  have h1 := placesTo_lt (List.getElem_mem (by simpa using hi : i < (placesTo t n).length))
  simp only [placesB, List.getElem_map]
  simp [UInt8.toNat_ofNat']; omega
theorem placesB_lt {t n i : Nat} (hn : n ≤ 48) (hi : i < (placesB t n).length) : ((placesB t n)[i]).toNat < n := by
  rw [placesB_get hn hi]
  exact placesTo_lt (List.getElem_mem _)
theorem placesB_all {n i : Nat} (hn : n ≤ 48) (hi : i < (placesB 281474976710655 n).length) : ((placesB 281474976710655 n)[i]).toNat = i := by
  rw [placesB_get hn hi]
  simp [placesTo_all hn]
end Go.Proofs.Ytioahddobogpjaa
/- Bytes of a delta that may be. Conditions: those said. -/
namespace Go.Proofs.Ytioahddobogpjaa
open Go.RowKit

/-- What is written of a delta ahead of its places. -/
def dHead (t h n : Nat) : List UInt8 := low t 4 ++ low h 4 ++ low n 1
/-- What is written of its first k places. -/
def dRows (ps : List UInt8) (cs : List (Int × Nat)) (k : Nat) : List UInt8 := ((ps.zip cs).take k).flatMap fun pc => low pc.1.toNat 1 ++ cellB pc.2
def dB (t h : Nat) (ps : List UInt8) (cs : List (Int × Nat)) : List UInt8 := dHead t h ps.length ++ dRows ps cs ps.length
theorem dRows_succ {ps : List UInt8} {cs : List (Int × Nat)} {k : Nat} (h1 : k < ps.length) (h2 : k < cs.length) : dRows ps cs (k + 1) = dRows ps cs k ++ (low ps[k].toNat 1 ++ cellB cs[k]) := by
  unfold dRows
  rw [List.take_succ_eq_append_getElem (by simp; omega), List.flatMap_append]
  simp
theorem cellB_len (c : Int × Nat) : (cellB c).length = 8 := by simp [cellB]
theorem dRows_len (ps : List UInt8) (cs : List (Int × Nat)) (k : Nat) (h1 : k ≤ ps.length) (h2 : k ≤ cs.length) : (dRows ps cs k).length = 9 * k := by
  induction k with
  | zero => simp [dRows]
  | succ k ih => rw [dRows_succ (by omega) (by omega), List.length_append, ih (by omega) (by omega), List.length_append, cellB_len]; simp; omega
theorem dHead_len (t h n : Nat) : (dHead t h n).length = 9 := by simp [dHead]
theorem dB_len (t h : Nat) (ps : List UInt8) (cs : List (Int × Nat)) (h1 : ps.length = cs.length) : (dB t h ps cs).length = 9 + 9 * ps.length := by
  unfold dB
  rw [List.length_append, dHead_len, dRows_len _ _ _ (Nat.le_refl _) (by omega)]
theorem pen_undrew {g : Nat} {r r' : Option Nat} {a w : World} (h : PenStep g r r' a.drew w) : PenStep g r r' a w := ⟨h.1, h.2.os, h.2.tape, h.2.output, h.2.size, h.2.block⟩
theorem pen_drew {w : World} {g : Nat} {r : Option Nat} {l : List UInt8} (h : PenAt w g r l) : PenAt w.drew g r l := h
theorem boxC_mod {w w' : World} {b : Nat} {x : Int} {y : Nat} {S : Nat → Prop} (h : BoxC w b x y) (hm : Mod S w w') (hs : ¬ S b) : BoxC w' b x y := (hm.block b h.lt hs).trans h
theorem sl_modne {w w' : World} {b : Nat} {A : Option Addr} {L : List (Int × Nat)} (h : Sl w b A (cv L)) {S : Nat → Prop} (hm : Mod S w w') (hs : L ≠ [] → ¬ S b) : Sl w' b A (cv L) := by
  by_cases hl : L = []
  · subst hl; exact Sl.nil_ _ _ _
  · exact Sl.mod h hm (hs hl)
theorem pen_next {g N B : Nat} {r r' : Option Nat} {w w' : World} (hst : PenStep g r r' w w') (hr : ∀ j, r = some j → N ≤ j ∧ j ≠ B) (hN : N ≤ w.heap.size) (hB : B < w.heap.size) : ∀ j, r' = some j → N ≤ j ∧ j ≠ B := fun j hj => by
  rcases hst.1 with h | ⟨q, h, hq⟩
  · exact hr j (h ▸ hj)
  · have e := h.symm.trans hj
    injection e with e
    omega
theorem pen_not {g N B b : Nat} {r : Option Nat} (hr : ∀ j, r = some j → N ≤ j ∧ j ≠ B) (hg : b ≠ g) (hb : b < N ∨ b = B) : ¬(b = g ∨ r = some b) := fun h => by
  rcases h with h | h
  · exact hg h
  · have := hr b h; omega
theorem pen_below {g N B M : Nat} {r r' : Option Nat} {w w' : World} (hst : PenStep g r r' w w') (hr : ∀ j, r = some j → N ≤ j ∧ j ≠ B) (hM : M ≤ w.heap.size) (hg : M ≤ g) (hN : M ≤ N) : Below M w w' :=
  hst.2.below hM fun i hi h => by
    rcases h with h | h
    · omega
    · have := hr i h; omega
set_option maxHeartbeats 16000000 in
set_option maxRecDepth 40000 in
theorem Bytes_yes (t h : Nat) (Ap : Option Addr) (ps : List UInt8) (np cp bp : Nat) (Ac : Option Addr) (cs : List (Int × Nat)) (cc bc : Nat) (w : World)
    (hps : Bs w bp Ap ps) (hpn : ps.length = np) (hcs : Sl w bc Ac (cv cs)) (hcn : cs.length = np) (hl : np ≤ 48) (hr : risesB ps = true) (hoc : okC cs) (ht : t < 4294967296) (hh : h < 4294967296) :
    Calls Try.prog 20 #[.agg (dA t h Ap np cp Ac np cc)] w fun e w' => ∃ v, e = .returned v ∧ Row w' w.heap.size v (dB t h ps cs) ∧ Below w.heap.size w w' := by
  have qd := BoxD.new_ w t h (.slice Ap np cp) (.slice Ac np cc)
  have hb := below_alloc1 w (.cells (dA t h Ap np cp Ac np cc) 38)
  have hlp0 : 0 < np → bp < w.heap.size := fun h0 => Bs.lt hps (by rintro rfl; simp at hpn; omega)
  have hlc0 : 0 < np → bc < w.heap.size := fun h0 => sl_lt hcs (i := 0) (by omega)
  have hps := Sl.ext hps hb
  have hcs := Sl.ext hcs hb
  have hR := fun W hs => Rises_yes t h Ap ps np cp bp Ac np cc true W hs hpn hr (by omega) (by simp)
  have HPN := Lib.hid hpn
  have HCN := Lib.hid hcn
  clear hpn hcn hr
  obtain ⟨e0, e1, e2, e3⟩ := And.intro qd.c0 (And.intro qd.c1 (And.intro qd.c2 qd.c3))
  go_enter Try.func20, Try.ntmps20
  go_wp2_with fail
  (with_reducible refine (hR _ hps).mono ?_)
  rintro e w1 ⟨rfl, h9⟩
  have qd := qd.ext h9
  have hps := Sl.ext hps h9
  have hcs := Sl.ext hcs h9
  have hb := hb.trans (h9.mono hb.size)
  have hz1 := h9.size
  simp at hz1
  clear h9 hR e0 e1 e2 e3
  have h9 := below_alloc1 w1 (.cells #[.slice none 0 0] 85)
  have hp : PenAt (w1.alloc (.cells #[.slice none 0 0] 85)) w1.heap.size none [] := ⟨.slice none 0 0, heap_alloc_new w1 _, Row.nil_ _ _, rfl⟩
  have qd := qd.ext h9
  have hps := Sl.ext hps h9
  have hcs := Sl.ext hcs h9
  have hb := hb.trans (h9.mono hb.size)
  clear h9
  have hzp : w1.heap.size < (w1.alloc (.cells #[.slice none 0 0] 85)).heap.size := by simp
  have hrr : ∀ j, (none : Option Nat) = some j → w1.heap.size ≤ j ∧ j ≠ w.heap.size := fun j hj => by cases hj
  have hnw : IntKind.u8.wrap (np : Int) = (np : Int) := IntWalk.u8_in _ (by omega)
  go_wp2_with fail
  refine wp_region_held_drew (S := fun w' => BoxD w' w.heap.size t h (.slice Ap np cp) (.slice Ac np cc)) (by kernel_rfl) ?_ (fun hHeld => ?_)
  · exact qd
  refine wpAnyH_take (i := 0) (v := ?av0) (by simp only [List.getElem?_toArray, List.getElem?_cons_zero]; rfl) (by kernel_rfl) (by kernel_rfl) (by kernel_rfl) (by exact fun _ _ _ h => h) (Or.inl ⟨by rfl, ?ay0⟩) hHeld ?_
  case ay0 => (intro w hSw; (try dsimp only at hSw); have hy0 := hSw.c0; have hy1 := hSw.c1; have hy2 := hSw.c2; clear hSw; go_simp; try (with_reducible rfl))
  try simp only [Act.put, List.setIfInBounds_toArray, List.set_cons_zero, List.set_cons_succ]
  refine wpAnyH_take (i := 1) (v := ?av1) (by simp only [List.getElem?_toArray, List.getElem?_cons_succ, List.getElem?_cons_zero]; rfl) (by kernel_rfl) (by kernel_rfl) (by kernel_rfl) (by exact fun _ _ _ h => h) (Or.inl ⟨by rfl, ?ay1⟩) hHeld ?_
  case ay1 => (intro w hSw; (try dsimp only at hSw); have hy0 := hSw.c0; have hy1 := hSw.c1; have hy2 := hSw.c2; clear hSw; go_simp; try (with_reducible rfl))
  try simp only [Act.put, List.setIfInBounds_toArray, List.set_cons_zero, List.set_cons_succ]
  refine wpAnyH_take (i := 3) (v := ?av3) (by simp only [List.getElem?_toArray, List.getElem?_cons_succ, List.getElem?_cons_zero]; rfl) (by kernel_rfl) (by kernel_rfl) (by kernel_rfl) (by exact fun _ _ _ h => h) (Or.inl ⟨by rfl, ?ay3⟩) hHeld ?_
  case ay3 => (intro w hSw; (try dsimp only at hSw); have hy0 := hSw.c0; have hy1 := hSw.c1; have hy2 := hSw.c2; clear hSw; go_simp; try (with_reducible rfl))
  try simp only [Act.put, List.setIfInBounds_toArray, List.set_cons_zero, List.set_cons_succ]
  refine wpAnyH_take (i := 4) (v := ?av4) (by simp only [List.getElem?_toArray, List.getElem?_cons_succ, List.getElem?_cons_zero]; rfl) (by kernel_rfl) (by kernel_rfl) (by kernel_rfl) (by exact fun _ _ _ h => h) (Or.inl ⟨by rfl, ?ay4⟩) hHeld ?_
  case ay4 => (intro w hSw; (try dsimp only at hSw); have hy0 := hSw.c0; have hy1 := hSw.c1; have hy2 := hSw.c2; clear hSw; go_simp; try (with_reducible rfl))
  try simp only [Act.put, List.setIfInBounds_toArray, List.set_cons_zero, List.set_cons_succ]
  refine wpAnyH_take (i := 6) (v := ?av6) (by simp only [List.getElem?_toArray, List.getElem?_cons_succ, List.getElem?_cons_zero]; rfl) (by kernel_rfl) (by kernel_rfl) (by kernel_rfl) (by exact fun _ _ _ h => h) (Or.inl ⟨by rfl, ?ay6⟩) hHeld ?_
  case ay6 => (intro w hSw; (try dsimp only at hSw); have hy0 := hSw.c0; have hy1 := hSw.c1; have hy2 := hSw.c2; clear hSw; go_simp; try (with_reducible rfl))
  try simp only [Act.put, List.setIfInBounds_toArray, List.set_cons_zero, List.set_cons_succ]
  refine wpAnyH_take (i := 7) (v := ?av7) (by simp only [List.getElem?_toArray, List.getElem?_cons_succ, List.getElem?_cons_zero]; rfl) (by kernel_rfl) (by kernel_rfl) (by kernel_rfl) (by exact fun _ _ _ h => h) (Or.inl ⟨by rfl, ?ay7⟩) hHeld ?_
  case ay7 => (intro w hSw; (try dsimp only at hSw); have hy0 := hSw.c0; have hy1 := hSw.c1; have hy2 := hSw.c2; clear hSw; go_simp; try (with_reducible rfl))
  try simp only [Act.put, List.setIfInBounds_toArray, List.set_cons_zero, List.set_cons_succ]
  refine wpAnyH_take (i := 8) (v := ?av8) (by simp only [List.getElem?_toArray, List.getElem?_cons_succ, List.getElem?_cons_zero]; rfl) (by kernel_rfl) (by kernel_rfl) (by kernel_rfl) (by exact fun _ _ _ h => h) (Or.inl ⟨by rfl, ?ay8⟩) hHeld ?_
  case ay8 => (intro w hSw; (try dsimp only at hSw); have hy0 := hSw.c0; have hy1 := hSw.c1; have hy2 := hSw.c2; clear hSw; go_simp; try (with_reducible rfl))
  try simp only [Act.put, List.setIfInBounds_toArray, List.set_cons_zero, List.set_cons_succ]
  refine wpAnyH_take (i := 9) (v := ?av9) (by simp only [List.getElem?_toArray, List.getElem?_cons_succ, List.getElem?_cons_zero]; rfl) (by kernel_rfl) (by kernel_rfl) (by kernel_rfl) (by exact fun _ _ _ h => h) (Or.inl ⟨by rfl, ?ay9⟩) hHeld ?_
  case ay9 => (intro w hSw; (try dsimp only at hSw); have hy0 := hSw.c0; have hy1 := hSw.c1; have hy2 := hSw.c2; clear hSw; go_simp; try (with_reducible rfl))
  try simp only [Act.put, List.setIfInBounds_toArray, List.set_cons_zero, List.set_cons_succ]
  refine wpAnyH_ready (rs := [2]) (by kernel_rfl) (by simp) ?_
  refine AllReadyH.cons (by simp only [List.getElem?_toArray, List.getElem?_cons_succ, List.getElem?_cons_zero]; rfl) (fun KK hKK => ?_) AllReadyH.nil
  go_simp
  have hp := pen_drew hp
  (with_reducible refine (PenWord_calls _ none [] t _ hp ht (by simp)).mono ?_)
  rintro e w2 ⟨rfl, r2, hp, hst⟩
  have hst := pen_undrew hst
  have hs9 := hst.2.size
  have hps := Bs.modne hps hst.2 (fun hne => pen_not hrr (by have := hlp0 (by rw [← HPN.out]; exact List.length_pos_iff.2 hne); omega) (.inl (by have := hlp0 (by rw [← HPN.out]; exact List.length_pos_iff.2 hne); omega)))
  have hcs := sl_modne hcs hst.2 (fun hne => pen_not hrr (by have := hlc0 (by rw [← HCN.out]; exact List.length_pos_iff.2 hne); omega) (.inl (by have := hlc0 (by rw [← HCN.out]; exact List.length_pos_iff.2 hne); omega)))
  have qd := qd.mod hst.2 (pen_not hrr (by omega) (.inl (by omega)))
  have hb := hb.trans (pen_below hst hrr (by have := hb.size; omega) (by omega) (by omega))
  have hrr := pen_next hst hrr (by omega) (by omega)
  have hzp := Nat.lt_of_lt_of_le hzp hs9
  clear hst hs9
  go_wp2_with fail
  refine hKK.out _ _ ?_ (fun hHeld => ?_)
  · exact qd
  clear hKK KK
  try simp only [Act.put, List.setIfInBounds_toArray, List.set_cons_zero, List.set_cons_succ]
  refine wpAnyH_ready (rs := [5]) (by kernel_rfl) (by simp) ?_
  refine AllReadyH.cons (by simp only [List.getElem?_toArray, List.getElem?_cons_succ, List.getElem?_cons_zero]; rfl) (fun KK hKK => ?_) AllReadyH.nil
  go_simp
  (with_reducible refine (PenWord_calls _ r2 _ h _ hp hh (by simp)).mono ?_)
  rintro e w3 ⟨rfl, r3, hp, hst⟩
  have hs9 := hst.2.size
  have hps := Bs.modne hps hst.2 (fun hne => pen_not hrr (by have := hlp0 (by rw [← HPN.out]; exact List.length_pos_iff.2 hne); omega) (.inl (by have := hlp0 (by rw [← HPN.out]; exact List.length_pos_iff.2 hne); omega)))
  have hcs := sl_modne hcs hst.2 (fun hne => pen_not hrr (by have := hlc0 (by rw [← HCN.out]; exact List.length_pos_iff.2 hne); omega) (.inl (by have := hlc0 (by rw [← HCN.out]; exact List.length_pos_iff.2 hne); omega)))
  have qd := qd.mod hst.2 (pen_not hrr (by omega) (.inl (by omega)))
  have hb := hb.trans (pen_below hst hrr (by have := hb.size; omega) (by omega) (by omega))
  have hrr := pen_next hst hrr (by omega) (by omega)
  have hzp := Nat.lt_of_lt_of_le hzp hs9
  clear hst hs9
  go_wp2_with fail
  refine hKK.out _ _ ?_ (fun hHeld => ?_)
  · exact qd
  clear hKK KK
  try simp only [Act.put, List.setIfInBounds_toArray, List.set_cons_zero, List.set_cons_succ]
  refine wpAnyH_ready (rs := [10]) (by kernel_rfl) (by simp) ?_
  refine AllReadyH.cons (by simp only [List.getElem?_toArray, List.getElem?_cons_succ, List.getElem?_cons_zero]; rfl) (fun KK hKK => ?_) AllReadyH.nil
  go_simp
  (with_reducible refine (PenByte_calls _ r3 _ np _ hp (by omega) (by simp)).mono ?_)
  rintro e w4 ⟨rfl, r4, hp, hst⟩
  have hs9 := hst.2.size
  have hps := Bs.modne hps hst.2 (fun hne => pen_not hrr (by have := hlp0 (by rw [← HPN.out]; exact List.length_pos_iff.2 hne); omega) (.inl (by have := hlp0 (by rw [← HPN.out]; exact List.length_pos_iff.2 hne); omega)))
  have hcs := sl_modne hcs hst.2 (fun hne => pen_not hrr (by have := hlc0 (by rw [← HCN.out]; exact List.length_pos_iff.2 hne); omega) (.inl (by have := hlc0 (by rw [← HCN.out]; exact List.length_pos_iff.2 hne); omega)))
  have qd := qd.mod hst.2 (pen_not hrr (by omega) (.inl (by omega)))
  have hb := hb.trans (pen_below hst hrr (by have := hb.size; omega) (by omega) (by omega))
  have hrr := pen_next hst hrr (by omega) (by omega)
  have hzp := Nat.lt_of_lt_of_le hzp hs9
  clear hst hs9
  go_wp2_with fail
  refine hKK.out _ _ ?_ (fun hHeld => ?_)
  · exact qd
  clear hKK KK
  try simp only [Act.put, List.setIfInBounds_toArray, List.set_cons_zero, List.set_cons_succ]
  refine wpAnyH_done (by kernel_rfl) ?_ _
  obtain ⟨e2, e3⟩ := And.intro qd.c2 qd.c3
  have hp : PenAt w4 w1.heap.size r4 (dHead t h np ++ dRows ps cs 0) := hp.cast (by simp [dHead, dRows])
  have hl0 := dHead_len t h np
  go_wp2_with fail
  clear e2 e3
  have qd9 := qd
  repeat clear qd
  have hps9 := hps
  repeat clear hps
  have hcs9 := hcs
  repeat clear hcs
  have hp9 := hp
  repeat clear hp
  have hrr9 := hrr
  repeat clear hrr
  have hzp9 := hzp
  repeat clear hzp
  have hb9 := hb
  repeat clear hb
  go_loopw [23] (fun i wr => ∃ (k : Nat) (r : Option Nat), k ≤ np ∧ i = .int .i64 k ∧ BoxD wr w.heap.size t h (.slice Ap np cp) (.slice Ac np cc) ∧ Bs wr bp Ap ps ∧ Sl wr bc Ac (cv cs) ∧ PenAt wr w1.heap.size r (dHead t h np ++ dRows ps cs k) ∧ (∀ j, r = some j → w1.heap.size ≤ j ∧ j ≠ w.heap.size) ∧ w1.heap.size < wr.heap.size ∧ Below w.heap.size w wr) (fun i _ => np - (intOf i).toNat)
  case atStart => exact ⟨0, r4, Nat.zero_le _, rfl, qd9, hps9, hcs9, hp9, hrr9, hzp9, hb9⟩
  case round =>
    clear qd9 hps9 hcs9 hp9 hrr9 hzp9 hb9
    obtain ⟨k, r, hk, rfl, qd, hps, hcs, hp, hrr, hzp, hb⟩ := hrel
    by_cases hlt : k < np
    · have hkp : k < ps.length := by rw [HPN.out]; exact hlt
      have hkc : k < cs.length := by rw [HCN.out]; exact hlt
      have hlp := hlp0 (by omega)
      have hlc := hlc0 (by omega)
      have hrl := dRows_len ps cs k (by omega) (by omega)
      have hsn := dRows_succ hkp hkc
      have hci := okC_get hoc hkc
      obtain ⟨op, rfl, f0⟩ := Bs.at_ hps hkp
      clear f0
      obtain ⟨oc, rfl, f0, f1⟩ := sl_off hcs hkc
      obtain ⟨Pn, hPn⟩ : ∃ Pn, Pn = ps[k].toNat := ⟨_, rfl⟩
      have hP8 : Pn < 256 := by rw [hPn]; exact ps[k].toNat_lt
      obtain ⟨pr, hpr⟩ : ∃ pr, pr = cs[k] := ⟨_, rfl⟩
      rw [← hPn, ← hpr] at hsn
      rw [← hpr] at hci f0 f1
      obtain ⟨x, y⟩ := pr
      simp only at hci f0 f1
      have hu1 := uN_wrap x
      have hu2 := uN_mod x
      have hul := uN_lt x
      have hcb : cellB (x, y) = low (uN x) 4 ++ low y 4 := rfl
      obtain ⟨u, hu⟩ : ∃ u, u = uN x := ⟨_, rfl⟩
      rw [← hu] at hu1 hu2 hul hcb
      rw [hcb] at hsn
      have HS := Lib.hid hsn
      have HP := Lib.hid hPn
      have HRL := Lib.hid hrl
      have HL0 := Lib.hid hl0
      have ej : (k : Int) < (np : Int) := by omega
      clear hu hcb hsn hPn hpr hrl hl0
      have kx := BoxC.new_ wr x y
      have hp0 := hp
      have h9 := below_alloc1 wr (.cells #[.int .i32 x, .int .u32 (y : Int)] 29)
      have hp := PenAt.ext hp h9
      have qd := qd.ext h9
      have hps := Sl.ext hps h9
      have hcs := Sl.ext hcs h9
      have hb := hb.trans (h9.mono hb.size)
      clear h9
      have hrr : ∀ j, r = some j → w1.heap.size ≤ j ∧ j ≠ wr.heap.size := fun j hj => ⟨(hrr j hj).1, by have := PenAt.row_lt hp0 j hj; omega⟩
      have hzw := hzp
      have hzp : wr.heap.size < (wr.alloc (.cells #[.int .i32 x, .int .u32 (y : Int)] 29)).heap.size := by simp
      clear hp0
      go_wp2_with fail
      refine wp_region_held_drew (S := fun w' => BoxD w' w.heap.size t h (.slice (some ⟨bp, op, none⟩) np cp) (.slice (some ⟨bc, oc, none⟩) np cc) ∧ Bs w' bp (some ⟨bp, op, none⟩) ps ∧ BoxC w' wr.heap.size x y) (by kernel_rfl) ?_ (fun hHeld => ?_)
      · exact ⟨qd, hps, kx⟩
      refine wpAnyH_take (i := 0) (v := ?bv0) (by simp only [List.getElem?_toArray, List.getElem?_cons_zero]; rfl) (by kernel_rfl) (by kernel_rfl) (by kernel_rfl) (by exact fun _ _ _ h => h) (Or.inl ⟨by rfl, ?by0⟩) hHeld ?_
      case by0 => (intro w hSw; (try dsimp only at hSw); have hy2 := hSw.1.c2; have hyp := bs_at hSw.2.1 hkp; rw [← HP.out] at hyp; have hyx := hSw.2.2.c0; have hyy := hSw.2.2.c1; clear hSw; go_simp; try (with_reducible rfl))
      try simp only [Act.put, List.setIfInBounds_toArray, List.set_cons_zero, List.set_cons_succ]
      refine wpAnyH_take (i := 1) (v := ?bv1) (by simp only [List.getElem?_toArray, List.getElem?_cons_succ, List.getElem?_cons_zero]; rfl) (by kernel_rfl) (by kernel_rfl) (by kernel_rfl) (by exact fun _ _ _ h => h) (Or.inl ⟨by rfl, ?by1⟩) hHeld ?_
      case by1 => (intro w hSw; (try dsimp only at hSw); have hy2 := hSw.1.c2; have hyp := bs_at hSw.2.1 hkp; rw [← HP.out] at hyp; have hyx := hSw.2.2.c0; have hyy := hSw.2.2.c1; clear hSw; go_simp; try (with_reducible rfl))
      try simp only [Act.put, List.setIfInBounds_toArray, List.set_cons_zero, List.set_cons_succ]
      refine wpAnyH_take (i := 2) (v := ?bv2) (by simp only [List.getElem?_toArray, List.getElem?_cons_succ, List.getElem?_cons_zero]; rfl) (by kernel_rfl) (by kernel_rfl) (by kernel_rfl) (by exact fun _ _ _ h => h) (Or.inl ⟨by rfl, ?by2⟩) hHeld ?_
      case by2 => (intro w hSw; (try dsimp only at hSw); have hy2 := hSw.1.c2; have hyp := bs_at hSw.2.1 hkp; rw [← HP.out] at hyp; have hyx := hSw.2.2.c0; have hyy := hSw.2.2.c1; clear hSw; go_simp; try (with_reducible rfl))
      try simp only [Act.put, List.setIfInBounds_toArray, List.set_cons_zero, List.set_cons_succ]
      refine wpAnyH_take (i := 3) (v := ?bv3) (by simp only [List.getElem?_toArray, List.getElem?_cons_succ, List.getElem?_cons_zero]; rfl) (by kernel_rfl) (by kernel_rfl) (by kernel_rfl) (by exact fun _ _ _ h => h) (Or.inl ⟨by rfl, ?by3⟩) hHeld ?_
      case by3 => (intro w hSw; (try dsimp only at hSw); have hy2 := hSw.1.c2; have hyp := bs_at hSw.2.1 hkp; rw [← HP.out] at hyp; have hyx := hSw.2.2.c0; have hyy := hSw.2.2.c1; clear hSw; go_simp; try (with_reducible rfl))
      try simp only [Act.put, List.setIfInBounds_toArray, List.set_cons_zero, List.set_cons_succ]
      refine wpAnyH_take (i := 4) (v := ?bv4) (by simp only [List.getElem?_toArray, List.getElem?_cons_succ, List.getElem?_cons_zero]; rfl) (by kernel_rfl) (by kernel_rfl) (by kernel_rfl) (by exact fun _ _ _ h => h) (Or.inl ⟨by rfl, ?by4⟩) hHeld ?_
      case by4 => (intro w hSw; (try dsimp only at hSw); have hy2 := hSw.1.c2; have hyp := bs_at hSw.2.1 hkp; rw [← HP.out] at hyp; have hyx := hSw.2.2.c0; have hyy := hSw.2.2.c1; clear hSw; go_simp; try (with_reducible rfl))
      try simp only [Act.put, List.setIfInBounds_toArray, List.set_cons_zero, List.set_cons_succ]
      refine wpAnyH_take (i := 6) (v := ?bv6) (by simp only [List.getElem?_toArray, List.getElem?_cons_succ, List.getElem?_cons_zero]; rfl) (by kernel_rfl) (by kernel_rfl) (by kernel_rfl) (by exact fun _ _ _ h => h) (Or.inl ⟨by rfl, ?by6⟩) hHeld ?_
      case by6 => (intro w hSw; (try dsimp only at hSw); have hy2 := hSw.1.c2; have hyp := bs_at hSw.2.1 hkp; rw [← HP.out] at hyp; have hyx := hSw.2.2.c0; have hyy := hSw.2.2.c1; clear hSw; go_simp; try (with_reducible rfl))
      try simp only [Act.put, List.setIfInBounds_toArray, List.set_cons_zero, List.set_cons_succ]
      refine wpAnyH_take (i := 7) (v := ?bv7) (by simp only [List.getElem?_toArray, List.getElem?_cons_succ, List.getElem?_cons_zero]; rfl) (by kernel_rfl) (by kernel_rfl) (by kernel_rfl) (by exact fun _ _ _ h => h) (Or.inl ⟨by rfl, ?by7⟩) hHeld ?_
      case by7 => (intro w hSw; (try dsimp only at hSw); have hy2 := hSw.1.c2; have hyp := bs_at hSw.2.1 hkp; rw [← HP.out] at hyp; have hyx := hSw.2.2.c0; have hyy := hSw.2.2.c1; clear hSw; go_simp; try (with_reducible rfl))
      try simp only [Act.put, List.setIfInBounds_toArray, List.set_cons_zero, List.set_cons_succ]
      refine wpAnyH_take (i := 8) (v := ?bv8) (by simp only [List.getElem?_toArray, List.getElem?_cons_succ, List.getElem?_cons_zero]; rfl) (by kernel_rfl) (by kernel_rfl) (by kernel_rfl) (by exact fun _ _ _ h => h) (Or.inl ⟨by rfl, ?by8⟩) hHeld ?_
      case by8 => (intro w hSw; (try dsimp only at hSw); have hy2 := hSw.1.c2; have hyp := bs_at hSw.2.1 hkp; rw [← HP.out] at hyp; have hyx := hSw.2.2.c0; have hyy := hSw.2.2.c1; clear hSw; go_simp; try (with_reducible rfl))
      try simp only [Act.put, List.setIfInBounds_toArray, List.set_cons_zero, List.set_cons_succ]
      refine wpAnyH_take (i := 10) (v := ?bv10) (by simp only [List.getElem?_toArray, List.getElem?_cons_succ, List.getElem?_cons_zero]; rfl) (by kernel_rfl) (by kernel_rfl) (by kernel_rfl) (by exact fun _ _ _ h => h) (Or.inl ⟨by rfl, ?by10⟩) hHeld ?_
      case by10 => (intro w hSw; (try dsimp only at hSw); have hy2 := hSw.1.c2; have hyp := bs_at hSw.2.1 hkp; rw [← HP.out] at hyp; have hyx := hSw.2.2.c0; have hyy := hSw.2.2.c1; clear hSw; go_simp; try (with_reducible rfl))
      try simp only [Act.put, List.setIfInBounds_toArray, List.set_cons_zero, List.set_cons_succ]
      refine wpAnyH_take (i := 11) (v := ?bv11) (by simp only [List.getElem?_toArray, List.getElem?_cons_succ, List.getElem?_cons_zero]; rfl) (by kernel_rfl) (by kernel_rfl) (by kernel_rfl) (by exact fun _ _ _ h => h) (Or.inl ⟨by rfl, ?by11⟩) hHeld ?_
      case by11 => (intro w hSw; (try dsimp only at hSw); have hy2 := hSw.1.c2; have hyp := bs_at hSw.2.1 hkp; rw [← HP.out] at hyp; have hyx := hSw.2.2.c0; have hyy := hSw.2.2.c1; clear hSw; go_simp; try (with_reducible rfl))
      try simp only [Act.put, List.setIfInBounds_toArray, List.set_cons_zero, List.set_cons_succ]
      refine wpAnyH_ready (rs := [5]) (by kernel_rfl) (by simp) ?_
      refine AllReadyH.cons (by simp only [List.getElem?_toArray, List.getElem?_cons_succ, List.getElem?_cons_zero]; rfl) (fun KK hKK => ?_) AllReadyH.nil
      go_simp
      have hp := pen_drew hp
      (with_reducible refine (PenByte_calls _ r _ Pn _ hp hP8 (by have := HRL.out; have := HL0.out; simp; omega)).mono ?_)
      rintro e w5 ⟨rfl, r5, hp, hst⟩
      have hst := pen_undrew hst
      have hs9 := hst.2.size
      have hps := Sl.mod hps hst.2 (pen_not hrr (by omega) (.inl (by omega)))
      have hcs := Sl.mod hcs hst.2 (pen_not hrr (by omega) (.inl (by omega)))
      have qd := qd.mod hst.2 (pen_not hrr (by omega) (.inl (by omega)))
      have kx := boxC_mod kx hst.2 (pen_not hrr (by omega) (.inr rfl))
      have hb := hb.trans (pen_below hst hrr (by have := hb.size; omega) (by omega) (by omega))
      have hrr := pen_next hst hrr (by omega) (by omega)
      have hzp := Nat.lt_of_lt_of_le hzp hs9
      clear hst hs9
      go_wp2_with fail
      refine hKK.out _ _ ?_ (fun hHeld => ?_)
      · exact ⟨qd, hps, kx⟩
      clear hKK KK
      try simp only [Act.put, List.setIfInBounds_toArray, List.set_cons_zero, List.set_cons_succ]
      refine wpAnyH_ready (rs := [9]) (by kernel_rfl) (by simp) ?_
      refine AllReadyH.cons (by simp only [List.getElem?_toArray, List.getElem?_cons_succ, List.getElem?_cons_zero]; rfl) (fun KK hKK => ?_) AllReadyH.nil
      go_simp
      (with_reducible refine (PenWord_calls _ r5 _ u _ hp hul (by have := HRL.out; have := HL0.out; simp; omega)).mono ?_)
      rintro e w6 ⟨rfl, r6, hp, hst⟩
      have hs9 := hst.2.size
      have hps := Sl.mod hps hst.2 (pen_not hrr (by omega) (.inl (by omega)))
      have hcs := Sl.mod hcs hst.2 (pen_not hrr (by omega) (.inl (by omega)))
      have qd := qd.mod hst.2 (pen_not hrr (by omega) (.inl (by omega)))
      have kx := boxC_mod kx hst.2 (pen_not hrr (by omega) (.inr rfl))
      have hb := hb.trans (pen_below hst hrr (by have := hb.size; omega) (by omega) (by omega))
      have hrr := pen_next hst hrr (by omega) (by omega)
      have hzp := Nat.lt_of_lt_of_le hzp hs9
      clear hst hs9
      go_wp2_with fail
      refine hKK.out _ _ ?_ (fun hHeld => ?_)
      · exact ⟨qd, hps, kx⟩
      clear hKK KK
      try simp only [Act.put, List.setIfInBounds_toArray, List.set_cons_zero, List.set_cons_succ]
      refine wpAnyH_ready (rs := [12]) (by kernel_rfl) (by simp) ?_
      refine AllReadyH.cons (by simp only [List.getElem?_toArray, List.getElem?_cons_succ, List.getElem?_cons_zero]; rfl) (fun KK hKK => ?_) AllReadyH.nil
      go_simp
      (with_reducible refine (PenWord_calls _ r6 _ y _ hp hci.2 (by have := HRL.out; have := HL0.out; simp; omega)).mono ?_)
      rintro e w7 ⟨rfl, r7, hp, hst⟩
      have hs9 := hst.2.size
      have hps := Sl.mod hps hst.2 (pen_not hrr (by omega) (.inl (by omega)))
      have hcs := Sl.mod hcs hst.2 (pen_not hrr (by omega) (.inl (by omega)))
      have qd := qd.mod hst.2 (pen_not hrr (by omega) (.inl (by omega)))
      have kx := boxC_mod kx hst.2 (pen_not hrr (by omega) (.inr rfl))
      have hb := hb.trans (pen_below hst hrr (by have := hb.size; omega) (by omega) (by omega))
      have hrr := pen_next hst hrr (by omega) (by omega)
      have hzp := Nat.lt_of_lt_of_le hzp hs9
      clear hst hs9
      go_wp2_with fail
      refine hKK.out _ _ ?_ (fun hHeld => ?_)
      · exact ⟨qd, hps, kx⟩
      clear hKK KK
      try simp only [Act.put, List.setIfInBounds_toArray, List.set_cons_zero, List.set_cons_succ]
      refine wpAnyH_done (by kernel_rfl) ?_ _
      have hp : PenAt w7 w1.heap.size r7 (dHead t h np ++ dRows ps cs (k + 1)) := hp.cast (by rw [HS.out]; simp only [List.append_assoc])
      have hrr : ∀ j, r7 = some j → w1.heap.size ≤ j ∧ j ≠ w.heap.size := fun j hj => by have := (hrr j hj).1; omega
      have hzq : w1.heap.size < w7.heap.size := by omega
      go_wp2_with fail
      go_roundw
      case rel => exact ⟨k + 1, r7, by omega, by go_num, qd, hps, hcs, hp, hrr, hzq, hb⟩
      case measure => simp [intOf]; omega
    · obtain rfl : k = np := by omega
      have hfin : dHead t h k ++ dRows ps cs k = dB t h ps cs := by unfold dB; rw [HPN.out]
      rw [hfin] at hp
      have hlen := dB_len t h ps cs (by rw [HPN.out, HCN.out])
      have hlen2 : (dB t h ps cs).length ≤ 1000 := by rw [hlen, HPN.out]; omega
      clear hlen hfin hl0
      go_wp2_with fail
      (with_reducible refine (PenBytes_calls _ r _ _ hp (by omega)).mono ?_)
      rintro e w8 ⟨v8, rfl, hrow, h9⟩
      have hb := hb.trans (h9.mono hb.size)
      have hrow := owns_low hrow (show w.heap.size ≤ _ by omega)
      obtain ⟨A8, c8, b8, hv8, _⟩ := Row.sl hrow
      obtain ⟨N8, hN8⟩ : ∃ N8, N8 = (dB t h ps cs).length := ⟨_, rfl⟩
      rw [← hN8] at hv8
      clear hN8 h9
      subst hv8
      go_wp2_with fail
      go_ret
      exact ⟨_, rfl, hrow, hb⟩
end Go.Proofs.Ytioahddobogpjaa
/- The first few of a list of cells; cells as the reference has them. Conditions: those said. -/
namespace Go.Proofs.Ytioahddobogpjaa
open Go.RowKit

set_option maxHeartbeats 4000000 in
set_option maxRecDepth 20000 in
theorem FewC_calls (A : Option Addr) (L : List (Int × Nat)) (n c b : Nat) (w : World) (hs : Sl w b A (cv L)) (hn : L.length = n) (hnc : n ≤ c) :
    Calls Try.prog 9 #[.slice A n c] w fun e w' => ∃ v, e = .returned v ∧ RowC 29 w' w.heap.size v (L.take 48) ∧ Below w.heap.size w w' := by
  have HN := Lib.hid hn
  obtain ⟨K, hK⟩ : ∃ K, K = min n 48 := ⟨_, rfl⟩
  have hmin : (if (48 : Int) < (n : Int) then (48 : Int) else (n : Int)) = (K : Int) := by split <;> omega
  have hKc : (K : Int) ≤ (c : Int) := by omega
  have hlt : L.take 48 = L.take K := by
    rw [hK, ← hn, ← List.take_take]
    exact (List.take_of_length_le (by rw [List.length_take]; omega)).symm
  have hpl : (L.take K).length = K := by rw [List.length_take, hn]; omega
  have hsK : Sl (w.alloc (.cells #[] 29)) b A (cv (L.take K)) := by
    have h1 := Sl.take (hs.alloc (.cells #[] 29)) (K * 2)
    rwa [cv_take] at h1
  have ho0 : RowC 29 (w.alloc (.cells #[] 29)) w.heap.size (.slice (some ⟨w.heap.size, 0, none⟩) 0 0) [] := World.ownsRow_made w #[] 0 (Nat.le_refl _) (by simp [maxLen]) rfl
  rw [hlt]
  have hK48 : K ≤ 48 := by omega
  clear hK hn hs hlt
  go_enter Try.func9, Try.ntmps9
  go_wp2_with ((with_reducible refine at_ca 9 _ ?_); refine wpList_appC _ Try.underlying22 cellB_info rfl (.tmp 3) (.tmp 8) rfl w.heap.size (.slice (some ⟨w.heap.size, 0, none⟩) 0 0) [] rfl ho0 b A K c (L.take K) rfl hsK hpl (by simp; omega) (by simp) ?_; intro v2 w2 hrow2 hmod2 hown2)
  go_ret
  exact ⟨_, rfl, by rw [List.nil_append] at hrow2; exact hrow2, (below_alloc1 w _).trans (hmod2.below_own (by simp) (fun i h => by simp [Value.ownBlock] at h; omega))⟩
set_option maxHeartbeats 4000000 in
set_option maxRecDepth 20000 in
theorem Own_calls (A : Option Addr) (L : List (Int × Nat)) (n c b : Nat) (w : World) (hs : Sl w b A (cv L)) (hn : L.length = n) (hm : n ≤ 1000000) :
    Calls Try.prog 16 #[.slice A n c] w fun e w' => ∃ v, e = .returned v ∧ RowC 83 w' w.heap.size v L ∧ Below w.heap.size w w' := by
  subst hn
  go_enter Try.func16, Try.ntmps16
  go_wp2_with fail
  go_loopw [3, 5, 8] (fun out p i wr => ∃ k : Nat, k ≤ L.length ∧ i = .int .i64 k ∧ RowC 83 wr w.heap.size out (L.take k) ∧ Below w.heap.size w wr) (fun _ _ i _ => L.length - (intOf i).toNat)
  case atStart => exact ⟨0, Nat.zero_le _, rfl, RowC.nil_ _ _ _, Below.refl _ _⟩
  case round =>
    obtain ⟨k, hk, rfl, hr, hb⟩ := hrel
    rename_i v0 _ _
    by_cases hlt : k < L.length
    · obtain ⟨off, rfl, h0, h1⟩ := sl_off (Sl.ext hs hb) hlt
      have hlen : (L.take k).length = k := by simp; omega
      have HT := Lib.hid (take_next hlt)
      obtain ⟨p, hp⟩ : ∃ p, p = L[k] := ⟨_, rfl⟩
      rw [← hp] at h0 h1 HT
      obtain ⟨x, y⟩ := p
      simp only at h0 h1
      have HL := Lib.hid hlen
      have ej : (k : Int) < (L.length : Int) := by omega
      have hzb := hb.size
      clear hp hlen
      have hb3 := hb.alloc hzb (.cells #[.int .i32 x, .int .u32 (y : Int)] 29)
      have hr2 := World.ownsRow.alloc hr (.cells #[.int .i32 x, .int .u32 (y : Int)] 29)
      have hz3 := hb3.size
      have hsn := Sl.cell_new (wr.alloc (.cells #[.int .i32 x, .int .u32 (y : Int)] 29)) (x, y) 83
      rw [show (wr.alloc (.cells #[.int .i32 x, .int .u32 (y : Int)] 29)).heap.size = wr.heap.size + 1 by simp] at hsn
      go_wp2_with ((with_reducible refine at_ca 19 _ ?_); refine wpList_appC _ Try.underlying42 cellR_info rfl (.tmp 12) (.tmp 18) rfl w.heap.size _ (L.take k) rfl (World.ownsRow.alloc hr2 _) _ (some ⟨_, 0, none⟩) 1 1 [(x, y)] rfl hsn rfl (by rw [HL.out]; omega) (hb3.alloc hz3 _).size ?_; intro v' w4 hrow hmod hat)
      have hb4 := (hb3.alloc hz3 _).trans (hmod.below_own (B := w.heap.size) (hb3.alloc hz3 _).size (fun i h => (World.ownsRow.lt hr2 i h).1))
      go_roundw
      case rel => exact ⟨k + 1, by omega, by go_num, by rw [HT.out]; exact hrow, hb4⟩
      case measure => simp [intOf]; omega
    · obtain rfl : k = L.length := by omega
      rw [List.take_length] at hr
      go_wp2_with fail
      go_ret
      exact ⟨_, rfl, hr, hb⟩
end Go.Proofs.Ytioahddobogpjaa
