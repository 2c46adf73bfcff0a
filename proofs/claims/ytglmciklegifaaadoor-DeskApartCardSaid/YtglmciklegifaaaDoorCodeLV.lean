/- Check, Right: what a list of instructions may be. Conditions: the numbers fit; the tables lie. -/
import Derived.Test.YtglmciklegifaaaDoorCodeGV
namespace Go.Proofs.YtglmciklegifaaaDoor
open Go.RowKit

/-- Instructions as cells. -/
def kv (l : List Cd) : List Value := l.flatMap fun c => (cdA c).toList
theorem kv_cons (c : Cd) (l : List Cd) : kv (c :: l) = (cdA c).toList ++ kv l := rfl
@[simp] theorem kv_nil : kv [] = [] := rfl
theorem cdA_len (c : Cd) : (cdA c).toList.length = 6 := rfl
@[simp] theorem kv_length (l : List Cd) : (kv l).length = l.length * 6 := by
  induction l with
  | nil => rfl
  | cons c l ih => rw [kv_cons, List.length_append, ih, cdA_len, List.length_cons]; omega
theorem kv_get : ∀ {l : List Cd} {i : Nat} (hi : i < l.length) {r : Nat} (_ : r < 6), (kv l)[i * 6 + r]? = (cdA l[i]).toList[r]? := by
  intro l
  induction l with
  | nil => intro i hi; simp at hi
  | cons c l ih =>
    intro i hi r hr
    rw [kv_cons]
    cases i with
    | zero => rw [List.getElem?_append_left (by rw [cdA_len]; omega)]; simp
    | succ i =>
      rw [List.getElem?_append_right (by rw [cdA_len]; omega), cdA_len, show (i + 1) * 6 + r - 6 = i * 6 + r by omega, ih (by simpa using hi) hr]
      simp
theorem kv_append (a b : List Cd) : kv (a ++ b) = kv a ++ kv b := by simp [kv]
def okK (l : List Cd) : Prop := ∀ c ∈ l, c.Ok
theorem sl_code {w : World} {b : Nat} {A : Option Addr} {l : List Cd} (h : Sl w b A (kv l)) {i : Nat} (hi : i < l.length) :
    ∃ off, A = some ⟨b, off, none⟩ ∧ w.cell? ⟨b, off + i * 6, none⟩ = some (.int .u8 (l[i].op : Int)) ∧ w.cell? ⟨b, off + i * 6 + 1, none⟩ = some (.int .u8 (l[i].a : Int)) ∧ w.cell? ⟨b, off + i * 6 + 2, none⟩ = some (.int .u8 (l[i].b : Int)) ∧
      w.cell? ⟨b, off + i * 6 + 3, none⟩ = some (.int .u8 (l[i].c : Int)) ∧ w.cell? ⟨b, off + i * 6 + 4, none⟩ = some (.int .i32 l[i].n) ∧ w.cell? ⟨b, off + i * 6 + 5, none⟩ = some (.int .u32 (l[i].m : Int)) := by
  obtain ⟨off, e, hc⟩ := h (by intro h0; have h1 := congrArg List.length h0; rw [kv_length, List.length_nil] at h1; omega)
  have at_ : ∀ r v, r < 6 → (cdA l[i]).toList[r]? = some v → w.cell? ⟨b, off + i * 6 + r, none⟩ = some v := fun r v hr hv => by
    have := hc (i * 6 + r) v (by rw [kv_get hi hr, hv])
    rw [← Nat.add_assoc] at this
    exact this
  exact ⟨off, e, at_ 0 _ (by omega) rfl, at_ 1 _ (by omega) rfl, at_ 2 _ (by omega) rfl, at_ 3 _ (by omega) rfl, at_ 4 _ (by omega) rfl, at_ 5 _ (by omega) rfl⟩
theorem fits_out (op a b cc : Nat) (n : Int) (m : Nat) (h26 : 26 ≤ op) (cells places players : Int) (w : World) :
    Calls Tryd.prog 54 #[.agg #[.int .u8 (op : Int), .int .u8 (a : Int), .int .u8 (b : Int), .int .u8 (cc : Int), .int .i32 n, .int .u32 (m : Int)], .agg #[.int .i64 cells, .int .i64 places, .int .i64 players]] w fun e w' => e = .returned (.bool (fitsB ⟨op, a, b, cc, n, m⟩ cells places players)) ∧ Below w.heap.size w w' := by
  have e0 : decide ((op : Int) ≥ 26) = true := by simp; omega
  have hf : fitsB ⟨op, a, b, cc, n, m⟩ cells places players = false := by simp only [fitsB]; rw [decide_eq_false (by omega), Bool.false_and]
  rw [hf]
  have hb := below_alloc2 w (.cells #[.int .u8 (op : Int), .int .u8 (a : Int), .int .u8 (b : Int), .int .u8 (cc : Int), .int .i32 n, .int .u32 (m : Int)] 71) (.cells #[.int .i64 cells, .int .i64 places, .int .i64 players] 110)
  clear hf
  go_enter Tryd.func54, Tryd.ntmps54
  go_wp2
  go_ret
  exact ⟨rfl, hb⟩
theorem fits_calls (op a b cc : Nat) (n : Int) (m : Nat) (hc : (Cd.mk op a b cc n m).Ok) (cells places players : Int) (hl0 : -9223372036854775808 ≤ cells) (hl1 : cells ≤ 9223372036854775807) (w : World) (hT : CTab w) :
    Calls Tryd.prog 54 #[.agg #[.int .u8 (op : Int), .int .u8 (a : Int), .int .u8 (b : Int), .int .u8 (cc : Int), .int .i32 n, .int .u32 (m : Int)], .agg #[.int .i64 cells, .int .i64 places, .int .i64 players]] w fun e w' => e = .returned (.bool (fitsB ⟨op, a, b, cc, n, m⟩ cells places players)) ∧ Below w.heap.size w w' := by
  by_cases h : op < 26
  · exact fits_in op a b cc n m hc h cells places players hl0 hl1 w hT
  · exact fits_out op a b cc n m (by omega) cells places players w
/-- What Check answers. -/
def checkP (l : List Cd) (cells players : Int) (c : Cd) : Bool := !(fitsB c cells ((l.length : Int) + 1) players)
def checkV (l : List Cd) (cells players : Int) : Nat × Bool :=
  if 96 < l.length then (96, false) else if l.findIdx (checkP l cells players) < l.length then (l.findIdx (checkP l cells players), false) else (0, true)
theorem checkV_bad {l : List Cd} {cells players : Int} {k : Nat} (hl : l.length ≤ 96) (hk : k < l.length) (h : fitsB l[k] cells ((l.length : Int) + 1) players = false) (hp : ∀ j (hj : j < k), fitsB (l[j]'(by omega)) cells ((l.length : Int) + 1) players = true) : checkV l cells players = (k, false) := by
  have h1 : l.findIdx (checkP l cells players) = k := (List.findIdx_eq hk).2 ⟨by simp [checkP, h], fun j hj => by simp [checkP, hp j hj]⟩
  unfold checkV
  rw [if_neg (by omega), h1, if_pos hk]
theorem checkV_good {l : List Cd} {cells players : Int} (hl : l.length ≤ 96) (hp : ∀ j (hj : j < l.length), fitsB l[j] cells ((l.length : Int) + 1) players = true) : checkV l cells players = (0, true) := by
  have h1 : l.findIdx (checkP l cells players) = l.length := List.findIdx_eq_length.2 fun x hx => by
    obtain ⟨j, hj, rfl⟩ := List.getElem_of_mem hx
    simp [checkP, hp j hj]
  unfold checkV
  rw [if_neg (by omega), h1, if_neg (by omega)]
set_option maxHeartbeats 4000000 in
set_option maxRecDepth 20000 in
theorem Check_calls (A : Option Addr) (l : List Cd) (n c b : Nat) (cells players : Int) (w : World) (hs : Sl w b A (kv l)) (hn : l.length = n) (hm : n ≤ maxLen) (hok : okK l) (hl0 : -9223372036854775808 ≤ cells) (hl1 : cells ≤ 9223372036854775807) (hT : CTab w) :
    Calls Tryd.prog 38 #[.slice A n c, .int .i64 cells, .int .i64 players] w fun e w' => e = .returned (.tuple #[.int .i64 ((checkV l cells players).1 : Nat), .bool (checkV l cells players).2]) ∧ Below w.heap.size w w' := by
  subst hn
  by_cases hbig : 96 < l.length
  · have e0 : decide ((l.length : Int) > 96) = true := by simp; omega
    have hv : checkV l cells players = (96, false) := by unfold checkV; rw [if_pos hbig]
    rw [hv]
    clear hv
    go_enter Tryd.func38, Tryd.ntmps38
    go_wp2
    go_ret2
    exact ⟨rfl, Below.refl _ _⟩
  have e0 : decide ((l.length : Int) > 96) = false := by simp; omega
  have hL : l.length ≤ 96 := by omega
  have hw := IntWalk.i64_in ((l.length : Int) + 1) (by omega)
  have hbad := fun k => checkV_bad (l := l) (cells := cells) (players := players) (k := k) hL
  have hgood := checkV_good (l := l) (cells := cells) (players := players) hL
  obtain ⟨V, hV⟩ : ∃ V, V = checkV l cells players := ⟨_, rfl⟩
  rw [← hV] at hgood ⊢
  simp only [← hV] at hbad
  have hF := fun op a b cc n m h W hT => fits_calls op a b cc n m h cells ((l.length : Int) + 1) players hl0 hl1 W hT
  have HB := Lib.hid hbad
  have HG := Lib.hid hgood
  clear hV hbad hgood
  have hb := below_alloc1 w (.cells #[.int .i64 cells, .int .i64 ((l.length : Int) + 1), .int .i64 players] 110)
  have kR := heap_alloc_new w (.cells #[.int .i64 cells, .int .i64 ((l.length : Int) + 1), .int .i64 players] 110)
  have hTz := hT.ext hb
  have hsz := Sl.ext hs hb
  obtain ⟨wz, hwz⟩ : ∃ wz, wz = w.alloc (.cells #[.int .i64 cells, .int .i64 ((l.length : Int) + 1), .int .i64 players] 110) := ⟨_, rfl⟩
  go_enter Tryd.func38, Tryd.ntmps38
  go_wp2_with fail
  rw [← hwz] at hb kR hTz hsz ⊢
  clear hwz hT hs
  go_loopw [22] (fun i wr => ∃ k : Nat, k ≤ l.length ∧ i = .int .i64 k ∧ (∀ j (hj : j < k) (hj2 : j < l.length), fitsB l[j] cells ((l.length : Int) + 1) players = true) ∧ wr.heap[w.heap.size]? = some (.cells #[.int .i64 cells, .int .i64 ((l.length : Int) + 1), .int .i64 players] 110 (0, 0)) ∧ Sl wr b A (kv l) ∧ CTab wr ∧ Below w.heap.size w wr) (fun i _ => l.length - (intOf i).toNat)
  case atStart => exact ⟨0, Nat.zero_le _, rfl, fun j hj => by omega, kR, hsz, hTz, hb⟩
  case round =>
    clear kR hsz hTz hb
    obtain ⟨k, hk, rfl, hall, kR, hs, hT, hb⟩ := hrel
    have HA := Lib.hid hall
    clear hall
    by_cases hlt : k < l.length
    · have ej : (k : Int) < (l.length : Int) := by omega
      have hck := hok l[k] (List.getElem_mem hlt)
      obtain ⟨off, rfl, c0, c1, c2, c3, c4, c5⟩ := sl_code hs hlt
      have HBk := Lib.hid (HB.out k hlt)
      obtain ⟨x, hx⟩ : ∃ x, x = l[k] := ⟨_, rfl⟩
      have HX := Lib.hid hx
      rw [← hx] at hck c0 c1 c2 c3 c4 c5 HBk
      clear hx
      obtain ⟨op, a, b', cc, n, m⟩ := x
      simp only at c0 c1 c2 c3 c4 c5
      have hFk := fun W hT => hF op a b' cc n m hck W hT
      obtain ⟨d, hd⟩ : ∃ d, d = fitsB ⟨op, a, b', cc, n, m⟩ cells ((l.length : Int) + 1) players := ⟨_, rfl⟩
      rw [← hd] at hFk
      have HD := Lib.hid hd
      have r0 := (cell_of_row wr _ 0 _ _ _ kR).trans (show _ = some _ from rfl)
      have r1 := (cell_of_row wr _ 1 _ _ _ kR).trans (show _ = some _ from rfl)
      have r2 := (cell_of_row wr _ 2 _ _ _ kR).trans (show _ = some _ from rfl)
      have hba := below_alloc1 wr (.cells #[.int .u8 (op : Int), .int .u8 (a : Int), .int .u8 (b' : Int), .int .u8 (cc : Int), .int .i32 n, .int .u32 (m : Int)] 71)
      have kR2 := (hba.block _ (Array.getElem?_eq_some_iff.1 kR).1).trans kR
      have r0' := (cell_of_row _ _ 0 _ _ _ kR2).trans (show _ = some _ from rfl)
      have r1' := (cell_of_row _ _ 1 _ _ _ kR2).trans (show _ = some _ from rfl)
      have r2' := (cell_of_row _ _ 2 _ _ _ kR2).trans (show _ = some _ from rfl)
      have hs2 := Sl.ext hs hba
      have hT2 := hT.ext hba
      have hb2 := hb.trans (hba.mono hb.size)
      clear hd kR hs hT hb hba hF hck
      go_wp2_with fail
      refine (hFk _ hT2).mono ?_
      rintro e w6 ⟨rfl, h9⟩
      have kR := (h9.block _ (Array.getElem?_eq_some_iff.1 kR2).1).trans kR2
      have hs := Sl.ext hs2 h9
      have hT := hT2.ext h9
      have hb := hb2.trans (h9.mono hb2.size)
      clear h9 hFk r0 r1 r2 r0' r1' r2' c0 c1 c2 c3 c4 c5 kR2 hs2 hT2 hb2
      cases d with
      | true =>
        go_wp2_with fail
        go_roundw
        case rel =>
          refine ⟨k + 1, by omega, by go_num, fun j hj hj2 => ?_, kR, hs, hT, hb⟩
          rcases Nat.lt_or_ge j k with h1 | h1
          · exact HA.out j h1 hj2
          · obtain rfl : j = k := by omega
            rw [← HX.out]
            exact HD.out.symm
        case measure => simp [intOf]; omega
      | false =>
        go_wp2_with fail
        go_ret2
        have hv := HBk.out HD.out.symm (fun j hj => HA.out j hj (by omega))
        rw [hv]
        exact ⟨rfl, hb⟩
    · obtain rfl : k = l.length := by omega
      go_wp2_with fail
      go_ret2
      have hv := HG.out (fun j hj => HA.out j hj hj)
      rw [hv]
      exact ⟨rfl, hb⟩
theorem Right_calls (A : Option Addr) (l : List Cd) (n c b : Nat) (cells players : Int) (w : World) (hs : Sl w b A (kv l)) (hn : l.length = n) (hm : n ≤ maxLen) (hok : okK l) (hl0 : -9223372036854775808 ≤ cells) (hl1 : cells ≤ 9223372036854775807) (hT : CTab w) :
    Calls Tryd.prog 30 #[.slice A n c, .int .i64 cells, .int .i64 players] w fun e w' => e = .returned (.bool (checkV l cells players).2) ∧ Below w.heap.size w w' := by
  have hC := Check_calls A l n c b cells players w hs hn hm hok hl0 hl1 hT
  obtain ⟨V, hV⟩ : ∃ V, V = checkV l cells players := ⟨_, rfl⟩
  rw [← hV] at hC ⊢
  clear hV hs hT hok
  go_enter Tryd.func30, Tryd.ntmps30
  go_wp2_with fail
  refine hC.mono ?_
  rintro e w' ⟨rfl, hb⟩
  clear hC
  go_wp2
  go_ret
  exact ⟨rfl, hb⟩
end Go.Proofs.YtglmciklegifaaaDoor
