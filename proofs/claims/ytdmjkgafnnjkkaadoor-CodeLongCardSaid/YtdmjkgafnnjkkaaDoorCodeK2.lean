/- The document's Check; Reals. Conditions: those said. -/
import Derived.Test.YtdmjkgafnnjkkaaDoorCodeK
namespace Go.Proofs.YtdmjkgafnnjkkaaDoor
open Go.RowKit

set_option maxHeartbeats 4000000 in
set_option maxRecDepth 20000 in
/-- The document's Check answers what Check does: below 0 where all may be. -/
theorem RCheck_calls (A : Option Addr) (l : List Cd) (n c b : Nat) (cells players : Int) (w : World) (hs : Sl w b A (kv l)) (hn : l.length = n) (hm : n ≤ maxLen) (hok : okK l) (hl0 : -9223372036854775808 ≤ cells) (hl1 : cells ≤ 9223372036854775807) :
    Calls Tryd.prog 13 #[.slice A n c, .int .i64 cells, .int .i64 players] w fun e w' => e = .returned (.int .i64 (if (checkV l cells players).2 = true then -1 else ((checkV l cells players).1 : Nat))) ∧ Below w.heap.size w w' := by
  subst hn
  by_cases hbig : 96 < l.length
  · have e0 : decide ((l.length : Int) > 96) = true := by simp; omega
    have hv : checkV l cells players = (96, false) := by unfold checkV; rw [if_pos hbig]
    rw [hv]
    clear hv
    go_enter Tryd.func13, Tryd.ntmps13
    go_wp2
    go_ret
    exact ⟨rfl, Below.refl _ _⟩
  have e0 : decide ((l.length : Int) > 96) = false := by simp; omega
  have hL : l.length ≤ 96 := by omega
  have hbad := fun k => checkV_bad (l := l) (cells := cells) (players := players) (k := k) hL
  have hgood := checkV_good (l := l) (cells := cells) (players := players) hL
  obtain ⟨V, hV⟩ : ∃ V, V = checkV l cells players := ⟨_, rfl⟩
  rw [← hV] at hgood ⊢
  simp only [← hV] at hbad
  have hF := fun op a b cc n m h W => RRight_calls op a b cc n m h (l.length : Int) cells players (by omega) (by omega) hl0 hl1 W
  have HB := Lib.hid hbad
  have HG := Lib.hid hgood
  clear hV hbad hgood
  obtain ⟨Z, hZ⟩ : ∃ Z : Int, Z = (if V.2 = true then -1 else ((V.1 : Nat) : Int)) := ⟨_, rfl⟩
  rw [← hZ]
  have HZ := Lib.hid hZ
  clear hZ
  go_enter Tryd.func13, Tryd.ntmps13
  go_wp2_with fail
  go_loopw [14] (fun i wr => ∃ k : Nat, k ≤ l.length ∧ i = .int .i64 k ∧ (∀ j (hj : j < k) (hj2 : j < l.length), fitsB l[j] cells ((l.length : Int) + 1) players = true) ∧ Sl wr b A (kv l) ∧ Below w.heap.size w wr) (fun i _ => l.length - (intOf i).toNat)
  case atStart => exact ⟨0, Nat.zero_le _, rfl, fun j hj => by omega, hs, Below.refl _ _⟩
  case round =>
    clear hs
    obtain ⟨k, hk, rfl, hall, hs, hb⟩ := hrel
    have HA := Lib.hid hall
    clear hall
    by_cases hlt : k < l.length
    · have ej : (k : Int) < (l.length : Int) := by omega
      have hck := hok l[k] (List.getElem_mem hlt)
      obtain ⟨off, rfl, c0, c1, c2, c3, c4, c5⟩ := sl_code hs hlt
      have HBk := Lib.hid (HB.out k hlt)
      obtain ⟨x, hx⟩ : ∃ x, x = l[k] := ⟨_, rfl⟩
      have HX := Lib.hid hx
      rw [← hx] at hck c0 c1 c2 c3 c4 c5 HBk
      clear hx
      obtain ⟨op, a, b', cc, n, m⟩ := x
      simp only at c0 c1 c2 c3 c4 c5
      have hFk := fun W => hF op a b' cc n m hck W
      obtain ⟨d, hd⟩ : ∃ d, d = fitsB ⟨op, a, b', cc, n, m⟩ cells ((l.length : Int) + 1) players := ⟨_, rfl⟩
      rw [← hd] at hFk
      have HD := Lib.hid hd
      have hba := below_alloc1 wr (.cells #[.int .u8 (op : Int), .int .u8 (a : Int), .int .u8 (b' : Int), .int .u8 (cc : Int), .int .i32 n, .int .u32 (m : Int)] 55)
      have hs2 := Sl.ext hs hba
      have hb2 := hb.trans (hba.mono hb.size)
      clear hd hs hb hba hF hck
      go_wp2_with fail
      refine (hFk _).mono ?_
      rintro e w6 ⟨rfl, h9⟩
      have hs := Sl.ext hs2 h9
      have hb := hb2.trans (h9.mono hb2.size)
      clear h9 hFk c0 c1 c2 c3 c4 c5 hs2 hb2
      cases d with
      | true =>
        go_wp2_with fail
        go_roundw
        case rel =>
          refine ⟨k + 1, by omega, by go_num, fun j hj hj2 => ?_, hs, hb⟩
          rcases Nat.lt_or_ge j k with h1 | h1
          · exact HA.out j h1 hj2
          · obtain rfl : j = k := by omega
            rw [← HX.out]
            exact HD.out.symm
        case measure => simp [intOf]; omega
      | false =>
        go_wp2_with fail
        go_ret
        have hv := HBk.out HD.out.symm (fun j hj => HA.out j hj (by omega))
        exact ⟨by rw [HZ.out, hv]; rfl, hb⟩
    · obtain rfl : k = l.length := by omega
      go_wp2_with fail
      go_ret
      have hv := HG.out (fun j hj => HA.out j hj hj)
      exact ⟨by rw [HZ.out, hv]; rfl, hb⟩
/-- How many Reveals there are. -/
def realsN (l : List Cd) : Nat := (l.filter fun c => c.op == 22).length
theorem reals_next {l : List Cd} {k : Nat} (h : k < l.length) : realsN (l.take (k + 1)) = realsN (l.take k) + if l[k].op = 22 then 1 else 0 := by
  rw [take_nextK h]
  unfold realsN
  rw [List.filter_append, List.length_append]
  congr 1
  by_cases h1 : l[k].op = 22 <;> simp [h1]
theorem reals_le (l : List Cd) : realsN l ≤ l.length := List.length_filter_le _ _
set_option maxHeartbeats 4000000 in
set_option maxRecDepth 20000 in
theorem Reals_calls (A : Option Addr) (l : List Cd) (n c b : Nat) (w : World) (hs : Sl w b A (kv l)) (hn : l.length = n) (hm : n ≤ 1000000) :
    Calls Tryd.prog 16 #[.slice A n c] w fun e w' => e = .returned (.int .i64 (realsN l : Nat)) ∧ Below w.heap.size w w' := by
  subst hn
  go_enter Tryd.func16, Tryd.ntmps16
  go_wp2_with fail
  go_loopw [3, 8] (fun out i wr => ∃ k : Nat, k ≤ l.length ∧ i = .int .i64 k ∧ out = .int .i64 (realsN (l.take k) : Nat) ∧ Sl wr b A (kv l) ∧ Below w.heap.size w wr) (fun _ i _ => l.length - (intOf i).toNat)
  case atStart => exact ⟨0, Nat.zero_le _, rfl, rfl, hs, Below.refl _ _⟩
  case round =>
    clear hs
    obtain ⟨k, hk, rfl, rfl, hs, hb⟩ := hrel
    by_cases hlt : k < l.length
    · have ej : (k : Int) < (l.length : Int) := by omega
      have hle := reals_le (l.take k)
      rw [List.length_take] at hle
      obtain ⟨off, rfl, c0, c1, c2, c3, c4, c5⟩ := sl_code hs hlt
      have hnx := reals_next hlt
      obtain ⟨R, hR⟩ : ∃ R, R = realsN (l.take k) := ⟨_, rfl⟩
      obtain ⟨x, hx⟩ : ∃ x, x = l[k] := ⟨_, rfl⟩
      rw [← hx] at c0 c1 c2 c3 c4 c5 hnx
      rw [← hR] at hnx hle
      simp only [← hR]
      clear hx hR
      obtain ⟨op, a, b', cc, n, m⟩ := x
      simp only at c0 c1 c2 c3 c4 c5 hnx
      have hw := IntWalk.i64_in ((R : Int) + 1) (by omega)
      have hba := below_alloc1 wr (.cells #[.int .u8 (op : Int), .int .u8 (a : Int), .int .u8 (b' : Int), .int .u8 (cc : Int), .int .i32 n, .int .u32 (m : Int)] 33)
      have hs2 := Sl.ext hs hba
      have hb2 := hb.trans (hba.mono hb.size)
      clear hs hb hba
      by_cases h22 : op = 22
      · have e22 : ((op : Int) == 22) = true := by rw [beq_iff_eq]; omega
        rw [if_pos h22] at hnx
        have HN := Lib.hid hnx
        clear hnx h22
        go_wp2_with fail
        go_roundw
        case rel => exact ⟨k + 1, by omega, by go_num, by rw [HN.out]; go_num, hs2, hb2⟩
        case measure => simp [intOf]; omega
      · have e22 : ((op : Int) == 22) = false := by rw [beq_eq_false_iff_ne]; omega
        rw [if_neg h22] at hnx
        have HN := Lib.hid hnx
        clear hnx h22
        go_wp2_with fail
        go_roundw
        case rel => exact ⟨k + 1, by omega, by go_num, by rw [HN.out]; rfl, hs2, hb2⟩
        case measure => simp [intOf]; omega
    · obtain rfl : k = l.length := by omega
      have hl : realsN (l.take l.length) = realsN l := by rw [List.take_length]
      go_wp2_with fail
      go_ret
      exact ⟨by rw [← hl]; rfl, hb⟩
end Go.Proofs.YtdmjkgafnnjkkaaDoor
