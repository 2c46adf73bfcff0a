/- The document's Check. Conditions: those said. -/
import Derived.Test.YtfopdoeiahlhpaaDoorZCodeRRV
namespace Go.Proofs.YtfopdoeiahlhpaaDoor
open Go.RowKit

theorem Parts_out (op : Nat) (h26 : 26 ≤ op) (hop : op ≤ 255) (w : World) : Calls Tryd.prog 89 #[.int .u8 (op : Int)] w fun e w' => e = .returned (.tuple #[.string ⟨#[]⟩, .string ⟨#[]⟩]) ∧ Below w.heap.size w w' := by
  have e0 : IntKind.i64.wrap (op : Int) = (op : Int) := IntWalk.i64_in _ (by omega)
  have e1 : decide ((op : Int) ≥ 26) = true := by simp; omega
  go_enter Tryd.func89, Tryd.ntmps89
  go_wp2_with fail
  refine (Table_calls _).mono ?_
  rintro e w1 ⟨rfl, hk, hb⟩
  clear hk
  go_wp2
  go_ret2
  exact ⟨rfl, hb⟩
theorem RRight_out (op a b' cc : Nat) (n : Int) (m : Nat) (h26 : 26 ≤ op) (hop : op ≤ 255) (size cells players : Int) (w : World) :
    Calls Tryd.prog 76 #[.agg #[.int .u8 (op : Int), .int .u8 (a : Int), .int .u8 (b' : Int), .int .u8 (cc : Int), .int .i32 n, .int .u32 (m : Int)], .int .i64 size, .int .i64 cells, .int .i64 players] w fun e w' => e = .returned (.bool (fitsB ⟨op, a, b', cc, n, m⟩ cells (size + 1) players)) ∧ Below w.heap.size w w' := by
  have hf : fitsB ⟨op, a, b', cc, n, m⟩ cells (size + 1) players = false := by simp only [fitsB]; rw [decide_eq_false (by omega), Bool.false_and]
  rw [hf]
  have hb := below_alloc1 w (.cells #[.int .u8 (op : Int), .int .u8 (a : Int), .int .u8 (b' : Int), .int .u8 (cc : Int), .int .i32 n, .int .u32 (m : Int)] 108)
  clear hf
  go_enter Tryd.func76, Tryd.ntmps76
  go_wp2_with fail
  refine (Parts_out op h26 hop _).mono ?_
  rintro e w1 ⟨rfl, h9⟩
  have hb := hb.trans (h9.mono hb.size)
  clear h9
  go_wp2
  go_ret
  exact ⟨rfl, hb⟩
theorem RRight_calls (op a b' cc : Nat) (n : Int) (m : Nat) (hc : (Cd.mk op a b' cc n m).Ok) (size cells players : Int) (hs0 : 0 ≤ size) (hs1 : size ≤ 9223372036854775806) (hl0 : -9223372036854775808 ≤ cells) (hl1 : cells ≤ 9223372036854775807) (w : World) :
    Calls Tryd.prog 76 #[.agg #[.int .u8 (op : Int), .int .u8 (a : Int), .int .u8 (b' : Int), .int .u8 (cc : Int), .int .i32 n, .int .u32 (m : Int)], .int .i64 size, .int .i64 cells, .int .i64 players] w fun e w' => e = .returned (.bool (fitsB ⟨op, a, b', cc, n, m⟩ cells (size + 1) players)) ∧ Below w.heap.size w w' := by
  by_cases h : op < 26
  · exact RRight_in op a b' cc n m hc h size cells players hs0 hs1 hl0 hl1 w
  · exact RRight_out op a b' cc n m (by omega) hc.ho size cells players w
set_option maxHeartbeats 4000000 in
set_option maxRecDepth 20000 in
/-- The document's Check answers what Check does: below 0 where all may be. -/
theorem RCheck_calls (A : Option Addr) (l : List Cd) (n c b : Nat) (cells players : Int) (w : World) (hs : Sl w b A (kv l)) (hn : l.length = n) (hm : n ≤ maxLen) (hok : okK l) (hl0 : -9223372036854775808 ≤ cells) (hl1 : cells ≤ 9223372036854775807) :
    Calls Tryd.prog 44 #[.slice A n c, .int .i64 cells, .int .i64 players] w fun e w' => e = .returned (.int .i64 (if (checkV l cells players).2 = true then -1 else ((checkV l cells players).1 : Nat))) ∧ Below w.heap.size w w' := by
  subst hn
  by_cases hbig : 96 < l.length
  · have e0 : decide ((l.length : Int) > 96) = true := by simp; omega
    have hv : checkV l cells players = (96, false) := by unfold checkV; rw [if_pos hbig]
    rw [hv]
    clear hv
    go_enter Tryd.func44, Tryd.ntmps44
    go_wp2
    go_ret
    exact ⟨rfl, Below.refl _ _⟩
  have e0 : decide ((l.length : Int) > 96) = false := by simp; omega
  have hL : l.length ≤ 96 := by omega
  have hbad := fun k => checkV_bad (l := l) (cells := cells) (players := players) (k := k) hL
  have hgood := checkV_good (l := l) (cells := cells) (players := players) hL
  obtain ⟨V, hV⟩ : ∃ V, V = checkV l cells players := ⟨_, rfl⟩
  rw [← hV] at hgood ⊢
  simp only [← hV] at hbad
  have hF := fun op a b cc n m h W => RRight_calls op a b cc n m h (l.length : Int) cells players (by omega) (by omega) hl0 hl1 W
  have HB := Lib.hid hbad
  have HG := Lib.hid hgood
  clear hV hbad hgood
  obtain ⟨Z, hZ⟩ : ∃ Z : Int, Z = (if V.2 = true then -1 else ((V.1 : Nat) : Int)) := ⟨_, rfl⟩
  rw [← hZ]
  have HZ := Lib.hid hZ
  clear hZ
  go_enter Tryd.func44, Tryd.ntmps44
  go_wp2_with fail
  go_loopw [14] (fun i wr => ∃ k : Nat, k ≤ l.length ∧ i = .int .i64 k ∧ (∀ j (hj : j < k) (hj2 : j < l.length), fitsB l[j] cells ((l.length : Int) + 1) players = true) ∧ Sl wr b A (kv l) ∧ Below w.heap.size w wr) (fun i _ => l.length - (intOf i).toNat)
  case atStart => exact ⟨0, Nat.zero_le _, rfl, fun j hj => by omega, hs, Below.refl _ _⟩
  case round =>
    clear hs
    obtain ⟨k, hk, rfl, hall, hs, hb⟩ := hrel
    have HA := Lib.hid hall
    clear hall
    by_cases hlt : k < l.length
    · have ej : (k : Int) < (l.length : Int) := by omega
      have hck := hok l[k] (List.getElem_mem hlt)
      obtain ⟨off, rfl, c0, c1, c2, c3, c4, c5⟩ := sl_code hs hlt
      have HBk := Lib.hid (HB.out k hlt)
      obtain ⟨x, hx⟩ : ∃ x, x = l[k] := ⟨_, rfl⟩
      have HX := Lib.hid hx
      rw [← hx] at hck c0 c1 c2 c3 c4 c5 HBk
      clear hx
      obtain ⟨op, a, b', cc, n, m⟩ := x
      simp only at c0 c1 c2 c3 c4 c5
      have hFk := fun W => hF op a b' cc n m hck W
      obtain ⟨d, hd⟩ : ∃ d, d = fitsB ⟨op, a, b', cc, n, m⟩ cells ((l.length : Int) + 1) players := ⟨_, rfl⟩
      rw [← hd] at hFk
      have HD := Lib.hid hd
      have hba := below_alloc1 wr (.cells #[.int .u8 (op : Int), .int .u8 (a : Int), .int .u8 (b' : Int), .int .u8 (cc : Int), .int .i32 n, .int .u32 (m : Int)] 108)
      have hs2 := Sl.ext hs hba
      have hb2 := hb.trans (hba.mono hb.size)
      clear hd hs hb hba hF hck
      go_wp2_with fail
      refine (hFk _).mono ?_
      rintro e w6 ⟨rfl, h9⟩
      have hs := Sl.ext hs2 h9
      have hb := hb2.trans (h9.mono hb2.size)
      clear h9 hFk c0 c1 c2 c3 c4 c5 hs2 hb2
      cases d with
      | true =>
        go_wp2_with fail
        go_roundw
        case rel =>
          refine ⟨k + 1, by omega, by go_num, fun j hj hj2 => ?_, hs, hb⟩
          rcases Nat.lt_or_ge j k with h1 | h1
          · exact HA.out j h1 hj2
          · obtain rfl : j = k := by omega
            rw [← HX.out]
            exact HD.out.symm
        case measure => simp [intOf]; omega
      | false =>
        go_wp2_with fail
        go_ret
        have hv := HBk.out HD.out.symm (fun j hj => HA.out j hj (by omega))
        exact ⟨by rw [HZ.out, hv]; rfl, hb⟩
    · obtain rfl : k = l.length := by omega
      go_wp2_with fail
      go_ret
      have hv := HG.out (fun j hj => HA.out j hj hj)
      exact ⟨by rw [HZ.out, hv]; rfl, hb⟩
end Go.Proofs.YtfopdoeiahlhpaaDoor
