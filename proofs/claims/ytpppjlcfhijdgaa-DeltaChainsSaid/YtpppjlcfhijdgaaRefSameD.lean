/- The reference's Put and Same over lists of cells. Conditions: those said. -/
import Derived.Test.YtpppjlcfhijdgaaRefCells
namespace Go.Proofs.Ytpppjlcfhijdgaa
open Go.RowKit

set_option maxHeartbeats 4000000 in
set_option maxRecDepth 20000 in
theorem RefSame_calls (A A' : Option Addr) (L M : List (Int × Nat)) (n c b n' c' b' : Nat) (w : World) (hs : Sl w b A (cv L)) (hs' : Sl w b' A' (cv M)) (hn : L.length = n) (hn' : M.length = n') (hm : n ≤ 1000000) (hm' : n' ≤ 1000000) :
    Calls Try.prog 36 #[.slice A n c, .slice A' n' c'] w fun e w' => e = .returned (.bool (decide (L = M))) ∧ Below w.heap.size w w' := by
  subst hn hn'
  obtain ⟨r, hr⟩ : ∃ r, r = decide (L = M) := ⟨_, rfl⟩
  rw [← hr]
  have HR := Lib.hid hr
  clear hr
  by_cases hl : L.length = M.length
  · have hne : ((L.length : Int) != (M.length : Int)) = false := by simp [hl]
    have HL := Lib.hid hl
    clear hl
    go_enter Try.func36, Try.ntmps36
    go_wp2_with fail
    clear hne
    go_loopw [5, 13] (fun v i wr => ∃ k : Nat, k ≤ L.length ∧ i = .int .i64 k ∧ Hid (L.take k = M.take k) ∧ Below w.heap.size w wr) (fun _ i _ => L.length - (intOf i).toNat)
    case atStart => exact ⟨0, Nat.zero_le _, rfl, Lib.hid rfl, Below.refl _ _⟩
    case round =>
      obtain ⟨k, hk, rfl, HT, hb⟩ := hrel
      rename_i v0 _
      by_cases hlt : k < L.length
      · have hlt' : k < M.length := by have := HL.out; omega
        obtain ⟨off, rfl, h0, h1⟩ := sl_off (Sl.ext hs hb) hlt
        obtain ⟨off', rfl, h0', h1'⟩ := sl_off (Sl.ext hs' hb) hlt'
        have hA := Lib.hid (take_next hlt)
        have hB := Lib.hid (take_next hlt')
        obtain ⟨p, hp⟩ : ∃ p, p = L[k] := ⟨_, rfl⟩
        obtain ⟨q, hq⟩ : ∃ q, q = M[k] := ⟨_, rfl⟩
        rw [← hp] at h0 h1 hA
        rw [← hq] at h0' h1' hB
        obtain ⟨x, y⟩ := p
        obtain ⟨x', y'⟩ := q
        have hp := Lib.hid hp
        have hq := Lib.hid hq
        have ej : (k : Int) < (L.length : Int) := by omega
        have ej' : (k : Int) < (M.length : Int) := by omega
        simp only at h0 h1 h0' h1'
        by_cases e1 : x = x'
        · subst e1
          by_cases e2 : y = y'
          · subst e2
            go_wp2_with fail
            go_quiet (fail)
            go_wp2_with fail
            go_roundw
            case rel => exact ⟨k + 1, by omega, by go_num, Lib.hid (by rw [hA.out, hB.out, HT.out]), below_drewN hb _⟩
            case measure => simp [intOf]; omega
          · have e3 : ((y : Int) == (y' : Int)) = false := by simp; omega
            have e4 : ((y : Int) = (y' : Int)) = False := by simp; omega
            go_wp2_with fail
            go_quiet (fail)
            go_wp2_with fail
            go_ret
            refine ⟨?_, below_drewN hb _⟩
            rw [HR.out, decide_eq_false (fun h => by subst h; have := hp.out.trans hq.out.symm; injection this with _ h2; exact e2 h2)]
            rfl
        · have e3 : (x == x') = false := by simp; omega
          go_wp2_with fail
          go_quiet (fail)
          go_wp2_with fail
          go_ret
          refine ⟨?_, below_drewN hb _⟩
          rw [HR.out, decide_eq_false (fun h => by subst h; have := hp.out.trans hq.out.symm; injection this with h2 _; exact e1 h2)]
          rfl
      · obtain rfl : k = L.length := by omega
        go_wp2_with fail
        go_ret
        refine ⟨?_, hb⟩
        have h1 := HT.out
        rw [List.take_length, HL.out, List.take_length] at h1
        rw [HR.out, decide_eq_true h1]
        rfl
  · have hne : ((L.length : Int) != (M.length : Int)) = true := by simp; omega
    go_enter Try.func36, Try.ntmps36
    go_wp2_with fail
    go_ret
    exact ⟨by rw [HR.out, decide_eq_false (fun h => hl (by rw [h]))]; rfl, Below.refl _ _⟩
end Go.Proofs.Ytpppjlcfhijdgaa
