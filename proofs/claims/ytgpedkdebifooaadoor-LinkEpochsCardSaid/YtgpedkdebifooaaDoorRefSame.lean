/- The reference's Same: it returns whether two lists of bytes are alike, and writes nothing. Condition: the lengths fit. -/
import Derived.Test.YtgpedkdebifooaaDoorRows
import Derived.Test.YtgpedkdebifooaaDoorBase
namespace Go.Proofs.YtgpedkdebifooaaDoor
open Go.RowKit

theorem take_succ_eq (a b : List UInt8) (k : Nat) (ha : k < a.length) (hb : k < b.length) : (a.take (k + 1) = b.take (k + 1)) ↔ (a.take k = b.take k ∧ a[k] = b[k]) := by
  rw [List.take_succ_eq_append_getElem ha, List.take_succ_eq_append_getElem hb]
  constructor
  · intro h
    have := List.append_inj h (by simp; omega)
    exact ⟨this.1, by simpa using this.2⟩
  · rintro ⟨h1, h2⟩
    rw [h1, h2]

set_option maxHeartbeats 400000 in
theorem Same_calls (A B : Option Addr) (a b : List UInt8) (n m ca cb ba bb : Nat) (w : World) (ha : Bs w ba A a) (hb : Bs w bb B b) (hn : a.length = n) (hm : b.length = m) (h1 : n ≤ maxLen) (_h2 : m ≤ maxLen) :
    Calls Tryd.prog 21 #[.slice A n ca, .slice B m cb] w fun e w' => e = .returned (.bool (decide (a = b))) ∧ ∃ k, w' = w.drewN k := by
  unfold maxLen at h1
  by_cases hlen : n = m
  · subst hlen
    have hne : ((n : Int) != (n : Int)) = false := by simp
    have HN := Lib.hid hn
    have HM := Lib.hid hm
    clear hn hm
    go_enter Tryd.func21, Tryd.ntmps21
    go_wp2
    go_loopw [13] (fun i wr => ∃ k : Nat, k ≤ n ∧ i = .int .i64 k ∧ Hid (a.take k = b.take k) ∧ ∃ d, wr = w.drewN d) (fun i _ => n - (intOf i).toNat)
    case atStart => exact ⟨0, Nat.zero_le _, rfl, rfl, 0, rfl⟩
    case round =>
      obtain ⟨k, hk, rfl, hpre, d, rfl⟩ := hrel
      by_cases hlt : k < n
      · obtain ⟨oa, rfl, hca⟩ := ha.at_ (k := k) (by rw [HN.out]; exact hlt)
        obtain ⟨ob, rfl, hcb⟩ := hb.at_ (k := k) (by rw [HM.out]; exact hlt)
        have ca := hca k (by rw [HN.out]; exact hlt)
        have cb := hcb k (by rw [HM.out]; exact hlt)
        have ka : k < a.length := by rw [HN.out]; exact hlt
        have kb : k < b.length := by rw [HM.out]; exact hlt
        have ts := Lib.hid (take_succ_eq a b k ka kb)
        clear hca hcb
        have e18 : ((n : Int) ≤ 9223372036854775807) := by omega
        by_cases hx : a[k] = b[k]
        · have hq : ((a[k].toNat : Int) != (b[k].toNat : Int)) = false := by simp [hx]
          go_wp2
          go_quiet (fail)
          go_wp2
          go_roundw
          case rel => exact ⟨k + 1, by omega, by go_num, Lib.hid (ts.out.2 ⟨hpre.out, hx⟩), _, rfl⟩
          case measure => simp [intOf]; omega
        · have hq : ((a[k].toNat : Int) != (b[k].toNat : Int)) = true := by
            simp only [bne_iff_ne, ne_eq]
            intro he
            exact hx (UInt8.toNat_inj.1 (by omega))
          go_wp2
          go_quiet (fail)
          go_wp2
          go_ret
          have hab : decide (a = b) = false := by
            simp only [decide_eq_false_iff_not]
            rintro rfl
            exact hx rfl
          exact ⟨by rw [hab]; rfl, _, by first | rfl | exact World.drewN_drewN _ _ _⟩
      · go_wp2
        go_ret
        have hkn : k = n := by omega
        have hab : decide (a = b) = true := by
          simp only [decide_eq_true_eq]
          have := hpre.out
          rw [hkn, List.take_of_length_le (by rw [HN.out]; exact Nat.le_refl _), List.take_of_length_le (by rw [HM.out]; exact Nat.le_refl _)] at this
          exact this
        exact ⟨by rw [hab]; rfl, _, by first | rfl | exact World.drewN_drewN _ _ _⟩
  · have hne : ((n : Int) != (m : Int)) = true := by simp only [bne_iff_ne, ne_eq]; omega
    have hd : decide (a = b) = false := by simp only [decide_eq_false_iff_not]; rintro rfl; omega
    go_enter Tryd.func21, Tryd.ntmps21
    go_wp2
    go_ret
    exact ⟨by rw [hd]; rfl, 0, rfl⟩
end Go.Proofs.YtgpedkdebifooaaDoor
