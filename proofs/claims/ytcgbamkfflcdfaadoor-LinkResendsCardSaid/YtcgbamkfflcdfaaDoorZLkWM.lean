/- The reference's Same of lists of lists of bytes. Conditions: those said. -/
import Derived.Test.YtcgbamkfflcdfaaDoorZLkBase
import Derived.BigQuiet
namespace Go.Proofs.YtcgbamkfflcdfaaDoor
open Go.RowKit
set_option linter.unusedVariables false

theorem takeL_succ (a b : List (List UInt8)) (k : Nat) (ha : k < a.length) (hb : k < b.length) : (a.take (k + 1) = b.take (k + 1)) ↔ (a.take k = b.take k ∧ a[k] = b[k]) := by
  rw [List.take_succ_eq_append_getElem ha, List.take_succ_eq_append_getElem hb]
  constructor
  · intro h
    have := List.append_inj h (by simp; omega)
    exact ⟨this.1, by simpa using this.2⟩
  · rintro ⟨h1, h2⟩
    rw [h1, h2]
set_option maxHeartbeats 4000000 in
set_option maxRecDepth 20000 in
theorem SameL_calls (A B : Option Addr) (us vs : List Value) (a b : List (List UInt8)) (n m ca cb ba bb : Nat) (w : World) (ha : Sl w ba A us) (hb : Sl w bb B vs) (hau : Bss w us a) (hbv : Bss w vs b) (hn : a.length = n) (hm : b.length = m) (h1 : n ≤ 1000000) (h2 : ∀ l ∈ a, l.length ≤ maxLen) (h3 : ∀ l ∈ b, l.length ≤ maxLen) :
    Calls Tryd.prog 19 #[.slice A n ca, .slice B m cb] w fun e w' => e = .returned (.bool (decide (a = b))) ∧ ∃ k, w' = w.drewN k := by
  by_cases hlen : n = m
  · subst hlen
    have hne : ((n : Int) != (n : Int)) = false := by simp
    have HN := Lib.hid hn
    have HM := Lib.hid hm
    clear hn hm
    go_enter Tryd.func19, Tryd.ntmps19
    go_wp2
    go_loopw [13] (fun i wr => ∃ k : Nat, k ≤ n ∧ i = .int .i64 k ∧ Hid (a.take k = b.take k) ∧ Hid (∃ d, wr = w.drewN d)) (fun i _ => n - (intOf i).toNat)
    case atStart => exact ⟨0, Nat.zero_le _, rfl, Lib.hid rfl, Lib.hid ⟨0, rfl⟩⟩
    case round =>
      obtain ⟨k, hk, rfl, hpre, hd⟩ := hrel
      have haw : Sl wr ba A us := by obtain ⟨d, h⟩ := hd.out; rw [h]; exact ha.drewN d
      have hbw : Sl wr bb B vs := by obtain ⟨d, h⟩ := hd.out; rw [h]; exact hb.drewN d
      have hauw : Bss wr us a := by obtain ⟨d, h⟩ := hd.out; rw [h]; exact hau
      have hbvw : Bss wr vs b := by obtain ⟨d, h⟩ := hd.out; rw [h]; exact hbv
      by_cases hlt : k < n
      · have ka : k < a.length := by rw [HN.out]; exact hlt
        have kb : k < b.length := by rw [HM.out]; exact hlt
        obtain ⟨A1, c1, b1, hu1, hs1⟩ := hauw.2 k a[k] (List.getElem?_eq_getElem ka)
        obtain ⟨A2, c2, b2, hv1, hs2⟩ := hbvw.2 k b[k] (List.getElem?_eq_getElem kb)
        obtain ⟨oa, rfl, hca⟩  := haw (by rintro rfl; simp at hu1)
        obtain ⟨ob, rfl, hcb⟩ := hbw (by rintro rfl; simp at hv1)
        have ca := hca k _ hu1
        have cb := hcb k _ hv1
        have ts := Lib.hid (takeL_succ a b k ka kb)
        have l1 := h2 a[k] (List.getElem_mem _)
        have l2 := h3 b[k] (List.getElem_mem _)
        have hSm := fun j => Same_calls A1 A2 a[k] b[k] a[k].length b[k].length c1 c2 b1 b2 (wr.drewN j) (hs1.drewN j) (hs2.drewN j) rfl rfl l1 l2
        obtain ⟨x, hx⟩ : ∃ x, x = a[k] := ⟨_, rfl⟩
        obtain ⟨y, hy⟩ : ∃ y, y = b[k] := ⟨_, rfl⟩
        rw [← hx] at ca hs1 hSm ts
        rw [← hy] at cb hs2 hSm ts
        have HX := Lib.hid hx
        have HY := Lib.hid hy
        obtain ⟨p, hp⟩ : ∃ p, p = decide (x = y) := ⟨_, rfl⟩
        rw [← hp] at hSm
        have HP := Lib.hid hp
        clear hca hcb hx hy hp l1 l2 hs1 hs2 hu1 hv1
        clear haw hbw hauw hbvw
        cases p
        · go_wp2_with fail
          go_quiet ((go_at_call 21; exact Calls.quiet_of (hSm _)))
          go_wp2_with fail
          go_ret
          have hab : decide (a = b) = false := by
            rw [decide_eq_false_iff_not]
            intro h
            have h5 : a.take (k + 1) = b.take (k + 1) := by rw [h]
            have h6 := (ts.out.1 h5).2
            exact absurd h6 (by simpa using HP.out.symm)
          obtain ⟨d, hdd⟩ := hd.out
          exact ⟨by rw [hab]; rfl, _, by rw [hdd]; exact World.drewN_drewN _ _ _⟩
        · go_wp2_with fail
          go_quiet ((go_at_call 21; exact Calls.quiet_of (hSm _)))
          go_wp2_with fail
          go_roundw
          case rel => exact ⟨k + 1, by omega, by go_num, Lib.hid (ts.out.2 ⟨hpre.out, by simpa using HP.out.symm⟩), Lib.hid (by obtain ⟨d, hdd⟩ := hd.out; exact ⟨_, by rw [hdd]; exact World.drewN_drewN _ _ _⟩)⟩
          case measure => simp [intOf]; omega
      · obtain rfl : k = n := by omega
        have hab : decide (a = b) = true := by
          rw [decide_eq_true_eq]
          have h5 := hpre.out
          rwa [List.take_of_length_le (by rw [HN.out]; exact Nat.le_refl _), List.take_of_length_le (by rw [HM.out]; exact Nat.le_refl _)] at h5
        have HAB := Lib.hid hab
        clear hab haw hbw hauw hbvw
        go_wp2_with fail
        go_ret
        exact ⟨by rw [HAB.out]; rfl, hd.out⟩
  · have hne : ((n : Int) != (m : Int)) = true := by simp; omega
    have hab : decide (a = b) = false := by
      rw [decide_eq_false_iff_not]
      rintro rfl
      exact hlen (hn.symm.trans hm)
    have HAB := Lib.hid hab
    clear hab hn hm ha hb hau hbv
    go_enter Tryd.func19, Tryd.ntmps19
    go_wp2_with fail
    go_ret
    exact ⟨by rw [HAB.out]; rfl, 0, rfl⟩
end Go.Proofs.YtcgbamkfflcdfaaDoor
