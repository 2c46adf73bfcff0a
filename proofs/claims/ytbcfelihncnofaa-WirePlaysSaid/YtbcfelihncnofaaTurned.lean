/- The reference's Turned: bits turned in a copy. Conditions: the numbers fit. -/
import Derived.Test.YtbcfelihncnofaaRefSealed
import Derived.Test.YtbcfelihncnofaaRowSet
import Derived.BigRegion
namespace Go.Proofs.Ytbcfelihncnofaa
open Go.RowKit

theorem turned_next {l : List UInt8} {pos mask k I J Q : Nat} {x P : UInt8} {hi : I < (turned l pos mask k).length} (hx : x = (turned l pos mask k)[I]) (hP : P = UInt8.ofNat (2 ^ J)) (hI : I = (pos + k) / 8) (hJ : J = (pos + k) % 8) (hQ : Q = mask / 2 ^ k) (h1 : Q % 2 = 1) (hl : I < l.length) :
    (turned l pos mask k).set I (x ^^^ P) = turned l pos mask (k + 1) := by
  rw [turned, ← hI, ← hJ, ← hQ, if_pos ⟨hl, h1⟩, turnAt, ← hP, hx]
  congr 2
  rw [List.getD_eq_getElem?_getD, List.getElem?_eq_getElem hi]
  rfl
theorem turned_same {l : List UInt8} {pos mask k I Q : Nat} (hI : I = (pos + k) / 8) (hQ : Q = mask / 2 ^ k) (h : ¬ (I < l.length ∧ Q % 2 = 1)) :
    turned l pos mask k = turned l pos mask (k + 1) := by
  rw [turned, ← hI, ← hQ, if_neg h]
theorem pow8 (j : Nat) (h : j < 8) (e : Int) (he : e = (j : Int)) : (e = 0 ∧ ((UInt8.ofNat (2 ^ j)).toNat : Int) = 1) ∨ (e = 1 ∧ ((UInt8.ofNat (2 ^ j)).toNat : Int) = 2) ∨ (e = 2 ∧ ((UInt8.ofNat (2 ^ j)).toNat : Int) = 4) ∨ (e = 3 ∧ ((UInt8.ofNat (2 ^ j)).toNat : Int) = 8) ∨ (e = 4 ∧ ((UInt8.ofNat (2 ^ j)).toNat : Int) = 16) ∨ (e = 5 ∧ ((UInt8.ofNat (2 ^ j)).toNat : Int) = 32) ∨ (e = 6 ∧ ((UInt8.ofNat (2 ^ j)).toNat : Int) = 64) ∨ (e = 7 ∧ ((UInt8.ofNat (2 ^ j)).toNat : Int) = 128) := by
  subst he
  match j, h with
  | 0, _ => exact .inl ⟨rfl, rfl⟩
  | 1, _ => exact .inr (.inl ⟨rfl, rfl⟩)
  | 2, _ => exact .inr (.inr (.inl ⟨rfl, rfl⟩))
  | 3, _ => exact .inr (.inr (.inr (.inl ⟨rfl, rfl⟩)))
  | 4, _ => exact .inr (.inr (.inr (.inr (.inl ⟨rfl, rfl⟩))))
  | 5, _ => exact .inr (.inr (.inr (.inr (.inr (.inl ⟨rfl, rfl⟩)))))
  | 6, _ => exact .inr (.inr (.inr (.inr (.inr (.inr (.inl ⟨rfl, rfl⟩))))))
  | 7, _ => exact .inr (.inr (.inr (.inr (.inr (.inr (.inr (⟨rfl, rfl⟩)))))))
set_option maxHeartbeats 8000000 in
set_option maxRecDepth 20000 in
theorem Turned_calls (A : Option Addr) (l : List UInt8) (n c b pos mask : Nat) (w : World) (hs : Bs w b A l) (hn : l.length = n) (h2 : n ≤ 140737488355000) (hp : pos ≤ 1000000000000000000) (hm : mask < 4294967296) :
    Calls Try.prog 30 #[.slice A n c, .int .i64 pos, .int .u32 mask] w fun e w' => ∃ v, e = .returned v ∧ Row w' w.heap.size v (turned l pos mask 32) ∧ Below w.heap.size w w' := by
  have HN := Lib.hid hn
  clear hn
  go_enter Try.func30, Try.ntmps30
  go_wp2_with fail
  have hx : Below w.heap.size w (w.alloc (.cells #[.slice A n c] 46)) := (Below.refl _ _).alloc (Nat.le_refl _) _
  refine (Join_calls _ [.slice A n c] [l] 1 1 w.heap.size _ (Sl.cells_new w _ _) ((Bss.cons hs HN.out (Bss.nil_ _)).ext hx) rfl (by simp [maxLen]) (by have := HN.out; simp; omega)).mono ?_
  rintro e w3 ⟨v3, rfl, hrow3, hb3⟩
  have hrow := (hrow3.low (B' := w.heap.size) (by simp)).cast (show ([l] : List (List UInt8)).flatten = turned l pos mask 0 by simp [turned])
  have hb := hx.trans (hb3.mono (by simp))
  obtain ⟨A3, c3, b3, hv3, _⟩ := hrow.sl
  subst hv3
  rw [show (turned l pos mask 0).length = n by rw [turned_length, HN.out]] at hrow ⊢
  clear hrow3 hb3 hx hs
  go_wp2_with fail
  go_loopw [8] (fun i wr => ∃ k : Nat, k ≤ 32 ∧ i = .int .i64 k ∧ Row wr w.heap.size (.slice A3 n c3) (turned l pos mask k) ∧ Below w.heap.size w wr) (fun i _ => 32 - (intOf i).toNat)
  case atStart => exact ⟨0, by omega, rfl, hrow, hb⟩
  case round =>
    obtain ⟨k, hk, rfl, hr, hbr⟩ := hrel
    clear hrow hb
    by_cases hlt : k < 32
    · obtain ⟨Q, hQ⟩ : ∃ Q, Q = mask / 2 ^ k := ⟨_, rfl⟩
      have hQi : (mask : Int) / 2 ^ k = (Q : Int) := by rw [hQ]; simp
      have hQl : Q < 4294967296 := by rw [hQ]; exact Nat.lt_of_le_of_lt (Nat.div_le_self _ _) hm
      obtain ⟨I, hI⟩ : ∃ I, I = (pos + k) / 8 := ⟨_, rfl⟩
      obtain ⟨J, hJ⟩ : ∃ J, J = (pos + k) % 8 := ⟨_, rfl⟩
      have hJ8 : J < 8 := by omega
      have hIi : ((pos : Int) + (k : Int)) / 8 = (I : Int) := by omega
      have hJi : ((pos : Int) + (k : Int)) % 8 = (J : Int) := by omega
      have HQ := Lib.hid hQ
      have HI := Lib.hid hI
      have HJ := Lib.hid hJ
      clear hQ hI hJ
      by_cases hbit : I < n
      · by_cases hone : Q % 2 = 1
        · have hq1 : ((Q : Int) % 2 == 1) = true := by simp only [beq_iff_eq]; omega
          obtain ⟨g, cap, hv, hBg, hgl, hc, hf, hset⟩ := Row.set_ hr (k := I) (by rw [turned_length, HN.out]; exact hbit)
          injection hv with hA hA2 hA3
          subst hA
          clear hA2 hA3
          have HSet := Lib.hid hset
          have H1 := Lib.hid hone
          obtain ⟨x, hx⟩ : ∃ x, x = (turned l pos mask k)[I]'(by rw [turned_length, HN.out]; exact hbit) := ⟨_, rfl⟩
          rw [← hx] at hc
          have HX := Lib.hid hx
          have hpw := pow8 J hJ8 _ hJi
          obtain ⟨P, hP⟩ : ∃ P, P = UInt8.ofNat (2 ^ J) := ⟨_, rfl⟩
          rw [← hP] at hpw
          have HP := Lib.hid hP
          have hxo : bits .xor .u8 (x.toNat : Int) (P.toNat : Int) = ((x.toNat ^^^ P.toNat : Nat) : Int) :=
            u8_xor_nat x.toNat P.toNat (by have := x.toNat_lt; omega) (by have := P.toNat_lt; omega)
          clear hset hone hx hP hJi hJ8
          rcases hpw with ⟨hJ1, hP1⟩ | ⟨hJ1, hP1⟩ | ⟨hJ1, hP1⟩ | ⟨hJ1, hP1⟩ | ⟨hJ1, hP1⟩ | ⟨hJ1, hP1⟩ | ⟨hJ1, hP1⟩ | ⟨hJ1, hP1⟩
          all_goals
            rw [hP1] at hxo
            clear hP1
            go_wp2_with fail
            go_region
            go_wp2_with fail
            go_roundw
            case rel => exact ⟨k + 1, by omega, by go_num, (HSet.out (x ^^^ P) (x.toNat ^^^ P.toNat) _ (UInt8.toNat_xor x P).symm (Below.heap_alloc _ _ g (by simpa using hgl))).cast (turned_next HX.out HP.out HI.out HJ.out HQ.out H1.out (by rw [HN.out]; exact hbit)), below_drew ((hbr.setCell hBg _).alloc (by simpa using hbr.size) _)⟩
            case measure => simp [intOf]; omega
        · have hq1 : ((Q : Int) % 2 == 1) = false := by simp only [beq_eq_false_iff_ne, ne_eq]; omega
          have H1 := Lib.hid hone
          clear hone
          go_wp2_with fail
          go_roundw
          case rel => exact ⟨k + 1, by omega, by go_num, hr.cast (turned_same HI.out HQ.out (fun h => H1.out h.2)), hbr⟩
          case measure => simp [intOf]; omega
      · have HB := Lib.hid hbit
        have hbi : ¬ ((I : Int) < (n : Int)) := by omega
        go_wp2_with fail
        go_roundw
        case rel => exact ⟨k + 1, by omega, by go_num, hr.cast (turned_same HI.out HQ.out (fun h => HB.out (by rw [← HN.out]; exact h.1))), hbr⟩
        case measure => simp [intOf]; omega
    · obtain rfl : k = 32 := by omega
      go_wp2_with fail
      go_ret
      exact ⟨_, rfl, hr, hbr⟩
end Go.Proofs.Ytbcfelihncnofaa
