/- The reference's Low and Value: a number's bytes, the lowest first, and back. Conditions: the numbers fit 64 bits. -/
import Derived.Test.YtgpedkdebifooaaDoorRefJoin
namespace Go.Proofs.YtgpedkdebifooaaDoor
open Go.RowKit

def low (n k : Nat) : List UInt8 := (List.range k).map fun i => UInt8.ofNat (n / 256 ^ i)
theorem low_succ (n k : Nat) : low n (k + 1) = low n k ++ [UInt8.ofNat (n / 256 ^ k)] := by simp [low, List.range_succ]
@[simp] theorem low_length (n k : Nat) : (low n k).length = k := by simp [low]

set_option maxHeartbeats 400000 in
theorem Low_calls (n : Nat) (s : Int) (w : World) (hn : n ≤ 18446744073709551615) (h0 : 0 ≤ s) (h1 : s ≤ 1000) :
    Calls Tryd.prog 51 #[.int .u64 n, .int .i64 s] w fun e w' => ∃ v, e = .returned v ∧ Row w' w.heap.size v (low n s.toNat) ∧ Below w.heap.size w w' := by
  obtain ⟨t, rfl⟩ := Int.eq_ofNat_of_zero_le h0
  rw [Int.toNat_natCast]
  go_enter Tryd.func51, Tryd.ntmps51
  go_wp2
  go_loopw [0, 5, 6] (fun x v i wr => ∃ k m : Nat, k ≤ t ∧ i = .int .i64 k ∧ x = .int .u64 m ∧ Hid (m = n / 256 ^ k) ∧ m ≤ n ∧ Row wr w.heap.size v (low n k) ∧ Below w.heap.size w wr) (fun _ _ i _ => t - (intOf i).toNat)
  case atStart => exact ⟨0, n, Nat.zero_le _, rfl, rfl, Lib.hid (by simp), Nat.le_refl _, by simpa [low] using Row.nil_ _ _, Below.refl _ _⟩
  case round =>
    obtain ⟨k, m, hk, rfl, rfl, hm, hmn, hown, hb⟩ := hrel
    by_cases hlt : k < t
    · have hbs : w.heap.size ≤ wr.heap.size := hb.size
      have hle : (low n k).length + 1 ≤ 140737488355328 := by simp; omega
      have e2 := Lib.hid (u8_ofNat m)
      go_wp2_with (at_builtin; refine wpList_app1 wr rfl (.tmp 12) (.tmp 16) rfl w.heap.size _ _ rfl hown (UInt8.ofNat m) (by rw [e2.out]) rfl hle hbs ?_; intro v' w1 hown' hmod _)
      go_roundw
      case rel =>
        refine ⟨k + 1, m / 256, by omega, by go_num, by go_num, Lib.hid ?_, by omega, hown'.cast ?_, hb.trans (hmod.below hbs (fun i hi hv => by have := (hown.lt i hv).1; omega))⟩
        · rw [hm.out, Nat.div_div_eq_div_mul, Nat.pow_succ]
        · rw [low_succ, hm.out]
      case measure => simp [intOf]; omega
    · go_wp2
      go_ret
      refine ⟨_, rfl, hown.cast ?_, hb⟩
      rw [show k = t by omega]

def valN (l : List UInt8) : Nat := l.foldr (fun x acc => 256 * acc + x.toNat) 0
theorem valN_cons (x : UInt8) (l : List UInt8) : valN (x :: l) = 256 * valN l + x.toNat := rfl
theorem valN_lt (l : List UInt8) : valN l < 256 ^ l.length := by
  induction l with
  | nil => simp [valN]
  | cons x l ih =>
    rw [valN_cons, List.length_cons, Nat.pow_succ]
    have := x.toNat_lt
    omega
theorem valN_drop (l : List UInt8) (k : Nat) (h : k < l.length) : valN (l.drop k) = 256 * valN (l.drop (k + 1)) + l[k].toNat := by
  rw [List.drop_eq_getElem_cons h, valN_cons]

set_option maxHeartbeats 400000 in
theorem Value_calls (A : Option Addr) (l : List UInt8) (n c b : Nat) (w : World) (hs : Bs w b A l) (hn : l.length = n) (h8 : n ≤ 8) :
    Calls Tryd.prog 80 #[.slice A n c] w fun e w' => e = .returned (.int .u64 (valN l : Nat)) ∧ w = w' := by
  have HN := Lib.hid hn
  clear hn
  go_enter Tryd.func80, Tryd.ntmps80
  go_wp2
  go_loop [3, 4] (fun x i => ∃ k m : Nat, k ≤ n ∧ i = .int .i64 ((k : Int) - 1) ∧ x = .int .u64 m ∧ Hid (m = valN (l.drop k))) (fun _ i => (intOf i + 1).toNat)
  case atStart => exact ⟨n, 0, Nat.le_refl _, by go_num, rfl, Lib.hid (by rw [← HN.out, List.drop_length]; rfl)⟩
  case round =>
    obtain ⟨k, m, hk, rfl, rfl, hm⟩ := hrel
    by_cases hlt : 0 < k
    · obtain ⟨j, rfl⟩ : ∃ j, k = j + 1 := ⟨k - 1, by omega⟩
      have hjl : j < l.length := by rw [HN.out]; omega
      obtain ⟨oa, rfl, hca⟩ := Bs.at_ hs hjl
      have ca := hca j hjl
      have hv := Lib.hid (valN_drop l j hjl)
      obtain ⟨q, hq⟩ : ∃ q, q = l[j] := ⟨_, rfl⟩
      rw [← hq] at ca
      have HQ := Lib.hid hq
      have hq8 := q.toNat_lt
      have hm2 : m < 72057594037927936 := by
        rw [hm.out]
        refine Nat.lt_of_lt_of_le (valN_lt _) ?_
        have : (l.drop (j + 1)).length ≤ 7 := by rw [List.length_drop, HN.out]; omega
        exact Nat.le_trans (Nat.pow_le_pow_right (by omega) this) (by decide)
      clear hca hq
      go_wp2
      go_round
      case rel =>
        refine ⟨j, 256 * m + q.toNat, by omega, rfl, by go_num, Lib.hid ?_⟩
        rw [hv.out, hm.out, HQ.out]
      case measure => simp [intOf]
    · go_wp2
      go_ret
      refine ⟨?_, rfl⟩
      rw [show k = 0 by omega] at hm
      rw [hm.out]
      rfl
end Go.Proofs.YtgpedkdebifooaaDoor
