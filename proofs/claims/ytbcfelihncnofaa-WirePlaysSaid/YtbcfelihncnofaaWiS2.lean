/- Spoil: some of 32 bits in a row turned, of a copy. Condition: the length fits. -/
import Derived.Test.YtbcfelihncnofaaWiC
import Derived.Test.YtbcfelihncnofaaTurned
namespace Go.Proofs.Ytbcfelihncnofaa
open Go.RowKit
set_option linter.unusedVariables false

/-- What is spoilt, plainly. -/
def spoilN (l : List UInt8) (pos mask : Nat) : List UInt8 := turned l (pos % (8 * l.length)) mask 32
@[simp] theorem spoilN_length (l : List UInt8) (pos mask : Nat) : (spoilN l pos mask).length = l.length := by simp [spoilN]
theorem turned_past (l : List UInt8) (j mask : Nat) (m k : Nat) (hj : 8 * l.length ≤ j + m) : turned l j mask (m + k) = turned l j mask m := by
  induction k with
  | zero => rfl
  | succ k ih => rw [← Nat.add_assoc, turned, if_neg (by intro h; omega), ih]
theorem spoil_end {l : List UInt8} {j mask m : Nat} (hm : m = min 32 (8 * l.length - j)) : turned l j mask 32 = turned l j mask m := by
  rcases Nat.lt_or_ge 32 (8 * l.length - j) with h | h
  · rw [show m = 32 by omega]
  · rw [show (32 : Nat) = m + (32 - m) by omega]
    exact turned_past l j mask m _ (by omega)
theorem spoil_byte (x : UInt8) (b : Nat) (hb : b < 8) : UInt8.ofNat (x.toNat ^^^ 2 ^ b) = x ^^^ UInt8.ofNat (2 ^ b) := by
  have h4 : 2 ^ b ≤ 2 ^ 7 := Nat.pow_le_pow_right (by omega) (by omega)
  apply UInt8.toNat_inj.1
  rw [UInt8.toNat_xor, UInt8.toNat_ofNat', UInt8.toNat_ofNat', Nat.mod_eq_of_lt (a := 2 ^ b) (by omega)]
  exact Nat.mod_eq_of_lt (Nat.xor_lt_two_pow (n := 8) (by have := x.toNat_lt; omega) (by omega))
theorem spoil_next {l : List UInt8} {J mask k I b Q T : Nat} {x : UInt8} {hi : I < (turned l J mask k).length} (hx : x = (turned l J mask k)[I]) (hI : I = (J + k) / 8) (hb : b = (J + k) % 8) (hQ : Q = mask / 2 ^ k) (hT : T = Q % 2) (hl : I < l.length) :
    (turned l J mask k).set I (UInt8.ofNat (x.toNat ^^^ (T * 2 ^ b))) = turned l J mask (k + 1) := by
  by_cases h1 : Q % 2 = 1
  · rw [hT, h1, Nat.one_mul, spoil_byte x b (by omega)]
    exact turned_next hx rfl hI hb hQ h1 hl
  · rw [hT, show Q % 2 = 0 by omega, Nat.zero_mul, Nat.xor_zero, UInt8.ofNat_toNat, ← turned_same hI hQ (fun h => h1 h.2), hx]
    exact List.set_getElem_self hi
theorem spoil_num (x : UInt8) (T b : Nat) (hT : T < 2) (hb : b < 8) : bits .xor .u8 (x.toNat : Int) ((T : Int) * 2 ^ b % 256) = ((UInt8.ofNat (x.toNat ^^^ (T * 2 ^ b))).toNat : Int) := by
  have h4 : 2 ^ b ≤ 2 ^ 7 := Nat.pow_le_pow_right (by omega) (by omega)
  have h5 : T * 2 ^ b < 256 := by
    rcases (by omega : T = 0 ∨ T = 1) with rfl | rfl <;> omega
  have h6 : (T : Int) * 2 ^ b % 256 = ((T * 2 ^ b : Nat) : Int) := by
    rw [show ((T : Int) * 2 ^ b) = ((T * 2 ^ b : Nat) : Int) by simp]
    omega
  have hx := x.toNat_lt
  rw [h6, u8_xor_nat _ _ (by omega) (by omega), UInt8.toNat_ofNat', Nat.mod_eq_of_lt (Nat.xor_lt_two_pow (n := 8) (by omega) (by omega))]
set_option maxHeartbeats 8000000 in
set_option maxRecDepth 20000 in
theorem Spoil_calls (A : Option Addr) (l : List UInt8) (n c b : Nat) (h pos mask : Nat) (w : World) (hs : Bs w b A l) (hl : l.length = n) (hm : n ≤ 1000000) (hp : pos ≤ 65535) (hk : mask ≤ 4294967295) :
    Calls Try.prog 19 #[.slice A n c, .agg #[.int .u8 (h : Int), .int .u16 (pos : Int), .int .u32 (mask : Int)]] w fun e w' => ∃ v, e = .returned v ∧ Row w' w.heap.size v (spoilN l pos mask) ∧ Below w.heap.size w w' := by
  have hC := fun W hb => Clone_calls A l n c b W hb hl (by omega)
  have HN := Lib.hid hl
  by_cases h0 : n = 0
  · have hx : l = [] := List.eq_nil_of_length_eq_zero (by omega)
    subst hx
    subst h0
    clear hC hl hs
    go_enter Try.func19, Try.ntmps19
    go_wp2_with fail
    go_ret
    have e : spoilN [] pos mask = [] := List.eq_nil_of_length_eq_zero (by simp)
    rw [e]
    exact ⟨.slice none 0 0, rfl, Row.nil_ _ _, below_alloc1 _ _⟩
  · have hne : ((n : Int) == 0) = false := by simp; omega
    have hx := below_alloc1 w (.cells #[.int .u8 (h : Int), .int .u16 (pos : Int), .int .u32 (mask : Int)] 50)
    have hg := heap_alloc_new w (.cells #[.int .u8 (h : Int), .int .u16 (pos : Int), .int .u32 (mask : Int)] 50)
    have hs1 := Sl.ext hs hx
    clear hl hs
    go_enter Try.func19, Try.ntmps19
    go_wp2_with fail
    refine (hC _ hs1).mono ?_
    rintro e w1 ⟨v1, rfl, hrow1, hb1⟩
    replace hg := (hb1.block w.heap.size (by simp)).trans hg
    have hb := hx.trans (hb1.mono hx.size)
    replace hrow1 := hrow1.low (B' := w.heap.size) (by simp)
    have c1 : w1.cell? ⟨w.heap.size, 1, none⟩ = some (.int .u16 (pos : Int)) := by rw [cell_of_row w1 _ _ _ _ _ hg]; rfl
    obtain ⟨D, hD⟩ : ∃ D, D = 8 * n := ⟨_, rfl⟩
    obtain ⟨J, hJ⟩ : ∃ J, J = pos % D := ⟨_, rfl⟩
    obtain ⟨M, hM⟩ : ∃ M, M = min 32 (D - J) := ⟨_, rfl⟩
    have hD0 : ((D : Int) == 0) = false := by simp; omega
    have e1 : 8 * (n : Int) = (D : Int) := by omega
    have e1' : (8 * (n : Int)) % 18446744073709551616 = (D : Int) := by omega
    have e2 : (pos : Int) % (D : Int) = (J : Int) := by rw [hJ]; simp
    have hJD : J < D := by rw [hJ]; exact Nat.mod_lt _ (by omega)
    obtain ⟨K, hK⟩ : ∃ K, K = D - J := ⟨_, rfl⟩
    have e4 : IntKind.u64.wrap ((D : Int) - (J : Int)) = (K : Int) := by rw [IntWalk.u64_in _ (by omega)]; omega
    have e4' : (D : Int) - (J : Int) = (K : Int) := by omega
    have e3 : min (32 : Int) (K : Int) = (M : Int) := by omega
    have e3' : (if (32 : Int) ≤ (K : Int) then (32 : Int) else (K : Int)) = (M : Int) := by split <;> omega
    have e3'' : (if (K : Int) < (32 : Int) then (K : Int) else (32 : Int)) = (M : Int) := by split <;> omega
    have e5 : spoilN l pos mask = turned l J mask M := by unfold spoilN; rw [HN.out, ← hD, ← hJ]; exact spoil_end (by rw [HN.out, ← hD]; exact hM)
    have hMJ : J + M ≤ D := by omega
    have hM32 : M ≤ 32 := by omega
    have E5 := Lib.hid e5
    have HD := Lib.hid hD
    have hr0 : Row w1 w.heap.size v1 (turned l J mask 0) := hrow1
    clear hD hJ hM hK e5 hrow1 hs1 hb1 hx
    go_wp2_with fail
    go_loopw [29] (fun i wr => ∃ k : Nat, k ≤ M ∧ i = .int .u64 k ∧ Row wr w.heap.size v1 (turned l J mask k) ∧ Below w.heap.size w wr ∧ wr.heap[w.heap.size]? = some (.cells #[.int .u8 (h : Int), .int .u16 (pos : Int), .int .u32 (mask : Int)] 50 (0, 0))) (fun i _ => M - (intOf i).toNat)
    case atStart => exact ⟨0, Nat.zero_le _, rfl, hr0, hb, hg⟩
    case round =>
      obtain ⟨k, hkM, rfl, hr, hbr, hg9⟩ := hrel
      by_cases hlt : k < M
      · have c2 : wr.cell? ⟨w.heap.size, 2, none⟩ = some (.int .u32 (mask : Int)) := by rw [cell_of_row wr _ _ _ _ _ hg9]; rfl
        obtain ⟨Q, hQ⟩ : ∃ Q, Q = mask / 2 ^ k := ⟨_, rfl⟩
        have hQi : (mask : Int) / 2 ^ k = (Q : Int) := by rw [hQ]; simp
        have hQl : Q < 4294967296 := by rw [hQ]; exact Nat.lt_of_le_of_lt (Nat.div_le_self _ _) (by omega)
        obtain ⟨T, hT⟩ : ∃ T, T = Q % 2 := ⟨_, rfl⟩
        have hT2 : T < 2 := by omega
        have hQa : bits .and .u32 (Q : Int) 1 = (T : Int) := by rw [show (1 : Int) = ((1 : Nat) : Int) from rfl, u32_and_nat Q 1 (by omega) (by omega), Nat.and_one_is_mod, hT]
        obtain ⟨I, hI⟩ : ∃ I, I = (J + k) / 8 := ⟨_, rfl⟩
        obtain ⟨b, hb8⟩ : ∃ b, b = (J + k) % 8 := ⟨_, rfl⟩
        have hIi : ((J : Int) + (k : Int)) / 8 = (I : Int) := by omega
        have hbi : ((J : Int) + (k : Int)) % 8 = (b : Int) := by omega
        have hbl : b < 8 := by omega
        have hIn : I < n := by have := HD.out; omega
        have hHN := HN.out
        obtain ⟨g, cap, hv, hBg, hgl, hc, hf, hset⟩ := Row.set_ hr (k := I) (by rw [turned_length, HN.out]; exact hIn)
        rw [turned_length, HN.out] at hv
        subst hv
        obtain ⟨x, hx⟩ : ∃ x, x = (turned l J mask k)[I]'(by rw [turned_length, HN.out]; exact hIn) := ⟨_, rfl⟩
        rw [← hx] at hc
        have hgw : g ≠ w.heap.size := fun e => row_apart hr hg9 (by decide) (by rw [← e]; rfl)
        have hnx := spoil_next hx hI hb8 hQ hT (by rw [HN.out]; exact hIn)
        have hnum := spoil_num x T b hT2 hbl
        obtain ⟨y, hy⟩ : ∃ y, y = UInt8.ofNat (x.toNat ^^^ (T * 2 ^ b)) := ⟨_, rfl⟩
        rw [← hy] at hnum hnx
        replace hnx := Lib.hid hnx
        have HSet := Lib.hid hset
        have HX := Lib.hid hx
        have HQ := Lib.hid hQ
        have HI := Lib.hid hI
        have HB8 := Lib.hid hb8
        have HT := Lib.hid hT
        clear hset hx hQ hI hb8 hT hHN hr hy
        go_wp2_with fail
        go_roundw
        case rel => exact ⟨k + 1, by omega, by go_num, (HSet.out _ _ _ rfl rfl).cast hnx.out, hbr.setCell hBg _, (heap_setCell_other wr ⟨g, I, none⟩ w.heap.size _ (Ne.symm hgw)).trans hg9⟩
        case measure => simp [intOf]; omega
      · obtain rfl : k = M := by omega
        go_wp2_with fail
        go_ret
        exact ⟨_, rfl, hr.cast E5.out.symm, hbr⟩
end Go.Proofs.Ytbcfelihncnofaa
