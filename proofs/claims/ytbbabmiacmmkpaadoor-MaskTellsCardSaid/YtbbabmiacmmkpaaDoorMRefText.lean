/- same at two alike lists; the reference's Dec and Text. Conditions: the numbers fit; the lists are short. -/
import Derived.Test.YtbbabmiacmmkpaaDoorMeet
import Derived.Test.YtbbabmiacmmkpaaDoorMRefList
import Derived.BigQuiet
namespace Go.Proofs.YtbbabmiacmmkpaaDoor
open Go.RowKit

set_option maxHeartbeats 2000000 in
set_option maxRecDepth 20000 in
theorem same_calls (l : List Int) (A A' : Option Addr) (n c c' b b' : Nat) (w : World) (hs : Sl w b A (iz l)) (hs' : Sl w b' A' (iz l)) (hn : l.length = n) (hnm : n ≤ 1000000) :
    Calls Tryd.prog 16 #[.slice A n c, .slice A' n c'] w fun e w' => e = .returned (.bool true) ∧ Below w.heap.size w w' := by
  have HN := Lib.hid hn
  clear hn
  go_enter Tryd.func16, Tryd.ntmps16
  go_wp2_with fail
  go_loopw [13] (fun i wr => ∃ (j d : Nat), j ≤ n ∧ i = .int .i64 j ∧ wr = w.drewN d) (fun i _ => n - (intOf i).toNat)
  case atStart => exact ⟨0, 0, Nat.zero_le _, rfl, rfl⟩
  case round =>
    obtain ⟨j, d, hj, rfl, rfl⟩ := hrel
    by_cases hlt : j < n
    · obtain ⟨o, ho⟩ : ∃ o, l[j]? = some o := ⟨_, List.getElem?_eq_getElem (by rw [HN.out]; exact hlt)⟩
      have hne : iz l ≠ [] := by intro h0; have := congrArg List.length h0; simp at this; rw [this] at ho; simp at ho
      obtain ⟨off, rfl, hcl⟩ := hs hne
      obtain ⟨off', rfl, hcl'⟩ := hs' hne
      have hcj := hcl j _ (iz_get? ho)
      have hcj' := hcl' j _ (iz_get? ho)
      have ej : (j : Int) < (n : Int) := by omega
      clear hcl hcl' ho hs hs' hne
      go_wp2_with fail
      go_quiet (fail)
      go_wp2_with fail
      go_roundw
      case rel => exact ⟨j + 1, _, by omega, by go_num, rfl⟩
      case measure => simp [intOf]; omega
    · obtain rfl : n = j := by omega
      go_wp2_with fail
      go_ret
      exact ⟨rfl, below_drewN (Below.refl _ _) _⟩
theorem ba_append (a b : Array UInt8) : (⟨a⟩ : ByteArray) ++ ⟨b⟩ = ⟨a ++ b⟩ := by
  apply ByteArray.ext
  simp
set_option maxRecDepth 20000 in
theorem Dec_digit (d : Nat) (h : d < 10) (w : World) : Calls Tryd.prog 30 #[.int .u64 d] w fun e w' => e = .returned (.string ⟨#[UInt8.ofNat (48 + d)]⟩) ∧ w' = w := by
  have hc : d = 0 ∨ d = 1 ∨ d = 2 ∨ d = 3 ∨ d = 4 ∨ d = 5 ∨ d = 6 ∨ d = 7 ∨ d = 8 ∨ d = 9 := by omega
  rcases hc with rfl | rfl | rfl | rfl | rfl | rfl | rfl | rfl | rfl | rfl <;>
  · go_enter Tryd.func30, Tryd.ntmps30
    go_wp2
    go_ret
    exact ⟨rfl, rfl⟩
theorem dec_two : ∀ k : Fin 32, 10 ≤ k.val → Lib.decDigits k.val = [UInt8.ofNat (48 + k.val / 10), UInt8.ofNat (48 + k.val % 10)] := by decide +kernel
theorem dec_one : ∀ k : Fin 32, k.val < 10 → Lib.decDigits k.val = [UInt8.ofNat (48 + k.val)] := by decide +kernel
set_option maxRecDepth 20000 in
theorem Dec_calls (k : Nat) (h : k < 32) (w : World) : Calls Tryd.prog 30 #[.int .u64 k] w fun e w' => e = .returned (.string ⟨(Lib.decDigits k).toArray⟩) ∧ w' = w := by
  by_cases h1 : k < 10
  · rw [dec_one ⟨k, h⟩ h1]
    exact Dec_digit k h1 w
  · have h2 := dec_two ⟨k, h⟩ (by simpa using h1)
    simp only at h2
    rw [h2]
    have hq := fun W => Dec_digit (k / 10) (by omega) W
    have hr := fun W => Dec_digit (k % 10) (by omega) W
    have eq : (k : Int) / 10 = ((k / 10 : Nat) : Int) := by omega
    have er : (k : Int) % 10 = ((k % 10 : Nat) : Int) := by omega
    obtain ⟨q, hqq⟩ : ∃ q, q = k / 10 := ⟨_, rfl⟩
    obtain ⟨r, hrr⟩ : ∃ r, r = k % 10 := ⟨_, rfl⟩
    rw [← hqq] at hq eq ⊢
    rw [← hrr] at hr er ⊢
    clear hqq hrr h2
    go_enter Tryd.func30, Tryd.ntmps30
    go_wp2_with fail
    refine (hq _).mono ?_
    rintro e w1 ⟨rfl, rfl⟩
    go_wp2_with fail
    refine (hr _).mono ?_
    rintro e w2 ⟨rfl, rfl⟩
    go_wp2_with fail
    go_ret
    refine ⟨?_, rfl⟩
    show Ending.returned (.string ((⟨#[48 + UInt8.ofNat q]⟩ : ByteArray) ++ ⟨#[48 + UInt8.ofNat r]⟩)) = _
    rw [ba_append]
    simp
/-- The words that the reference lays, part by part. -/
def wordsN (l : List Nat) : List UInt8 := Lib.join (l.map Lib.decDigits) [44]
theorem wordsN_snoc (l : List Nat) (k : Nat) (h : l ≠ []) : wordsN (l ++ [k]) = wordsN l ++ [44] ++ Lib.decDigits k := by
  obtain ⟨x, r, rfl⟩ := List.exists_cons_of_ne_nil h
  simp [wordsN, Lib.join_cons, Lib.joinTail]
theorem wordsN_one (k : Nat) : wordsN [k] = Lib.decDigits k := by simp [wordsN, Lib.join_one]
theorem dec_ne : ∀ k : Fin 32, Lib.decDigits k.val ≠ [] := by decide +kernel
theorem wordsN_ne (l : List Nat) (h : l ≠ []) (hl : ∀ k ∈ l, k < 32) : wordsN l ≠ [] := by
  obtain ⟨x, r, rfl⟩ := List.exists_cons_of_ne_nil h
  have := dec_ne ⟨x, hl x (by simp)⟩
  simp [wordsN, Lib.join_cons, this]
theorem wordsN_len (l : List Nat) (h : ∀ k ∈ l, k < 32) : (wordsN l).length ≤ 3 * l.length := by
  have := join_len (l.map Lib.decDigits) (fun x hx => by
    obtain ⟨k, hk, rfl⟩ := List.mem_map.1 hx
    exact dec_len ⟨k, h k hk⟩)
  rwa [List.length_map] at this
set_option maxHeartbeats 4000000 in
set_option maxRecDepth 20000 in
theorem RefText_calls (m : Nat) (w : World) (hm : m < 4294967296) :
    Calls Tryd.prog 19 #[.int .u32 m] w fun e w' => e = .returned (.string ⟨(textN m).toArray⟩) ∧ Below w.heap.size w w' := by
  have hL := fun W => RefList_calls m W hm
  have hol := obs_length m
  have hin : ∀ k ∈ obs m, k < 32 := fun k hk => (obs_mem.1 hk).1
  have htx : textN m = if obs m = [] then [45] else wordsN (obs m) := by
    unfold textN wordsN
    by_cases hz : m = 0
    · subst hz; simp [obs_zero]
    · rw [if_neg hz, if_neg (by rw [(obs_next hz hm).2]; simp)]
  obtain ⟨O, hO⟩ : ∃ O, O = obs m := ⟨_, rfl⟩
  rw [← hO] at hL hol hin htx
  have HIN := Lib.hid hin
  have HTX := Lib.hid htx
  clear hO hin htx
  go_enter Tryd.func19, Tryd.ntmps19
  go_wp2_with fail
  refine (hL _).mono ?_
  rintro e w1 ⟨v, rfl, hr, hb⟩
  obtain ⟨A, c, b, rfl, _, _, hs⟩ := own_sl hr
  rw [List.length_map]
  clear hL hr
  go_wp2_with fail
  go_loopw [3, 9] (fun out i wr => ∃ j : Nat, j ≤ O.length ∧ i = .int .i64 j ∧ out = .string ⟨(wordsN (O.take j)).toArray⟩ ∧ wr = w1) (fun _ i _ => O.length - (intOf i).toNat)
  case atStart => exact ⟨0, Nat.zero_le _, rfl, rfl, rfl⟩
  case round =>
    obtain ⟨j, hj, rfl, rfl, rfl⟩ := hrel
    by_cases hlt : j < O.length
    · obtain ⟨k, hk⟩ : ∃ k, O[j]? = some k := ⟨_, List.getElem?_eq_getElem hlt⟩
      have hk32 := HIN.out k (List.mem_of_getElem? hk)
      obtain ⟨off, rfl, hcl⟩ := hs (by intro h0; have := congrArg List.length h0; simp at this; rw [this] at hk; simp at hk)
      have hcj := hcl j (.int .i64 (k : Int)) (by simp [iz, hk])
      have hD := fun W => Dec_calls k hk32 W
      have htk : O.take (j + 1) = O.take j ++ [k] := by rw [List.take_add_one, hk]; rfl
      have ej : (j : Int) < (O.length : Int) := by omega
      have hDl : (Lib.decDigits k).length ≤ 2 := dec_len ⟨k, hk32⟩
      obtain ⟨D, hDD⟩ : ∃ D, D = Lib.decDigits k := ⟨_, rfl⟩
      have hd1 : ¬ (9223372036854775807 < D.length) := by rw [hDD]; omega
      by_cases hj0 : j = 0
      · subst hj0
        have hw0 : wordsN (O.take 0) = [] := rfl
        have hw1 : wordsN (O.take (0 + 1)) = D := by rw [htk, hDD]; exact wordsN_one k
        have HW := Lib.hid hw1
        rw [hw0]
        rw [Nat.add_zero] at hcj
        rw [← hDD] at hD
        clear hcl hk hs htk hw0 hw1 hDD hDl
        go_wp2_with fail
        refine (hD _).mono ?_
        rintro e w2 ⟨rfl, rfl⟩
        go_wp2_with fail
        go_roundw
        case rel => exact ⟨1, by omega, by go_num, by rw [show (1 : Nat) = 0 + 1 from rfl, HW.out, ba_append]; simp, trivial⟩
        case measure => simp [intOf]; omega
      · have hto : O.take j ≠ [] := by intro h0; have h1 := congrArg List.length h0; rw [List.length_take, List.length_nil] at h1; omega
        have hne := wordsN_ne (O.take j) hto (fun k hk => HIN.out k (List.mem_of_mem_take hk))
        have hw1 : wordsN (O.take (j + 1)) = wordsN (O.take j) ++ [44] ++ D := by rw [htk, hDD]; exact wordsN_snoc _ k hto
        have hwl := wordsN_len (O.take j) (fun k hk => HIN.out k (List.mem_of_mem_take hk))
        have hwt : (O.take j).length ≤ 32 := by rw [List.length_take]; omega
        have HW := Lib.hid hw1
        rw [← hDD] at hD hDl
        obtain ⟨S, hS⟩ : ∃ S, S = wordsN (O.take j) := ⟨_, rfl⟩
        rw [← hS] at hne HW hwl ⊢
        have hse : S.isEmpty = false := by cases S <;> simp_all
        have hs1 : ¬ (9223372036854775807 < S.length + 1) := by omega
        have hs2 : ¬ (9223372036854775807 < S.length + 1 + D.length) := by omega
        clear hcl hk hs htk hw1 hS hDD hto hwl hwt hDl hne
        go_wp2_with fail
        refine (hD _).mono ?_
        rintro e w2 ⟨rfl, rfl⟩
        go_wp2_with fail
        go_roundw
        case rel => exact ⟨j + 1, by omega, by go_num, by rw [HW.out, ba_append, ba_append]; simp, trivial⟩
        case measure => simp [intOf]; omega
    · obtain rfl : j = O.length := by omega
      rw [List.take_length]
      by_cases hO : O = []
      · have HT := Lib.hid (show textN m = [45] by rw [HTX.out, if_pos hO])
        have hw0 : wordsN O = [] := by rw [hO]; rfl
        rw [hw0]
        clear hO hw0
        go_wp2_with fail
        go_ret
        exact ⟨by rw [HT.out]; rfl, hb⟩
      · have HT := Lib.hid (show textN m = wordsN O by rw [HTX.out, if_neg hO])
        have hne := wordsN_ne O hO HIN.out
        obtain ⟨S, hS⟩ : ∃ S, S = wordsN O := ⟨_, rfl⟩
        rw [← hS] at hne HT ⊢
        have hse : S.isEmpty = false := by cases S <;> simp_all
        clear hne hS hO
        go_wp2_with fail
        go_ret
        exact ⟨by rw [HT.out]; rfl, hb⟩
end Go.Proofs.YtbbabmiacmmkpaaDoor
