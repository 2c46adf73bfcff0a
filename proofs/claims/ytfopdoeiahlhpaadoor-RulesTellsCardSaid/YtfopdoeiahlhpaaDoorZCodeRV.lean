/- The document's table of operations, its Parts, has, Right. Conditions: the numbers fit. -/
import Derived.Test.YtfopdoeiahlhpaaDoorZRuBase08
namespace Go.Proofs.YtfopdoeiahlhpaaDoor
open Go.RowKit

def rowT : List (List UInt8) := [[115, 116, 111, 112, 32], [115, 101, 116, 32, 65, 110], [108, 111, 97, 100, 32, 65, 99], [115, 116, 111, 114, 101, 32, 65, 99], [108, 111, 97, 100, 97, 116, 32, 65, 66, 99], [115, 116, 111, 114, 101, 97, 116, 32, 65, 66, 99], [97, 100, 100, 32, 65, 66, 67], [115, 117, 98, 32, 65, 66, 67], [109, 117, 108, 32, 65, 66, 67], [100, 105, 118, 32, 65, 66, 67], [109, 111, 100, 32, 65, 66, 67], [97, 110, 100, 32, 65, 66, 67], [111, 114, 32, 65, 66, 67], [120, 111, 114, 32, 65, 66, 67], [115, 104, 108, 32, 65, 66, 67], [115, 104, 114, 32, 65, 66, 67], [108, 101, 115, 115, 32, 65, 66, 67], [101, 113, 117, 97, 108, 32, 65, 66, 67], [115, 101, 108, 101, 99, 116, 32, 65, 66, 67], [98, 114, 97, 110, 99, 104, 32, 65, 112], [106, 117, 109, 112, 32, 112], [109, 111, 118, 101, 32, 65, 109], [114, 101, 118, 101, 97, 108, 32, 66, 99, 75], [114, 111, 108, 108, 32, 65, 115], [115, 104, 117, 102, 102, 108, 101, 32, 114], [99, 108, 111, 99, 107, 32, 65]]
def rowAt (j : Nat) : List UInt8 := rowT.getD j []
def letAt (j : Nat) : List UInt8 := (rowAt j).drop ((wordAt j).length + 1)
theorem rowT_parts : ∀ j : Fin 26, rowAt j.val = wordAt j.val ++ 32 :: letAt j.val ∧ (wordAt j.val).contains 32 = false := by decide +kernel
set_option maxRecDepth 20000 in
theorem Table_calls (w : World) : Calls Tryd.prog 103 #[] w fun e w' => e = .returned (.slice (some ⟨w.heap.size, 0, none⟩) 26 26) ∧ w'.heap[w.heap.size]? = some (.cells (rowT.map fun r => .string ⟨r.toArray⟩).toArray 9 (0, 0)) ∧ Below w.heap.size w w' := by
  have hk := heap_alloc_new w (.cells #[.string ⟨#[115, 116, 111, 112, 32]⟩, .string ⟨#[115, 101, 116, 32, 65, 110]⟩, .string ⟨#[108, 111, 97, 100, 32, 65, 99]⟩, .string ⟨#[115, 116, 111, 114, 101, 32, 65, 99]⟩, .string ⟨#[108, 111, 97, 100, 97, 116, 32, 65, 66, 99]⟩, .string ⟨#[115, 116, 111, 114, 101, 97, 116, 32, 65, 66, 99]⟩, .string ⟨#[97, 100, 100, 32, 65, 66, 67]⟩, .string ⟨#[115, 117, 98, 32, 65, 66, 67]⟩, .string ⟨#[109, 117, 108, 32, 65, 66, 67]⟩, .string ⟨#[100, 105, 118, 32, 65, 66, 67]⟩, .string ⟨#[109, 111, 100, 32, 65, 66, 67]⟩, .string ⟨#[97, 110, 100, 32, 65, 66, 67]⟩, .string ⟨#[111, 114, 32, 65, 66, 67]⟩, .string ⟨#[120, 111, 114, 32, 65, 66, 67]⟩, .string ⟨#[115, 104, 108, 32, 65, 66, 67]⟩, .string ⟨#[115, 104, 114, 32, 65, 66, 67]⟩, .string ⟨#[108, 101, 115, 115, 32, 65, 66, 67]⟩, .string ⟨#[101, 113, 117, 97, 108, 32, 65, 66, 67]⟩, .string ⟨#[115, 101, 108, 101, 99, 116, 32, 65, 66, 67]⟩, .string ⟨#[98, 114, 97, 110, 99, 104, 32, 65, 112]⟩, .string ⟨#[106, 117, 109, 112, 32, 112]⟩, .string ⟨#[109, 111, 118, 101, 32, 65, 109]⟩, .string ⟨#[114, 101, 118, 101, 97, 108, 32, 66, 99, 75]⟩, .string ⟨#[114, 111, 108, 108, 32, 65, 115]⟩, .string ⟨#[115, 104, 117, 102, 102, 108, 101, 32, 114]⟩, .string ⟨#[99, 108, 111, 99, 107, 32, 65]⟩] 9)
  have hb := below_alloc1 w (.cells #[.string ⟨#[115, 116, 111, 112, 32]⟩, .string ⟨#[115, 101, 116, 32, 65, 110]⟩, .string ⟨#[108, 111, 97, 100, 32, 65, 99]⟩, .string ⟨#[115, 116, 111, 114, 101, 32, 65, 99]⟩, .string ⟨#[108, 111, 97, 100, 97, 116, 32, 65, 66, 99]⟩, .string ⟨#[115, 116, 111, 114, 101, 97, 116, 32, 65, 66, 99]⟩, .string ⟨#[97, 100, 100, 32, 65, 66, 67]⟩, .string ⟨#[115, 117, 98, 32, 65, 66, 67]⟩, .string ⟨#[109, 117, 108, 32, 65, 66, 67]⟩, .string ⟨#[100, 105, 118, 32, 65, 66, 67]⟩, .string ⟨#[109, 111, 100, 32, 65, 66, 67]⟩, .string ⟨#[97, 110, 100, 32, 65, 66, 67]⟩, .string ⟨#[111, 114, 32, 65, 66, 67]⟩, .string ⟨#[120, 111, 114, 32, 65, 66, 67]⟩, .string ⟨#[115, 104, 108, 32, 65, 66, 67]⟩, .string ⟨#[115, 104, 114, 32, 65, 66, 67]⟩, .string ⟨#[108, 101, 115, 115, 32, 65, 66, 67]⟩, .string ⟨#[101, 113, 117, 97, 108, 32, 65, 66, 67]⟩, .string ⟨#[115, 101, 108, 101, 99, 116, 32, 65, 66, 67]⟩, .string ⟨#[98, 114, 97, 110, 99, 104, 32, 65, 112]⟩, .string ⟨#[106, 117, 109, 112, 32, 112]⟩, .string ⟨#[109, 111, 118, 101, 32, 65, 109]⟩, .string ⟨#[114, 101, 118, 101, 97, 108, 32, 66, 99, 75]⟩, .string ⟨#[114, 111, 108, 108, 32, 65, 115]⟩, .string ⟨#[115, 104, 117, 102, 102, 108, 101, 32, 114]⟩, .string ⟨#[99, 108, 111, 99, 107, 32, 65]⟩] 9)
  go_enter Tryd.func103, Tryd.ntmps103
  go_wp2
  go_ret
  exact ⟨rfl, hk, hb⟩
theorem contains_at {l : List UInt8} (h : l.contains 32 = false) {k : Nat} (hk : k < l.length) : l[k].toNat ≠ 32 := fun e => by
  have h1 : l[k] = 32 := by apply UInt8.toNat.inj; simpa using e
  rw [List.contains_eq_mem, decide_eq_false_iff_not] at h
  exact h (h1 ▸ List.getElem_mem hk)
set_option maxRecDepth 20000 in
theorem has_calls (s : List UInt8) (c : Nat) (hc : c ≤ 255) (hs : s.length ≤ 1000) (w : World) : Calls Tryd.prog 90 #[.string ⟨s.toArray⟩, .int .u8 (c : Int)] w fun e w' => e = .returned (.bool (s.contains (UInt8.ofNat c))) ∧ w' = w := by
  obtain ⟨d, hd⟩ : ∃ d, d = s.contains (UInt8.ofNat c) := ⟨_, rfl⟩
  rw [← hd]
  have HD := Lib.hid hd
  clear hd
  go_enter Tryd.func90, Tryd.ntmps90
  go_wp2_with fail
  go_loop [5] (fun i => ∃ k : Nat, k ≤ s.length ∧ i = .int .i64 k ∧ ∀ j (_ : j < k) (hj : j < s.length), s[j].toNat ≠ c) (fun i => s.length - (intOf i).toNat)
  case atStart => exact ⟨0, Nat.zero_le _, rfl, fun j hj => by omega⟩
  case round =>
    obtain ⟨k, hk, rfl, hall⟩ := hrel
    have HA := Lib.hid hall
    clear hall
    by_cases hlt : k < s.length
    · have ej : (k : Int) < (s.length : Int) := by omega
      have hlb : k < (⟨s.toArray⟩ : ByteArray).size := by simpa [ByteArray.size] using hlt
      obtain ⟨x, hx⟩ : ∃ x : Nat, x = s[k].toNat := ⟨_, rfl⟩
      by_cases hxc : x = c
      · have ex : (((((⟨s.toArray⟩ : ByteArray)[k]'hlb).toNat : Nat) : Int) == (c : Int)) = true := by rw [beq_iff_eq]; show ((s[k].toNat : Int)) = c; omega
        have hr : s.contains (UInt8.ofNat c) = true := by
          rw [List.contains_eq_mem, decide_eq_true_iff]
          have h1 : s[k] = UInt8.ofNat c := by rw [← hxc, hx]; simp
          exact h1 ▸ List.getElem_mem hlt
        rw [← HD.out] at hr
        subst hr
        clear hx
        go_wp2
        go_ret
        exact ⟨rfl, rfl⟩
      · have ex : (((((⟨s.toArray⟩ : ByteArray)[k]'hlb).toNat : Nat) : Int) == (c : Int)) = false := by rw [beq_eq_false_iff_ne]; show ((s[k].toNat : Int)) ≠ c; omega
        have hne : s[k].toNat ≠ c := by omega
        have HN := Lib.hid hne
        clear hx hne
        go_wp2
        go_round
        case rel =>
          refine ⟨k + 1, by omega, by go_num, fun j hj hj2 => ?_⟩
          rcases Nat.lt_or_ge j k with h1 | h1
          · exact HA.out j h1 hj2
          · obtain rfl : j = k := by omega
            exact HN.out
        case measure => simp [intOf]; omega
    · obtain rfl : k = s.length := by omega
      have hr : s.contains (UInt8.ofNat c) = false := by
        rw [List.contains_eq_mem, decide_eq_false_iff_not]
        intro hm
        obtain ⟨j, hj, he⟩ := List.getElem_of_mem hm
        have h1 := HA.out j hj hj
        rw [he] at h1
        apply h1
        simp [UInt8.toNat_ofNat']
        omega
      rw [← HD.out] at hr
      subst hr
      go_wp2
      go_ret
      exact ⟨rfl, rfl⟩
theorem ba_extract (l : List UInt8) (i j : Nat) : (⟨l.toArray⟩ : ByteArray).extract i j = ⟨((l.drop i).take (j - i)).toArray⟩ := by
  apply ByteArray.ext
  rw [ByteArray.data_extract]
  apply Array.ext'
  simp [List.extract]
theorem row_len : ∀ j : Fin 26, (rowAt j.val).length ≤ 14 ∧ (letAt j.val).length ≤ 5 ∧ (wordAt j.val).length ≤ 7 := by decide +kernel
set_option maxRecDepth 20000 in
theorem Parts_in (op : Nat) (h26 : op < 26) (w : World) : Calls Tryd.prog 89 #[.int .u8 (op : Int)] w fun e w' => e = .returned (.tuple #[.string ⟨(wordAt op).toArray⟩, .string ⟨(letAt op).toArray⟩]) ∧ Below w.heap.size w w' := by
  obtain ⟨hrow, hno⟩ := rowT_parts ⟨op, h26⟩
  obtain ⟨hl, -, -⟩ := row_len ⟨op, h26⟩
  simp only at hrow hno hl
  have hcell : ∀ W : World, W.heap[w.heap.size]? = some (.cells (rowT.map fun r => .string ⟨r.toArray⟩).toArray 9 (0, 0)) → W.cell? ⟨w.heap.size, op, none⟩ = some (.string ⟨(rowAt op).toArray⟩) := fun W h => by
    rw [cell_of_row W _ op _ _ _ h]
    have : op < rowT.length := h26
    simp [rowAt, List.getD, this]
  obtain ⟨r, hr⟩ : ∃ r, r = rowAt op := ⟨_, rfl⟩
  obtain ⟨sw, hsw⟩ : ∃ s, s = wordAt op := ⟨_, rfl⟩
  obtain ⟨su, hsu⟩ : ∃ s, s = letAt op := ⟨_, rfl⟩
  rw [← hr] at hcell hrow hl
  rw [← hsw] at hrow hno ⊢
  rw [← hsu] at hrow ⊢
  clear hr hsw hsu
  have hwr : sw.length < r.length := by rw [hrow]; simp
  have hbefore : ∀ j (h1 : j < sw.length) (h2 : j < r.length), r[j].toNat ≠ 32 := fun j h1 h2 => by
    have h3 : r[j] = sw[j] := by simp only [hrow]; rw [List.getElem_append_left h1]
    rw [h3]
    exact contains_at hno h1
  have hat : r[sw.length].toNat = 32 := by
    have h3 : r[sw.length] = 32 := by simp only [hrow]; rw [List.getElem_append_right (Nat.le_refl _)]; simp
    rw [h3]; rfl
  have htk : (⟨r.toArray⟩ : ByteArray).extract 0 sw.length = ⟨sw.toArray⟩ := by rw [ba_extract]; congr 2; rw [hrow]; simp
  have hdr : (⟨r.toArray⟩ : ByteArray).extract (sw.length + 1) r.length = ⟨su.toArray⟩ := by
    rw [ba_extract]
    congr 2
    rw [hrow, List.drop_append]
    simp
    rw [List.drop_eq_nil_of_le (by omega), List.nil_append, show sw.length + (su.length + 1) - (sw.length + 1) = su.length by omega, List.take_length]
  have HB := Lib.hid hbefore
  have HAT := Lib.hid hat
  have HTK := Lib.hid htk
  have HDR := Lib.hid hdr
  have HR := Lib.hid hrow
  have e0 : IntKind.i64.wrap (op : Int) = (op : Int) := IntWalk.i64_in _ (by omega)
  have e1 : decide ((op : Int) ≥ 26) = false := by simp; omega
  have e2 : (op : Int) < 26 := by omega
  clear hrow hno hbefore hat htk hdr
  go_enter Tryd.func89, Tryd.ntmps89
  go_wp2_with fail
  refine (Table_calls _).mono ?_
  rintro e w1 ⟨rfl, hk, hb⟩
  have hc := hcell w1 hk
  clear hk hcell
  go_wp2_with fail
  go_loop [6] (fun i => ∃ k : Nat, k ≤ sw.length ∧ i = .int .i64 k) (fun i => r.length - (intOf i).toNat)
  case atStart => exact ⟨0, Nat.zero_le _, rfl⟩
  case round =>
    obtain ⟨k, hk, rfl⟩ := hrel
    have hlt : k < r.length := by omega
    have ej : (k : Int) < (r.length : Int) := by omega
    have hlb : k < (⟨r.toArray⟩ : ByteArray).size := by simpa [ByteArray.size] using hlt
    by_cases hks : k = sw.length
    · have ex : (((((⟨r.toArray⟩ : ByteArray)[k]'hlb).toNat : Nat) : Int) == 32) = true := by
        rw [beq_iff_eq]
        show ((r[k].toNat : Int)) = 32
        subst hks
        rw [HAT.out]
        rfl
      have hle : (k : Int) ≤ (r.length : Int) := by omega
      have hle1 : (k : Int) + 1 ≤ (r.length : Int) := by omega
      have hwk := IntWalk.i64_in ((k : Int) + 1) (by omega)
      subst hks
      go_wp2_with fail
      go_quiet (fail)
      go_wp2
      go_ret2
      exact ⟨by rw [← HTK.out, ← HDR.out]; rfl, below_drewN hb _⟩
    · have ex : (((((⟨r.toArray⟩ : ByteArray)[k]'hlb).toNat : Nat) : Int) == 32) = false := by
        rw [beq_eq_false_iff_ne]
        show ((r[k].toNat : Int)) ≠ 32
        have := HB.out k (by omega) hlt
        omega
      go_wp2
      go_round
      case rel => exact ⟨k + 1, by omega, by go_num⟩
      case measure => simp [intOf]; omega
end Go.Proofs.YtfopdoeiahlhpaaDoor
