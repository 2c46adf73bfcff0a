/- (Table).Sum: of any parts, the sum of them joined. Condition: the table is Make's. -/
import Derived.Test.YtgpedkdebifooaaDoorMake
namespace Go.Proofs.YtgpedkdebifooaaDoor
open Go.RowKit

theorem crc_take' {s : Nat} {l : List UInt8} {k : Nat} (h : k < l.length) : crc s (l.take (k + 1)) = step8 (crc s (l.take k)) l[k].toNat := crc_take h
set_option maxHeartbeats 1000000 in
set_option maxRecDepth 20000 in
theorem TableSum_calls (A : Option Addr) (vs : List Value) (ls : List (List UInt8)) (n c b : Nat) (w : World) (hs : Sl w b A vs) (hv : Bss w vs ls) (hn : ls.length = n) (h1 : n ≤ maxLen) (h2 : ls.flatten.length ≤ 140737488355328) :
    Calls Tryd.prog 90 #[.agg (tabTo 256), .slice A n c] w fun e w' => e = .returned (.int .u32 (sumN ls.flatten : Nat)) ∧ Below w.heap.size w w' := by
  unfold maxLen at h1
  have HN := Lib.hid hn
  have HL := Lib.hid h2
  clear hn h2
  go_enter Tryd.func90, Tryd.ntmps90
  go_wp2_with fail
  have hb1 : Below w.heap.size w (w.alloc (.cells (tabTo 256) 114)) := (Below.refl _ _).alloc (Nat.le_refl _) _
  have hg := heap_alloc_new w (.cells (tabTo 256) 114)
  obtain ⟨W, hW⟩ : ∃ W, W = w.alloc (.cells (tabTo 256) 114) := ⟨_, rfl⟩
  rw [← hW] at hb1 hg ⊢
  have hs1 := Sl.ext hs hb1
  have hv1 := hv.ext hb1
  clear hW hs hv
  go_loop [5, 12] (fun v i => ∃ k m : Nat, k ≤ n ∧ i = .int .i64 k ∧ v = .int .u32 m ∧ Hid (m < 2 ^ 32) ∧ Hid (m = crc 4294967295 (ls.take k).flatten)) (fun _ i => n - (intOf i).toNat)
  case atStart => exact ⟨0, 4294967295, by omega, rfl, rfl, Lib.hid (by omega), Lib.hid rfl⟩
  case round =>
    obtain ⟨k, m0, hk, rfl, rfl, hm0, hc0⟩ := hrel
    by_cases hlt : k < n
    · have hkl : k < ls.length := by rw [HN.out]; exact hlt
      obtain ⟨A1, c1, b1, hv2, hs2⟩ := hv1.2 k ls[k] (List.getElem?_eq_getElem hkl)
      obtain ⟨oa, rfl, hca⟩ := hs1 (by rintro rfl; simp at hv2)
      have ca := hca k _ hv2
      obtain ⟨q, hq⟩ : ∃ q, q = ls[k] := ⟨_, rfl⟩
      rw [← hq] at ca hs2
      have e1 := Lib.hid (flatten_take_succ ls k hkl)
      have hql : q.length ≤ 140737488355328 := by
        have h3 := flatten_take_le ls (k + 1)
        have h4 := HL.out
        rw [e1.out, ← hq] at h3
        simp only [List.length_append] at h3
        omega
      have HQ := Lib.hid hq
      clear hca hv2 hq
      go_wp2_with fail
      go_loop [5, 18] (fun v i => ∃ j m : Nat, j ≤ q.length ∧ i = .int .i64 j ∧ v = .int .u32 m ∧ Hid (m < 2 ^ 32) ∧ Hid (m = crc m0 (q.take j))) (fun _ i => q.length - (intOf i).toNat)
      case atStart => exact ⟨0, m0, by omega, rfl, rfl, hm0, Lib.hid rfl⟩
      case round =>
        obtain ⟨j, m, hj, rfl, rfl, hm, hc⟩ := hrel
        by_cases hlt2 : j < q.length
        · obtain ⟨o2, rfl, hcb⟩ := hs2.at_ (k := j) hlt2
          have cb := hcb j hlt2
          have HT := Lib.hid (crc_take' (s := m0) hlt2)
          obtain ⟨x, hx⟩ : ∃ x : Nat, x = q[j].toNat := ⟨_, rfl⟩
          have x8 : x < 256 := by have := q[j].toNat_lt; omega
          rw [← hx] at cb HT
          have hmm := hm.out
          have hix : bits .xor .u8 ((m : Int) % 256) (x : Int) = ((m % 256 ^^^ x : Nat) : Int) := by
            rw [show ((m : Int) % 256) = ((m % 256 : Nat) : Int) by omega, u8_xor_nat _ _ (by omega) x8]
          have hil : m % 256 ^^^ x < 256 := Nat.xor_lt_two_pow (n := 8) (by omega) (by omega)
          have hst := step8_table m x
          have hsl := step8_lt hmm x8
          obtain ⟨t, ht⟩ : ∃ t, t = m % 256 ^^^ x := ⟨_, rfl⟩
          rw [← ht] at hix hil hst
          have htb := cell_of_row W w.heap.size t _ _ _ hg
          rw [tabTo_get hil, if_pos hil] at htb
          obtain ⟨z, hz⟩ : ∃ z, z = step8 0 t := ⟨_, rfl⟩
          have hzl : z < 2 ^ 32 := by rw [hz]; exact step8_lt (by omega) hil
          rw [← hz] at htb hst
          have hxo : bits .xor .u32 ((m : Int) / 256) (z : Int) = ((step8 m x : Nat) : Int) := by
            rw [hst, show ((m : Int) / 256) = ((m / 256 : Nat) : Int) by omega, u32_xor_nat _ _ (by omega) (by omega)]
          clear hcb hx hst ht hz hmm
          go_wp2_with fail
          go_round
          case rel => exact ⟨j + 1, step8 m x, by omega, by go_num, rfl, Lib.hid hsl, Lib.hid (by rw [HT.out, hc.out])⟩
          case measure => simp [intOf]; omega
        · have hjl : j = q.length := by omega
          subst hjl
          have hall : m = crc 4294967295 (ls.take (k + 1)).flatten := by rw [hc.out, List.take_length, e1.out, crc_append, ← hc0.out, HQ.out]
          go_wp2_with fail
          go_round
          case rel => exact ⟨k + 1, m, by omega, by go_num, rfl, hm, Lib.hid hall⟩
          case measure => simp [intOf]; omega
    · have hall : m0 = crc 4294967295 ls.flatten := by rw [hc0.out, List.take_of_length_le (by have := HN.out; omega)]
      have hmm := hm0.out
      rw [hall] at hmm
      have hno := Lib.hid (show bits .xor .u32 IntKind.u32.max ((crc 4294967295 ls.flatten : Nat) : Int) = ((sumN ls.flatten : Nat) : Int) by
        rw [show IntKind.u32.max = ((4294967295 : Nat) : Int) from rfl, u32_xor_nat _ _ (by omega) (by omega), sumN, flip_xor hmm])
      go_wp2_with fail
      go_ret
      exact ⟨by rw [← hno.out]; rfl, hb1⟩
end Go.Proofs.YtgpedkdebifooaaDoor
