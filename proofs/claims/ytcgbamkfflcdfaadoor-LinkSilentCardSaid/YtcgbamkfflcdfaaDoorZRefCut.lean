/- The reference's Cut: the first bytes of a list, in new memory; nothing that was there turns. Condition: the result's length fits. -/
import Derived.Test.YtcgbamkfflcdfaaDoorZLkBasf
namespace Go.Proofs.YtcgbamkfflcdfaaDoor
open Go.RowKit

set_option maxHeartbeats 400000 in
theorem Cut_calls (A : Option Addr) (l : List UInt8) (n c b : Nat) (m : Int) (w : World) (hs : Bs w b A l) (hn : l.length = n) (h1 : n ≤ maxLen) (h2 : (l.take m.toNat).length ≤ 140737488355328) :
    Calls Tryd.prog 22 #[.slice A n c, .int .i64 m] w fun e w' => ∃ v, e = .returned v ∧ Row w' w.heap.size v (l.take m.toNat) ∧ Below w.heap.size w w' := by
  unfold maxLen at h1
  have HN := Lib.hid hn
  have HL := Lib.hid h2
  clear hn h2
  go_enter Tryd.func22, Tryd.ntmps22
  go_wp2
  go_loopw [5, 10] (fun v i wr => ∃ k : Nat, k ≤ n ∧ i = .int .i64 k ∧ Row wr w.heap.size v (l.take (min k m.toNat)) ∧ Below w.heap.size w wr) (fun _ i _ => n - (intOf i).toNat)
  case atStart => exact ⟨0, Nat.zero_le _, rfl, by simpa using Row.nil_ _ _, Below.refl _ _⟩
  case round =>
    obtain ⟨k, hk, rfl, hown, hb⟩ := hrel
    by_cases hlt : k < n
    · have hkl : k < l.length := by rw [HN.out]; exact hlt
      obtain ⟨oa, rfl, hca⟩ := Bs.at_ (Sl.ext hs hb) hkl
      have ca := hca k hkl
      obtain ⟨q, hq⟩ : ∃ q, q = l[k] := ⟨_, rfl⟩
      rw [← hq] at ca
      have HQ := Lib.hid hq
      have hbs : w.heap.size ≤ wr.heap.size := hb.size
      clear hca hq
      by_cases hm : (k : Int) < m
      · have e1 : l.take (min k m.toNat) ++ [q] = l.take (min (k + 1) m.toNat) := by
          rw [HQ.out, show min k m.toNat = k by omega, show min (k + 1) m.toNat = k + 1 by omega, List.take_succ_eq_append_getElem hkl]
        have hle : (l.take (min k m.toNat)).length + 1 ≤ 140737488355328 := by
          have := HL.out
          simp only [List.length_take] at this ⊢
          omega
        have E1 := Lib.hid e1
        clear e1
        go_wp2_with (at_builtin; go_loud (refine wpList_app1 wr rfl (.tmp 18) (.tmp 20) rfl w.heap.size _ _ rfl hown q rfl rfl hle hbs ?_); intro v' w1 hown' hmod _)
        go_roundw
        case rel => exact ⟨k + 1, by omega, by go_num, hown'.cast E1.out, hb.trans (hmod.below hbs (fun i hi hv => by have := (hown.lt i hv).1; omega))⟩
        case measure => simp [intOf]; omega
      · have e1 : l.take (min k m.toNat) = l.take (min (k + 1) m.toNat) := by
          rw [show min k m.toNat = min (k + 1) m.toNat by omega]
        have E1 := Lib.hid e1
        clear e1
        go_wp2
        go_roundw
        case rel => exact ⟨k + 1, by omega, by go_num, hown.cast E1.out, hb⟩
        case measure => simp [intOf]; omega
    · go_wp2
      go_ret
      refine ⟨_, rfl, hown.cast ?_, hb⟩
      have := HN.out
      rw [show min k m.toNat = min l.length m.toNat by omega, List.take_eq_take_iff]
      omega
end Go.Proofs.YtcgbamkfflcdfaaDoor
