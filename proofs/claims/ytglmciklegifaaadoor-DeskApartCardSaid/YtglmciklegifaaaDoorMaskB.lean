/- alone, Has, Less, Within, With, Of: the plain numbers. Conditions: the numbers fit 32 bits, the lists are short. -/
import Derived.Test.YtglmciklegifaaaDoorRows
import Derived.Test.YtglmciklegifaaaDoorBase
import Derived.Test.YtglmciklegifaaaDoorMaskN
import Derived.Test.YtglmciklegifaaaDoorI64
import Derived.BigGuardPart
namespace Go.Proofs.YtglmciklegifaaaDoor
open Go.RowKit

set_option maxHeartbeats 1000000 in
set_option maxRecDepth 20000 in
theorem MLess_calls (m n : Nat) (w : World) (hm : m < 4294967296) (hn : n < 4294967296) :
    Calls Tryd.prog 52 #[.int .u32 m, .int .u32 n] w fun e w' => e = .returned (.int .u32 (lessN m n : Nat)) ∧ w' = w := by
  have h := u32_andNot_nat m n hm hn
  go_enter Tryd.func52, Tryd.ntmps52
  go_wp2_with fail
  go_ret
  exact ⟨rfl, rfl⟩
set_option maxHeartbeats 1000000 in
set_option maxRecDepth 20000 in
theorem MWithin_calls (m n : Nat) (w : World) (hm : m < 4294967296) (hn : n < 4294967296) :
    Calls Tryd.prog 36 #[.int .u32 m, .int .u32 n] w fun e w' => e = .returned (.bool (decide (lessN m n = 0))) ∧ w' = w := by
  have h := fun W => MLess_calls m n W hm hn
  obtain ⟨t, ht⟩ : ∃ t, t = lessN m n := ⟨_, rfl⟩
  rw [← ht] at h ⊢
  clear ht
  go_enter Tryd.func36, Tryd.ntmps36
  go_wp2_with fail
  refine (h _).mono ?_
  rintro e w' ⟨rfl, rfl⟩
  go_wp2_with fail
  go_ret
  refine ⟨?_, rfl⟩
  show Ending.returned (.bool ((t : Int) == 0)) = _
  congr 2
  rw [Bool.eq_iff_iff]
  simp
end Go.Proofs.YtglmciklegifaaaDoor
