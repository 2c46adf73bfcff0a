/- The reference's Put: as the plain basket says. Conditions: what it holds is no more than a message may be, each piece is full. -/
import Derived.Test.YtgkflgnlodhelaaClipRK
import Derived.Test.YtgkflgnlodhelaaClipRL
import Derived.Test.YtgkflgnlodhelaaClipRF
import Derived.Test.YtgkflgnlodhelaaClipRG
import Derived.Test.YtgkflgnlodhelaaClipRM
namespace Go.Proofs.Ytgkflgnlodhelaa
open Go.RowKit

theorem RPut_calls (B h : Nat) (v : Value) (xs : List PV) (k : Bk) (x : Pc) (A : Option Addr) (c b : Nat) (w : World) (q : RFull w B h v xs k) (hk : k.held.length ≤ 1024) (hs : Bs w b A x.data) (hx : x.data.length ≤ maxLen) (hB : B ≤ w.heap.size) (hbh : b ≠ h) (hbv : v.ownBlock ≠ some b) (hbl : b < w.heap.size) :
    Calls Try.prog 21 #[.pointer (some ⟨h, 0, none⟩), .agg #[.bool x.first, .bool x.last, .slice A x.data.length c]] w fun e w' => ∃ v2 xs2 vo, e = .returned (.tuple #[vo, .bool (putB k x).2.2.1, .int .i64 (putB k x).2.2.2]) ∧ RFull w' B h v2 xs2 (putB k x).1 ∧ Row w' w.heap.size vo (putB k x).2.1 ∧ Mod (fun i => i = h ∨ v.ownBlock = some i) w w' ∧ (∀ z ∈ xs2, z ∈ xs ∨ z.b = b) := by
  cases h1 : k.leaving with
  | true =>
    cases h2 : x.first with
    | false => exact h2 ▸ RPut_L B h v xs k x A c b w q hk hs hx hB hbh hbv hbl h1 h2
    | true => exact h2 ▸ RPut_M B h v xs k x A c b w q hk hs hx hB hbh hbv hbl h1 h2
  | false =>
    cases h2 : x.first with
    | false => exact h2 ▸ RPut_F B h v xs k x A c b w q hk hs hx hB hbh hbv hbl h1 h2
    | true => exact h2 ▸ RPut_G B h v xs k x A c b w q hk hs hx hB hbh hbv hbl h1 h2
end Go.Proofs.Ytgkflgnlodhelaa
