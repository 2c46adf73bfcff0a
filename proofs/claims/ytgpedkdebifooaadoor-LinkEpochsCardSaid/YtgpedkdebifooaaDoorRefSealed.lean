/- The reference's Seal and Open: by the plain sum. Conditions: the lengths fit. -/
import Derived.Test.YtgpedkdebifooaaDoorOpenT
import Derived.Test.YtgpedkdebifooaaDoorRefSame
import Derived.Test.YtgpedkdebifooaaDoorBurst
namespace Go.Proofs.YtgpedkdebifooaaDoor
open Go.RowKit

set_option maxHeartbeats 1000000 in
set_option maxRecDepth 20000 in
theorem RefSeal_calls (A : Option Addr) (l : List UInt8) (n c b : Nat) (w : World) (hs : Bs w b A l) (hn : l.length = n) (h2 : n ≤ 140737488355000) :
    Calls Tryd.prog 50 #[.slice A n c] w fun e w' => ∃ v, e = .returned v ∧ Row w' w.heap.size v (sealedL l) ∧ Below w.heap.size w w' := by
  have hsum := sumN_lt l
  have HN := Lib.hid hn
  clear hn
  go_enter Tryd.func50, Tryd.ntmps50
  go_wp2_with fail
  refine (RefSum_calls A l n c b _ hs HN.out (by simp only [maxLen]; omega)).mono ?_
  rintro e w1 ⟨rfl, rfl⟩
  go_wp2_with fail
  refine (Low_calls (sumN l) 4 _ (by omega) (by omega) (by omega)).mono ?_
  rintro e w2 ⟨v2, rfl, hrow2, hb2⟩
  obtain ⟨A2, c2, b2, rfl, h3, h4, h5, h6, hs2, h7⟩ := hrow2.sl
  have hs3 := Sl.ext hs hb2
  clear hrow2 hs h3 h4 h5 h6 h7
  go_wp2_with fail
  have hx : Below w2.heap.size w2 (w2.alloc (.cells #[.slice A n c, .slice A2 (low (sumN l) (4 : Int).toNat).length c2] 31)) := (Below.refl _ _).alloc (Nat.le_refl _) _
  refine (Join_calls _ [.slice A n c, .slice A2 (low (sumN l) (4 : Int).toNat).length c2] [l, low (sumN l) 4] 2 2 w2.heap.size _ (Sl.cells_new w2 _ _) ((Bss.cons hs3 HN.out (Bss.cons hs2 rfl (Bss.nil_ _))).ext hx) rfl (by simp [maxLen]) (by have := HN.out; simp; omega)).mono ?_
  rintro e w3 ⟨v3, rfl, hrow3, hb3⟩
  go_wp2_with fail
  go_ret
  exact ⟨v3, rfl, (hrow3.low (by have := hb2.size; simp; omega)).cast (by simp [sealedL]), (hb2.trans (hx.mono hb2.size)).trans (hb3.mono (by have := hb2.size; simp; omega))⟩

set_option maxHeartbeats 1000000 in
set_option maxRecDepth 20000 in
theorem RefOpen_short (A : Option Addr) (n c : Nat) (w : World) (h4 : n < 4) :
    Calls Tryd.prog 79 #[.slice A n c] w fun e w' => e = .returned (.bool false) ∧ ∃ k, w' = w.drewN k := by
  have hd : decide (4 ≤ (n : Int)) = false := by simp only [decide_eq_false_iff_not]; omega
  have hw : IntKind.i64.wrap ((n : Int) - 4) = (n : Int) - 4 := IntWalk.i64_in _ (by omega)
  go_enter Tryd.func79, Tryd.ntmps79
  go_wp2_with fail
  go_quiet (fail)
  go_wp2_with fail
  go_ret
  exact ⟨rfl, _, rfl⟩

theorem opens_val {l : List UInt8} {k : Nat} (h : l.length = k + 4) : (((valN (l.drop k) : Nat) : Int) == ((sumN (l.take k) : Nat) : Int)) = opensB l k := by
  unfold opensB
  have hv := valN_low (sumN (l.take k)) 4
  have hl := sumN_lt (l.take k)
  rw [Nat.mod_eq_of_lt (by omega)] at hv
  rw [Bool.eq_iff_iff]
  simp only [beq_iff_eq, decide_eq_true_eq]
  constructor
  · intro e
    exact valN_inj (by simp; omega) (by rw [hv]; omega)
  · intro e
    rw [e, hv]
set_option maxHeartbeats 1000000 in
set_option maxRecDepth 20000 in
theorem RefOpen_long (A : Option Addr) (l : List UInt8) (k c b : Nat) (w : World) (hs : Bs w b A l) (hn : l.length = k + 4) (hc : k + 4 ≤ c) (h2 : k ≤ 140737488355000) :
    Calls Tryd.prog 79 #[.slice A (k + 4) c] w fun e w' => e = .returned (.bool (opensB l k)) ∧ ∃ m, w' = w.drewN m := by
  have hq := opens_val hn
  have hd : decide (4 ≤ ((k + 4 : Nat) : Int)) = true := by simp only [decide_eq_true_eq]; omega
  have hd2 : decide ((0 : Int) ≤ (k : Int)) = true := by simp only [decide_eq_true_eq]; omega
  have hkc : (if c = k then A else A.map (·.add k)) = A.map (·.add k) := by rw [if_neg (by omega)]
  have hsd := Sl.drop hs (k := k) (cap := c) (by simp; omega)
  rw [hkc, bv_drop] at hsd
  have hst := Sl.take hs k
  rw [bv_take] at hst
  have hV : ∀ m, Calls Tryd.prog 80 #[.slice (A.map (·.add k)) 4 (c - k)] (w.drewN m) fun e w' => e = .returned (.int .u64 (valN (l.drop k) : Nat)) ∧ w' = w.drewN m := fun m =>
    (Value_calls _ (l.drop k) 4 (c - k) b (w.drewN m) (hsd.drewN m) (by simp; omega) (by omega)).mono fun _ _ ⟨a, b⟩ => ⟨a, b.symm⟩
  have hS : ∀ m, Calls Tryd.prog 78 #[.slice A k c] (w.drewN m) fun e w' => e = .returned (.int .u32 (sumN (l.take k) : Nat)) ∧ w' = w.drewN m := fun m =>
    (RefSum_calls _ (l.take k) k c b (w.drewN m) (hst.drewN m) (by simp; omega) (by simp only [maxLen]; omega)).mono fun _ _ ⟨a, b⟩ => ⟨a, b.symm⟩
  have hsl := sumN_lt (l.take k)
  obtain ⟨V, hV1⟩ : ∃ V, V = valN (l.drop k) := ⟨_, rfl⟩
  obtain ⟨S, hS1⟩ : ∃ S, S = sumN (l.take k) := ⟨_, rfl⟩
  obtain ⟨o, ho⟩ : ∃ o, o = opensB l k := ⟨_, rfl⟩
  rw [← hV1] at hV
  rw [← hS1] at hS hsl
  rw [← hV1, ← hS1, ← ho] at hq
  rw [← ho]
  have hcv : IntKind.u64.wrap (S : Int) = (S : Int) := IntWalk.u64_in _ (by omega)
  have e2 : (k : Int) ≤ (k : Int) + 4 := by omega
  clear hV1 hS1 ho hn hkc hsd hst hs
  go_enter Tryd.func79, Tryd.ntmps79
  go_wp2_with fail
  go_quiet ((first | (go_at_call 80; exact Calls.quiet_of_same (hV _)) | (go_at_call 78; exact Calls.quiet_of_same (hS _))))
  go_wp2_with fail
  go_ret
  exact ⟨rfl, _, rfl⟩
end Go.Proofs.YtgpedkdebifooaaDoor
