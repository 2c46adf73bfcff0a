/- A region that draws its order, with operations (K) that come behind all others: what is asked of the world is asked up to these alone, so that a cell that they write may be read ahead of them in one step. Conditions: those said. -/
import Derived.Test.YtgpedkdebifooaaDoorBase
import Derived.OrdersHeld
import Derived.Deep.RegionHeld
namespace Go.Proofs.YtgpedkdebifooaaDoor
open Go.RowKit

section
variable {P : Program} {ops : Array Oper} {Q : Exit → Act → World → Prop} {md : Region.Mode} {S : World → Prop} {K : Nat → Bool}

/-- Whatever comes up, all the way; S behind each that is none of K. -/
def wpAnyE (P : Program) (md : Region.Mode) (ops : Array Oper) (Q : Exit → Act → World → Prop) (S : World → Prop) (K : Nat → Bool) : Nat → Array Bool → Act → World → Prop
  | 0, done, a, w => Region.ready md ops done = [] ∧ Q .normal a w
  | n + 1, done, a, w =>
    (Region.ready md ops done = [] → Q .normal a w) ∧
    ∀ j ∈ Region.ready md ops done, wpOp P ops Q j (fun a' w' => (K j = false → S w') ∧ wpAnyE P md ops Q S K n (done.setIfInBounds j true) a' w') a w

theorem wpAny_of_E : ∀ (n : Nat) (done : Array Bool) (a : Act) (w : World), wpAnyE P md ops Q S K n done a w → wpAny P md ops Q n done a w
  | 0, _, _, _, h => h
  | n + 1, _, _, _, h => ⟨h.1, fun j hj => wpOp_mono (fun a' w' h' => wpAny_of_E n _ a' w' h'.2) (h.2 j hj)⟩

/-- Does j wait for i, be it by way of others? -/
def backTo (md : Region.Mode) (ops : Array Oper) (i : Nat) : Nat → Nat → Bool
  | 0, _ => false
  | n + 1, j => match ops[j]? with
    | some o => o.after.any fun e => Region.binds md e && (e.on == i || backTo md ops i n e.on)
    | none => false
/-- Do all of K wait for i? -/
def waitK (md : Region.Mode) (ops : Array Oper) (K : Nat → Bool) (i : Nat) : Bool := (List.range ops.size).all fun j => !K j || backTo md ops i 20 j
/-- What is done has what it waits for behind it. -/
def closedB (md : Region.Mode) (ops : Array Oper) (done : Array Bool) : Bool :=
  (List.range ops.size).all fun j => !done.getD j false || match ops[j]? with | some o => o.after.all fun e => !Region.binds md e || done.getD e.on false | none => true
def Closed (md : Region.Mode) (ops : Array Oper) (done : Array Bool) : Prop := ∀ j o, done.getD j false = true → ops[j]? = some o → ∀ e ∈ o.after, Region.binds md e = true → done.getD e.on false = true
theorem closed_of {done : Array Bool} (h : closedB md ops done = true) : Closed md ops done := fun j o hd ho e he hb => by
  simp only [closedB, List.all_eq_true, List.mem_range] at h
  have h1 := h j (Array.getElem?_eq_some_iff.1 ho).1
  simp only [hd, ho, Bool.not_true, Bool.false_or] at h1
  have h2 := Array.all_eq_true_iff_forall_mem.1 h1 e he
  simpa [hb] using h2
theorem Closed.set {done : Array Bool} (h : Closed md ops done) {j : Nat} (hj : j ∈ Region.ready md ops done) : Closed md ops (done.setIfInBounds j true) := fun k o hd ho e he hb => by
  by_cases hkj : j = k
  · subst hkj
    obtain ⟨_, o', ho', hall⟩ := mem_ready.1 hj
    rw [ho] at ho'
    injection ho' with ho'
    subst ho'
    exact getD_set_true (hall e he hb)
  · rw [getD_set_ne false hkj] at hd
    exact getD_set_true (h k o hd ho e he hb)
theorem back_done {done : Array Bool} (hc : Closed md ops done) {i : Nat} : ∀ (n j : Nat) (o : Oper), ops[j]? = some o → (∀ e ∈ o.after, Region.binds md e = true → done.getD e.on false = true) → backTo md ops i n j = true → done.getD i false = true
  | 0, _, _, _, _, h => by cases h
  | n + 1, j, o, ho, hall, h => by
    simp only [backTo, ho] at h
    obtain ⟨e, he, hb⟩ := Array.any_eq_true'.1 h
    simp only [Bool.and_eq_true, Bool.or_eq_true, beq_iff_eq] at hb
    obtain ⟨hb, h1 | h1⟩ := hb
    · rw [← h1]
      exact hall e he hb
    · cases n with
      | zero => cases h1
      | succ n =>
        cases ho2 : ops[e.on]? with
        | none => simp [backTo, ho2] at h1
        | some o2 => exact back_done hc (n + 1) e.on o2 ho2 (hc e.on o2 (hall e he hb) ho2) h1
theorem waitK_spec {i : Nat} (h : waitK md ops K i = true) : ∀ j, j < ops.size → K j = true → backTo md ops i 20 j = true := fun j hj hk => by
  simp only [waitK, List.all_eq_true, List.mem_range] at h
  simpa [hk] using h j hj

theorem wpAnyE_first {i : Nat} {oi : Oper} {v : Value} (hi : ops[i]? = some oi) (hsel : ∀ (j : Nat) (o : Oper) cs b, ops[j]? = some o → o.op ≠ .select cs b)
    (hQ : ∀ c a w, Q (.panic c) (a.put oi.dst v) w → Q (.panic c) a w) (hw : ∀ j, j < ops.size → K j = true → backTo md ops i 20 j = true) (n : Nat) :
    ∀ (done : Array Bool) (a : Act) (w : World), Closed md ops done →
      (∀ j oj, ops[j]? = some oj → j ≠ i → done.getD j true = false → (∀ e ∈ oj.after, Region.binds md e = true → e.on ≠ i) → oi.apart ops oj = true) →
      i ∈ Region.ready md ops done → YieldsIf P ops S oi v a → S w →
      wpAnyE P md ops Q S K n (done.setIfInBounds i true) (a.put oi.dst v) w → wpAnyE P md ops Q S K (n + 1) done a w := by
  induction n with
  | zero =>
    intro done a w _ _ hr hy hS H
    refine ⟨fun h => absurd hr (by rw [h]; simp), fun j hj => ?_⟩
    by_cases hji : j = i
    · subst hji
      exact hy.wpOp hi hS ⟨fun _ => hS, H⟩
    · have := ready_mono hj hji
      rw [H.1] at this
      cases this
  | succ n ih =>
    intro done a w hcl hfree hr hy hS H
    refine ⟨fun h => absurd hr (by rw [h]; simp), fun j hj => ?_⟩
    by_cases hji : j = i
    · subst hji
      exact hy.wpOp hi hS ⟨fun _ => hS, H⟩
    · obtain ⟨hun, oj, hoj, hall⟩ := mem_ready.1 hj
      have hnot : ∀ e ∈ oj.after, Region.binds md e = true → e.on ≠ i := fun e he hb heq => by
        have h1 := hall e he hb
        have h0 := (mem_ready.1 hr).1
        rw [heq] at h1
        rcases Nat.lt_or_ge i done.size with h' | h'
        · simp [h'] at h0 h1
          rw [h0] at h1
          cases h1
        · simp [Array.getElem?_eq_none h'] at h1
      have hkj : K j = false := by
        cases hk : K j with
        | false => rfl
        | true =>
          have h1 := back_done hcl 20 j oj hoj hall (hw j (Array.getElem?_eq_some_iff.1 hoj).1 hk)
          have h0 := (mem_ready.1 hr).1
          rcases Nat.lt_or_ge i done.size with h' | h'
          · simp [h'] at h0 h1
            rw [h0] at h1
            cases h1
          · simp [Array.getElem?_eq_none h'] at h1
      have h2 := wpOp_putIf hoj (hfree j oj hoj hji hun hnot) (fun cs b => hsel i oi cs b hi) (fun cs b => hsel j oj cs b hoj) hQ hy (H.2 j (ready_mono hj hji))
      refine wpOp_mono (fun a' w' h3 => ?_) h2
      have hS' := h3.2.1 hkj
      refine ⟨fun _ => hS', ih _ a' w' (hcl.set hj) (fun k ok hk hki' hun' hno => ?_) (ready_mono hr (Ne.symm hji)) h3.1 hS' ?_⟩
      · refine hfree k ok hk hki' ?_ hno
        by_cases hjk : j = k
        · subst hjk; exact hun
        · rw [getD_set_ne true hjk] at hun'; exact hun'
      · rw [Array.setIfInBounds_comm _ _ hji]
        exact h3.2.2

theorem wpAnyE_take {i : Nat} {oi : Oper} {v : Value} {n : Nat} {done : Array Bool} {a : Act} {w : World} (hi : ops[i]? = some oi)
    (hs : Region.noSelect ops = true) (hf : Region.free md ops done i = true) (hr : (Region.ready md ops done).contains i = true) (hc : closedB md ops done = true) (hk : waitK md ops K i = true)
    (hQ : ∀ c a w, Q (.panic c) (a.put oi.dst v) w → Q (.panic c) a w) (hy : YieldsIf P ops S oi v a) (hS : S w)
    (h : wpAnyE P md ops Q S K n (done.setIfInBounds i true) (a.put oi.dst v) w) : wpAnyE P md ops Q S K (n + 1) done a w :=
  wpAnyE_first hi (Region.noSelect_spec hs) hQ (waitK_spec hk) n done a w (closed_of hc) (Region.free_spec hi hf) (by simpa using hr) hy hS h

/-- What comes up of those that may. -/
def EachE (P : Program) (md : Region.Mode) (ops : Array Oper) (Q : Exit → Act → World → Prop) (S : World → Prop) (K : Nat → Bool) (n : Nat) (done : Array Bool) (a : Act) (w : World) (rs : List Nat) : Prop :=
  ∀ j ∈ rs, wpOp P ops Q j (fun a' w' => (K j = false → S w') ∧ wpAnyE P md ops Q S K n (done.setIfInBounds j true) a' w') a w
theorem EachE.nil {n : Nat} {done : Array Bool} {a : Act} {w : World} : EachE P md ops Q S K n done a w [] := fun _ h => by cases h
theorem EachE.cons {n : Nat} {done : Array Bool} {a : Act} {w : World} {j : Nat} {o : Oper} {rs : List Nat} (hk : K j = false) (ho : ops[j]? = some o)
    (h : ∀ K' : Act → World → Prop, Shut (∀ a w, S w → (S w → wpAnyE P md ops Q S K n (done.setIfInBounds j true) a w) → K' a w) → if Region.wanted o (yielded ops a.tmps) = true then Oper.wp P o a w K' Q else K' (a.put o.dst undef) w)
    (hs : EachE P md ops Q S K n done a w rs) : EachE P md ops Q S K n done a w (j :: rs) := fun i hi => by
  rcases List.mem_cons.1 hi with rfl | hi
  · exact wpOp_step ho (fun K' hK => h K' (fun a w hS hW => hK a w ⟨fun _ => hS, hW hS⟩))
  · exact hs i hi
/-- One of K: nothing is asked of the world behind it. -/
theorem EachE.last {n : Nat} {done : Array Bool} {a : Act} {w : World} {j : Nat} {o : Oper} (hk : K j = true) (ho : ops[j]? = some o)
    (h : ∀ K' : Act → World → Prop, Shut (∀ a w, wpAnyE P md ops Q S K n (done.setIfInBounds j true) a w → K' a w) → if Region.wanted o (yielded ops a.tmps) = true then Oper.wp P o a w K' Q else K' (a.put o.dst undef) w) : EachE P md ops Q S K n done a w [j] := fun i hi => by
  rw [List.mem_singleton] at hi
  subst hi
  exact wpOp_step ho (fun K' hK => h K' (fun a w hW => hK a w ⟨fun e => absurd (hk.symm.trans e) (by decide), hW⟩))
theorem wpAnyE_ready {rs : List Nat} {n : Nat} {done : Array Bool} {a : Act} {w : World} (hr : Region.ready md ops done = rs) (hne : rs ≠ [])
    (h : EachE P md ops Q S K n done a w rs) : wpAnyE P md ops Q S K (n + 1) done a w :=
  ⟨fun h0 => absurd (hr ▸ h0) hne, hr ▸ h⟩
theorem wpAnyE_done {done : Array Bool} {a : Act} {w : World} (hr : Region.ready md ops done = []) (h : Q .normal a w) :
    ∀ n, wpAnyE P md ops Q S K n done a w
  | 0 => ⟨hr, h⟩
  | _ + 1 => ⟨fun _ => h, by rw [hr]; simp⟩
theorem wp_pure {op : Oper} {a : Act} {w : World} {KK : Act → World → Prop} (v : Value) (h : ∀ w, (execOp a.eval op).run P w = .ok (.value v) w) (hk : KK (a.put op.dst v) w) : op.wp P a w KK Q := by
  unfold Oper.wp
  rw [h w]
  exact hk
/-- The beginning. -/
theorem wp_region_E {id : Nat} {a : Act} {w : World} (K : Nat → Bool) (S : World → Prop) (hm : P.follows .mixedOrders = true) (hS : S w.drew)
    (h : S w.drew → wpAnyE P .any ops Q S K ops.size (Array.replicate ops.size false) a w.drew) : (Code.region id ops true).wp P Q a w :=
  wp_region_any hm (wpAny_of_E _ _ _ _ (h hS))
end
end Go.Proofs.YtgpedkdebifooaaDoor
