/- Text: a mask in words. Conditions: the number fits 32 bits; the library's table lies as it lays it. -/
import Derived.Test.YtdmjkgafnnjkkaaDoorEachK
import Derived.Test.YtdmjkgafnnjkkaaDoorShelf
import Derived.RegionIn
namespace Go.Proofs.YtdmjkgafnnjkkaaDoor
open Go.RowKit Go.Shelf
attribute [local go_sem] Oper.semAt_some

theorem Tab.below1 {w1 w w' : World} (h : Tab w1) (hw : Tab w) (hb : Below w1.heap.size w w') : Tab w' := fun j hj => by
  exact (hb.cell (World.block_lt_of_cell? w1 _ (h j hj))).trans (hw j hj)
theorem str_info : (Tryd.prog.info? 9).map (fun i => (i.zero, i.size, i.bytes)) = some (some (.string ⟨#[]⟩), 1, 16) := by kernel_rfl
/-- Words as values. -/
def sv (l : List (List UInt8)) : List Value := l.map fun x => Value.string ⟨x.toArray⟩
theorem sv_snoc (l : List (List UInt8)) (x : List UInt8) : sv (l ++ [x]) = sv l ++ [.string ⟨x.toArray⟩] := by simp [sv]
@[simp] theorem sv_length (l : List (List UInt8)) : (sv l).length = l.length := by simp [sv]
def decs (pre : List Nat) : List (List UInt8) := pre.map fun k => Lib.decDigits (k % 32)
theorem decs_snoc (pre : List Nat) (x : Nat) : decs (pre ++ [x]) = decs pre ++ [Lib.decDigits (x % 32)] := by simp [decs]
theorem decs_obs (m : Nat) : decs (obs m) = (obs m).map Lib.decDigits := by
  unfold decs
  apply List.map_congr_left
  intro k hk
  rw [Nat.mod_eq_of_lt (obs_mem.1 hk).1]
theorem wpIn_app_str {F : Fence} {nf : Nat} (w : World) {o : Oper} {a : Act} {K : Act → World → Prop} {Q : Exit → Act → World → Prop} (s x : Operand)
    (ho : o.op = .call { callee := .builtin .append, args := #[s, x], argTypes := #[92, 92] })
    (B : Nat) (v : Value) (l : List (List UInt8)) (hs : a.eval s = v) (hown : w.ownsRow B 9 1 v l.length (sv l))
    (b : Nat) (A : Option Addr) (c : Nat) (y : List UInt8) (hx : a.eval x = .slice A 1 c) (hr : Sl w b A (sv [y]))
    (hlen : l.length ≤ 1000000) (hbase : B ≤ w.heap.size)
    (h : ∀ v' w', w'.ownsRow B 9 1 v' (l.length + 1) (sv (l ++ [y])) → w.grownBy w' v.ownBlock → K (a.put o.dst v') w') : Oper.wpIn F nf Tryd.prog o a w K Q := by
  obtain ⟨i0, hi, hz0, hz1, hz2⟩ := info_parts str_info
  obtain ⟨v', w', hrun, h2, h3, _⟩ := run_append_sl (P := Tryd.prog) w B 92 o.type 9 i0 _ 1 16 Tryd.underlying92 hi hz0 hz1 hz2 rfl (by omega) v l.length (sv l) hown b A 1 c (sv [y]) hr (by simp) (Sl.none_len hr (by simp)) (by simp [sv, Value.oneCell']) (by simp only [maxLen]; omega) (by omega) hbase
  unfold Oper.wpIn
  refine ⟨by simp [Oper.about, ho, resolve, Target.leads, Sem.run_pure], ?_⟩
  rw [Oper.semAt_plain F _ _ (by rw [ho]; intro c hc'; cases hc')]
  simp [execOp, ho, resolve, invoke, builtin, hs, hx, hrun, Result.andThen]
  exact h v' w' (by rw [sv_snoc]; exact h2) h3
theorem grown_drew {a b : World} {r : Option Nat} (h : a.drew.grownBy b r) : a.grownBy b r := ⟨h.os, h.tape, h.output, h.size, h.block⟩
theorem dec_len : ∀ k : Fin 32, (Lib.decDigits k.val).length ≤ 2 := by decide +kernel
theorem tail_len (sep : List UInt8) (r : List (List UInt8)) (h1 : sep.length = 1) (h : ∀ x ∈ r, x.length ≤ 2) : (Lib.joinTail sep r).length ≤ 3 * r.length := by
  induction r with
  | nil => simp [Lib.joinTail]
  | cons x r ih =>
    have h2 := h x (by simp)
    have h3 := ih (fun y hy => h y (by simp [hy]))
    simp only [Lib.joinTail, List.map_cons, List.flatten_cons, List.length_append, List.length_cons] at h3 ⊢
    omega
theorem join_len (l : List (List UInt8)) (h : ∀ x ∈ l, x.length ≤ 2) : (Lib.join l [44]).length ≤ 3 * l.length := by
  cases l with
  | nil => simp [Lib.join_nil]
  | cons x r =>
    have h2 := h x (by simp)
    have h3 := tail_len [44] r rfl (fun y hy => h y (by simp [hy]))
    rw [Lib.join_cons, List.length_append, List.length_cons]
    omega
set_option maxRecDepth 20000 in
theorem Text_zero (w : World) : Calls Tryd.prog 47 #[.int .u32 0] w fun e W' => e = .returned (.string ⟨#[45]⟩) ∧ Below w.heap.size w W' := by
  go_enter Tryd.func47, Tryd.ntmps47
  go_wp2
  go_ret
  exact ⟨rfl, Below.refl _ _⟩
set_option maxRecDepth 100000 in
set_option maxHeartbeats 4000000 in
theorem Text_some (m : Nat) (hm : m < 4294967296) (hz : m ≠ 0) (w : World) (hTab : Tab w) :
    Calls Tryd.prog 47 #[.int .u32 m] w fun e W' => e = .returned (.string ⟨(textN m).toArray⟩) ∧ Below w.heap.size w W' := by
  refine (callsIn_wide (n := 8)).1 ?_
  have hzi : ((m : Int) == 0) = false := by simp; omega
  have h1 : 1 ≤ 8 := by omega
  obtain ⟨i0, hi, hz0, hz1, hz2⟩ := info_parts str_info
  have htx : textN m = Lib.join (decs (obs m)) [44] := by unfold textN; rw [if_neg hz, decs_obs]
  have hol := obs_length m
  have hpos : 0 < (obs m).length := by rw [(obs_next hz hm).2]; simp
  clear hz
  refine callsIn_of_wp_marks Tryd.func47 rfl trivial ?_ rfl
  simp only [Tryd.ntmps47, List.size_toArray, List.length_cons, List.length_nil, Nat.reduceAdd, Nat.reduceSub, Array.replicate_succ, Array.replicate_zero, List.push_toArray, List.append_toArray, List.nil_append, List.cons_append]
  gi_wp2_with fail
  refine ⟨trivial, ?_⟩
  refine (each_in 7 m _).mono ?_
  rintro e w' ⟨rfl, rfl⟩
  gi_wp2_with fail
  have bO := Boxed.new w 92 (.slice none 0 0)
  have bN := Boxed.new (w.alloc (.cells #[.slice none 0 0] 92)) 31 (.int .u32 (m : Int))
  rw [World.size_alloc] at bN
  have hB0 : Below w.heap.size w ((w.alloc (.cells #[.slice none 0 0] 92)).alloc (.cells #[.int .u32 (m : Int)] 31)) := ((Below.refl _ w).alloc (Nat.le_refl _) _).alloc (by simp) _
  refine wpIn_rangeFunc_ownF rfl h1 (gf := 80) (lb := #[.pointer (some ⟨w.heap.size + 1, 0, none⟩)]) rfl trivial (enters_of Tryd.func80 (by kernel_rfl) rfl)
    (each_stops 7 (w.heap.size + 1) w.heap.size m hm (by omega) _ (by simp) bN.cell (fun W hW => Tab.ext hTab (hB0.trans (hW.mono hB0.size))) (fun A B hA hAB => Tab.below1 hTab hA hAB)) belowK_t (belowK_b (by simp; omega)) (Below.refl _ _) (fun _ => rfl)
    (fun pre W => (∃ v, Boxed W w.heap.size 92 v ∧ W.ownsRow w.heap.size 9 1 v (decs pre).length (sv (decs pre)) ∧ True) ∧ Below w.heap.size w W)
    (fun _ _ _ => False)
    (OwnFrom.and (Own.from (holdsRow_own w.heap.size w.heap.size 92 9 1 (fun pre => (decs pre).length) (fun pre => sv (decs pre)) (fun _ _ => True)) _) (ownFrom_below (Nat.le_refl _) (by simp; omega)))
    (fun _ _ _ _ _ hs _ _ => hs)
    ⟨⟨_, bO.alloc _, World.ownsRow_nil _ _ _ _, trivial⟩, hB0⟩
    (fun x => { tmps := #[.int .u32 (m : Int), undef, .string ⟨#[]⟩, .pointer (some ⟨w.heap.size, 0, none⟩), .int .i64 ((x % 32 : Nat) : Int), .int .u32 (m : Int), .bool false, .int .u32 (m : Int), .func (.func 80) #[] #[.pointer (some ⟨w.heap.size + 1, 0, none⟩)], .int .i64 ((x % 32 : Nat) : Int), undef, undef, undef, undef, undef, undef, undef], defers := [] }) ?assign ?body ?done ?stop
  case assign =>
    intro l x W K hK
    gi_wp2
    exact hK
  case body =>
    rintro l pre x W ⟨⟨v, hv, hrow, _⟩, hB⟩ hlt
    have hc := hv.cell
    have hmx : Tryd.prog.follows .mixedOrders = true := by kernel_rfl
    have hds := decs_snoc pre x
    obtain ⟨y, hy⟩ : ∃ y, y = x % 32 := ⟨_, rfl⟩
    rw [← hy] at hds ⊢
    have hx100 : y < 100 := by omega
    have HDS := Lib.hid hds
    have hpl : (decs pre).length < 33 := by rw [decs, List.length_map]; omega
    clear hy hds
    have hrow1 : (W.alloc (.cells #[.string ⟨(Lib.decDigits y).toArray⟩] 9)).drew.ownsRow w.heap.size 9 1 v (decs pre).length (sv (decs pre)) := hrow.alloc _
    have hcA : (W.alloc (.cells #[.string ⟨(Lib.decDigits y).toArray⟩] 9)).cell? ⟨w.heap.size, 0, none⟩ = some v := (hv.alloc _).cell
    have hone : Sl (W.alloc (.cells #[.string ⟨(Lib.decDigits y).toArray⟩] 9)).drew W.heap.size (some ⟨W.heap.size, 0, none⟩) (sv [Lib.decDigits y]) := Sl.one_new W _ _
    gi_wp2_with fail
    refine wpIn_region_any hmx ?_
    change wpAnyIn _ _ _ _ _ _ _ _ _ (World.drew _)
    refine wpAnyIn_ready (rs := [0, 1]) (by kernel_rfl) (by simp) ?_
    refine AllReadyIn.cons rfl (fun K hK => ?_) ?_
    · go_simp
      refine hK _ _ ?_
      clear hK K
      try simp only [Act.put, List.setIfInBounds_toArray, List.set_cons_zero, List.set_cons_succ]
      refine wpAnyIn_ready (rs := [1]) (by kernel_rfl) (by simp) ?_
      refine AllReadyIn.cons rfl (fun K hK => ?_) AllReadyIn.nil
      go_simp
      refine hK _ _ ?_
      clear hK K
      try simp only [Act.put, List.setIfInBounds_toArray, List.set_cons_zero, List.set_cons_succ]
      refine wpAnyIn_ready (rs := [2]) (by kernel_rfl) (by simp) ?_
      refine AllReadyIn.cons rfl (fun K hK => ?_) AllReadyIn.nil
      go_simp
      refine ⟨trivial, ?_⟩
      refine (CallsIn.inRound l (callsIn_wide.2 (Tryd.strconv_Itoa_small y hx100 _))).mono ?_
      rintro e w' ⟨rfl, rfl⟩
      gi_wp2_with fail
      try simp only [Act.put, List.setIfInBounds_toArray]
      refine wpAnyIn_ready (rs := [3]) (by kernel_rfl) (by simp) ?_
      refine AllReadyIn.cons rfl (fun K hK => ?_) AllReadyIn.nil
      go_simp
      refine hK _ _ ?_
      clear hK K
      try simp only [Act.put, List.setIfInBounds_toArray, List.set_cons_zero, List.set_cons_succ]
      refine wpAnyIn_ready (rs := [4]) (by kernel_rfl) (by simp) ?_
      refine AllReadyIn.cons rfl (fun K hK => ?_) AllReadyIn.nil
      rw [if_pos (by rfl)]
      refine wpIn_app_str _ (.tmp 10) (.tmp 13) rfl w.heap.size v (decs pre) rfl hrow1 W.heap.size (some ⟨W.heap.size, 0, none⟩) 1 (Lib.decDigits y) rfl hone (by omega) (by have := hB.size; simp; omega) ?_
      intro v' w1 hown' hgrow
      obtain ⟨g', cap', rfl⟩ := ownsRow_succ hown'
      obtain ⟨hv1, hv2, hr2, hk2, hb2⟩ := hv.appended (by decide) hrow hB.size (Nat.le_refl _) hown' (grown_drew hgrow)
      have hc1 := hv1.cell
      have hf1 := hv1.frozen
      refine hK _ _ ?_
      clear hK K
      try simp only [Act.put, List.setIfInBounds_toArray]
      refine wpAnyIn_ready (rs := [5]) (by kernel_rfl) (by simp) ?_
      refine AllReadyIn.cons rfl (fun K hK => ?_) AllReadyIn.nil
      go_simp
      refine hK _ _ ?_
      clear hK K
      refine wpAnyIn_done (by kernel_rfl) ?_ _
      gi_wp2
      exact ⟨hk2, hb2, ⟨_, hv2, by rw [HDS.out, List.length_append]; exact hr2, trivial⟩, hB.trans hb2⟩
    refine AllReadyIn.cons rfl (fun K hK => ?_) AllReadyIn.nil
    go_simp
    refine hK _ _ ?_
    clear hK K
    try simp only [Act.put, List.setIfInBounds_toArray, List.set_cons_zero, List.set_cons_succ]
    refine wpAnyIn_ready (rs := [0, 2]) (by kernel_rfl) (by simp) ?_
    refine AllReadyIn.cons rfl (fun K hK => ?_) ?_
    · go_simp
      refine hK _ _ ?_
      clear hK K
      try simp only [Act.put, List.setIfInBounds_toArray, List.set_cons_zero, List.set_cons_succ]
      refine wpAnyIn_ready (rs := [2]) (by kernel_rfl) (by simp) ?_
      refine AllReadyIn.cons rfl (fun K hK => ?_) AllReadyIn.nil
      go_simp
      refine ⟨trivial, ?_⟩
      refine (CallsIn.inRound l (callsIn_wide.2 (Tryd.strconv_Itoa_small y hx100 _))).mono ?_
      rintro e w' ⟨rfl, rfl⟩
      gi_wp2_with fail
      try simp only [Act.put, List.setIfInBounds_toArray]
      refine wpAnyIn_ready (rs := [3]) (by kernel_rfl) (by simp) ?_
      refine AllReadyIn.cons rfl (fun K hK => ?_) AllReadyIn.nil
      go_simp
      refine hK _ _ ?_
      clear hK K
      try simp only [Act.put, List.setIfInBounds_toArray, List.set_cons_zero, List.set_cons_succ]
      refine wpAnyIn_ready (rs := [4]) (by kernel_rfl) (by simp) ?_
      refine AllReadyIn.cons rfl (fun K hK => ?_) AllReadyIn.nil
      rw [if_pos (by rfl)]
      refine wpIn_app_str _ (.tmp 10) (.tmp 13) rfl w.heap.size v (decs pre) rfl hrow1 W.heap.size (some ⟨W.heap.size, 0, none⟩) 1 (Lib.decDigits y) rfl hone (by omega) (by have := hB.size; simp; omega) ?_
      intro v' w1 hown' hgrow
      obtain ⟨g', cap', rfl⟩ := ownsRow_succ hown'
      obtain ⟨hv1, hv2, hr2, hk2, hb2⟩ := hv.appended (by decide) hrow hB.size (Nat.le_refl _) hown' (grown_drew hgrow)
      have hc1 := hv1.cell
      have hf1 := hv1.frozen
      refine hK _ _ ?_
      clear hK K
      try simp only [Act.put, List.setIfInBounds_toArray]
      refine wpAnyIn_ready (rs := [5]) (by kernel_rfl) (by simp) ?_
      refine AllReadyIn.cons rfl (fun K hK => ?_) AllReadyIn.nil
      go_simp
      refine hK _ _ ?_
      clear hK K
      refine wpAnyIn_done (by kernel_rfl) ?_ _
      gi_wp2
      exact ⟨hk2, hb2, ⟨_, hv2, by rw [HDS.out, List.length_append]; exact hr2, trivial⟩, hB.trans hb2⟩
    refine AllReadyIn.cons rfl (fun K hK => ?_) AllReadyIn.nil
    go_simp
    refine ⟨trivial, ?_⟩
    refine (CallsIn.inRound l (callsIn_wide.2 (Tryd.strconv_Itoa_small y hx100 _))).mono ?_
    rintro e w' ⟨rfl, rfl⟩
    gi_wp2_with fail
    try simp only [Act.put, List.setIfInBounds_toArray]
    refine wpAnyIn_ready (rs := [0, 3]) (by kernel_rfl) (by simp) ?_
    refine AllReadyIn.cons rfl (fun K hK => ?_) ?_
    · go_simp
      refine hK _ _ ?_
      clear hK K
      try simp only [Act.put, List.setIfInBounds_toArray, List.set_cons_zero, List.set_cons_succ]
      refine wpAnyIn_ready (rs := [3]) (by kernel_rfl) (by simp) ?_
      refine AllReadyIn.cons rfl (fun K hK => ?_) AllReadyIn.nil
      go_simp
      refine hK _ _ ?_
      clear hK K
      try simp only [Act.put, List.setIfInBounds_toArray, List.set_cons_zero, List.set_cons_succ]
      refine wpAnyIn_ready (rs := [4]) (by kernel_rfl) (by simp) ?_
      refine AllReadyIn.cons rfl (fun K hK => ?_) AllReadyIn.nil
      rw [if_pos (by rfl)]
      refine wpIn_app_str _ (.tmp 10) (.tmp 13) rfl w.heap.size v (decs pre) rfl hrow1 W.heap.size (some ⟨W.heap.size, 0, none⟩) 1 (Lib.decDigits y) rfl hone (by omega) (by have := hB.size; simp; omega) ?_
      intro v' w1 hown' hgrow
      obtain ⟨g', cap', rfl⟩ := ownsRow_succ hown'
      obtain ⟨hv1, hv2, hr2, hk2, hb2⟩ := hv.appended (by decide) hrow hB.size (Nat.le_refl _) hown' (grown_drew hgrow)
      have hc1 := hv1.cell
      have hf1 := hv1.frozen
      refine hK _ _ ?_
      clear hK K
      try simp only [Act.put, List.setIfInBounds_toArray]
      refine wpAnyIn_ready (rs := [5]) (by kernel_rfl) (by simp) ?_
      refine AllReadyIn.cons rfl (fun K hK => ?_) AllReadyIn.nil
      go_simp
      refine hK _ _ ?_
      clear hK K
      refine wpAnyIn_done (by kernel_rfl) ?_ _
      gi_wp2
      exact ⟨hk2, hb2, ⟨_, hv2, by rw [HDS.out, List.length_append]; exact hr2, trivial⟩, hB.trans hb2⟩
    refine AllReadyIn.cons rfl (fun K hK => ?_) AllReadyIn.nil
    go_simp
    refine hK _ _ ?_
    clear hK K
    try simp only [Act.put, List.setIfInBounds_toArray, List.set_cons_zero, List.set_cons_succ]
    refine wpAnyIn_ready (rs := [0]) (by kernel_rfl) (by simp) ?_
    refine AllReadyIn.cons rfl (fun K hK => ?_) AllReadyIn.nil
    go_simp
    refine hK _ _ ?_
    clear hK K
    try simp only [Act.put, List.setIfInBounds_toArray, List.set_cons_zero, List.set_cons_succ]
    refine wpAnyIn_ready (rs := [4]) (by kernel_rfl) (by simp) ?_
    refine AllReadyIn.cons rfl (fun K hK => ?_) AllReadyIn.nil
    rw [if_pos (by rfl)]
    refine wpIn_app_str _ (.tmp 10) (.tmp 13) rfl w.heap.size v (decs pre) rfl hrow1 W.heap.size (some ⟨W.heap.size, 0, none⟩) 1 (Lib.decDigits y) rfl hone (by omega) (by have := hB.size; simp; omega) ?_
    intro v' w1 hown' hgrow
    obtain ⟨g', cap', rfl⟩ := ownsRow_succ hown'
    obtain ⟨hv1, hv2, hr2, hk2, hb2⟩ := hv.appended (by decide) hrow hB.size (Nat.le_refl _) hown' (grown_drew hgrow)
    have hc1 := hv1.cell
    have hf1 := hv1.frozen
    refine hK _ _ ?_
    clear hK K
    try simp only [Act.put, List.setIfInBounds_toArray]
    refine wpAnyIn_ready (rs := [5]) (by kernel_rfl) (by simp) ?_
    refine AllReadyIn.cons rfl (fun K hK => ?_) AllReadyIn.nil
    go_simp
    refine hK _ _ ?_
    clear hK K
    refine wpAnyIn_done (by kernel_rfl) ?_ _
    gi_wp2
    exact ⟨hk2, hb2, ⟨_, hv2, by rw [HDS.out, List.length_append]; exact hr2, trivial⟩, hB.trans hb2⟩
  case done =>
    rintro D ys W hD rfl ⟨⟨v, hv, hrow, _⟩, hB⟩ hK
    have hc := hv.cell
    have hne : 0 < (decs (obs m)).length := by rw [decs, List.length_map]; exact hpos
    obtain ⟨g, cap, hvv, hg1, hg2, hcap, hcell, _, _⟩ := own_set hrow hne
    subst hvv
    have hxl : ((decs (obs m)).map fun x => (⟨x.toArray⟩ : ByteArray)).length = (decs (obs m)).length := by simp
    have hJ := Tryd.strings_Join g 0 cap ((decs (obs m)).map fun x => (⟨x.toArray⟩ : ByteArray)) ⟨#[44]⟩ W (fun j x hx => by
        rw [Nat.zero_add]
        refine hcell j _ ?_
        rw [List.getElem?_map] at hx
        obtain ⟨y, hy, rfl⟩ := Option.map_eq_some_iff.1 hx
        simp [sv, hy]) hg2 (by rw [hxl, decs, List.length_map]; omega) (by rw [hxl]; exact hcap) (by
        have e1 : (((decs (obs m)).map fun x => (⟨x.toArray⟩ : ByteArray)).map (·.data.toList)) = decs (obs m) := by simp [Function.comp_def]
        rw [e1]
        have h2 := join_len (decs (obs m)) (fun x hx => by
          obtain ⟨k, _, rfl⟩ := List.mem_map.1 hx
          exact dec_len ⟨k % 32, Nat.mod_lt _ (by omega)⟩)
        have h3 : (decs (obs m)).length ≤ 32 := by rw [decs, List.length_map]; exact hol
        show (Lib.join (decs (obs m)) [44]).length ≤ _
        omega)
    rw [hxl] at hJ
    have e1 : (((decs (obs m)).map fun x => (⟨x.toArray⟩ : ByteArray)).map (·.data.toList)) = decs (obs m) := by simp [Function.comp_def]
    rw [e1] at hJ
    have hJ2 : Calls Tryd.prog 45 #[.slice (some ⟨g, 0, none⟩) (decs (obs m)).length cap, .string ⟨#[44]⟩] W fun e w' => e = .returned (.string ⟨(textN m).toArray⟩) ∧ Below W.heap.size W w' := by rw [htx]; exact hJ
    have hwD : D < W.heap.size := (Array.getElem?_eq_some_iff.1 hK).1
    clear hJ e1 hxl hcell htx
    gi_wp2_with fail
    refine ⟨trivial, ?_⟩
    refine (callsIn_wide.2 hJ2).mono ?_
    rintro e w9 ⟨rfl, hb9⟩
    gi_wp2_with fail
    have hK9 := (hb9.block D hwD).trans hK
    have hB9 := hB.trans (hb9.mono hB.size)
    refine ⟨by simp, .inl ⟨_, _, rfl, run_takeDeferred hK9, ?_⟩⟩
    exact ⟨_, results_tmp rfl _ _ _, rfl, hB9.trans (belowK_b (w := w) (Nat.le_refl _) w9 D _ _ (by simp at hD; omega) hK9 rfl rfl)⟩
  case stop =>
    rintro D c pre W _ _ h _
    exact h.elim
theorem Text_calls (m : Nat) (hm : m < 4294967296) (w : World) (hTab : Tab w) :
    Calls Tryd.prog 47 #[.int .u32 m] w fun e W' => e = .returned (.string ⟨(textN m).toArray⟩) ∧ Below w.heap.size w W' := by
  by_cases hz : m = 0
  · subst hz
    exact Text_zero w
  · exact Text_some m hm hz w hTab
end Go.Proofs.YtdmjkgafnnjkkaaDoor
