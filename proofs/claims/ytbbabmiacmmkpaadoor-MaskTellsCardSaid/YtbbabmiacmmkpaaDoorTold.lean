/- told: the first observers of a mask. Conditions: the number fits 32 bits; the library's table lies as it lays it. -/
import Derived.Test.YtbbabmiacmmkpaaDoorMAwake
namespace Go.Proofs.YtbbabmiacmmkpaaDoor
open Go.RowKit Go.Shelf
attribute [local go_sem] Oper.semAt_some

theorem own_lower {w : World} {B B' n : Nat} {e : TypeId} {v : Value} {xs : List Value} (h : w.ownsRow B e 1 v n xs) (hB : B' ≤ B) : w.ownsRow B' e 1 v n xs := by
  refine ⟨h.1, ?_⟩
  rcases h.2 with h2 | ⟨g, cap, cur, rfl, hg, r⟩
  · exact .inl h2
  · exact .inr ⟨g, cap, cur, rfl, by omega, r⟩
theorem own_sl {w : World} {B n : Nat} {e : TypeId} {v : Value} {xs : List Value} (h : w.ownsRow B e 1 v n xs) : ∃ A c b, v = .slice A n c ∧ n ≤ c ∧ B ≤ b ∧ Sl w b A xs := by
  rcases h.2 with ⟨rfl, rfl⟩ | ⟨g, cap, cur, rfl, hb, _, hnc, hcm, _⟩
  · have hx : xs = [] := List.eq_nil_of_length_eq_zero (by simpa using h.1)
    subst hx
    exact ⟨none, 0, B, rfl, Nat.le_refl _, Nat.le_refl _, Sl.nil_ _ _ _⟩
  · refine ⟨_, cap, g, rfl, hnc, hb, fun _ => ⟨0, rfl, fun j u hu => ?_⟩⟩
    have := h.cells (g := g) rfl j u hu
    simpa [Addr.add_lit] using this
theorem int_info : (Tryd.prog.info? 3).map (fun i => (i.zero, i.size, i.bytes)) = some (some (.int .i64 0), 1, 8) := by kernel_rfl
def low (pre : List Nat) : List Nat := pre.map (· % 32)
theorem low_snoc (pre : List Nat) (x : Nat) : low (pre ++ [x]) = low pre ++ [x % 32] := by simp [low]
@[simp] theorem low_length (pre : List Nat) : (low pre).length = pre.length := by simp [low]
theorem ints_snoc (l : List Nat) (x : Nat) : ints (l ++ [x]) = ints l ++ [.int .i64 (x : Int)] := by simp [ints]
theorem low_pre {m : Nat} {pre : List Nat} (h : pre <+: obs m) : low pre = pre := by
  unfold low
  have : pre.map (· % 32) = pre.map id := List.map_congr_left fun k hk => Nat.mod_eq_of_lt (obs_mem.1 (h.subset hk)).1
  simpa using this
set_option maxRecDepth 100000 in
set_option maxHeartbeats 4000000 in
theorem told_calls (m M : Nat) (hm : m < 4294967296) (hM : 0 < M) (w : World) (hTab : Tab w) :
    Calls Tryd.prog 17 #[.int .u32 m, .int .i64 M] w fun e W' => ∃ v, e = .returned v ∧ W'.ownsRow w.heap.size 3 1 v ((obs m).take M).length (ints ((obs m).take M)) ∧ Below w.heap.size w W' := by
  refine (callsIn_wide (n := 8)).1 ?_
  have h1 : 1 ≤ 8 := by omega
  obtain ⟨i0, hi, hz0, hz1, hz2⟩ := info_parts int_info
  have hol := obs_length m
  refine callsIn_of_wp_marks Tryd.func17 rfl trivial ?_ rfl
  simp only [Tryd.ntmps17, List.size_toArray, List.length_cons, List.length_nil, Nat.reduceAdd, Nat.reduceSub, Array.replicate_succ, Array.replicate_zero, List.push_toArray, List.append_toArray, List.nil_append, List.cons_append]
  gi_wp2_with fail
  refine ⟨trivial, ?_⟩
  refine (each_in 7 m _).mono ?_
  rintro e w' ⟨rfl, rfl⟩
  gi_wp2_with fail
  have bM := Boxed.new w 3 (.int .i64 (M : Int))
  have bO := Boxed.new (w.alloc (.cells #[.int .i64 (M : Int)] 3)) 22 (.slice none 0 0)
  have bN := Boxed.new ((w.alloc (.cells #[.int .i64 (M : Int)] 3)).alloc (.cells #[.slice none 0 0] 22)) 26 (.int .u32 (m : Int))
  simp only [World.size_alloc] at bO bN
  have hB0 : Below w.heap.size w (((w.alloc (.cells #[.int .i64 (M : Int)] 3)).alloc (.cells #[.slice none 0 0] 22)).alloc (.cells #[.int .u32 (m : Int)] 26)) := (((Below.refl _ w).alloc (Nat.le_refl _) _).alloc (by simp) _).alloc (by simp; omega) _
  refine wpIn_rangeFunc_ownF rfl h1 (gf := 31) (lb := #[.pointer (some ⟨w.heap.size + 1 + 1, 0, none⟩)]) rfl trivial (enters_of Tryd.func31 (by kernel_rfl) rfl)
    (each_stops 7 (w.heap.size + 1 + 1) w.heap.size m hm (by omega) _ (by simp) bN.cell (fun W hW => Tab.ext hTab (hB0.trans (hW.mono hB0.size))) (fun A B hA hAB => Tab.below1 hTab hA hAB)) belowK_t (belowK_b (by simp; omega)) (Below.refl _ _) (fun _ => rfl)
    (fun pre W => (∃ v, Boxed W (w.heap.size + 1) 22 v ∧ W.ownsRow (w.heap.size + 1) 3 1 v pre.length (ints (low pre)) ∧ pre.length < M) ∧ Boxed W w.heap.size 3 (.int .i64 (M : Int)) ∧ Below w.heap.size w W)
    (fun c pre W => (∃ v, Boxed W (w.heap.size + 1) 22 v ∧ W.ownsRow (w.heap.size + 1) 3 1 v pre.length (ints (low pre)) ∧ (pre.length = M ∧ c = .exit 0)) ∧ Below w.heap.size w W)
    (OwnFrom.and (Own.from (holdsRow_own (w.heap.size + 1) (w.heap.size + 1) 22 3 1 (fun pre => pre.length) (fun pre => ints (low pre)) (fun pre _ => pre.length < M)) _) (OwnFrom.and (Own.from (boxed_own w.heap.size 3 (fun _ => .int .i64 (M : Int))) _) (ownFrom_below (Nat.le_refl _) (by simp; omega))))
    (fun c => OwnFrom.and (Own.from (holdsRow_own (w.heap.size + 1) (w.heap.size + 1) 22 3 1 (fun pre => pre.length) (fun pre => ints (low pre)) (fun pre _ => pre.length = M ∧ c = .exit 0)) _) (ownFrom_below (Nat.le_refl _) (by simp; omega)))
    ⟨⟨_, bO.alloc _, World.ownsRow_nil _ _ _ _, hM⟩, (bM.alloc _).alloc _, hB0⟩
    (fun x => { tmps := #[.int .u32 (m : Int), .int .i64 (M : Int), undef, .pointer (some ⟨w.heap.size, 0, none⟩), .slice none 0 0, .pointer (some ⟨w.heap.size + 1, 0, none⟩), .int .i64 ((x % 32 : Nat) : Int), .int .u32 (m : Int), .func (.func 31) #[] #[.pointer (some ⟨w.heap.size + 1 + 1, 0, none⟩)], .int .i64 ((x % 32 : Nat) : Int), undef, undef, undef, undef, undef, undef, undef, undef, undef], defers := [] }) ?assign ?body ?done ?stop
  case assign =>
    intro l x W K hK
    gi_wp2
    exact hK
  case body =>
    rintro l pre x W ⟨⟨v, hv, hrow, hlM⟩, hMb, hB⟩ hlt
    have hc := hv.cell
    have hds := low_snoc pre x
    obtain ⟨y, hy⟩ : ∃ y, y = x % 32 := ⟨_, rfl⟩
    rw [← hy] at hds ⊢
    have HDS := Lib.hid hds
    clear hy hds
    have hlen32 : pre.length < 32 := by omega
    by_cases hend : pre.length + 1 = M
    · have hde : (((pre.length : Int) + 1) == (M : Int)) = true := by simp; omega
      have HE := Lib.hid hend
      clear hend hlM
      gi_wp2_with (gi_at_builtin; refine wpListIn_append_own _ rfl _ _ 22 rfl (w.heap.size + 1) 3 i0 (.int .i64 0) 1 8 Tryd.underlying22 hi hz0 hz1 hz2 rfl (by decide) _ _ _ rfl (hrow.alloc _) ⟨W.heap.size, 0, none⟩ 1 1 [.int .i64 (y : Int)] rfl rfl (cell_one_new _ _ _) (by simp [Value.oneCell']) (by simp only [maxLen]; omega) (by omega) (by have := hv.lt; simp; omega) ?_; intro v' w1 hown' hgrow _; obtain ⟨g', cap', rfl⟩ := ownsRow_succ hown'; obtain ⟨hv1, hv2, hr2, hk2, hb2⟩ := hv.appended (by decide) hrow (by have := hv.lt; omega) (Nat.le_refl _) hown' hgrow; have hc1 := hv1.cell; have hf1 := hv1.frozen; have hc2 := hv2.cell; have hM2 : Boxed _ w.heap.size 3 (.int .i64 (M : Int)) := (hb2.block w.heap.size (by omega)).trans hMb; have hM1 : Boxed w1 w.heap.size 3 (.int .i64 (M : Int)) := (Below.heap_setCell w1 ⟨w.heap.size + 1, 0, none⟩ _ w.heap.size (by simp)).symm.trans hM2; have hcM := hM1.cell)
      have hB2 := hB.trans (hb2.mono (Nat.le_succ _))
      exact ⟨hk2, ⟨_, hv2, by rw [HDS.out, ints_snoc, List.length_append]; exact hr2, by rw [List.length_append]; exact HE.out, rfl⟩, hB2⟩
    · have hde : (((pre.length : Int) + 1) == (M : Int)) = false := by simp; omega
      have HE := Lib.hid (show pre.length + 1 < M by omega)
      clear hend hlM
      gi_wp2_with (gi_at_builtin; refine wpListIn_append_own _ rfl _ _ 22 rfl (w.heap.size + 1) 3 i0 (.int .i64 0) 1 8 Tryd.underlying22 hi hz0 hz1 hz2 rfl (by decide) _ _ _ rfl (hrow.alloc _) ⟨W.heap.size, 0, none⟩ 1 1 [.int .i64 (y : Int)] rfl rfl (cell_one_new _ _ _) (by simp [Value.oneCell']) (by simp only [maxLen]; omega) (by omega) (by have := hv.lt; simp; omega) ?_; intro v' w1 hown' hgrow _; obtain ⟨g', cap', rfl⟩ := ownsRow_succ hown'; obtain ⟨hv1, hv2, hr2, hk2, hb2⟩ := hv.appended (by decide) hrow (by have := hv.lt; omega) (Nat.le_refl _) hown' hgrow; have hc1 := hv1.cell; have hf1 := hv1.frozen; have hc2 := hv2.cell; have hM2 : Boxed _ w.heap.size 3 (.int .i64 (M : Int)) := (hb2.block w.heap.size (by omega)).trans hMb; have hM1 : Boxed w1 w.heap.size 3 (.int .i64 (M : Int)) := (Below.heap_setCell w1 ⟨w.heap.size + 1, 0, none⟩ _ w.heap.size (by simp)).symm.trans hM2; have hcM := hM1.cell)
      have hB2 := hb2.mono (Nat.le_succ _)
      exact ⟨hk2, hB2, ⟨_, hv2, by rw [HDS.out, ints_snoc, List.length_append]; exact hr2, by rw [List.length_append]; exact HE.out⟩, hM2, hB.trans hB2⟩
  case done =>
    rintro D ys W hD rfl ⟨⟨v, hv, hrow, hlM⟩, hMb, hB⟩ hK
    have hc := hv.cell
    gi_wp2
    refine ⟨by simp, .inl ⟨_, _, rfl, run_takeDeferred hK, ?_⟩⟩
    have hr2 := ownsRow_putObj hrow (.deferred none) hK rfl
    refine ⟨_, results_tmp rfl _ _ _, v, rfl, ?_, hB.trans (belowK_b (w := w) (Nat.le_refl _) W D _ _ (by simp at hD; omega) hK rfl rfl)⟩
    rw [List.take_of_length_le (by omega), ← low_pre (List.prefix_refl _), low_length]
    exact own_lower hr2 (by omega)
  case stop =>
    rintro D c pre W hD hpre ⟨⟨v, hv, hrow, hlM, rfl⟩, hB⟩ hK
    have hc := hv.cell
    gi_wp2
    refine ⟨by simp, .inl ⟨_, _, rfl, run_takeDeferred hK, ?_⟩⟩
    have hr2 := ownsRow_putObj hrow (.deferred none) hK rfl
    refine ⟨_, results_tmp rfl _ _ _, v, rfl, ?_, hB.trans (belowK_b (w := w) (Nat.le_refl _) W D _ _ (by simp at hD; omega) hK rfl rfl)⟩
    have hpe : pre = (obs m).take M := by rw [← hlM]; exact List.prefix_iff_eq_take.1 hpre
    rw [low_pre hpre] at hr2
    rw [← hpe]
    exact own_lower hr2 (by omega)
end Go.Proofs.YtbbabmiacmmkpaaDoor
