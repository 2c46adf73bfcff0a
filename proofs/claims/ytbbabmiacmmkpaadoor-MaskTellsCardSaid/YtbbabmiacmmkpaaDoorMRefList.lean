/- The reference's List, and the first few of a list. Condition: the number fits; the list is no longer than may be. -/
import Derived.Test.YtbbabmiacmmkpaaDoorMRefIn
namespace Go.Proofs.YtbbabmiacmmkpaaDoor
open Go.RowKit

theorem int_info0 : (Tryd.prog.info? 3).map (fun i => (i.zero, i.size, i.bytes)) = some (some (.int .i64 0), 1, 8) := by kernel_rfl
abbrev RowI (w : World) (B : Nat) (v : Value) (l : List Int) : Prop := w.ownsRow B 3 1 v l.length (iz l)
theorem RowI.cast {w : World} {B : Nat} {v : Value} {l l' : List Int} (h : RowI w B v l) (e : l = l') : RowI w B v l' := e ▸ h
theorem wpList_appI {w : World} {ops : Array Oper} {rest : List Oper} {o : Oper} {a : Act} {Q : Exit → Act → World → Prop} (hw : Region.wanted o (yielded ops a.tmps) = true) (s x : Operand)
    (ho : o.op = .call { callee := .builtin .append, args := #[s, x], argTypes := #[22, 22] })
    (B : Nat) (v : Value) (l : List Int) (hs : a.eval s = v) (hown : RowI w B v l)
    (b : Nat) (A : Option Addr) (m c : Nat) (news : List Int) (hx : a.eval x = .slice A m c) (hr : Sl w b A (iz news)) (hm : news.length = m)
    (hlen : l.length + m ≤ 1000000000000) (hbase : B ≤ w.heap.size)
    (h : ∀ v' w', RowI w' B v' (l ++ news) → Mod (fun i => v.ownBlock = some i) w w' → (v'.ownBlock = v.ownBlock ∨ v'.ownBlock = some w.heap.size) → wpList Tryd.prog ops Q rest (a.put o.dst v') w') : wpList Tryd.prog ops Q (o :: rest) a w := by
  obtain ⟨i0, hi0, hz0, hz1, hz2⟩ := info_parts int_info0
  refine BigFrame.wpList_want hw fun _ hK => ?_
  refine wp_append_sl (P := Tryd.prog) w s x _ ho B 3 i0 _ 1 8 Tryd.underlying22 hi0 hz0 hz1 hz2 rfl (by omega) v l.length (iz l) hs hown b A m c (iz news) hx hr (by simp [hm]) (Sl.none_len hr (by simp [hm])) (by simp [iz, Value.oneCell'])
    (by simp only [maxLen]; omega) (by omega) hbase ?_
  intro v' w' h1 h2 h3
  exact hK _ _ (h v' w' (by unfold RowI; rw [List.length_append, hm]; have := h1; simp only [iz, List.map_append] at this ⊢; exact this) (Mod.of_grown h2) h3)
/-- The observers among the first i. -/
def upTo (m i : Nat) : List Int := ((List.range i).filter fun k => m.testBit k).map fun k : Nat => (k : Int)
theorem upTo_hit {m i : Nat} (h : m.testBit i = true) : upTo m (i + 1) = upTo m i ++ [(i : Int)] := by simp [upTo, List.range_succ, List.filter_append, h]
theorem upTo_miss {m i : Nat} (h : m.testBit i = false) : upTo m (i + 1) = upTo m i := by simp [upTo, List.range_succ, List.filter_append, h]
theorem upTo_len (m i : Nat) : (upTo m i).length ≤ i := by
  have := List.length_filter_le (fun k => m.testBit k) (List.range i)
  simpa [upTo] using this
theorem upTo_all (m : Nat) : upTo m 32 = (obs m).map fun k : Nat => (k : Int) := rfl
set_option maxHeartbeats 4000000 in
set_option maxRecDepth 20000 in
theorem RefList_calls (m : Nat) (w : World) (hm : m < 4294967296) :
    Calls Tryd.prog 10 #[.int .u32 m] w fun e w' => ∃ v, e = .returned v ∧ RowI w' w.heap.size v ((obs m).map fun k : Nat => (k : Int)) ∧ Below w.heap.size w w' := by
  go_enter Tryd.func10, Tryd.ntmps10
  go_wp2_with fail
  go_loopw [0, 3, 4] (fun mm out i wr => ∃ j : Nat, j ≤ 32 ∧ i = .int .i64 j ∧ mm = .int .u32 ((m / 2 ^ j : Nat) : Int) ∧ RowI wr w.heap.size out (upTo m j) ∧ Below w.heap.size w wr) (fun _ _ i _ => 32 - (intOf i).toNat)
  case atStart => exact ⟨0, Nat.zero_le _, rfl, by rw [Nat.pow_zero, Nat.div_one], World.ownsRow_nil _ _ _ _, Below.refl _ _⟩
  case round =>
    obtain ⟨j, hj, rfl, rfl, hr, hb⟩ := hrel
    rename_i v0 _
    by_cases hlt : j < 32
    · have hh := half_bit m j
      have hdd : m / 2 ^ j / 2 = m / 2 ^ (j + 1) := by rw [Nat.div_div_eq_div_mul, Nat.pow_succ]
      have hul := upTo_len m j
      obtain ⟨P, hP⟩ : ∃ P, P = m / 2 ^ (j + 1) := ⟨_, rfl⟩
      obtain ⟨N, hN⟩ : ∃ N, N = m / 2 ^ j := ⟨_, rfl⟩
      have hNl : N < 4294967296 := by rw [hN]; exact Nat.lt_of_le_of_lt (Nat.div_le_self _ _) hm
      rw [← hP] at hh hdd
      rw [← hN] at hh hdd ⊢
      have HP := Lib.hid hP
      have hdi : (N : Int).tdiv 2 = (P : Int) := by rw [Int.tdiv_eq_ediv_of_nonneg (by omega)]; omega
      have hdi2 : (N : Int) / 2 = (P : Int) := by omega
      have ej : (j : Int) < 32 := by omega
      clear hP hN hdd
      cases hbit : m.testBit j with
      | true =>
        have hut := upTo_hit hbit
        rw [hbit, if_pos rfl] at hh
        have hti : ((N : Int) % 2 == 1) = true := by simp; omega
        have HU := Lib.hid hut
        clear hbit hh hut
        go_wp2_with (at_builtin; (refine wpList_appI (by rfl) (.tmp 12) (.tmp 14) rfl w.heap.size _ (upTo m j) rfl (World.ownsRow.alloc hr _) _ (some ⟨_, 0, none⟩) 1 1 [(j : Int)] rfl (Sl.one_new _ _ _) rfl (by omega) (by have := hb.size; simp; omega) ?_); intro v' w1 hrow hmod hown)
        have hb2 : Below w.heap.size w w1 := (hb.alloc hb.size _).trans ((hmod.below (B := w.heap.size) (by have := hb.size; simp; omega) (fun i hi h => by have := (World.ownsRow.lt hr i h).1; omega)))
        go_roundw
        case rel => exact ⟨j + 1, by omega, by go_num, by rw [← HP.out], by rw [HU.out]; exact hrow, hb2⟩
        case measure => simp [intOf]; omega
      | false =>
        have hut := upTo_miss hbit
        rw [hbit, if_neg (by simp)] at hh
        have hti : ((N : Int) % 2 == 1) = false := by simp; omega
        have HU := Lib.hid hut
        clear hbit hh hut
        go_wp2_with fail
        go_roundw
        case rel => exact ⟨j + 1, by omega, by go_num, by rw [← HP.out], by rw [HU.out]; exact hr, hb⟩
        case measure => simp [intOf]; omega
    · obtain rfl : j = 32 := by omega
      go_wp2_with fail
      go_ret
      exact ⟨_, rfl, hr, hb⟩
set_option maxHeartbeats 4000000 in
set_option maxRecDepth 20000 in
theorem few_calls (A : Option Addr) (l : List Int) (n c b : Nat) (w : World) (hs : Sl w b A (iz l)) (hn : l.length = n) (hnc : n ≤ c) :
    Calls Tryd.prog 8 #[.slice A n c] w fun e w' => ∃ v, e = .returned v ∧ RowI w' w.heap.size v (l.take 40) ∧ Below w.heap.size w w' := by
  have HN := Lib.hid hn
  obtain ⟨K, hK⟩ : ∃ K, K = min n 40 := ⟨_, rfl⟩
  have hmin : min (n : Int) 40 = (K : Int) := by omega
  have hKc : (K : Int) ≤ (c : Int) := by omega
  have hlt : l.take 40 = l.take K := by
    rw [hK, ← hn, ← List.take_take]
    exact (List.take_of_length_le (by rw [List.length_take]; omega)).symm
  have hKn : K ≤ n := by omega
  have hpl : (l.take K).length = K := by rw [List.length_take, hn]; omega
  have hsK : Sl (w.alloc (.cells #[] 3)) b A (iz (l.take K)) := by
    have h1 := Sl.take (hs.alloc (.cells #[] 3)) K
    rwa [show (iz l).take K = iz (l.take K) by simp [iz]] at h1
  have ho0 : (w.alloc (.cells #[] 3)).ownsRow w.heap.size 3 1 (.slice (some ⟨w.heap.size, 0, none⟩) 0 0) 0 (iz []) := World.ownsRow_made w #[] 0 (Nat.le_refl _) (by simp [maxLen]) rfl
  rw [hlt]
  have HT := Lib.hid hlt
  have hK40 : K ≤ 40 := by omega
  clear hK hn hs hlt
  go_enter Tryd.func8, Tryd.ntmps8
  go_wp2_with (at_builtin; (refine wpList_appI (by rfl) (.tmp 3) (.tmp 8) rfl w.heap.size (.slice (some ⟨w.heap.size, 0, none⟩) 0 0) [] rfl ho0 b A K c (l.take K) rfl hsK hpl (by simp; omega) (by simp) ?_); intro v2 w2 hrow2 hmod2 hown2)
  go_ret
  exact ⟨_, rfl, hrow2.cast (List.nil_append _), (below_alloc1 w _).trans (hmod2.below (by simp) (fun i hi h => by simp [Value.ownBlock] at h; omega))⟩
end Go.Proofs.YtbbabmiacmmkpaaDoor
