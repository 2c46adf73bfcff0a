/- What the law makes of what came in: the first cells, the first moves, the first instructions, and as the document has them. Conditions: the lists fit. -/
import Derived.Test.YtpgnihfjccpneaaDoorVmX
namespace Go.Proofs.YtpgnihfjccpneaaDoor
open Go.RowKit

abbrev RowK (e : TypeId) (w : World) (B : Nat) (v : Value) (L : List Cd) : Prop := w.ownsRow B e 6 v L.length (kv L)
theorem owns_modK {w w' : World} {B n sz : Nat} {e : TypeId} {v : Value} {xs : List Value} (h : w.ownsRow B e sz v n xs) {S : Nat → Prop} (hm : Mod S w w') (hs : ∀ k, v.ownBlock = some k → ¬ S k) : w'.ownsRow B e sz v n xs := by
  refine ⟨h.1, ?_⟩
  rcases h.2 with h2 | ⟨g, cap, cur, rfl, hg, hh, r⟩
  · exact .inl h2
  · exact .inr ⟨g, cap, cur, rfl, hg, by rw [hm.block g (Array.getElem?_eq_some_iff.1 hh).1 (hs g rfl)]; exact hh, r⟩
theorem owns_lowK {w : World} {B B' n sz : Nat} {e : TypeId} {v : Value} {xs : List Value} (h : w.ownsRow B e sz v n xs) (hB : B' ≤ B) : w.ownsRow B' e sz v n xs := by
  refine ⟨h.1, ?_⟩
  rcases h.2 with h2 | ⟨g, cap, cur, rfl, hg, r⟩
  · exact .inl h2
  · exact .inr ⟨g, cap, cur, rfl, by omega, r⟩
namespace RowK
variable {e : TypeId} {w w' : World} {B : Nat} {v : Value} {L : List Cd}
theorem nil_ (e : TypeId) (w : World) (B : Nat) : RowK e w B (.slice none 0 0) [] := World.ownsRow_nil _ _ _ _
theorem ext (h : RowK e w B v L) (hm : Below w.heap.size w w') : RowK e w' B v L :=
  owns_modK h (Mod.of_below hm) fun k hk => by have := (World.ownsRow.lt h k hk).2; omega
theorem sl (h : RowK e w B v L) : ∃ A c b, v = .slice A L.length c ∧ L.length ≤ c ∧ c ≤ maxLen ∧ (A = none → L.length = 0) ∧ B ≤ b ∧ Sl w b A (kv L) ∧ (∀ k, v.ownBlock = some k → k = b) := by
  rcases h.2 with ⟨rfl, hn⟩ | ⟨g, cap, cur, rfl, hb, _, hnc, hcm, _⟩
  · have hl : L = [] := List.eq_nil_of_length_eq_zero hn
    subst hl
    exact ⟨none, 0, B, rfl, Nat.le_refl _, by simp [maxLen], fun _ => rfl, Nat.le_refl _, Sl.nil_ _ _ _, by simp [Value.ownBlock]⟩
  · refine ⟨_, cap, g, rfl, hnc, hcm, by simp, hb, fun _ => ⟨0, rfl, fun j u hu => ?_⟩, by simp [Value.ownBlock]⟩
    have := h.cells (g := g) rfl j u hu
    simpa [Addr.add_lit] using this
end RowK
theorem kv_one (l : List Cd) : ∀ u ∈ kv l, u.oneCell' = true := by
  intro u hu
  obtain ⟨c, _, hu⟩ := List.mem_flatMap.1 hu
  simp only [cdA, List.mem_cons, List.not_mem_nil, or_false] at hu
  rcases hu with rfl | rfl | rfl | rfl | rfl | rfl <;> rfl
theorem kv_take : ∀ (l : List Cd) (k : Nat), (kv l).take (k * 6) = kv (l.take k) := by
  intro l
  induction l with
  | nil => intro k; simp
  | cons c l ih =>
    intro k
    cases k with
    | zero => simp
    | succ k =>
      rw [kv_cons, show (k + 1) * 6 = (cdA c).toList.length + k * 6 by rw [cdA_len]; omega, List.take_length_add_append, ih, List.take_succ_cons, kv_cons]
theorem codeB_info : (Tryd.prog.info? 60).map (fun i => (i.zero, i.size, i.bytes)) = some (some (.agg #[.int .u8 0, .int .u8 0, .int .u8 0, .int .u8 0, .int .i32 0, .int .u32 0]), 6, 12) := by kernel_rfl
theorem codeR_info : (Tryd.prog.info? 77).map (fun i => (i.zero, i.size, i.bytes)) = some (some (.agg #[.int .u8 0, .int .u8 0, .int .u8 0, .int .u8 0, .int .i32 0, .int .u32 0]), 6, 12) := by kernel_rfl
section
variable (w : World)
theorem wpList_appK {t e : TypeId} (ht : Tryd.prog.underlying t = some (.slice e)) (hinf : (Tryd.prog.info? e).map (fun i => (i.zero, i.size, i.bytes)) = some (some (.agg #[.int .u8 0, .int .u8 0, .int .u8 0, .int .u8 0, .int .i32 0, .int .u32 0]), 6, 12)) {ops : Array Oper} {rest : List Oper} {o : Oper} {a : Act} {Q : Exit → Act → World → Prop} (hgd : o.guard = none) (s x : Operand)
    (ho : o.op = .call { callee := .builtin .append, args := #[s, x], argTypes := #[t, t] })
    (B : Nat) (v : Value) (L : List Cd) (hs : a.eval s = v) (hown : RowK e w B v L)
    (b : Nat) (A : Option Addr) (m c : Nat) (M : List Cd) (hx : a.eval x = .slice A m c) (hr : Sl w b A (kv M)) (hm : M.length = m)
    (hlen : L.length + m ≤ 1000000000000) (hbase : B ≤ w.heap.size)
    (h : ∀ v' w', RowK e w' B v' (L ++ M) → Mod (fun i => v.ownBlock = some i) w w' → (v'.ownBlock = v.ownBlock ∨ v'.ownBlock = some w.heap.size) → wpList Tryd.prog ops Q rest (a.put o.dst v') w') : wpList Tryd.prog ops Q (o :: rest) a w := by
  obtain ⟨i0, hi0, hz0, hz1, hz2⟩ := info_parts hinf
  refine wpList_append_sl (P := Tryd.prog) w hgd s x _ ho B e i0 _ 6 12 ht hi0 hz0 hz1 hz2 rfl (by omega) v L.length (kv L) hs hown b A m c (kv M) hx hr (by simp [hm]) (fun hA => by have := Sl.none_len hr rfl hA; simp at this; omega) (kv_one _)
    (by simp only [maxLen]; omega) (by omega) hbase ?_
  intro v' w' h1 h2 h3
  exact h v' w' (by unfold RowK; rw [List.length_append, hm, kv_append]; exact h1) (Mod.of_grown h2) h3
end
theorem below_ownK {w w' : World} {v : Value} {B : Nat} (h : Mod (fun i => v.ownBlock = some i) w w') (hB : B ≤ w.heap.size) (hv : ∀ k, v.ownBlock = some k → B ≤ k) : Below B w w' :=
  h.below hB fun i hi hk => by have := hv i hk; omega
theorem take_nextK {l : List Cd} {k : Nat} (h : k < l.length) : l.take (k + 1) = l.take k ++ [l[k]] := by rw [List.take_add_one, List.getElem?_eq_getElem h]; rfl
set_option maxHeartbeats 4000000 in
set_option maxRecDepth 20000 in
theorem FewC_calls (A : Option Addr) (L : List (Int × Nat)) (n c b : Nat) (w : World) (hs : Sl w b A (cv L)) (hn : L.length = n) (hnc : n ≤ c) :
    Calls Tryd.prog 13 #[.slice A n c] w fun e w' => ∃ v, e = .returned v ∧ RowC 38 w' w.heap.size v (L.take 48) ∧ Below w.heap.size w w' := by
  have HN := Lib.hid hn
  obtain ⟨K, hK⟩ : ∃ K, K = min n 48 := ⟨_, rfl⟩
  have hmin : (if (48 : Int) < (n : Int) then (48 : Int) else (n : Int)) = (K : Int) := by split <;> omega
  have hmin2 : min (n : Int) 48 = (K : Int) := by omega
  have hKc : (K : Int) ≤ (c : Int) := by omega
  have hlt : L.take 48 = L.take K := by
    rw [hK, ← hn, ← List.take_take]
    exact (List.take_of_length_le (by rw [List.length_take]; omega)).symm
  have hpl : (L.take K).length = K := by rw [List.length_take, hn]; omega
  have hsK : Sl (w.alloc (.cells #[] 38)) b A (cv (L.take K)) := by
    have h1 := Sl.take (hs.alloc (.cells #[] 38)) (K * 2)
    rwa [cv_take] at h1
  have ho0 : RowC 38 (w.alloc (.cells #[] 38)) w.heap.size (.slice (some ⟨w.heap.size, 0, none⟩) 0 0) [] := World.ownsRow_made w #[] 0 (Nat.le_refl _) (by simp [maxLen]) rfl
  rw [hlt]
  have hK48 : K ≤ 48 := by omega
  clear hK hn hs hlt
  go_enter Tryd.func13, Tryd.ntmps13
  go_wp2_with ((with_reducible refine at_ca 9 _ ?_); refine wpList_appC _ Tryd.underlying23 cellB_info rfl (.tmp 3) (.tmp 8) rfl w.heap.size (.slice (some ⟨w.heap.size, 0, none⟩) 0 0) [] rfl ho0 b A K c (L.take K) rfl hsK hpl (by simp; omega) (by simp) ?_; intro v2 w2 hrow2 hmod2 hown2)
  go_ret
  exact ⟨_, rfl, by rw [List.nil_append] at hrow2; exact hrow2, (below_alloc1 w _).trans (hmod2.below_own (by simp) (fun i h => by simp [Value.ownBlock] at h; omega))⟩
set_option maxHeartbeats 8000000 in
set_option maxRecDepth 20000 in
theorem Codes_calls (A : Option Addr) (L : List Cd) (n c b : Nat) (w : World) (hs : Sl w b A (kv L)) (hn : L.length = n) (hnc : n ≤ c) :
    Calls Tryd.prog 15 #[.slice A n c] w fun e w' => ∃ v u, e = .returned (.tuple #[v, u]) ∧ RowK 60 w' w.heap.size v (L.take 96) ∧ RowK 77 w' w.heap.size u (L.take 96) ∧ Below w.heap.size w w' := by
  obtain ⟨K, hK⟩ : ∃ K, K = min n 96 := ⟨_, rfl⟩
  have hmin : (if (96 : Int) < (n : Int) then (96 : Int) else (n : Int)) = (K : Int) := by split <;> omega
  have hmin2 : min (n : Int) 96 = (K : Int) := by omega
  have hKc : (K : Int) ≤ (c : Int) := by omega
  have hlt : L.take 96 = L.take K := by
    rw [hK, ← hn, ← List.take_take]
    exact (List.take_of_length_le (by rw [List.length_take]; omega)).symm
  have hpl : (L.take K).length = K := by rw [List.length_take, hn]; omega
  have hsK : Sl (w.alloc (.cells #[] 60)) b A (kv (L.take K)) := by
    have h1 := Sl.take (hs.alloc (.cells #[] 60)) (K * 6)
    rwa [kv_take] at h1
  have ho0 : RowK 60 (w.alloc (.cells #[] 60)) w.heap.size (.slice (some ⟨w.heap.size, 0, none⟩) 0 0) [] := World.ownsRow_made w #[] 0 (Nat.le_refl _) (by simp [maxLen]) rfl
  rw [hlt]
  have hK48 : K ≤ 96 := by omega
  clear hK hn hs hlt
  obtain ⟨M, hM⟩ : ∃ M, M = L.take K := ⟨_, rfl⟩
  rw [← hM] at hpl hsK ⊢
  clear hM
  go_enter Tryd.func15, Tryd.ntmps15
  go_wp2_with ((with_reducible refine at_ca 13 _ ?_); refine wpList_appK _ Tryd.underlying22 codeB_info rfl (.tmp 7) (.tmp 12) rfl w.heap.size (.slice (some ⟨w.heap.size, 0, none⟩) 0 0) [] rfl ho0 b A K c M rfl hsK hpl (by simp; omega) (by simp) ?_; intro v2 w2 hrow2 hmod2 hown2; rw [List.nil_append] at hrow2; obtain ⟨A2, c2, b2, hv2, hc2, hm2, hA2, hB2, hsl2, hb2⟩ := RowK.sl hrow2; subst hv2)
  have hbw : Below w.heap.size w w2 := (below_alloc1 w _).trans (below_ownK hmod2 (by simp) (fun i h => by simp [Value.ownBlock] at h; omega))
  have HR2 := Lib.hid hrow2
  have HB2 := Lib.hid hb2
  clear hmod2 hown2 ho0 hsK hrow2 hb2 hA2
  go_loopw [4, 6, 16] (fun out p i wr => ∃ k : Nat, k ≤ M.length ∧ i = .int .i64 k ∧ RowK 77 wr w2.heap.size out (M.take k) ∧ Below w2.heap.size w2 wr) (fun _ _ i _ => M.length - (intOf i).toNat)
  case atStart => exact ⟨0, Nat.zero_le _, rfl, RowK.nil_ _ _ _, Below.refl _ _⟩
  case round =>
    obtain ⟨k, hk, rfl, hr, hb⟩ := hrel
    by_cases hlt : k < M.length
    · obtain ⟨off, rfl, h0, h1, h2, h3, h4, h5⟩ := sl_code (Sl.ext hsl2 hb) hlt
      have hlen : (M.take k).length = k := by simp; omega
      have HT := Lib.hid (take_nextK hlt)
      obtain ⟨p, hp⟩ : ∃ p, p = M[k] := ⟨_, rfl⟩
      rw [← hp] at h0 h1 h2 h3 h4 h5 HT
      obtain ⟨op, a, b', cc, n, m⟩ := p
      simp only at h0 h1 h2 h3 h4 h5
      have HL := Lib.hid hlen
      have ej : (k : Int) < (M.length : Int) := by omega
      have hzb := hb.size
      clear hp hlen
      have hb3 := hb.alloc hzb (.cells #[.int .u8 (op : Int), .int .u8 (a : Int), .int .u8 (b' : Int), .int .u8 (cc : Int), .int .i32 n, .int .u32 (m : Int)] 60)
      have hr2 := World.ownsRow.alloc hr (.cells #[.int .u8 (op : Int), .int .u8 (a : Int), .int .u8 (b' : Int), .int .u8 (cc : Int), .int .i32 n, .int .u32 (m : Int)] 60)
      have hz3 := hb3.size
      have hsn := sl_new (wr.alloc (.cells #[.int .u8 (op : Int), .int .u8 (a : Int), .int .u8 (b' : Int), .int .u8 (cc : Int), .int .i32 n, .int .u32 (m : Int)] 60)) (kv [⟨op, a, b', cc, n, m⟩]) 77
      rw [show (wr.alloc (.cells #[.int .u8 (op : Int), .int .u8 (a : Int), .int .u8 (b' : Int), .int .u8 (cc : Int), .int .i32 n, .int .u32 (m : Int)] 60)).heap.size = wr.heap.size + 1 by simp] at hsn
      go_wp2_with ((with_reducible refine at_ca 35 _ ?_); refine wpList_appK _ Tryd.underlying32 codeR_info rfl (.tmp 20) (.tmp 34) rfl w2.heap.size _ (M.take k) rfl (World.ownsRow.alloc hr2 _) _ (some ⟨_, 0, none⟩) 1 1 [⟨op, a, b', cc, n, m⟩] rfl hsn rfl (by rw [HL.out]; omega) (hb3.alloc hz3 _).size ?_; intro v' w4 hrow hmod hat)
      have hb4 := (hb3.alloc hz3 _).trans (below_ownK hmod (B := w2.heap.size) (hb3.alloc hz3 _).size (fun i h => (World.ownsRow.lt hr2 i h).1))
      go_roundw
      case rel => exact ⟨k + 1, by omega, by go_num, by rw [HT.out]; exact hrow, hb4⟩
      case measure => simp [intOf]; omega
    · obtain rfl : k = M.length := by omega
      rw [List.take_length] at hr
      go_wp2_with fail
      go_ret2
      exact ⟨_, _, rfl, by rw [← hpl] at *; exact RowK.ext HR2.out hb, owns_lowK hr hbw.size, hbw.trans (hb.mono hbw.size)⟩
end Go.Proofs.YtpgnihfjccpneaaDoor
