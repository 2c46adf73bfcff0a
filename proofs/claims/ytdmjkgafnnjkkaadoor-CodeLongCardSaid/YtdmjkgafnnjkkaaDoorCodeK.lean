/- Rows of instructions of the call's own; the law's few and own; the document's Check; Reals. Conditions: those said. -/
import Derived.Test.YtdmjkgafnnjkkaaDoorCodeRR
import Derived.Test.YtdmjkgafnnjkkaaDoorCodeW
import Derived.Test.YtdmjkgafnnjkkaaDoorAppend
import Derived.Test.YtdmjkgafnnjkkaaDoorI64
import Derived.Test.YtdmjkgafnnjkkaaDoorGate
namespace Go.Proofs.YtdmjkgafnnjkkaaDoor
open Go.RowKit

abbrev RowK (e : TypeId) (w : World) (B : Nat) (v : Value) (L : List Cd) : Prop := w.ownsRow B e 6 v L.length (kv L)
theorem owns_modK {w w' : World} {B n sz : Nat} {e : TypeId} {v : Value} {xs : List Value} (h : w.ownsRow B e sz v n xs) {S : Nat → Prop} (hm : Mod S w w') (hs : ∀ k, v.ownBlock = some k → ¬ S k) : w'.ownsRow B e sz v n xs := by
  refine ⟨h.1, ?_⟩
  rcases h.2 with h2 | ⟨g, cap, cur, rfl, hg, hh, r⟩
  · exact .inl h2
  · exact .inr ⟨g, cap, cur, rfl, hg, by rw [hm.block g (Array.getElem?_eq_some_iff.1 hh).1 (hs g rfl)]; exact hh, r⟩
namespace RowK
variable {e : TypeId} {w w' : World} {B : Nat} {v : Value} {L : List Cd}
theorem nil_ (e : TypeId) (w : World) (B : Nat) : RowK e w B (.slice none 0 0) [] := World.ownsRow_nil _ _ _ _
theorem ext (h : RowK e w B v L) (hm : Below w.heap.size w w') : RowK e w' B v L :=
  owns_modK h (Mod.of_below hm) fun k hk => by have := (World.ownsRow.lt h k hk).2; omega
theorem sl (h : RowK e w B v L) : ∃ A c b, v = .slice A L.length c ∧ L.length ≤ c ∧ c ≤ maxLen ∧ (A = none → L.length = 0) ∧ B ≤ b ∧ Sl w b A (kv L) ∧ (∀ k, v.ownBlock = some k → k = b) := by
  rcases h.2 with ⟨rfl, hn⟩ | ⟨g, cap, cur, rfl, hb, _, hnc, hcm, _⟩
  · have hl : L = [] := List.eq_nil_of_length_eq_zero hn
    subst hl
    exact ⟨none, 0, B, rfl, Nat.le_refl _, by simp [maxLen], fun _ => rfl, Nat.le_refl _, Sl.nil_ _ _ _, by simp [Value.ownBlock]⟩
  · refine ⟨_, cap, g, rfl, hnc, hcm, by simp, hb, fun _ => ⟨0, rfl, fun j u hu => ?_⟩, by simp [Value.ownBlock]⟩
    have := h.cells (g := g) rfl j u hu
    simpa [Addr.add_lit] using this
end RowK
theorem kv_one (l : List Cd) : ∀ u ∈ kv l, u.oneCell' = true := by
  intro u hu
  obtain ⟨c, _, hu⟩ := List.mem_flatMap.1 hu
  simp only [cdA, List.mem_cons, List.not_mem_nil, or_false] at hu
  rcases hu with rfl | rfl | rfl | rfl | rfl | rfl <;> rfl
theorem kv_take : ∀ (l : List Cd) (k : Nat), (kv l).take (k * 6) = kv (l.take k) := by
  intro l
  induction l with
  | nil => intro k; simp
  | cons c l ih =>
    intro k
    cases k with
    | zero => simp
    | succ k =>
      rw [kv_cons, show (k + 1) * 6 = (cdA c).toList.length + k * 6 by rw [cdA_len]; omega, List.take_length_add_append, ih, List.take_succ_cons, kv_cons]
theorem codeB_info : (Tryd.prog.info? 33).map (fun i => (i.zero, i.size, i.bytes)) = some (some (.agg #[.int .u8 0, .int .u8 0, .int .u8 0, .int .u8 0, .int .i32 0, .int .u32 0]), 6, 12) := by kernel_rfl
theorem codeR_info : (Tryd.prog.info? 55).map (fun i => (i.zero, i.size, i.bytes)) = some (some (.agg #[.int .u8 0, .int .u8 0, .int .u8 0, .int .u8 0, .int .i32 0, .int .u32 0]), 6, 12) := by kernel_rfl
section
variable (w : World)
theorem wpList_appK {t e : TypeId} (ht : Tryd.prog.underlying t = some (.slice e)) (hinf : (Tryd.prog.info? e).map (fun i => (i.zero, i.size, i.bytes)) = some (some (.agg #[.int .u8 0, .int .u8 0, .int .u8 0, .int .u8 0, .int .i32 0, .int .u32 0]), 6, 12)) {ops : Array Oper} {rest : List Oper} {o : Oper} {a : Act} {Q : Exit → Act → World → Prop} (hgd : o.guard = none) (s x : Operand)
    (ho : o.op = .call { callee := .builtin .append, args := #[s, x], argTypes := #[t, t] })
    (B : Nat) (v : Value) (L : List Cd) (hs : a.eval s = v) (hown : RowK e w B v L)
    (b : Nat) (A : Option Addr) (m c : Nat) (M : List Cd) (hx : a.eval x = .slice A m c) (hr : Sl w b A (kv M)) (hm : M.length = m)
    (hlen : L.length + m ≤ 1000000000000) (hbase : B ≤ w.heap.size)
    (h : ∀ v' w', RowK e w' B v' (L ++ M) → Mod (fun i => v.ownBlock = some i) w w' → (v'.ownBlock = v.ownBlock ∨ v'.ownBlock = some w.heap.size) → wpList Tryd.prog ops Q rest (a.put o.dst v') w') : wpList Tryd.prog ops Q (o :: rest) a w := by
  obtain ⟨i0, hi0, hz0, hz1, hz2⟩ := info_parts hinf
  refine wpList_append_sl (P := Tryd.prog) w hgd s x _ ho B e i0 _ 6 12 ht hi0 hz0 hz1 hz2 rfl (by omega) v L.length (kv L) hs hown b A m c (kv M) hx hr (by simp [hm]) (fun hA => by have := Sl.none_len hr rfl hA; simp at this; omega) (kv_one _)
    (by simp only [maxLen]; omega) (by omega) hbase ?_
  intro v' w' h1 h2 h3
  exact h v' w' (by unfold RowK; rw [List.length_append, hm, kv_append]; exact h1) (Mod.of_grown h2) h3
end
theorem below_ownK {w w' : World} {v : Value} {B : Nat} (h : Mod (fun i => v.ownBlock = some i) w w') (hB : B ≤ w.heap.size) (hv : ∀ k, v.ownBlock = some k → B ≤ k) : Below B w w' :=
  h.below hB fun i hi hk => by have := hv i hk; omega
theorem take_nextK {l : List Cd} {k : Nat} (h : k < l.length) : l.take (k + 1) = l.take k ++ [l[k]] := by rw [List.take_add_one, List.getElem?_eq_getElem h]; rfl
set_option maxHeartbeats 4000000 in
set_option maxRecDepth 20000 in
theorem Few_calls (A : Option Addr) (L : List Cd) (n c b : Nat) (w : World) (hs : Sl w b A (kv L)) (hn : L.length = n) (hnc : n ≤ c) :
    Calls Tryd.prog 11 #[.slice A n c] w fun e w' => ∃ v, e = .returned v ∧ RowK 33 w' w.heap.size v (L.take 110) ∧ Below w.heap.size w w' := by
  obtain ⟨K, hK⟩ : ∃ K, K = min n 110 := ⟨_, rfl⟩
  have hmin : (if (110 : Int) < (n : Int) then (110 : Int) else (n : Int)) = (K : Int) := by split <;> omega
  have hmin2 : min (n : Int) 110 = (K : Int) := by omega
  have hKc : (K : Int) ≤ (c : Int) := by omega
  have hlt : L.take 110 = L.take K := by
    rw [hK, ← hn, ← List.take_take]
    exact (List.take_of_length_le (by rw [List.length_take]; omega)).symm
  have hpl : (L.take K).length = K := by rw [List.length_take, hn]; omega
  have hsK : Sl (w.alloc (.cells #[] 33)) b A (kv (L.take K)) := by
    have h1 := Sl.take (hs.alloc (.cells #[] 33)) (K * 6)
    rwa [kv_take] at h1
  have ho0 : RowK 33 (w.alloc (.cells #[] 33)) w.heap.size (.slice (some ⟨w.heap.size, 0, none⟩) 0 0) [] := World.ownsRow_made w #[] 0 (Nat.le_refl _) (by simp [maxLen]) rfl
  rw [hlt]
  have hK48 : K ≤ 110 := by omega
  clear hK hn hs hlt
  go_enter Tryd.func11, Tryd.ntmps11
  go_wp2_with ((with_reducible refine at_ca 9 _ ?_); refine wpList_appK _ Tryd.underlying22 codeB_info rfl (.tmp 3) (.tmp 8) rfl w.heap.size (.slice (some ⟨w.heap.size, 0, none⟩) 0 0) [] rfl ho0 b A K c (L.take K) rfl hsK hpl (by simp; omega) (by simp) ?_; intro v2 w2 hrow2 hmod2 hown2)
  go_ret
  exact ⟨_, rfl, by rw [List.nil_append] at hrow2; exact hrow2, (below_alloc1 w _).trans (below_ownK hmod2 (by simp) (fun i h => by simp [Value.ownBlock] at h; omega))⟩
set_option maxHeartbeats 4000000 in
set_option maxRecDepth 20000 in
theorem Own_calls (A : Option Addr) (L : List Cd) (n c b : Nat) (w : World) (hs : Sl w b A (kv L)) (hn : L.length = n) (hm : n ≤ 1000000) :
    Calls Tryd.prog 14 #[.slice A n c] w fun e w' => ∃ v, e = .returned v ∧ RowK 55 w' w.heap.size v L ∧ Below w.heap.size w w' := by
  subst hn
  go_enter Tryd.func14, Tryd.ntmps14
  go_wp2_with fail
  go_loopw [3, 5, 8] (fun out p i wr => ∃ k : Nat, k ≤ L.length ∧ i = .int .i64 k ∧ RowK 55 wr w.heap.size out (L.take k) ∧ Below w.heap.size w wr) (fun _ _ i _ => L.length - (intOf i).toNat)
  case atStart => exact ⟨0, Nat.zero_le _, rfl, RowK.nil_ _ _ _, Below.refl _ _⟩
  case round =>
    obtain ⟨k, hk, rfl, hr, hb⟩ := hrel
    rename_i v0 _ _
    by_cases hlt : k < L.length
    · obtain ⟨off, rfl, h0, h1, h2, h3, h4, h5⟩ := sl_code (Sl.ext hs hb) hlt
      have hlen : (L.take k).length = k := by simp; omega
      have HT := Lib.hid (take_nextK hlt)
      obtain ⟨p, hp⟩ : ∃ p, p = L[k] := ⟨_, rfl⟩
      rw [← hp] at h0 h1 h2 h3 h4 h5 HT
      obtain ⟨op, a, b', cc, n, m⟩ := p
      simp only at h0 h1 h2 h3 h4 h5
      have HL := Lib.hid hlen
      have ej : (k : Int) < (L.length : Int) := by omega
      have hzb := hb.size
      clear hp hlen
      have hb3 := hb.alloc hzb (.cells #[.int .u8 (op : Int), .int .u8 (a : Int), .int .u8 (b' : Int), .int .u8 (cc : Int), .int .i32 n, .int .u32 (m : Int)] 33)
      have hr2 := World.ownsRow.alloc hr (.cells #[.int .u8 (op : Int), .int .u8 (a : Int), .int .u8 (b' : Int), .int .u8 (cc : Int), .int .i32 n, .int .u32 (m : Int)] 33)
      have hz3 := hb3.size
      have hsn := sl_new (wr.alloc (.cells #[.int .u8 (op : Int), .int .u8 (a : Int), .int .u8 (b' : Int), .int .u8 (cc : Int), .int .i32 n, .int .u32 (m : Int)] 33)) (kv [⟨op, a, b', cc, n, m⟩]) 55
      rw [show (wr.alloc (.cells #[.int .u8 (op : Int), .int .u8 (a : Int), .int .u8 (b' : Int), .int .u8 (cc : Int), .int .i32 n, .int .u32 (m : Int)] 33)).heap.size = wr.heap.size + 1 by simp] at hsn
      go_wp2_with ((with_reducible refine at_ca 27 _ ?_); refine wpList_appK _ Tryd.underlying28 codeR_info rfl (.tmp 12) (.tmp 26) rfl w.heap.size _ (L.take k) rfl (World.ownsRow.alloc hr2 _) _ (some ⟨_, 0, none⟩) 1 1 [⟨op, a, b', cc, n, m⟩] rfl hsn rfl (by rw [HL.out]; omega) (hb3.alloc hz3 _).size ?_; intro v' w4 hrow hmod hat)
      have hb4 := (hb3.alloc hz3 _).trans (below_ownK hmod (B := w.heap.size) (hb3.alloc hz3 _).size (fun i h => (World.ownsRow.lt hr2 i h).1))
      go_roundw
      case rel => exact ⟨k + 1, by omega, by go_num, by rw [HT.out]; exact hrow, hb4⟩
      case measure => simp [intOf]; omega
    · obtain rfl : k = L.length := by omega
      rw [List.take_length] at hr
      go_wp2_with fail
      go_ret
      exact ⟨_, rfl, hr, hb⟩
theorem Parts_out (op : Nat) (h26 : 26 ≤ op) (hop : op ≤ 255) (w : World) : Calls Tryd.prog 28 #[.int .u8 (op : Int)] w fun e w' => e = .returned (.tuple #[.string ⟨#[]⟩, .string ⟨#[]⟩]) ∧ Below w.heap.size w w' := by
  have e0 : IntKind.i64.wrap (op : Int) = (op : Int) := IntWalk.i64_in _ (by omega)
  have e1 : decide ((op : Int) ≥ 26) = true := by simp; omega
  go_enter Tryd.func28, Tryd.ntmps28
  go_wp2_with fail
  refine (Table_calls _).mono ?_
  rintro e w1 ⟨rfl, hk, hb⟩
  clear hk
  go_wp2
  go_ret2
  exact ⟨rfl, hb⟩
theorem RRight_out (op a b' cc : Nat) (n : Int) (m : Nat) (h26 : 26 ≤ op) (hop : op ≤ 255) (size cells players : Int) (w : World) :
    Calls Tryd.prog 31 #[.agg #[.int .u8 (op : Int), .int .u8 (a : Int), .int .u8 (b' : Int), .int .u8 (cc : Int), .int .i32 n, .int .u32 (m : Int)], .int .i64 size, .int .i64 cells, .int .i64 players] w fun e w' => e = .returned (.bool (fitsB ⟨op, a, b', cc, n, m⟩ cells (size + 1) players)) ∧ Below w.heap.size w w' := by
  have hf : fitsB ⟨op, a, b', cc, n, m⟩ cells (size + 1) players = false := by simp only [fitsB]; rw [decide_eq_false (by omega), Bool.false_and]
  rw [hf]
  have hb := below_alloc1 w (.cells #[.int .u8 (op : Int), .int .u8 (a : Int), .int .u8 (b' : Int), .int .u8 (cc : Int), .int .i32 n, .int .u32 (m : Int)] 55)
  clear hf
  go_enter Tryd.func31, Tryd.ntmps31
  go_wp2_with fail
  refine (Parts_out op h26 hop _).mono ?_
  rintro e w1 ⟨rfl, h9⟩
  have hb := hb.trans (h9.mono hb.size)
  clear h9
  go_wp2
  go_ret
  exact ⟨rfl, hb⟩
theorem RRight_calls (op a b' cc : Nat) (n : Int) (m : Nat) (hc : (Cd.mk op a b' cc n m).Ok) (size cells players : Int) (hs0 : 0 ≤ size) (hs1 : size ≤ 9223372036854775806) (hl0 : -9223372036854775808 ≤ cells) (hl1 : cells ≤ 9223372036854775807) (w : World) :
    Calls Tryd.prog 31 #[.agg #[.int .u8 (op : Int), .int .u8 (a : Int), .int .u8 (b' : Int), .int .u8 (cc : Int), .int .i32 n, .int .u32 (m : Int)], .int .i64 size, .int .i64 cells, .int .i64 players] w fun e w' => e = .returned (.bool (fitsB ⟨op, a, b', cc, n, m⟩ cells (size + 1) players)) ∧ Below w.heap.size w w' := by
  by_cases h : op < 26
  · exact RRight_in op a b' cc n m hc h size cells players hs0 hs1 hl0 hl1 w
  · exact RRight_out op a b' cc n m (by omega) hc.ho size cells players w
end Go.Proofs.YtdmjkgafnnjkkaaDoor
