/- Parts of one proof, in their order. -/
import Derived.Test.YtdijgidlachnjaaDoorZVmBase06
import Derived.Deep.DeepCutAuto
import Derived.Test.YtdijgidlachnjaaDoorRows
/- What a run keeps: cells that were not touched; values, where nothing is stored. Conditions: the instructions may be; the numbers fit. -/
namespace Go.Proofs.YtdijgidlachnjaaDoor
open Go.RowKit

/-- Does it store? -/
def stores (c : Cd) : Bool := c.op == 3 || (c.op == 5 || c.op == 24)
structure Keep (L0 : List (Int × Nat)) (quiet : Prop) (s : VS) : Prop where
  still : ∀ i, s.t.testBit i = false → s.cl i = L0.getD i (0, 0)
  same : quiet → ∀ i, (s.cl i).1 = (L0.getD i (0, 0)).1 ∧ ∀ j, j < 32 → (L0.getD i (0, 0)).2.testBit j = true → (s.cl i).2.testBit j = true
namespace Keep
variable {L0 : List (Int × Nat)} {quiet : Prop} {s : VS}
theorem put (h : Keep L0 quiet s) (i : Nat) (r : Int × Nat) (hq : quiet → i < s.L.length → r.1 = (s.cl i).1 ∧ ∀ j, j < 32 → (s.cl i).2.testBit j = true → r.2.testBit j = true) : Keep L0 quiet (s.put i r) := by
  have hcl : ∀ k, (s.put i r).cl k = if k = i ∧ i < s.L.length then r else s.cl k := fun k => by
    unfold VS.put VS.cl
    simp only [List.getD, List.getElem?_set]
    by_cases e : i = k
    · subst e
      by_cases hl : i < s.L.length
      · rw [if_pos rfl, if_pos hl, if_pos ⟨rfl, hl⟩]; rfl
      · rw [if_pos rfl, if_neg hl, if_neg (by omega), List.getElem?_eq_none (by omega)]
    · rw [if_neg e, if_neg (by omega)]
  refine ⟨fun k hk => ?_, fun hqq k => ?_⟩
  · have hk : (s.t ||| 2 ^ i).testBit k = false := hk
    rw [Nat.testBit_or, Bool.or_eq_false_iff, Nat.testBit_two_pow] at hk
    rw [hcl, if_neg (by have := hk.2; simp at this; omega)]
    exact h.still k hk.1
  · rw [hcl]
    by_cases e : k = i ∧ i < s.L.length
    · rw [if_pos e]
      obtain ⟨rfl, hl⟩ := e
      obtain ⟨h1, h2⟩ := hq hqq hl
      obtain ⟨h3, h4⟩ := h.same hqq k
      exact ⟨h1.trans h3, fun j hj hb => h2 j hj (h4 j hj hb)⟩
    · rw [if_neg e]; exact h.same hqq k
theorem puts : ∀ {l : List Int} {s : VS} {i : Nat}, Keep L0 quiet s → ¬ quiet → Keep L0 quiet (s.puts i l)
  | [], _, _, h, _ => h
  | x :: _, s, i, h, hn => puts (s := s.put i (x, 0)) (i := i + 1) (h.put i (x, 0) (fun hq => absurd hq hn)) hn
end Keep
theorem follow_keep (comp : Nat → Int → Int → Int) (P : VP) {L0 : List (Int × Nat)} {quiet : Prop} {s : VS} (h : Keep L0 quiet s) (c : Cd) (hq : quiet → stores c = false) : Keep L0 quiet (followV comp P s c) := by
  have hc : ∀ z : VS, z.L = s.L → z.t = s.t → Keep L0 quiet z := fun z h1 h2 => ⟨fun i hi => by have := h.still i (by rw [← h2]; exact hi); unfold VS.cl at this ⊢; rw [h1]; exact this, fun hqq i => by have := h.same hqq i; unfold VS.cl at this ⊢; rw [h1]; exact this⟩
  have hn : ∀ k, c.op = k → (k = 3 ∨ k = 5 ∨ k = 24) → ¬ quiet := fun k e hk hqq => by
    have := hq hqq
    unfold stores at this
    rw [e] at this
    rcases hk with rfl | rfl | rfl <;> simp at this
  refine follow_elim comp P (C := fun z => Keep L0 quiet z) s c (fun _ => hc _ rfl rfl) (fun _ => hc _ rfl rfl) (fun _ => hc _ rfl rfl) (fun _ => hc _ rfl rfl) (fun e => h.put _ _ (fun hqq => absurd hqq (hn 3 e (.inl rfl)))) (fun _ _ => hc _ rfl rfl) (fun e _ => h.put _ _ (fun hqq => absurd hqq (hn 5 e (.inr (.inl rfl))))) (fun _ _ => hc _ rfl rfl) (fun _ => hc _ rfl rfl) (fun _ _ _ => hc _ rfl rfl) (fun _ _ _ => h) (fun _ _ => hc _ rfl rfl) (fun _ => hc _ rfl rfl) (fun _ => hc _ rfl rfl) (fun _ _ => ?_) (fun _ => hc _ rfl rfl) (fun e => ?_) (fun _ => hc _ rfl rfl)
  · have h2 := h.put (s.place P.al c).2 ((s.cl (s.place P.al c).2).1, (s.cl (s.place P.al c).2).2 ||| (c.m &&& P.al)) (fun _ _ => ⟨rfl, fun j _ hb => by rw [Nat.testBit_or, hb]; rfl⟩)
    exact ⟨h2.still, h2.same⟩
  · unfold shufV
    exact Keep.puts (s := { s with d := (shufN (c.c - 1) s.d (((s.L.drop c.n.toNat).take c.c).map Prod.fst)).2 }) ⟨h.still, h.same⟩ (hn 24 e (.inr (.inr rfl)))
theorem run_keep (comp : Nat → Int → Int → Int) (P : VP) {L0 : List (Int × Nat)} {quiet : Prop} (hq : quiet → ∀ c ∈ P.code, stores c = false) : ∀ (k : Nat) {s : VS}, Keep L0 quiet s → Keep L0 quiet (runV comp P k s)
  | 0, _, h => h
  | k + 1, s, h => by
    unfold runV
    by_cases h1 : s.nx < P.code.length ∧ s.e = 0
    · rw [if_pos h1]
      by_cases h2 : s.u = 400
      · rw [if_pos h2]; exact ⟨h.still, h.same⟩
      · rw [if_neg h2]
        refine run_keep comp P hq k ?_
        unfold stepV
        rw [codeAt_in P h1.1]
        exact follow_keep comp P (s := { s with nx := s.nx + 1, u := s.u + 1 }) ⟨h.still, h.same⟩ _ (fun hqq => hq hqq _ (List.getElem_mem h1.1))
    · rw [if_neg h1]; exact h
theorem run_tok (comp : Nat → Int → Int → Int) (P : VP) {N : Nat} (hP : POk comp P N) : ∀ (k : Nat) {s : VS}, TOk s N → TOk (runV comp P k s) N
  | 0, _, h => h
  | k + 1, s, h => by
    unfold runV
    by_cases h1 : s.nx < P.code.length ∧ s.e = 0
    · rw [if_pos h1]
      by_cases h2 : s.u = 400
      · rw [if_pos h2]; exact ⟨{ h.l with }, h.u, h.sh, h.nx⟩
      · rw [if_neg h2]
        exact run_tok comp P hP k (step_ok comp P hP h h1.1 (by have := h.u; omega))
    · rw [if_neg h1]; exact h
/-- What a whole run keeps. -/
theorem whole_keep {comp : Nat → Int → Int → Int} {P : VP} {L : List (Int × Nat)} {d : Nat} (hcf : CompFit comp) (hal : P.al < 4294967296) (hmvf : ∀ x ∈ P.mv, -2147483648 ≤ x ∧ x ≤ 2147483647) (hok : okK P.code) (hL : okC L) :
    (wholeV comp P L d).u ≤ 400 ∧ (wholeV comp P L d).L.length = L.length ∧ (wholeV comp P L d).t < 2 ^ L.length ∧ okC (wholeV comp P L d).L ∧
    ((wholeV comp P L d).e ≠ 0 → (wholeV comp P L d).L = L ∧ (wholeV comp P L d).d = d ∧ (wholeV comp P L d).t = 0) ∧
    Keep L (∀ c ∈ P.code, stores c = false) (wholeV comp P L d) := by
  have hS : Keep L (∀ c ∈ P.code, stores c = false) (startV P L d) := ⟨fun _ _ => rfl, fun _ _ => ⟨rfl, fun _ _ h => h⟩⟩
  by_cases hck : (checkV P.code L.length P.mv.length).2 = true
  · have hcp := check_parts hck
    have hP : POk comp P L.length := ⟨hcf, hal, hmvf, hcp.1, fun c hc => ⟨hok c hc, hcp.2 c hc⟩⟩
    have ht := run_tok comp P hP 402 (s := startV P L d) ⟨start_ok d hL hal, Nat.zero_le _, Nat.le_refl _, Nat.zero_le _⟩
    have hk := run_keep comp P (quiet := ∀ c ∈ P.code, stores c = false) (fun h => h) 402 hS
    have e1 : wholeV comp P L d = endV L d (runV comp P 402 (startV P L d)) := if_pos hck
    rw [e1]
    generalize runV comp P 402 (startV P L d) = z at *
    unfold endV
    by_cases he : z.e = 0
    · rw [if_pos he]
      exact ⟨ht.u, ht.l.L, ht.l.t, ht.l.okL, fun h => absurd he h, hk⟩
    · rw [if_neg he]
      exact ⟨ht.u, rfl, Nat.two_pow_pos _, hL, fun _ => ⟨rfl, rfl, rfl⟩, ⟨fun _ _ => rfl, fun _ _ => ⟨rfl, fun _ _ h => h⟩⟩⟩
  · have e1 : wholeV comp P L d = { startV P L d with e := 2 } := if_neg hck
    rw [e1]
    exact ⟨Nat.zero_le _, rfl, Nat.two_pow_pos _, hL, fun _ => ⟨rfl, rfl, rfl⟩, ⟨fun _ _ => rfl, fun _ _ => ⟨rfl, fun _ _ h => h⟩⟩⟩
end Go.Proofs.YtdijgidlachnjaaDoor
/- A list of cells whose labels are met with one mask; a row's label that is written. No condition. -/
namespace Go.Proofs.YtdijgidlachnjaaDoor
open Go.RowKit

/-- The first k cells, their labels met with al. -/
def mts (al : Nat) (M : List (Int × Nat)) (k : Nat) : List (Int × Nat) := M.mapIdx fun j c => if j < k then (c.1, c.2 &&& al) else c
section
variable {al : Nat} {M : List (Int × Nat)} {k : Nat}
@[simp] theorem mts_length (al : Nat) (M : List (Int × Nat)) (k : Nat) : (mts al M k).length = M.length := by simp [mts]
theorem mts_zero (al : Nat) (M : List (Int × Nat)) : mts al M 0 = M := by
  apply List.ext_getElem (by simp)
  intro j h1 h2
  simp [mts]
theorem mts_at {j : Nat} (h : j < M.length) (hk : k ≤ j) : (mts al M k)[j]'(by simpa using h) = M[j] := by
  simp [mts, Nat.not_lt.2 hk]
theorem mts_set (h : k < M.length) : (mts al M k).set k (M[k].1, M[k].2 &&& al) = mts al M (k + 1) := by
  apply List.ext_getElem (by simp)
  intro j h1 h2
  rw [List.getElem_set]
  by_cases e : k = j
  · subst e
    simp [mts]
  · rw [if_neg e]
    simp only [mts, List.getElem_mapIdx]
    have : j < k + 1 ↔ j < k := by omega
    simp only [this]
theorem mts_ok (k : Nat) (hok : okC M) : okC (mts al M k) := by
  intro c hc
  obtain ⟨j, hj, rfl⟩ := List.getElem_of_mem hc
  have hj' : j < M.length := by simpa using hj
  simp only [mts, List.getElem_mapIdx]
  have h := okC_get hok hj'
  split
  · exact ⟨h.1, Nat.lt_of_le_of_lt Nat.and_le_left h.2⟩
  · exact h
end
theorem RowC.set_lab {e : TypeId} {w : World} {B : Nat} {v : Value} {L : List (Int × Nat)} (h : RowC e w B v L) {k : Nat} (hk : k < L.length) :
    ∃ g cap, v = .slice (some ⟨g, 0, none⟩) L.length cap ∧ B ≤ g ∧ g < w.heap.size ∧ L.length ≤ cap ∧ w.cell? ⟨g, k * 2 + 1, none⟩ = some (.int .u32 ((L[k].2 : Nat) : Int)) ∧ (∀ j, w.frozen? ⟨g, j, none⟩ = false) ∧
      (∀ (y : Nat) w', w'.heap[g]? = (w.setCell ⟨g, k * 2 + 1, none⟩ (.int .u32 ((y : Nat) : Int))).heap[g]? → RowC e w' B v (L.set k (L[k].1, y))) := by
  rcases h.2 with ⟨_, hn⟩ | ⟨g, cap, cur, hv, hg, hh, hnc, hcm, hcs, hct⟩
  · omega
  · have hcell : ∀ j u, (cv L)[j]? = some u → w.cell? ⟨g, j, none⟩ = some u := fun j u hu => by
      rw [cell_of_row w g j _ _ _ hh]
      rw [← hct, List.getElem?_take] at hu
      split at hu
      · simpa using hu
      · cases hu
    have s1 : ∀ y : Nat, (cv L).set (k * 2 + 1) (.int .u32 ((y : Nat) : Int)) = cv (L.set k (L[k].1, y)) := fun y => by
      clear hcell hct hh hv h hnc
      induction L generalizing k with
      | nil => simp at hk
      | cons c L ih => cases k with
        | zero => rfl
        | succ k =>
          have := ih (by simpa using hk)
          rw [cv_cons, show (k + 1) * 2 + 1 = k * 2 + 1 + 1 + 1 by omega, List.set_cons_succ, List.set_cons_succ, this]
          rfl
    refine ⟨g, cap, hv, hg, (Array.getElem?_eq_some_iff.1 hh).1, hnc, hcell _ _ (cv_lab hk), fun j => frozen_of_row w g j _ _ hh, fun y w' hw => ?_⟩
    rw [heap_setCell_same w g _ cur _ _ hh] at hw
    refine ⟨by simp, .inr ⟨g, cap, _, by rw [hv, List.length_set], hg, hw, by simp; omega, hcm, by simpa using hcs, ?_⟩⟩
    rw [Array.toList_setIfInBounds, List.length_set, List.take_set, hct, s1]
theorem at_mk {P : Program} {ops : Array Oper} {rest : List Oper} {a : Act} {w : World} {Q : Exit → Act → World → Prop} {d : Option Tmp} {ty : TypeId} {pos : String} {af : Array Edge} {g : Option (Nat × Bool)} (T : TypeId) (x y : Tmp) (h : wpList P ops Q (Oper.mk d (.makeSlice T (.tmp x) (.tmp y)) ty pos af g :: rest) a w) : wpList P ops Q (Oper.mk d (.makeSlice T (.tmp x) (.tmp y)) ty pos af g :: rest) a w := h
theorem made_i32 (n : Nat) : (madeCells (Value.int .i32 0).cells (n * 1)).toList = iv (List.replicate n 0) := by
  apply List.ext_getElem (by simp [madeCells])
  intro j h1 h2
  simp [madeCells, Value.cells, iv]
  rw [Nat.mod_one]
  rfl
theorem sl_at {w : World} {b off k : Nat} {xs : List Value} {u : Value} (h : Sl w b (some ⟨b, off, none⟩) xs) (hu : xs[k]? = some u) : w.cell? ⟨b, off + k, none⟩ = some u := by
  obtain ⟨o, e, hc⟩ := h (by rintro rfl; simp at hu)
  injection e with e
  injection e with _ e
  rw [e]
  exact hc k u hu
theorem rowS_sl {w : World} {B : Nat} {v : Value} {l : List (Nat × Nat × Int)} (h : RowS w B v l) : ∃ A c b, v = .slice A l.length c ∧ l.length ≤ c ∧ c ≤ 9223372036854775807 ∧ Sl w b A (sv l) := by
  rcases h.2 with ⟨rfl, hn⟩ | ⟨g, cap, cur, rfl, hb, _, hnc, hcm, _⟩
  · have hl : l = [] := List.eq_nil_of_length_eq_zero hn
    subst hl
    exact ⟨none, 0, B, rfl, Nat.le_refl _, by decide, Sl.nil_ _ _ _⟩
  · refine ⟨_, cap, g, rfl, hnc, by simp only [maxLen] at hcm; omega, fun _ => ⟨0, rfl, fun j u hu => ?_⟩⟩
    have := h.cells (g := g) rfl j u hu
    simpa [Addr.add_lit] using this
theorem sv_get : ∀ {l : List (Nat × Nat × Int)} {k : Nat} (h : k < l.length), (sv l)[k * 3]? = some (.int .i64 (l[k].1 : Int)) ∧ (sv l)[k * 3 + 1]? = some (.int .u32 (l[k].2.1 : Int)) ∧ (sv l)[k * 3 + 2]? = some (.int .i32 l[k].2.2)
  | x :: l, 0, _ => ⟨rfl, rfl, rfl⟩
  | x :: l, k + 1, h => by
    have := sv_get (l := l) (k := k) (by simpa using h)
    rw [show sv (x :: l) = [Value.int .i64 (x.1 : Int), Value.int .u32 (x.2.1 : Int), Value.int .i32 x.2.2] ++ sv l by simp [sv]]
    rw [show (k + 1) * 3 = 3 + k * 3 by omega, show 3 + k * 3 + 1 = 3 + (k * 3 + 1) by omega, show 3 + k * 3 + 2 = 3 + (k * 3 + 2) by omega]
    rw [List.getElem?_append_right (by simp), List.getElem?_append_right (by simp), List.getElem?_append_right (by simp)]
    simpa using this
theorem mine_in {p : Nat} {Q : List Int} (h : p < Q.length) : (List.replicate Q.length (0 : Int)).set p Q[p] = mine p Q := by
  unfold mine
  rw [if_pos h]
  simp [List.getD, h]
theorem mine_out {p : Nat} {Q : List Int} (h : ¬ p < Q.length) : List.replicate Q.length (0 : Int) = mine p Q := by
  unfold mine
  rw [if_neg h]
theorem own_is {w : World} {B n c g : Nat} {e : TypeId} {xs : List Value} (h : w.ownsRow B e 1 (.slice (some ⟨g, 0, none⟩) n c) n xs) : Sl w g (some ⟨g, 0, none⟩) xs := fun _ => ⟨0, rfl, fun j u hu => by
  have := h.cells (g := g) rfl j u hu
  simpa [Addr.add_lit] using this⟩
/-- To whom something is shown is a mask. -/
theorem follow_shok (comp : Nat → Int → Int → Int) (P : VP) (hal : P.al < 4294967296) (s : VS) (c : Cd) (h : ∀ x ∈ s.sh, x.2.1 < 4294967296) : ∀ x ∈ (followV comp P s c).sh, x.2.1 < 4294967296 := by
  refine follow_elim comp P (C := fun z => ∀ x ∈ z.sh, x.2.1 < 4294967296) s c (fun _ => h) (fun _ => h) (fun _ => h) (fun _ => h) (fun _ => h) (fun _ _ => h) (fun _ _ => h) (fun _ _ => h) (fun _ => h) (fun _ _ _ => h) (fun _ _ _ => h) (fun _ _ => h) (fun _ => h) (fun _ => h) (fun _ _ => ?_) (fun _ => h) (fun _ => by unfold shufV; rw [puts_sh]; exact h) (fun _ => h)
  unfold VS.reveal
  intro x hx
  have hx : x ∈ (if lessN (c.m &&& P.al) (s.cl (s.place P.al c).2).2 = 0 then s.sh else s.sh ++ [((s.place P.al c).2, lessN (c.m &&& P.al) (s.cl (s.place P.al c).2).2, (s.cl (s.place P.al c).2).1)]) := hx
  split at hx
  · exact h x hx
  · rcases List.mem_append.1 hx with hx | hx
    · exact h x hx
    · rw [List.mem_singleton.1 hx]
      exact lessN_lt _ (Nat.lt_of_le_of_lt Nat.and_le_right hal)
theorem run_shok (comp : Nat → Int → Int → Int) (P : VP) (hal : P.al < 4294967296) : ∀ (k : Nat) (s : VS), (∀ x ∈ s.sh, x.2.1 < 4294967296) → ∀ x ∈ (runV comp P k s).sh, x.2.1 < 4294967296
  | 0, _, h => h
  | k + 1, s, h => by
    unfold runV
    by_cases h1 : s.nx < P.code.length ∧ s.e = 0
    · rw [if_pos h1]
      by_cases h2 : s.u = 400
      · rw [if_pos h2]; exact h
      · rw [if_neg h2]
        exact run_shok comp P hal k _ (follow_shok comp P hal { s with nx := s.nx + 1, u := s.u + 1 } _ h)
    · rw [if_neg h1]; exact h
theorem whole_shok (comp : Nat → Int → Int → Int) (P : VP) (hal : P.al < 4294967296) (L : List (Int × Nat)) (d : Nat) : ∀ x ∈ (wholeV comp P L d).sh, x.2.1 < 4294967296 := by
  have h0 : ∀ x ∈ (startV P L d).sh, x.2.1 < 4294967296 := fun x hx => (by cases hx)
  unfold wholeV
  split
  · unfold endV
    have e := run_shok comp P hal 402 (startV P L d) h0
    split <;> exact e
  · exact h0
theorem sees_of (m : Nat) {p : Nat} (hp : p < 32) : decide (m &&& aloneN (p : Int) ≠ 0) = m.testBit p := hasM_bit hp
/-- What comes of a run has as many cells. -/
theorem whole_len {P : VP} {L : List (Int × Nat)} {d : Nat} (hal : P.al < 4294967296) (hmv : ∀ x ∈ P.mv, -2147483648 ≤ x ∧ x ≤ 2147483647) (hok : okK P.code) (hL : okC L) : (wholeV compN P L d).L.length = L.length ∧ okC (wholeV compN P L d).L := by
  obtain ⟨-, h1, -, h2, -⟩ := whole_keep (comp := compN) (P := P) (L := L) (d := d) comp_fit hal hmv hok hL
  exact ⟨h1, h2⟩
end Go.Proofs.YtdijgidlachnjaaDoor
/- The document's table of operations, its Parts, has, Right. Conditions: the numbers fit. -/
namespace Go.Proofs.YtdijgidlachnjaaDoor
open Go.RowKit

def rowT : List (List UInt8) := [[115, 116, 111, 112, 32], [115, 101, 116, 32, 65, 110], [108, 111, 97, 100, 32, 65, 99], [115, 116, 111, 114, 101, 32, 65, 99], [108, 111, 97, 100, 97, 116, 32, 65, 66, 99], [115, 116, 111, 114, 101, 97, 116, 32, 65, 66, 99], [97, 100, 100, 32, 65, 66, 67], [115, 117, 98, 32, 65, 66, 67], [109, 117, 108, 32, 65, 66, 67], [100, 105, 118, 32, 65, 66, 67], [109, 111, 100, 32, 65, 66, 67], [97, 110, 100, 32, 65, 66, 67], [111, 114, 32, 65, 66, 67], [120, 111, 114, 32, 65, 66, 67], [115, 104, 108, 32, 65, 66, 67], [115, 104, 114, 32, 65, 66, 67], [108, 101, 115, 115, 32, 65, 66, 67], [101, 113, 117, 97, 108, 32, 65, 66, 67], [115, 101, 108, 101, 99, 116, 32, 65, 66, 67], [98, 114, 97, 110, 99, 104, 32, 65, 112], [106, 117, 109, 112, 32, 112], [109, 111, 118, 101, 32, 65, 109], [114, 101, 118, 101, 97, 108, 32, 66, 99, 75], [114, 111, 108, 108, 32, 65, 115], [115, 104, 117, 102, 102, 108, 101, 32, 114], [99, 108, 111, 99, 107, 32, 65]]
def rowAt (j : Nat) : List UInt8 := rowT.getD j []
def letAt (j : Nat) : List UInt8 := (rowAt j).drop ((wordAt j).length + 1)
theorem rowT_parts : ∀ j : Fin 26, rowAt j.val = wordAt j.val ++ 32 :: letAt j.val ∧ (wordAt j.val).contains 32 = false := by decide +kernel
set_option maxRecDepth 20000 in
theorem Table_calls (w : World) : Calls Tryd.prog 51 #[] w fun e w' => e = .returned (.slice (some ⟨w.heap.size, 0, none⟩) 26 26) ∧ w'.heap[w.heap.size]? = some (.cells (rowT.map fun r => .string ⟨r.toArray⟩).toArray 9 (0, 0)) ∧ Below w.heap.size w w' := by
  have hk := heap_alloc_new w (.cells #[.string ⟨#[115, 116, 111, 112, 32]⟩, .string ⟨#[115, 101, 116, 32, 65, 110]⟩, .string ⟨#[108, 111, 97, 100, 32, 65, 99]⟩, .string ⟨#[115, 116, 111, 114, 101, 32, 65, 99]⟩, .string ⟨#[108, 111, 97, 100, 97, 116, 32, 65, 66, 99]⟩, .string ⟨#[115, 116, 111, 114, 101, 97, 116, 32, 65, 66, 99]⟩, .string ⟨#[97, 100, 100, 32, 65, 66, 67]⟩, .string ⟨#[115, 117, 98, 32, 65, 66, 67]⟩, .string ⟨#[109, 117, 108, 32, 65, 66, 67]⟩, .string ⟨#[100, 105, 118, 32, 65, 66, 67]⟩, .string ⟨#[109, 111, 100, 32, 65, 66, 67]⟩, .string ⟨#[97, 110, 100, 32, 65, 66, 67]⟩, .string ⟨#[111, 114, 32, 65, 66, 67]⟩, .string ⟨#[120, 111, 114, 32, 65, 66, 67]⟩, .string ⟨#[115, 104, 108, 32, 65, 66, 67]⟩, .string ⟨#[115, 104, 114, 32, 65, 66, 67]⟩, .string ⟨#[108, 101, 115, 115, 32, 65, 66, 67]⟩, .string ⟨#[101, 113, 117, 97, 108, 32, 65, 66, 67]⟩, .string ⟨#[115, 101, 108, 101, 99, 116, 32, 65, 66, 67]⟩, .string ⟨#[98, 114, 97, 110, 99, 104, 32, 65, 112]⟩, .string ⟨#[106, 117, 109, 112, 32, 112]⟩, .string ⟨#[109, 111, 118, 101, 32, 65, 109]⟩, .string ⟨#[114, 101, 118, 101, 97, 108, 32, 66, 99, 75]⟩, .string ⟨#[114, 111, 108, 108, 32, 65, 115]⟩, .string ⟨#[115, 104, 117, 102, 102, 108, 101, 32, 114]⟩, .string ⟨#[99, 108, 111, 99, 107, 32, 65]⟩] 9)
  have hb := below_alloc1 w (.cells #[.string ⟨#[115, 116, 111, 112, 32]⟩, .string ⟨#[115, 101, 116, 32, 65, 110]⟩, .string ⟨#[108, 111, 97, 100, 32, 65, 99]⟩, .string ⟨#[115, 116, 111, 114, 101, 32, 65, 99]⟩, .string ⟨#[108, 111, 97, 100, 97, 116, 32, 65, 66, 99]⟩, .string ⟨#[115, 116, 111, 114, 101, 97, 116, 32, 65, 66, 99]⟩, .string ⟨#[97, 100, 100, 32, 65, 66, 67]⟩, .string ⟨#[115, 117, 98, 32, 65, 66, 67]⟩, .string ⟨#[109, 117, 108, 32, 65, 66, 67]⟩, .string ⟨#[100, 105, 118, 32, 65, 66, 67]⟩, .string ⟨#[109, 111, 100, 32, 65, 66, 67]⟩, .string ⟨#[97, 110, 100, 32, 65, 66, 67]⟩, .string ⟨#[111, 114, 32, 65, 66, 67]⟩, .string ⟨#[120, 111, 114, 32, 65, 66, 67]⟩, .string ⟨#[115, 104, 108, 32, 65, 66, 67]⟩, .string ⟨#[115, 104, 114, 32, 65, 66, 67]⟩, .string ⟨#[108, 101, 115, 115, 32, 65, 66, 67]⟩, .string ⟨#[101, 113, 117, 97, 108, 32, 65, 66, 67]⟩, .string ⟨#[115, 101, 108, 101, 99, 116, 32, 65, 66, 67]⟩, .string ⟨#[98, 114, 97, 110, 99, 104, 32, 65, 112]⟩, .string ⟨#[106, 117, 109, 112, 32, 112]⟩, .string ⟨#[109, 111, 118, 101, 32, 65, 109]⟩, .string ⟨#[114, 101, 118, 101, 97, 108, 32, 66, 99, 75]⟩, .string ⟨#[114, 111, 108, 108, 32, 65, 115]⟩, .string ⟨#[115, 104, 117, 102, 102, 108, 101, 32, 114]⟩, .string ⟨#[99, 108, 111, 99, 107, 32, 65]⟩] 9)
  go_enter Tryd.func51, Tryd.ntmps51
  go_wp2
  go_ret
  exact ⟨rfl, hk, hb⟩
theorem contains_at {l : List UInt8} (h : l.contains 32 = false) {k : Nat} (hk : k < l.length) : l[k].toNat ≠ 32 := fun e => by
  have h1 : l[k] = 32 := by apply UInt8.toNat.inj; simpa using e
  rw [List.contains_eq_mem, decide_eq_false_iff_not] at h
  exact h (h1 ▸ List.getElem_mem hk)
set_option maxRecDepth 20000 in
theorem has_calls (s : List UInt8) (c : Nat) (hc : c ≤ 255) (hs : s.length ≤ 1000) (w : World) : Calls Tryd.prog 44 #[.string ⟨s.toArray⟩, .int .u8 (c : Int)] w fun e w' => e = .returned (.bool (s.contains (UInt8.ofNat c))) ∧ w' = w := by
  obtain ⟨d, hd⟩ : ∃ d, d = s.contains (UInt8.ofNat c) := ⟨_, rfl⟩
  rw [← hd]
  have HD := Lib.hid hd
  clear hd
  go_enter Tryd.func44, Tryd.ntmps44
  go_wp2_with fail
  go_loop [5] (fun i => ∃ k : Nat, k ≤ s.length ∧ i = .int .i64 k ∧ ∀ j (_ : j < k) (hj : j < s.length), s[j].toNat ≠ c) (fun i => s.length - (intOf i).toNat)
  case atStart => exact ⟨0, Nat.zero_le _, rfl, fun j hj => by omega⟩
  case round =>
    obtain ⟨k, hk, rfl, hall⟩ := hrel
    have HA := Lib.hid hall
    clear hall
    by_cases hlt : k < s.length
    · have ej : (k : Int) < (s.length : Int) := by omega
      have hlb : k < (⟨s.toArray⟩ : ByteArray).size := by simpa [ByteArray.size] using hlt
      obtain ⟨x, hx⟩ : ∃ x : Nat, x = s[k].toNat := ⟨_, rfl⟩
      by_cases hxc : x = c
      · have ex : (((((⟨s.toArray⟩ : ByteArray)[k]'hlb).toNat : Nat) : Int) == (c : Int)) = true := by rw [beq_iff_eq]; show ((s[k].toNat : Int)) = c; omega
        have hr : s.contains (UInt8.ofNat c) = true := by
          rw [List.contains_eq_mem, decide_eq_true_iff]
          have h1 : s[k] = UInt8.ofNat c := by rw [← hxc, hx]; simp
          exact h1 ▸ List.getElem_mem hlt
        rw [← HD.out] at hr
        subst hr
        clear hx
        go_wp2
        go_ret
        exact ⟨rfl, rfl⟩
      · have ex : (((((⟨s.toArray⟩ : ByteArray)[k]'hlb).toNat : Nat) : Int) == (c : Int)) = false := by rw [beq_eq_false_iff_ne]; show ((s[k].toNat : Int)) ≠ c; omega
        have hne : s[k].toNat ≠ c := by omega
        have HN := Lib.hid hne
        clear hx hne
        go_wp2
        go_round
        case rel =>
          refine ⟨k + 1, by omega, by go_num, fun j hj hj2 => ?_⟩
          rcases Nat.lt_or_ge j k with h1 | h1
          · exact HA.out j h1 hj2
          · obtain rfl : j = k := by omega
            exact HN.out
        case measure => simp [intOf]; omega
    · obtain rfl : k = s.length := by omega
      have hr : s.contains (UInt8.ofNat c) = false := by
        rw [List.contains_eq_mem, decide_eq_false_iff_not]
        intro hm
        obtain ⟨j, hj, he⟩ := List.getElem_of_mem hm
        have h1 := HA.out j hj hj
        rw [he] at h1
        apply h1
        simp [UInt8.toNat_ofNat']
        omega
      rw [← HD.out] at hr
      subst hr
      go_wp2
      go_ret
      exact ⟨rfl, rfl⟩
theorem ba_extract (l : List UInt8) (i j : Nat) : (⟨l.toArray⟩ : ByteArray).extract i j = ⟨((l.drop i).take (j - i)).toArray⟩ := by
  apply ByteArray.ext
  rw [ByteArray.data_extract]
  apply Array.ext'
  simp [List.extract]
theorem row_len : ∀ j : Fin 26, (rowAt j.val).length ≤ 14 ∧ (letAt j.val).length ≤ 5 ∧ (wordAt j.val).length ≤ 7 := by decide +kernel
set_option maxRecDepth 20000 in
theorem Parts_in (op : Nat) (h26 : op < 26) (w : World) : Calls Tryd.prog 43 #[.int .u8 (op : Int)] w fun e w' => e = .returned (.tuple #[.string ⟨(wordAt op).toArray⟩, .string ⟨(letAt op).toArray⟩]) ∧ Below w.heap.size w w' := by
  obtain ⟨hrow, hno⟩ := rowT_parts ⟨op, h26⟩
  obtain ⟨hl, -, -⟩ := row_len ⟨op, h26⟩
  simp only at hrow hno hl
  have hcell : ∀ W : World, W.heap[w.heap.size]? = some (.cells (rowT.map fun r => .string ⟨r.toArray⟩).toArray 9 (0, 0)) → W.cell? ⟨w.heap.size, op, none⟩ = some (.string ⟨(rowAt op).toArray⟩) := fun W h => by
    rw [cell_of_row W _ op _ _ _ h]
    have : op < rowT.length := h26
    simp [rowAt, List.getD, this]
  obtain ⟨r, hr⟩ : ∃ r, r = rowAt op := ⟨_, rfl⟩
  obtain ⟨sw, hsw⟩ : ∃ s, s = wordAt op := ⟨_, rfl⟩
  obtain ⟨su, hsu⟩ : ∃ s, s = letAt op := ⟨_, rfl⟩
  rw [← hr] at hcell hrow hl
  rw [← hsw] at hrow hno ⊢
  rw [← hsu] at hrow ⊢
  clear hr hsw hsu
  have hwr : sw.length < r.length := by rw [hrow]; simp
  have hbefore : ∀ j (h1 : j < sw.length) (h2 : j < r.length), r[j].toNat ≠ 32 := fun j h1 h2 => by
    have h3 : r[j] = sw[j] := by simp only [hrow]; rw [List.getElem_append_left h1]
    rw [h3]
    exact contains_at hno h1
  have hat : r[sw.length].toNat = 32 := by
    have h3 : r[sw.length] = 32 := by simp only [hrow]; rw [List.getElem_append_right (Nat.le_refl _)]; simp
    rw [h3]; rfl
  have htk : (⟨r.toArray⟩ : ByteArray).extract 0 sw.length = ⟨sw.toArray⟩ := by rw [ba_extract]; congr 2; rw [hrow]; simp
  have hdr : (⟨r.toArray⟩ : ByteArray).extract (sw.length + 1) r.length = ⟨su.toArray⟩ := by
    rw [ba_extract]
    congr 2
    rw [hrow, List.drop_append]
    simp
    rw [List.drop_eq_nil_of_le (by omega), List.nil_append, show sw.length + (su.length + 1) - (sw.length + 1) = su.length by omega, List.take_length]
  have HB := Lib.hid hbefore
  have HAT := Lib.hid hat
  have HTK := Lib.hid htk
  have HDR := Lib.hid hdr
  have HR := Lib.hid hrow
  have e0 : IntKind.i64.wrap (op : Int) = (op : Int) := IntWalk.i64_in _ (by omega)
  have e1 : decide ((op : Int) ≥ 26) = false := by simp; omega
  have e2 : (op : Int) < 26 := by omega
  clear hrow hno hbefore hat htk hdr
  go_enter Tryd.func43, Tryd.ntmps43
  go_wp2_with fail
  refine (Table_calls _).mono ?_
  rintro e w1 ⟨rfl, hk, hb⟩
  have hc := hcell w1 hk
  clear hk hcell
  go_wp2_with fail
  go_loop [6] (fun i => ∃ k : Nat, k ≤ sw.length ∧ i = .int .i64 k) (fun i => r.length - (intOf i).toNat)
  case atStart => exact ⟨0, Nat.zero_le _, rfl⟩
  case round =>
    obtain ⟨k, hk, rfl⟩ := hrel
    have hlt : k < r.length := by omega
    have ej : (k : Int) < (r.length : Int) := by omega
    have hlb : k < (⟨r.toArray⟩ : ByteArray).size := by simpa [ByteArray.size] using hlt
    by_cases hks : k = sw.length
    · have ex : (((((⟨r.toArray⟩ : ByteArray)[k]'hlb).toNat : Nat) : Int) == 32) = true := by
        rw [beq_iff_eq]
        show ((r[k].toNat : Int)) = 32
        subst hks
        rw [HAT.out]
        rfl
      have hle : (k : Int) ≤ (r.length : Int) := by omega
      have hle1 : (k : Int) + 1 ≤ (r.length : Int) := by omega
      have hwk := IntWalk.i64_in ((k : Int) + 1) (by omega)
      subst hks
      go_wp2_with fail
      go_quiet (fail)
      go_wp2
      go_ret2
      exact ⟨by rw [← HTK.out, ← HDR.out]; rfl, below_drewN hb _⟩
    · have ex : (((((⟨r.toArray⟩ : ByteArray)[k]'hlb).toNat : Nat) : Int) == 32) = false := by
        rw [beq_eq_false_iff_ne]
        show ((r[k].toNat : Int)) ≠ 32
        have := HB.out k (by omega) hlt
        omega
      go_wp2
      go_round
      case rel => exact ⟨k + 1, by omega, by go_num⟩
      case measure => simp [intOf]; omega
end Go.Proofs.YtdijgidlachnjaaDoor
/- The document's Right. Conditions: the numbers fit. -/
namespace Go.Proofs.YtdijgidlachnjaaDoor
open Go.RowKit

theorem words_some : ∀ j : Fin 26, (wordAt j.val).isEmpty = false := by decide +kernel
theorem let_use : ∀ j : Fin 26, (letAt j.val).contains 65 = uB j.val 0 ∧ (letAt j.val).contains 66 = uB j.val 1 ∧ (letAt j.val).contains 67 = uB j.val 2 ∧ (letAt j.val).contains 114 = uB j.val 3 ∧ (letAt j.val).contains 75 = uB j.val 4 := by decide +kernel
theorem let_num : ∀ j : Fin 26, (letAt j.val).contains 110 = decide (numAt j.val = 1) ∧ (letAt j.val).contains 115 = decide (numAt j.val = 2) ∧ (uB j.val 3 = true ∨ (letAt j.val).contains 99 = decide (numAt j.val = 3)) ∧ (letAt j.val).contains 112 = decide (numAt j.val = 4) ∧ (letAt j.val).contains 109 = decide (numAt j.val = 5) := by decide +kernel
set_option maxHeartbeats 16000000 in
set_option maxRecDepth 20000 in
theorem RRight_in (op a b cc : Nat) (n : Int) (m : Nat) (hc : (Cd.mk op a b cc n m).Ok) (h26 : op < 26) (size cells players : Int) (_hs0 : 0 ≤ size) (_hs1 : size ≤ 9223372036854775806) (_hl0 : -9223372036854775808 ≤ cells) (_hl1 : cells ≤ 9223372036854775807) (w : World) :
    Calls Tryd.prog 32 #[.agg #[.int .u8 (op : Int), .int .u8 (a : Int), .int .u8 (b : Int), .int .u8 (cc : Int), .int .i32 n, .int .u32 (m : Int)], .int .i64 size, .int .i64 cells, .int .i64 players] w fun e w' => e = .returned (.bool (fitsB ⟨op, a, b, cc, n, m⟩ cells (size + 1) players)) ∧ Below w.heap.size w w' := by
  obtain ⟨-, ha, hb', hcc, n0, n1, hm⟩ := hc
  simp only at ha hb' hcc n0 n1 hm
  obtain ⟨u0, u1, u2, u3, u4⟩ := let_use ⟨op, h26⟩
  obtain ⟨v1, v2, v3, v4, v5⟩ := let_num ⟨op, h26⟩
  have hrw := use_row ⟨op, h26⟩
  have hwn := words_some ⟨op, h26⟩
  obtain ⟨-, hll, -⟩ := row_len ⟨op, h26⟩
  simp only at u0 u1 u2 u3 u4 v1 v2 v3 v4 v5 hrw hwn hll
  have hP := fun W => Parts_in op h26 W
  obtain ⟨sw, hsw⟩ : ∃ s, s = wordAt op := ⟨_, rfl⟩
  obtain ⟨su, hsu⟩ : ∃ s, s = letAt op := ⟨_, rfl⟩
  rw [← hsw] at hP hwn
  rw [← hsu] at hP hll u0 u1 u2 u3 u4 v1 v2 v3 v4 v5
  have hA := fun W => has_calls su 65 (by omega) (by omega) W
  have hB := fun W => has_calls su 66 (by omega) (by omega) W
  have hC := fun W => has_calls su 67 (by omega) (by omega) W
  have hR := fun W => has_calls su 114 (by omega) (by omega) W
  have hK := fun W => has_calls su 75 (by omega) (by omega) W
  have hN1 := fun W => has_calls su 110 (by omega) (by omega) W
  have hN2 := fun W => has_calls su 115 (by omega) (by omega) W
  have hN3 := fun W => has_calls su 99 (by omega) (by omega) W
  have hN4 := fun W => has_calls su 112 (by omega) (by omega) W
  have hN5 := fun W => has_calls su 109 (by omega) (by omega) W
  rw [show ((65 : Nat) : Int) = 65 from rfl, show UInt8.ofNat 65 = 65 from rfl, u0] at hA
  rw [show ((66 : Nat) : Int) = 66 from rfl, show UInt8.ofNat 66 = 66 from rfl, u1] at hB
  rw [show ((67 : Nat) : Int) = 67 from rfl, show UInt8.ofNat 67 = 67 from rfl, u2] at hC
  rw [show ((114 : Nat) : Int) = 114 from rfl, show UInt8.ofNat 114 = 114 from rfl, u3] at hR
  rw [show ((75 : Nat) : Int) = 75 from rfl, show UInt8.ofNat 75 = 75 from rfl, u4] at hK
  rw [show ((110 : Nat) : Int) = 110 from rfl, show UInt8.ofNat 110 = 110 from rfl, v1] at hN1
  rw [show ((115 : Nat) : Int) = 115 from rfl, show UInt8.ofNat 115 = 115 from rfl, v2] at hN2
  rw [show ((112 : Nat) : Int) = 112 from rfl, show UInt8.ofNat 112 = 112 from rfl, v4] at hN4
  rw [show ((109 : Nat) : Int) = 109 from rfl, show UInt8.ofNat 109 = 109 from rfl, v5] at hN5
  rw [show ((99 : Nat) : Int) = 99 from rfl, show UInt8.ofNat 99 = 99 from rfl] at hN3
  have hfb : fitsB ⟨op, a, b, cc, n, m⟩ cells (size + 1) players = (regB a (uB op 0) && (regB b (uB op 1) && (holdsB cells (size + 1) players (numAt op) n && ((if uB op 3 = true then rowB cc cells n else regB cc (uB op 2)) && (m == 0 || uB op 4))))) := by
    simp only [fitsB]
    rw [decide_eq_true h26, Bool.true_and]
  rw [hfb]
  obtain ⟨q0, hq0⟩ : ∃ q, q = uB op 0 := ⟨_, rfl⟩
  obtain ⟨q1, hq1⟩ : ∃ q, q = uB op 1 := ⟨_, rfl⟩
  obtain ⟨q2, hq2⟩ : ∃ q, q = uB op 2 := ⟨_, rfl⟩
  obtain ⟨q3, hq3⟩ : ∃ q, q = uB op 3 := ⟨_, rfl⟩
  obtain ⟨q4, hq4⟩ : ∃ q, q = uB op 4 := ⟨_, rfl⟩
  obtain ⟨k, hk⟩ : ∃ k, k = numAt op := ⟨_, rfl⟩
  rw [← hq0] at hA ⊢
  rw [← hq1] at hB ⊢
  rw [← hq2] at hC ⊢
  rw [← hq3] at hR v3 hrw ⊢
  rw [← hq4] at hK ⊢
  rw [← hk] at hN1 hN2 hN4 hN5 v3 hrw ⊢
  obtain ⟨D, hD⟩ : ∃ D, D = !(regB a q0 && (regB b q1 && (m == 0 || q4))) := ⟨_, rfl⟩
  obtain ⟨E, hE⟩ : ∃ E, E = (holdsB cells (size + 1) players k n && (if q3 = true then rowB cc cells n else regB cc q2)) := ⟨_, rfl⟩
  have hV : (regB a q0 && (regB b q1 && (holdsB cells (size + 1) players k n && ((if q3 = true then rowB cc cells n else regB cc q2) && (m == 0 || q4))))) = (!D && E) := by
    rw [hD, hE]
    cases regB a q0 <;> cases regB b q1 <;> cases holdsB cells (size + 1) players k n <;> cases (if q3 = true then rowB cc cells n else regB cc q2) <;> cases (m == 0 || q4) <;> rfl
  rw [hV]
  have HD := Lib.hid hD
  have HE := Lib.hid hE
  have e6 := IntWalk.i64_in n (by omega)
  have e7 := IntWalk.i64_in (cc : Int) (by omega)
  clear hV hD hE hfb hq0 hq1 hq2 hq3 hq4 hk hsw hsu u0 u1 u2 u3 u4 v1 v2 v4 v5
  have hb := below_alloc1 w (.cells #[.int .u8 (op : Int), .int .u8 (a : Int), .int .u8 (b : Int), .int .u8 (cc : Int), .int .i32 n, .int .u32 (m : Int)] 77)
  have kA := heap_alloc_new w (.cells #[.int .u8 (op : Int), .int .u8 (a : Int), .int .u8 (b : Int), .int .u8 (cc : Int), .int .i32 n, .int .u32 (m : Int)] 77)
  go_enter Tryd.func32, Tryd.ntmps32
  go_wp2_with fail
  refine (hP _).mono ?_
  rintro e wz ⟨rfl, h9⟩
  replace kA := (h9.block _ (Array.getElem?_eq_some_iff.1 kA).1).trans kA
  replace hb := hb.trans (h9.mono hb.size)
  clear h9 hP
  have a1 := (cell_of_row _ _ 1 _ _ _ kA).trans (show _ = some _ from rfl)
  have a2 := (cell_of_row _ _ 2 _ _ _ kA).trans (show _ = some _ from rfl)
  have a3 := (cell_of_row _ _ 3 _ _ _ kA).trans (show _ = some _ from rfl)
  have a4 := (cell_of_row _ _ 4 _ _ _ kA).trans (show _ = some _ from rfl)
  have a5 := (cell_of_row _ _ 5 _ _ _ kA).trans (show _ = some _ from rfl)
  clear kA
  go_upto_region 4 with fail
  go_cut [57] (fun s57 wx => wx = wz ∧ s57 = .bool D)
  case first =>
    clear hC hR hN1 hN2 hN3 hN4 hN5 e6 e7 a3 a4 v3 hrw HE
    by_cases za : a ≤ 0
    · have ea : decide ((a : Int) > 0) = false := by simp; omega
      have ea2 : decide (0 < a) = false := by simp; omega
      by_cases zb : b ≤ 0
      · have eb : decide ((b : Int) > 0) = false := by simp; omega
        have eb2 : decide (0 < b) = false := by simp; omega
        by_cases zm : m ≤ 0
        · have em : decide ((m : Int) > 0) = false := by simp; omega
          have em2 : decide (0 < m) = false := by simp; omega
          go_wp2_with fail
          go_meet
          exact ⟨rfl, congrArg Value.bool (by rw [HD.out]; simp [regB]; try omega)⟩
        · have em : decide ((m : Int) > 0) = true := by simp; omega
          have em2 : decide (0 < m) = true := by simp; omega
          cases q4 with
          | false =>
            go_wp2_with fail
            refine (hK _).mono ?_
            rintro e wy ⟨rfl, hw⟩
            replace hw := hw.symm
            subst hw
            go_wp2_with fail
            go_meet
            exact ⟨rfl, congrArg Value.bool (by rw [HD.out]; simp [regB]; try omega)⟩
          | true =>
            go_wp2_with fail
            refine (hK _).mono ?_
            rintro e wy ⟨rfl, hw⟩
            replace hw := hw.symm
            subst hw
            go_wp2_with fail
            go_meet
            exact ⟨rfl, congrArg Value.bool (by rw [HD.out]; simp [regB]; try omega)⟩
      · have eb : decide ((b : Int) > 0) = true := by simp; omega
        have eb2 : decide (0 < b) = true := by simp; omega
        cases q1 with
        | false =>
          go_wp2_with fail
          refine (hB _).mono ?_
          rintro e wy ⟨rfl, hw⟩
          replace hw := hw.symm
          subst hw
          go_wp2_with fail
          go_meet
          exact ⟨rfl, congrArg Value.bool (by rw [HD.out]; simp [regB]; try omega)⟩
        | true =>
          by_cases yb : b ≤ 7
          · have fb : decide ((b : Int) > 7) = false := by simp; omega
            go_wp2_with fail
            refine (hB _).mono ?_
            rintro e wy ⟨rfl, hw⟩
            replace hw := hw.symm
            subst hw
            by_cases zm : m ≤ 0
            · have em : decide ((m : Int) > 0) = false := by simp; omega
              have em2 : decide (0 < m) = false := by simp; omega
              go_wp2_with fail
              go_meet
              exact ⟨rfl, congrArg Value.bool (by rw [HD.out]; simp [regB]; try omega)⟩
            · have em : decide ((m : Int) > 0) = true := by simp; omega
              have em2 : decide (0 < m) = true := by simp; omega
              cases q4 with
              | false =>
                go_wp2_with fail
                refine (hK _).mono ?_
                rintro e wy ⟨rfl, hw⟩
                replace hw := hw.symm
                subst hw
                go_wp2_with fail
                go_meet
                exact ⟨rfl, congrArg Value.bool (by rw [HD.out]; simp [regB]; try omega)⟩
              | true =>
                go_wp2_with fail
                refine (hK _).mono ?_
                rintro e wy ⟨rfl, hw⟩
                replace hw := hw.symm
                subst hw
                go_wp2_with fail
                go_meet
                exact ⟨rfl, congrArg Value.bool (by rw [HD.out]; simp [regB]; try omega)⟩
          · have fb : decide ((b : Int) > 7) = true := by simp; omega
            go_wp2_with fail
            refine (hB _).mono ?_
            rintro e wy ⟨rfl, hw⟩
            replace hw := hw.symm
            subst hw
            go_wp2_with fail
            go_meet
            exact ⟨rfl, congrArg Value.bool (by rw [HD.out]; simp [regB]; try omega)⟩
    · have ea : decide ((a : Int) > 0) = true := by simp; omega
      have ea2 : decide (0 < a) = true := by simp; omega
      cases q0 with
      | false =>
        go_wp2_with fail
        refine (hA _).mono ?_
        rintro e wy ⟨rfl, hw⟩
        replace hw := hw.symm
        subst hw
        go_wp2_with fail
        go_meet
        exact ⟨rfl, congrArg Value.bool (by rw [HD.out]; simp [regB]; try omega)⟩
      | true =>
        by_cases ya : a ≤ 7
        · have fa : decide ((a : Int) > 7) = false := by simp; omega
          go_wp2_with fail
          refine (hA _).mono ?_
          rintro e wy ⟨rfl, hw⟩
          replace hw := hw.symm
          subst hw
          by_cases zb : b ≤ 0
          · have eb : decide ((b : Int) > 0) = false := by simp; omega
            have eb2 : decide (0 < b) = false := by simp; omega
            by_cases zm : m ≤ 0
            · have em : decide ((m : Int) > 0) = false := by simp; omega
              have em2 : decide (0 < m) = false := by simp; omega
              go_wp2_with fail
              go_meet
              exact ⟨rfl, congrArg Value.bool (by rw [HD.out]; simp [regB]; try omega)⟩
            · have em : decide ((m : Int) > 0) = true := by simp; omega
              have em2 : decide (0 < m) = true := by simp; omega
              cases q4 with
              | false =>
                go_wp2_with fail
                refine (hK _).mono ?_
                rintro e wy ⟨rfl, hw⟩
                replace hw := hw.symm
                subst hw
                go_wp2_with fail
                go_meet
                exact ⟨rfl, congrArg Value.bool (by rw [HD.out]; simp [regB]; try omega)⟩
              | true =>
                go_wp2_with fail
                refine (hK _).mono ?_
                rintro e wy ⟨rfl, hw⟩
                replace hw := hw.symm
                subst hw
                go_wp2_with fail
                go_meet
                exact ⟨rfl, congrArg Value.bool (by rw [HD.out]; simp [regB]; try omega)⟩
          · have eb : decide ((b : Int) > 0) = true := by simp; omega
            have eb2 : decide (0 < b) = true := by simp; omega
            cases q1 with
            | false =>
              go_wp2_with fail
              refine (hB _).mono ?_
              rintro e wy ⟨rfl, hw⟩
              replace hw := hw.symm
              subst hw
              go_wp2_with fail
              go_meet
              exact ⟨rfl, congrArg Value.bool (by rw [HD.out]; simp [regB]; try omega)⟩
            | true =>
              by_cases yb : b ≤ 7
              · have fb : decide ((b : Int) > 7) = false := by simp; omega
                go_wp2_with fail
                refine (hB _).mono ?_
                rintro e wy ⟨rfl, hw⟩
                replace hw := hw.symm
                subst hw
                by_cases zm : m ≤ 0
                · have em : decide ((m : Int) > 0) = false := by simp; omega
                  have em2 : decide (0 < m) = false := by simp; omega
                  go_wp2_with fail
                  go_meet
                  exact ⟨rfl, congrArg Value.bool (by rw [HD.out]; simp [regB]; try omega)⟩
                · have em : decide ((m : Int) > 0) = true := by simp; omega
                  have em2 : decide (0 < m) = true := by simp; omega
                  cases q4 with
                  | false =>
                    go_wp2_with fail
                    refine (hK _).mono ?_
                    rintro e wy ⟨rfl, hw⟩
                    replace hw := hw.symm
                    subst hw
                    go_wp2_with fail
                    go_meet
                    exact ⟨rfl, congrArg Value.bool (by rw [HD.out]; simp [regB]; try omega)⟩
                  | true =>
                    go_wp2_with fail
                    refine (hK _).mono ?_
                    rintro e wy ⟨rfl, hw⟩
                    replace hw := hw.symm
                    subst hw
                    go_wp2_with fail
                    go_meet
                    exact ⟨rfl, congrArg Value.bool (by rw [HD.out]; simp [regB]; try omega)⟩
              · have fb : decide ((b : Int) > 7) = true := by simp; omega
                go_wp2_with fail
                refine (hB _).mono ?_
                rintro e wy ⟨rfl, hw⟩
                replace hw := hw.symm
                subst hw
                go_wp2_with fail
                go_meet
                exact ⟨rfl, congrArg Value.bool (by rw [HD.out]; simp [regB]; try omega)⟩
        · have fa : decide ((a : Int) > 7) = true := by simp; omega
          go_wp2_with fail
          refine (hA _).mono ?_
          rintro e wy ⟨rfl, hw⟩
          replace hw := hw.symm
          subst hw
          go_wp2_with fail
          go_meet
          exact ⟨rfl, congrArg Value.bool (by rw [HD.out]; simp [regB]; try omega)⟩
  case rest =>
    obtain ⟨rfl, rfl⟩ := hcut
    clear hA hB hK HD a1 a2 a5
    cases D with
    | true =>
      go_wp2_with fail
      go_ret
      exact ⟨rfl, hb⟩
    | false =>
      cases q3 with
      | true =>
        obtain rfl : k = 3 := hrw (by trivial)
        clear v3 hrw
        go_wp2_with fail
        refine (hR _).mono ?_
        rintro e wy ⟨rfl, hw⟩
        replace hw := hw.symm
        subst hw
        by_cases z1 : 0 < cc
        · have ez1 : decide ((cc : Int) > 0) = true := by simp; omega
          have ez12 : decide (0 < cc) = true := by simp; omega
          by_cases z2 : cc < 49
          · have ez2 : decide ((cc : Int) < 49) = true := by simp; omega
            by_cases z3 : 0 ≤ n
            · have ez3 : decide (n ≥ 0) = true := by simp; omega
              by_cases z4 : n < cells
              · have ez4 : decide (n < cells) = true := by simp; omega
                have ew := IntWalk.i64_in (n + (cc : Int)) (by omega)
                obtain ⟨d, hd⟩ : ∃ d, d = decide (n + (cc : Int) ≤ cells) := ⟨_, rfl⟩
                have ed := hd.symm
                have HDd := Lib.hid hd
                clear hd
                go_wp2_with fail
                go_ret
                refine ⟨?_, hb⟩
                rw [HE.out]
                simp only [HDd.out]
                simp [holdsB, rowB, belowB]
                rw [decide_eq_true z3, decide_eq_true z4, decide_eq_true (show 1 ≤ cc by omega), decide_eq_true (show cc ≤ 48 by omega)]
                simp only [Bool.true_and]
                rw [Bool.eq_iff_iff, decide_eq_true_iff, decide_eq_true_iff]
                omega
              · have ez4 : decide (n < cells) = false := by simp; omega
                go_wp2_with fail
                go_ret
                exact ⟨by rw [HE.out]; simp [holdsB, rowB, belowB]; try omega, hb⟩
            · have ez3 : decide (n ≥ 0) = false := by simp; omega
              go_wp2_with fail
              go_ret
              exact ⟨by rw [HE.out]; simp [holdsB, rowB, belowB]; try omega, hb⟩
          · have ez2 : decide ((cc : Int) < 49) = false := by simp; omega
            go_wp2_with fail
            go_ret
            exact ⟨by rw [HE.out]; simp [holdsB, rowB, belowB]; try omega, hb⟩
        · have ez1 : decide ((cc : Int) > 0) = false := by simp; omega
          have ez12 : decide (0 < cc) = false := by simp; omega
          go_wp2_with fail
          go_ret
          exact ⟨by rw [HE.out]; simp [holdsB, rowB, belowB]; try omega, hb⟩
      | false =>
        have v3 := v3.resolve_left (by simp)
        rw [v3] at hN3
        clear v3 hrw
        go_wp2_with fail
        refine (hR _).mono ?_
        rintro e wy ⟨rfl, hw⟩
        replace hw := hw.symm
        subst hw
        by_cases zc : cc ≤ 0
        · have ec : decide ((cc : Int) > 0) = false := by simp; omega
          have ec2 : decide (0 < cc) = false := by simp; omega
          skip
          by_cases k1 : k = 1
          · subst k1
            go_wp2_with fail
            refine (hN1 _).mono ?_
            rintro e wy ⟨rfl, hw⟩
            replace hw := hw.symm
            subst hw
            go_wp2_with fail
            go_ret
            exact ⟨by rw [HE.out]; simp [holdsB, regB]; try omega, hb⟩
          have g1 : decide (k = 1) = false := decide_eq_false k1
          rw [g1] at hN1
          by_cases k3 : k = 3
          · subst k3
            go_wp2_with fail
            refine (hN1 _).mono ?_
            rintro e wy ⟨rfl, hw⟩
            replace hw := hw.symm
            subst hw
            go_wp2_with fail
            refine (hN3 _).mono ?_
            rintro e wy ⟨rfl, hw⟩
            replace hw := hw.symm
            subst hw
            by_cases z3 : 0 ≤ n
            · have ez3 : decide (n ≥ 0) = true := by simp; omega
              by_cases z4 : n < cells
              · have ez4 : decide (n < cells) = true := by simp; omega
                go_wp2_with fail
                go_ret
                exact ⟨by rw [HE.out]; simp [holdsB, belowB, regB]; try omega, hb⟩
              · have ez4 : decide (n < cells) = false := by simp; omega
                go_wp2_with fail
                go_ret
                exact ⟨by rw [HE.out]; simp [holdsB, belowB, regB]; try omega, hb⟩
            · have ez3 : decide (n ≥ 0) = false := by simp; omega
              go_wp2_with fail
              go_ret
              exact ⟨by rw [HE.out]; simp [holdsB, belowB, regB]; try omega, hb⟩
          have g3 : decide (k = 3) = false := decide_eq_false k3
          rw [g3] at hN3
          by_cases k4 : k = 4
          · subst k4
            go_wp2_with fail
            refine (hN1 _).mono ?_
            rintro e wy ⟨rfl, hw⟩
            replace hw := hw.symm
            subst hw
            go_wp2_with fail
            refine (hN3 _).mono ?_
            rintro e wy ⟨rfl, hw⟩
            replace hw := hw.symm
            subst hw
            go_wp2_with fail
            refine (hN4 _).mono ?_
            rintro e wy ⟨rfl, hw⟩
            replace hw := hw.symm
            subst hw
            by_cases z3 : 0 ≤ n
            · have ez3 : decide (n ≥ 0) = true := by simp; omega
              by_cases z4 : n ≤ size
              · have ez4 : decide (n ≤ size) = true := by simp; omega
                go_wp2_with fail
                go_ret
                exact ⟨by rw [HE.out]; simp [holdsB, belowB, regB]; try omega, hb⟩
              · have ez4 : decide (n ≤ size) = false := by simp; omega
                go_wp2_with fail
                go_ret
                exact ⟨by rw [HE.out]; simp [holdsB, belowB, regB]; try omega, hb⟩
            · have ez3 : decide (n ≥ 0) = false := by simp; omega
              go_wp2_with fail
              go_ret
              exact ⟨by rw [HE.out]; simp [holdsB, belowB, regB]; try omega, hb⟩
          have g4 : decide (k = 4) = false := decide_eq_false k4
          rw [g4] at hN4
          by_cases k5 : k = 5
          · subst k5
            go_wp2_with fail
            refine (hN1 _).mono ?_
            rintro e wy ⟨rfl, hw⟩
            replace hw := hw.symm
            subst hw
            go_wp2_with fail
            refine (hN3 _).mono ?_
            rintro e wy ⟨rfl, hw⟩
            replace hw := hw.symm
            subst hw
            go_wp2_with fail
            refine (hN4 _).mono ?_
            rintro e wy ⟨rfl, hw⟩
            replace hw := hw.symm
            subst hw
            go_wp2_with fail
            refine (hN5 _).mono ?_
            rintro e wy ⟨rfl, hw⟩
            replace hw := hw.symm
            subst hw
            by_cases z3 : 0 ≤ n
            · have ez3 : decide (n ≥ 0) = true := by simp; omega
              by_cases z4 : n < players
              · have ez4 : decide (n < players) = true := by simp; omega
                go_wp2_with fail
                go_ret
                exact ⟨by rw [HE.out]; simp [holdsB, belowB, regB]; try omega, hb⟩
              · have ez4 : decide (n < players) = false := by simp; omega
                go_wp2_with fail
                go_ret
                exact ⟨by rw [HE.out]; simp [holdsB, belowB, regB]; try omega, hb⟩
            · have ez3 : decide (n ≥ 0) = false := by simp; omega
              go_wp2_with fail
              go_ret
              exact ⟨by rw [HE.out]; simp [holdsB, belowB, regB]; try omega, hb⟩
          have g5 : decide (k = 5) = false := decide_eq_false k5
          rw [g5] at hN5
          by_cases k2 : k = 2
          · subst k2
            go_wp2_with fail
            refine (hN1 _).mono ?_
            rintro e wy ⟨rfl, hw⟩
            replace hw := hw.symm
            subst hw
            go_wp2_with fail
            refine (hN3 _).mono ?_
            rintro e wy ⟨rfl, hw⟩
            replace hw := hw.symm
            subst hw
            go_wp2_with fail
            refine (hN4 _).mono ?_
            rintro e wy ⟨rfl, hw⟩
            replace hw := hw.symm
            subst hw
            go_wp2_with fail
            refine (hN5 _).mono ?_
            rintro e wy ⟨rfl, hw⟩
            replace hw := hw.symm
            subst hw
            go_wp2_with fail
            refine (hN2 _).mono ?_
            rintro e wy ⟨rfl, hw⟩
            replace hw := hw.symm
            subst hw
            by_cases z3 : 0 < n
            · have ez3 : decide (n > 0) = true := by simp; omega
              go_wp2_with fail
              go_ret
              exact ⟨by rw [HE.out]; simp [holdsB, regB]; try omega, hb⟩
            · have ez3 : decide (n > 0) = false := by simp; omega
              go_wp2_with fail
              go_ret
              exact ⟨by rw [HE.out]; simp [holdsB, regB]; try omega, hb⟩
          have g2 : decide (k = 2) = false := decide_eq_false k2
          rw [g2] at hN2
          go_wp2_with fail
          refine (hN1 _).mono ?_
          rintro e wy ⟨rfl, hw⟩
          replace hw := hw.symm
          subst hw
          go_wp2_with fail
          refine (hN3 _).mono ?_
          rintro e wy ⟨rfl, hw⟩
          replace hw := hw.symm
          subst hw
          go_wp2_with fail
          refine (hN4 _).mono ?_
          rintro e wy ⟨rfl, hw⟩
          replace hw := hw.symm
          subst hw
          go_wp2_with fail
          refine (hN5 _).mono ?_
          rintro e wy ⟨rfl, hw⟩
          replace hw := hw.symm
          subst hw
          go_wp2_with fail
          refine (hN2 _).mono ?_
          rintro e wy ⟨rfl, hw⟩
          replace hw := hw.symm
          subst hw
          obtain ⟨d, hd⟩ : ∃ d, d = (n == 0) := ⟨_, rfl⟩
          have ed := hd.symm
          have HDd := Lib.hid hd
          clear hd
          go_wp2_with fail
          go_ret
          refine ⟨?_, hb⟩
          rw [HE.out, HDd.out]
          simp [holdsB, regB, k1, k2, k3, k4, k5]
          try omega
        · have ec : decide ((cc : Int) > 0) = true := by simp; omega
          have ec2 : decide (0 < cc) = true := by simp; omega
          cases q2 with
          | false =>
            go_wp2_with fail
            refine (hC _).mono ?_
            rintro e wy ⟨rfl, hw⟩
            replace hw := hw.symm
            subst hw
            go_wp2_with fail
            go_ret
            exact ⟨by rw [HE.out]; simp [holdsB, belowB, regB]; try omega, hb⟩
          | true =>
            by_cases yc : cc ≤ 7
            · have fc : decide ((cc : Int) > 7) = false := by simp; omega
              go_wp2_with fail
              refine (hC _).mono ?_
              rintro e wy ⟨rfl, hw⟩
              replace hw := hw.symm
              subst hw
              by_cases k1 : k = 1
              · subst k1
                go_wp2_with fail
                refine (hN1 _).mono ?_
                rintro e wy ⟨rfl, hw⟩
                replace hw := hw.symm
                subst hw
                go_wp2_with fail
                go_ret
                exact ⟨by rw [HE.out]; simp [holdsB, regB]; try omega, hb⟩
              have g1 : decide (k = 1) = false := decide_eq_false k1
              rw [g1] at hN1
              by_cases k3 : k = 3
              · subst k3
                go_wp2_with fail
                refine (hN1 _).mono ?_
                rintro e wy ⟨rfl, hw⟩
                replace hw := hw.symm
                subst hw
                go_wp2_with fail
                refine (hN3 _).mono ?_
                rintro e wy ⟨rfl, hw⟩
                replace hw := hw.symm
                subst hw
                by_cases z3 : 0 ≤ n
                · have ez3 : decide (n ≥ 0) = true := by simp; omega
                  by_cases z4 : n < cells
                  · have ez4 : decide (n < cells) = true := by simp; omega
                    go_wp2_with fail
                    go_ret
                    exact ⟨by rw [HE.out]; simp [holdsB, belowB, regB]; try omega, hb⟩
                  · have ez4 : decide (n < cells) = false := by simp; omega
                    go_wp2_with fail
                    go_ret
                    exact ⟨by rw [HE.out]; simp [holdsB, belowB, regB]; try omega, hb⟩
                · have ez3 : decide (n ≥ 0) = false := by simp; omega
                  go_wp2_with fail
                  go_ret
                  exact ⟨by rw [HE.out]; simp [holdsB, belowB, regB]; try omega, hb⟩
              have g3 : decide (k = 3) = false := decide_eq_false k3
              rw [g3] at hN3
              by_cases k4 : k = 4
              · subst k4
                go_wp2_with fail
                refine (hN1 _).mono ?_
                rintro e wy ⟨rfl, hw⟩
                replace hw := hw.symm
                subst hw
                go_wp2_with fail
                refine (hN3 _).mono ?_
                rintro e wy ⟨rfl, hw⟩
                replace hw := hw.symm
                subst hw
                go_wp2_with fail
                refine (hN4 _).mono ?_
                rintro e wy ⟨rfl, hw⟩
                replace hw := hw.symm
                subst hw
                by_cases z3 : 0 ≤ n
                · have ez3 : decide (n ≥ 0) = true := by simp; omega
                  by_cases z4 : n ≤ size
                  · have ez4 : decide (n ≤ size) = true := by simp; omega
                    go_wp2_with fail
                    go_ret
                    exact ⟨by rw [HE.out]; simp [holdsB, belowB, regB]; try omega, hb⟩
                  · have ez4 : decide (n ≤ size) = false := by simp; omega
                    go_wp2_with fail
                    go_ret
                    exact ⟨by rw [HE.out]; simp [holdsB, belowB, regB]; try omega, hb⟩
                · have ez3 : decide (n ≥ 0) = false := by simp; omega
                  go_wp2_with fail
                  go_ret
                  exact ⟨by rw [HE.out]; simp [holdsB, belowB, regB]; try omega, hb⟩
              have g4 : decide (k = 4) = false := decide_eq_false k4
              rw [g4] at hN4
              by_cases k5 : k = 5
              · subst k5
                go_wp2_with fail
                refine (hN1 _).mono ?_
                rintro e wy ⟨rfl, hw⟩
                replace hw := hw.symm
                subst hw
                go_wp2_with fail
                refine (hN3 _).mono ?_
                rintro e wy ⟨rfl, hw⟩
                replace hw := hw.symm
                subst hw
                go_wp2_with fail
                refine (hN4 _).mono ?_
                rintro e wy ⟨rfl, hw⟩
                replace hw := hw.symm
                subst hw
                go_wp2_with fail
                refine (hN5 _).mono ?_
                rintro e wy ⟨rfl, hw⟩
                replace hw := hw.symm
                subst hw
                by_cases z3 : 0 ≤ n
                · have ez3 : decide (n ≥ 0) = true := by simp; omega
                  by_cases z4 : n < players
                  · have ez4 : decide (n < players) = true := by simp; omega
                    go_wp2_with fail
                    go_ret
                    exact ⟨by rw [HE.out]; simp [holdsB, belowB, regB]; try omega, hb⟩
                  · have ez4 : decide (n < players) = false := by simp; omega
                    go_wp2_with fail
                    go_ret
                    exact ⟨by rw [HE.out]; simp [holdsB, belowB, regB]; try omega, hb⟩
                · have ez3 : decide (n ≥ 0) = false := by simp; omega
                  go_wp2_with fail
                  go_ret
                  exact ⟨by rw [HE.out]; simp [holdsB, belowB, regB]; try omega, hb⟩
              have g5 : decide (k = 5) = false := decide_eq_false k5
              rw [g5] at hN5
              by_cases k2 : k = 2
              · subst k2
                go_wp2_with fail
                refine (hN1 _).mono ?_
                rintro e wy ⟨rfl, hw⟩
                replace hw := hw.symm
                subst hw
                go_wp2_with fail
                refine (hN3 _).mono ?_
                rintro e wy ⟨rfl, hw⟩
                replace hw := hw.symm
                subst hw
                go_wp2_with fail
                refine (hN4 _).mono ?_
                rintro e wy ⟨rfl, hw⟩
                replace hw := hw.symm
                subst hw
                go_wp2_with fail
                refine (hN5 _).mono ?_
                rintro e wy ⟨rfl, hw⟩
                replace hw := hw.symm
                subst hw
                go_wp2_with fail
                refine (hN2 _).mono ?_
                rintro e wy ⟨rfl, hw⟩
                replace hw := hw.symm
                subst hw
                by_cases z3 : 0 < n
                · have ez3 : decide (n > 0) = true := by simp; omega
                  go_wp2_with fail
                  go_ret
                  exact ⟨by rw [HE.out]; simp [holdsB, regB]; try omega, hb⟩
                · have ez3 : decide (n > 0) = false := by simp; omega
                  go_wp2_with fail
                  go_ret
                  exact ⟨by rw [HE.out]; simp [holdsB, regB]; try omega, hb⟩
              have g2 : decide (k = 2) = false := decide_eq_false k2
              rw [g2] at hN2
              go_wp2_with fail
              refine (hN1 _).mono ?_
              rintro e wy ⟨rfl, hw⟩
              replace hw := hw.symm
              subst hw
              go_wp2_with fail
              refine (hN3 _).mono ?_
              rintro e wy ⟨rfl, hw⟩
              replace hw := hw.symm
              subst hw
              go_wp2_with fail
              refine (hN4 _).mono ?_
              rintro e wy ⟨rfl, hw⟩
              replace hw := hw.symm
              subst hw
              go_wp2_with fail
              refine (hN5 _).mono ?_
              rintro e wy ⟨rfl, hw⟩
              replace hw := hw.symm
              subst hw
              go_wp2_with fail
              refine (hN2 _).mono ?_
              rintro e wy ⟨rfl, hw⟩
              replace hw := hw.symm
              subst hw
              obtain ⟨d, hd⟩ : ∃ d, d = (n == 0) := ⟨_, rfl⟩
              have ed := hd.symm
              have HDd := Lib.hid hd
              clear hd
              go_wp2_with fail
              go_ret
              refine ⟨?_, hb⟩
              rw [HE.out, HDd.out]
              simp [holdsB, regB, k1, k2, k3, k4, k5]
              try omega
            · have fc : decide ((cc : Int) > 7) = true := by simp; omega
              go_wp2_with fail
              refine (hC _).mono ?_
              rintro e wy ⟨rfl, hw⟩
              replace hw := hw.symm
              subst hw
              go_wp2_with fail
              go_ret
              exact ⟨by rw [HE.out]; simp [holdsB, belowB, regB]; try omega, hb⟩
end Go.Proofs.YtdijgidlachnjaaDoor
/- The document's Check. Conditions: those said. -/
namespace Go.Proofs.YtdijgidlachnjaaDoor
open Go.RowKit

theorem Parts_out (op : Nat) (h26 : 26 ≤ op) (hop : op ≤ 255) (w : World) : Calls Tryd.prog 43 #[.int .u8 (op : Int)] w fun e w' => e = .returned (.tuple #[.string ⟨#[]⟩, .string ⟨#[]⟩]) ∧ Below w.heap.size w w' := by
  have e0 : IntKind.i64.wrap (op : Int) = (op : Int) := IntWalk.i64_in _ (by omega)
  have e1 : decide ((op : Int) ≥ 26) = true := by simp; omega
  go_enter Tryd.func43, Tryd.ntmps43
  go_wp2_with fail
  refine (Table_calls _).mono ?_
  rintro e w1 ⟨rfl, hk, hb⟩
  clear hk
  go_wp2
  go_ret2
  exact ⟨rfl, hb⟩
theorem RRight_out (op a b' cc : Nat) (n : Int) (m : Nat) (h26 : 26 ≤ op) (hop : op ≤ 255) (size cells players : Int) (w : World) :
    Calls Tryd.prog 32 #[.agg #[.int .u8 (op : Int), .int .u8 (a : Int), .int .u8 (b' : Int), .int .u8 (cc : Int), .int .i32 n, .int .u32 (m : Int)], .int .i64 size, .int .i64 cells, .int .i64 players] w fun e w' => e = .returned (.bool (fitsB ⟨op, a, b', cc, n, m⟩ cells (size + 1) players)) ∧ Below w.heap.size w w' := by
  have hf : fitsB ⟨op, a, b', cc, n, m⟩ cells (size + 1) players = false := by simp only [fitsB]; rw [decide_eq_false (by omega), Bool.false_and]
  rw [hf]
  have hb := below_alloc1 w (.cells #[.int .u8 (op : Int), .int .u8 (a : Int), .int .u8 (b' : Int), .int .u8 (cc : Int), .int .i32 n, .int .u32 (m : Int)] 77)
  clear hf
  go_enter Tryd.func32, Tryd.ntmps32
  go_wp2_with fail
  refine (Parts_out op h26 hop _).mono ?_
  rintro e w1 ⟨rfl, h9⟩
  have hb := hb.trans (h9.mono hb.size)
  clear h9
  go_wp2
  go_ret
  exact ⟨rfl, hb⟩
theorem RRight_calls (op a b' cc : Nat) (n : Int) (m : Nat) (hc : (Cd.mk op a b' cc n m).Ok) (size cells players : Int) (hs0 : 0 ≤ size) (hs1 : size ≤ 9223372036854775806) (hl0 : -9223372036854775808 ≤ cells) (hl1 : cells ≤ 9223372036854775807) (w : World) :
    Calls Tryd.prog 32 #[.agg #[.int .u8 (op : Int), .int .u8 (a : Int), .int .u8 (b' : Int), .int .u8 (cc : Int), .int .i32 n, .int .u32 (m : Int)], .int .i64 size, .int .i64 cells, .int .i64 players] w fun e w' => e = .returned (.bool (fitsB ⟨op, a, b', cc, n, m⟩ cells (size + 1) players)) ∧ Below w.heap.size w w' := by
  by_cases h : op < 26
  · exact RRight_in op a b' cc n m hc h size cells players hs0 hs1 hl0 hl1 w
  · exact RRight_out op a b' cc n m (by omega) hc.ho size cells players w
set_option maxHeartbeats 4000000 in
set_option maxRecDepth 20000 in
/-- The document's Check answers what Check does: below 0 where all may be. -/
theorem RCheck_calls (A : Option Addr) (l : List Cd) (n c b : Nat) (cells players : Int) (w : World) (hs : Sl w b A (kv l)) (hn : l.length = n) (hm : n ≤ maxLen) (hok : okK l) (hl0 : -9223372036854775808 ≤ cells) (hl1 : cells ≤ 9223372036854775807) :
    Calls Tryd.prog 18 #[.slice A n c, .int .i64 cells, .int .i64 players] w fun e w' => e = .returned (.int .i64 (if (checkV l cells players).2 = true then -1 else ((checkV l cells players).1 : Nat))) ∧ Below w.heap.size w w' := by
  subst hn
  by_cases hbig : 96 < l.length
  · have e0 : decide ((l.length : Int) > 96) = true := by simp; omega
    have hv : checkV l cells players = (96, false) := by unfold checkV; rw [if_pos hbig]
    rw [hv]
    clear hv
    go_enter Tryd.func18, Tryd.ntmps18
    go_wp2
    go_ret
    exact ⟨rfl, Below.refl _ _⟩
  have e0 : decide ((l.length : Int) > 96) = false := by simp; omega
  have hL : l.length ≤ 96 := by omega
  have hbad := fun k => checkV_bad (l := l) (cells := cells) (players := players) (k := k) hL
  have hgood := checkV_good (l := l) (cells := cells) (players := players) hL
  obtain ⟨V, hV⟩ : ∃ V, V = checkV l cells players := ⟨_, rfl⟩
  rw [← hV] at hgood ⊢
  simp only [← hV] at hbad
  have hF := fun op a b cc n m h W => RRight_calls op a b cc n m h (l.length : Int) cells players (by omega) (by omega) hl0 hl1 W
  have HB := Lib.hid hbad
  have HG := Lib.hid hgood
  clear hV hbad hgood
  obtain ⟨Z, hZ⟩ : ∃ Z : Int, Z = (if V.2 = true then -1 else ((V.1 : Nat) : Int)) := ⟨_, rfl⟩
  rw [← hZ]
  have HZ := Lib.hid hZ
  clear hZ
  go_enter Tryd.func18, Tryd.ntmps18
  go_wp2_with fail
  go_loopw [14] (fun i wr => ∃ k : Nat, k ≤ l.length ∧ i = .int .i64 k ∧ (∀ j (hj : j < k) (hj2 : j < l.length), fitsB l[j] cells ((l.length : Int) + 1) players = true) ∧ Sl wr b A (kv l) ∧ Below w.heap.size w wr) (fun i _ => l.length - (intOf i).toNat)
  case atStart => exact ⟨0, Nat.zero_le _, rfl, fun j hj => by omega, hs, Below.refl _ _⟩
  case round =>
    clear hs
    obtain ⟨k, hk, rfl, hall, hs, hb⟩ := hrel
    have HA := Lib.hid hall
    clear hall
    by_cases hlt : k < l.length
    · have ej : (k : Int) < (l.length : Int) := by omega
      have hck := hok l[k] (List.getElem_mem hlt)
      obtain ⟨off, rfl, c0, c1, c2, c3, c4, c5⟩ := sl_code hs hlt
      have HBk := Lib.hid (HB.out k hlt)
      obtain ⟨x, hx⟩ : ∃ x, x = l[k] := ⟨_, rfl⟩
      have HX := Lib.hid hx
      rw [← hx] at hck c0 c1 c2 c3 c4 c5 HBk
      clear hx
      obtain ⟨op, a, b', cc, n, m⟩ := x
      simp only at c0 c1 c2 c3 c4 c5
      have hFk := fun W => hF op a b' cc n m hck W
      obtain ⟨d, hd⟩ : ∃ d, d = fitsB ⟨op, a, b', cc, n, m⟩ cells ((l.length : Int) + 1) players := ⟨_, rfl⟩
      rw [← hd] at hFk
      have HD := Lib.hid hd
      have hba := below_alloc1 wr (.cells #[.int .u8 (op : Int), .int .u8 (a : Int), .int .u8 (b' : Int), .int .u8 (cc : Int), .int .i32 n, .int .u32 (m : Int)] 77)
      have hs2 := Sl.ext hs hba
      have hb2 := hb.trans (hba.mono hb.size)
      clear hd hs hb hba hF hck
      go_wp2_with fail
      refine (hFk _).mono ?_
      rintro e w6 ⟨rfl, h9⟩
      have hs := Sl.ext hs2 h9
      have hb := hb2.trans (h9.mono hb2.size)
      clear h9 hFk c0 c1 c2 c3 c4 c5 hs2 hb2
      cases d with
      | true =>
        go_wp2_with fail
        go_roundw
        case rel =>
          refine ⟨k + 1, by omega, by go_num, fun j hj hj2 => ?_, hs, hb⟩
          rcases Nat.lt_or_ge j k with h1 | h1
          · exact HA.out j h1 hj2
          · obtain rfl : j = k := by omega
            rw [← HX.out]
            exact HD.out.symm
        case measure => simp [intOf]; omega
      | false =>
        go_wp2_with fail
        go_ret
        have hv := HBk.out HD.out.symm (fun j hj => HA.out j hj (by omega))
        exact ⟨by rw [HZ.out, hv]; rfl, hb⟩
    · obtain rfl : k = l.length := by omega
      go_wp2_with fail
      go_ret
      have hv := HG.out (fun j hj => HA.out j hj hj)
      exact ⟨by rw [HZ.out, hv]; rfl, hb⟩
end Go.Proofs.YtdijgidlachnjaaDoor
/- The law on append at slices of bytes, in this program's numbers. Condition: the sum of the lengths fits. -/
namespace Go.Proofs.YtdijgidlachnjaaDoor
open Go.RowKit

theorem byte_info : (Tryd.prog.info? 5).map (fun i => (i.zero, i.size, i.bytes)) = some (some (.int .u8 0), 1, 1) := by kernel_rfl

/-- The slice value v is the call's own (its block not below B), and holds the bytes l. -/
abbrev Row (w : World) (B : Nat) (v : Value) (l : List UInt8) : Prop := w.ownsRow B 5 1 v l.length (bv l)

theorem Row.nil_ (w : World) (B : Nat) : Row w B (.slice none 0 0) [] := World.ownsRow_nil _ _ _ _
theorem Row.cast {w : World} {B : Nat} {v : Value} {l l' : List UInt8} (h : Row w B v l) (e : l = l') : Row w B v l' := e ▸ h
theorem Row.lt {w : World} {B : Nat} {v : Value} {l : List UInt8} (h : Row w B v l) : ∀ k, v.ownBlock = some k → B ≤ k ∧ k < w.heap.size := World.ownsRow.lt h
theorem Row.mod {w w' : World} {B : Nat} {v : Value} {l : List UInt8} (h : Row w B v l) {S : Nat → Prop} (hm : Mod S w w') (hs : ∀ k, v.ownBlock = some k → ¬ S k) : Row w' B v l := by
  refine ⟨h.1, ?_⟩
  rcases h.2 with h2 | ⟨g, cap, cur, rfl, hg, hh, r⟩
  · exact .inl h2
  · exact .inr ⟨g, cap, cur, rfl, hg, by rw [hm.block g (Array.getElem?_eq_some_iff.1 hh).1 (hs g rfl)]; exact hh, r⟩
theorem Row.ext {w w' : World} {B : Nat} {v : Value} {l : List UInt8} (h : Row w B v l) (hm : Below w.heap.size w w') : Row w' B v l :=
  h.mod (Mod.of_below hm) fun k hk => by have := (h.lt k hk).2; omega
theorem Row.low {w : World} {B B' : Nat} {v : Value} {l : List UInt8} (h : Row w B v l) (hB : B' ≤ B) : Row w B' v l := by
  refine ⟨h.1, ?_⟩
  rcases h.2 with h2 | ⟨g, cap, cur, rfl, hg, r⟩
  · exact .inl h2
  · exact .inr ⟨g, cap, cur, rfl, by omega, r⟩
/-- What it reads as. -/
theorem Row.sl {w : World} {B : Nat} {v : Value} {l : List UInt8} (h : Row w B v l) : ∃ A c b, v = .slice A l.length c ∧ l.length ≤ c ∧ c ≤ maxLen ∧ (A = none → c = 0) ∧ B ≤ b ∧ Bs w b A l ∧ (∀ k, v.ownBlock = some k → k = b) := by
  rcases h.2 with ⟨rfl, hn⟩ | ⟨g, cap, cur, rfl, hb, _, hnc, hcm, _⟩
  · have hl : l = [] := List.eq_nil_of_length_eq_zero hn
    subst hl
    exact ⟨none, 0, B, rfl, Nat.le_refl _, by simp [maxLen], fun _ => rfl, Nat.le_refl _, Sl.nil_ _ _ _, by simp [Value.ownBlock]⟩
  · refine ⟨_, cap, g, rfl, hnc, hcm, by simp, hb, fun _ => ⟨0, rfl, fun j u hu => ?_⟩, by simp [Value.ownBlock]⟩
    have := h.cells (g := g) rfl j u hu
    simpa [Addr.add_lit] using this

theorem Row.blk_sl {w : World} {B n c b : Nat} {v : Value} {A : Option Addr} {l : List UInt8} (h : Row w B v l) (hv : v = .slice A n c) (hs : Bs w b A l) (hl : l ≠ []) : ∃ cur, w.heap[b]? = some (.cells cur 5 (0, 0)) := by
  obtain ⟨off, hA, _⟩ := hs (by rw [ne_eq, bv_nil_iff]; exact hl)
  rcases h.2 with ⟨_, hn⟩ | ⟨g, cap, cur, hg, _, hh, _⟩
  · exact absurd (List.eq_nil_of_length_eq_zero hn) hl
  · rw [hv] at hg
    injection hg with h1 _ _
    rw [hA] at h1
    injection h1 with h1
    injection h1 with h1 _ _
    subst h1
    exact ⟨cur, hh⟩
theorem Bs.modne {w w' : World} {b : Nat} {A : Option Addr} {l : List UInt8} (h : Bs w b A l) {S : Nat → Prop} (hm : Mod S w w') (hs : l ≠ [] → ¬ S b) : Bs w' b A l := by
  by_cases hl : l = []
  · subst hl; exact Sl.nil_ _ _ _
  · exact Sl.mod h hm (hs hl)
theorem Bs.lt {w : World} {b : Nat} {A : Option Addr} {l : List UInt8} (h : Bs w b A l) (hl : l ≠ []) : b < w.heap.size := Sl.lt h (by rw [ne_eq, bv_nil_iff]; exact hl)
/-- One of its bytes, written. -/
theorem Bs.set_ {w : World} {b off k : Nat} {l : List UInt8} {cur : Array Value} {t : TypeId} {q : UInt8} (hg : w.heap[b]? = some (.cells cur t (0, 0))) (h : Bs w b (some ⟨b, off, none⟩) l) (hk : k < l.length) :
    Bs (w.setCell ⟨b, off + k, none⟩ (.int .u8 (q.toNat : Int))) b (some ⟨b, off, none⟩) (l.set k q) ∧ (w.setCell ⟨b, off + k, none⟩ (.int .u8 (q.toNat : Int))).heap[b]? = some (.cells (cur.setIfInBounds (off + k) (.int .u8 (q.toNat : Int))) t (0, 0)) := by
  have h2 := heap_setCell_same w b (off + k) cur t (.int .u8 (q.toNat : Int)) hg
  refine ⟨fun _ => ⟨off, rfl, fun j u hu => ?_⟩, h2⟩
  rw [cell_of_row _ _ _ _ _ _ h2]
  have hj : j < l.length := by
    have := (List.getElem?_eq_some_iff.1 hu).1
    simpa using this
  obtain ⟨off', hA, hc⟩ := Bs.at_ h hj
  injection hA with hA
  injection hA with _ hA _
  subst hA
  have h3 := hc j hj
  rw [cell_of_row _ _ _ _ _ _ hg] at h3
  have hsz : off + j < cur.size := (Array.getElem?_eq_some_iff.1 h3).1
  have hsz2 : off + k < cur.size := by
    have h4 := hc k hk
    rw [cell_of_row _ _ _ _ _ _ hg] at h4
    exact (Array.getElem?_eq_some_iff.1 h4).1
  have hu2 : u = .int .u8 (((l.set k q)[j]'(by simpa using hj)).toNat : Int) := by
    have h5 : (bv (l.set k q))[j]? = some ((bv (l.set k q))[j]'(by simpa using hj)) := List.getElem?_eq_getElem _
    rw [h5, bv_get] at hu
    injection hu with hu
    exact hu.symm
  rw [hu2, Array.getElem?_setIfInBounds]
  by_cases e : j = k
  · subst e
    simp [hsz2]
  · rw [if_neg (by omega), h3, List.getElem_set_ne (by omega)]

section
variable (w : World)
theorem wpList_app {ops : Array Oper} {rest : List Oper} {o : Oper} {a : Act} {Q : Exit → Act → World → Prop} (hgd : o.guard = none) (s x : Operand)
    (ho : o.op = .call { callee := .builtin .append, args := #[s, x], argTypes := #[99, 99] })
    (B : Nat) (v : Value) (l : List UInt8) (hs : a.eval s = v) (hown : Row w B v l)
    (b : Nat) (A : Option Addr) (m c : Nat) (news : List UInt8) (hx : a.eval x = .slice A m c) (hr : Bs w b A news) (hm : news.length = m)
    (hlen : l.length + m ≤ 140737488355328) (hbase : B ≤ w.heap.size)
    (h : ∀ v' w', Row w' B v' (l ++ news) → Mod (fun i => v.ownBlock = some i) w w' → (v'.ownBlock = v.ownBlock ∨ v'.ownBlock = some w.heap.size) → wpList Tryd.prog ops Q rest (a.put o.dst v') w') : wpList Tryd.prog ops Q (o :: rest) a w := by
  obtain ⟨i0, hi0, hz0, hz1, hz2⟩ := info_parts byte_info
  refine wpList_append_sl (P := Tryd.prog) w hgd s x _ ho B 5 i0 _ 1 1 Tryd.underlying99 hi0 hz0 hz1 hz2 rfl (by omega) v l.length (bv l) hs hown b A m c (bv news) hx hr (by simp [hm]) (Sl.none_len hr (by simp [hm])) (bv_one _)
    (by simp only [maxLen]; omega) (by omega) hbase ?_
  intro v' w' h1 h2 h3
  exact h v' w' (by unfold Row; rw [List.length_append, hm, bv_append]; exact h1) (Mod.of_grown h2) h3

/-- append(out, x) of one byte, which lies in a new block of its own. -/
theorem wpList_app1 {u : Value} {ops : Array Oper} {rest : List Oper} {o : Oper} {a : Act} {Q : Exit → Act → World → Prop} (hgd : o.guard = none) (s x : Operand)
    (ho : o.op = .call { callee := .builtin .append, args := #[s, x], argTypes := #[99, 99] })
    (B : Nat) (v : Value) (l : List UInt8) (hs : a.eval s = v) (hown : Row w B v l)
    (q : UInt8) (hu : u = .int .u8 (q.toNat : Int)) (hx : a.eval x = .slice (some ⟨w.heap.size, 0, none⟩) 1 1)
    (hlen : l.length + 1 ≤ 140737488355328) (hbase : B ≤ w.heap.size)
    (h : ∀ v' w', Row w' B v' (l ++ [q]) → Mod (fun i => v.ownBlock = some i) w w' → (v'.ownBlock = v.ownBlock ∨ ∃ k, v'.ownBlock = some k ∧ w.heap.size ≤ k) → wpList Tryd.prog ops Q rest (a.put o.dst v') w') : wpList Tryd.prog ops Q (o :: rest) a (w.alloc (.cells #[u] 5)) := by
  subst hu
  refine wpList_app (w.alloc (.cells #[.int .u8 (q.toNat : Int)] 5)) hgd s x ho B v l hs (World.ownsRow.alloc hown _) w.heap.size _ 1 1 [q] hx (Sl.one_new w _ _) rfl hlen (by simp; omega) ?_
  intro v' w' h1 h2 h3
  refine h v' w' h1 ((Mod.alloc (fun _ => False) w _).trans h2 (fun i _ h => h.elim) (fun i _ h => h)) (h3.imp id fun h => ⟨_, h, by simp⟩)
end
end Go.Proofs.YtdijgidlachnjaaDoor
/- The reference's Join: lists of bytes behind one another, in new memory; nothing that was there turns. Condition: the sum of the lengths fits. -/
namespace Go.Proofs.YtdijgidlachnjaaDoor
open Go.RowKit

/-- Values that are slices of bytes, and what they read as. -/
def Bss (w : World) (vs : List Value) (ls : List (List UInt8)) : Prop :=
  vs.length = ls.length ∧ ∀ (i : Nat) (l : List UInt8), ls[i]? = some l → ∃ A c b, vs[i]? = some (Value.slice A l.length c) ∧ Bs w b A l

theorem Bss.ext {w w' : World} {vs : List Value} {ls : List (List UInt8)} (h : Bss w vs ls) (hm : Below w.heap.size w w') : Bss w' vs ls :=
  ⟨h.1, fun i l hl => by
    obtain ⟨A, c, b, h1, h2⟩ := h.2 i l hl
    exact ⟨A, c, b, h1, Sl.ext h2 hm⟩⟩
theorem Bss.nil_ (w : World) : Bss w [] [] := ⟨rfl, fun i l h => by simp at h⟩
theorem Bss.cons {w : World} {vs : List Value} {ls : List (List UInt8)} {A : Option Addr} {l : List UInt8} {n c b : Nat} (h : Bs w b A l) (hn : l.length = n) (r : Bss w vs ls) : Bss w (Value.slice A n c :: vs) (l :: ls) :=
  ⟨by simp [r.1], fun i x hx => by
    cases i with
    | zero =>
      simp at hx
      subst hx
      exact ⟨A, c, b, by simp [hn], h⟩
    | succ i =>
      obtain ⟨A', c', b', h1, h2⟩ := r.2 i x (by simpa using hx)
      exact ⟨A', c', b', by simpa using h1, h2⟩⟩

theorem flatten_take_succ (ls : List (List UInt8)) (k : Nat) (h : k < ls.length) : (ls.take (k + 1)).flatten = (ls.take k).flatten ++ ls[k] := by
  rw [List.take_succ_eq_append_getElem h]
  simp only [List.flatten_append, List.flatten_cons, List.flatten_nil, List.append_nil]
theorem flatten_take_le (ls : List (List UInt8)) (k : Nat) : (ls.take k).flatten.length ≤ ls.flatten.length := by
  have : (ls.take k).flatten ++ (ls.drop k).flatten = ls.flatten := by rw [← List.flatten_append, List.take_append_drop]
  rw [← this]
  simp

end Go.Proofs.YtdijgidlachnjaaDoor
/- The reference's Low and Value: a number's bytes, the lowest first, and back. Conditions: the numbers fit 64 bits. -/
namespace Go.Proofs.YtdijgidlachnjaaDoor
open Go.RowKit

def low (n k : Nat) : List UInt8 := (List.range k).map fun i => UInt8.ofNat (n / 256 ^ i)
theorem low_succ (n k : Nat) : low n (k + 1) = low n k ++ [UInt8.ofNat (n / 256 ^ k)] := by simp [low, List.range_succ]
@[simp] theorem low_length (n k : Nat) : (low n k).length = k := by simp [low]

def valN (l : List UInt8) : Nat := l.foldr (fun x acc => 256 * acc + x.toNat) 0
theorem valN_cons (x : UInt8) (l : List UInt8) : valN (x :: l) = 256 * valN l + x.toNat := rfl
theorem valN_lt (l : List UInt8) : valN l < 256 ^ l.length := by
  induction l with
  | nil => simp [valN]
  | cons x l ih =>
    rw [valN_cons, List.length_cons, Nat.pow_succ]
    have := x.toNat_lt
    omega
theorem valN_drop (l : List UInt8) (k : Nat) (h : k < l.length) : valN (l.drop k) = 256 * valN (l.drop (k + 1)) + l[k].toNat := by
  rw [List.drop_eq_getElem_cons h, valN_cons]
end Go.Proofs.YtdijgidlachnjaaDoor
/- Sums, in plain numbers: a sum's step is linear, whole bytes go in at once, and what is not nought and of at most 32 bits leaves a trace. No condition beyond the widths said. -/
namespace Go.Proofs.YtdijgidlachnjaaDoor

/-- One bit's step of a sum. -/
def bitStep (s : Nat) : Nat := s / 2 ^^^ (if s % 2 = 1 then 2197175160 else 0)
def crcBits : Nat → Nat → Nat
  | 0, s => s
  | k + 1, s => crcBits k (bitStep s)
theorem crcBits_add (j k s : Nat) : crcBits (j + k) s = crcBits k (crcBits j s) := by
  induction j generalizing s with
  | zero => simp [crcBits]
  | succ j ih => rw [Nat.succ_add]; exact ih _
theorem crcBits_succ (k s : Nat) : crcBits (k + 1) s = bitStep (crcBits k s) := by rw [crcBits_add k 1]; rfl
theorem xor_odd (a b : Nat) : (a ^^^ b) % 2 = (a + b) % 2 := by
  have h := Nat.xor_mod_two_pow (a := a) (b := b) (n := 1)
  rw [Nat.pow_one] at h
  rw [h]
  have ha : a % 2 = 0 ∨ a % 2 = 1 := by omega
  have hb : b % 2 = 0 ∨ b % 2 = 1 := by omega
  rcases ha with ha | ha <;> rcases hb with hb | hb <;> rw [ha, hb] <;> simp <;> omega
theorem bitStep_xor (a b : Nat) : bitStep (a ^^^ b) = bitStep a ^^^ bitStep b := by
  unfold bitStep
  rw [Nat.xor_div_two, xor_odd]
  have ha : a % 2 = 0 ∨ a % 2 = 1 := by omega
  have hb : b % 2 = 0 ∨ b % 2 = 1 := by omega
  have e : ∀ x y z : Nat, x ^^^ z ^^^ (y ^^^ z) = x ^^^ y := fun x y z => by
    rw [Nat.xor_assoc, ← Nat.xor_assoc z y z, Nat.xor_comm z y, Nat.xor_assoc y z z, Nat.xor_self, Nat.xor_zero]
  rcases ha with ha | ha <;> rcases hb with hb | hb
  · rw [if_neg (by omega), if_neg (by omega), if_neg (by omega)]; simp
  · rw [if_pos (by omega), if_neg (by omega), if_pos hb, Nat.xor_zero, Nat.xor_assoc]
  · rw [if_pos (by omega), if_pos ha, if_neg (by omega), Nat.xor_zero, Nat.xor_assoc, Nat.xor_assoc, Nat.xor_comm (b / 2)]
  · rw [if_neg (by omega), if_pos ha, if_pos hb, Nat.xor_zero, e]
theorem crcBits_xor (k a b : Nat) : crcBits k (a ^^^ b) = crcBits k a ^^^ crcBits k b := by
  induction k generalizing a b with
  | zero => rfl
  | succ k ih => show crcBits k (bitStep (a ^^^ b)) = crcBits k (bitStep a) ^^^ crcBits k (bitStep b); rw [bitStep_xor]; exact ih _ _
theorem crcBits_shift (k m : Nat) : crcBits k (2 ^ k * m) = m := by
  induction k with
  | zero => simp [crcBits]
  | succ k ih =>
    show crcBits k (bitStep (2 ^ (k + 1) * m)) = m
    have h : 2 ^ (k + 1) * m = 2 * (2 ^ k * m) := by rw [Nat.pow_succ, Nat.mul_comm (2 ^ k) 2, Nat.mul_assoc]
    have h2 : bitStep (2 ^ (k + 1) * m) = 2 ^ k * m := by
      unfold bitStep
      rw [h, if_neg (by omega), Nat.xor_zero, Nat.mul_div_cancel_left _ (by omega)]
    rw [h2, ih]
theorem bitStep_lt {s : Nat} (h : s < 2 ^ 32) : bitStep s < 2 ^ 32 := by
  unfold bitStep
  refine Nat.xor_lt_two_pow (by omega) ?_
  split <;> omega
theorem crcBits_lt {s : Nat} (k : Nat) (h : s < 2 ^ 32) : crcBits k s < 2 ^ 32 := by
  induction k generalizing s with
  | zero => exact h
  | succ k ih => exact ih (bitStep_lt h)
theorem bitStep_nought {s : Nat} (h : s < 2 ^ 32) (h0 : bitStep s = 0) : s = 0 := by
  unfold bitStep at h0
  by_cases ho : s % 2 = 1
  · exfalso
    rw [if_pos ho] at h0
    have h1 : (s / 2 ^^^ 2197175160).testBit 31 = true := by
      rw [Nat.testBit_xor, Nat.testBit_lt_two_pow (show s / 2 < 2 ^ 31 by omega)]
      decide
    rw [h0] at h1
    simp at h1
  · rw [if_neg ho, Nat.xor_zero] at h0
    omega
theorem crcBits_nought {s : Nat} (k : Nat) (h : s < 2 ^ 32) (h0 : crcBits k s = 0) : s = 0 := by
  induction k generalizing s with
  | zero => exact h0
  | succ k ih => exact bitStep_nought h (ih (bitStep_lt h) h0)
/-- What is not nought and of at most 32 bits leaves a trace. -/
theorem crcBits_burst {n j m : Nat} (hj : j ≤ n) (h : m < 2 ^ 32) (h0 : crcBits n (2 ^ j * m) = 0) : m = 0 := by
  obtain ⟨i, rfl⟩ : ∃ i, n = j + i := ⟨n - j, by omega⟩
  rw [crcBits_add, crcBits_shift] at h0
  exact crcBits_nought i h h0

/-- A sum's step by one byte, and by a text. -/
def step8 (s : Nat) (b : Nat) : Nat := crcBits 8 (s ^^^ b)
def crc (s : Nat) (l : List UInt8) : Nat := l.foldl (fun s b => step8 s b.toNat) s
theorem crc_append (s : Nat) (l m : List UInt8) : crc s (l ++ m) = crc (crc s l) m := by simp [crc, List.foldl_append]
theorem crc_cons (s : Nat) (b : UInt8) (l : List UInt8) : crc s (b :: l) = crc (step8 s b.toNat) l := rfl
theorem low_byte (a b : Nat) (h : b < 256) : 256 * a + b = (256 * a) ^^^ b := by
  apply Nat.eq_of_testBit_eq
  intro i
  have h1 := Nat.testBit_two_pow_mul_add a (b := b) (i := 8) h i
  have h2 := Nat.testBit_two_pow_mul (i := 8) (a := a) (j := i)
  rw [Nat.testBit_xor]
  rw [show (2 : Nat) ^ 8 = 256 by rfl] at h1 h2
  rw [h1, h2]
  by_cases hi : i < 8
  · rw [if_pos hi]; simp [show ¬ i ≥ 8 by omega]
  · rw [if_neg hi]
    have h3 : b.testBit i = false := Nat.testBit_lt_two_pow (Nat.lt_of_lt_of_le h (by have := Nat.pow_le_pow_right (n := 2) (by omega) (show 8 ≤ i by omega); simpa using this))
    simp [show i ≥ 8 by omega, h3]
/-- A text's sum is that of its number, as many bits on. -/
theorem crc_val (s : Nat) (l : List UInt8) : crc s l = crcBits (8 * l.length) (s ^^^ valN l) := by
  induction l generalizing s with
  | nil => simp [crc, valN, crcBits]
  | cons b l ih =>
    rw [crc_cons, ih, valN_cons, List.length_cons]
    rw [show 8 * (l.length + 1) = 8 + 8 * l.length by omega, crcBits_add]
    congr 1
    rw [low_byte _ _ (by have := b.toNat_lt; omega), step8, Nat.xor_comm (256 * valN l), ← Nat.xor_assoc, crcBits_xor 8 (s ^^^ b.toNat)]
    congr 1
    exact (crcBits_shift 8 (valN l)).symm
theorem step8_lt {s b : Nat} (h : s < 2 ^ 32) (hb : b < 256) : step8 s b < 2 ^ 32 := crcBits_lt 8 (Nat.xor_lt_two_pow h (by omega))
theorem crc_lt {s : Nat} (l : List UInt8) (h : s < 2 ^ 32) : crc s l < 2 ^ 32 := by
  induction l generalizing s with
  | nil => exact h
  | cons b l ih => exact ih (step8_lt h (by have := b.toNat_lt; omega))
/-- The step by a table. -/
theorem step8_table (s b : Nat) : step8 s b = s / 256 ^^^ step8 0 (s % 256 ^^^ b) := by
  have h1 : s = 256 * (s / 256) ^^^ s % 256 := by rw [← low_byte _ _ (by omega)]; omega
  unfold step8
  conv => lhs; rw [h1]
  rw [Nat.xor_assoc, crcBits_xor, Nat.zero_xor]
  congr 1
  exact crcBits_shift 8 _
theorem low_first (n k : Nat) : low n (k + 1) = UInt8.ofNat n :: low (n / 256) k := by
  simp only [low, List.range_succ_eq_map, List.map_cons, List.map_map, Nat.pow_zero, Nat.div_one]
  congr 1
  apply List.map_congr_left
  intro i _
  simp only [Function.comp, Nat.pow_succ]
  rw [Nat.mul_comm, Nat.div_div_eq_div_mul]
theorem valN_low (n k : Nat) : valN (low n k) = n % 256 ^ k := by
  induction k generalizing n with
  | zero => simp [low, valN, Nat.mod_one]
  | succ k ih =>
    rw [low_first, valN_cons, ih, Nat.pow_succ, Nat.mul_comm (256 ^ k), Nat.mod_mul]
    simp
    omega
/-- A number of four bytes, given in as a text, is given in at once. -/
theorem crc_low {s v : Nat} (hv : v < 2 ^ 32) : crc s (low v 4) = crcBits 32 (s ^^^ v) := by
  rw [crc_val, low_length, valN_low, Nat.mod_eq_of_lt (by simpa using hv)]
/-- Two texts of one length that differ by at most 32 bits in a row, from the bit j on, have unlike sums. -/
theorem crc_burst {s : Nat} {l m : List UInt8} {j d : Nat} (hl : l.length = m.length) (hj : j ≤ 8 * l.length) (hd : d < 2 ^ 32) (hx : valN l ^^^ valN m = 2 ^ j * d) (he : crc s l = crc s m) : d = 0 := by
  rw [crc_val, crc_val, ← hl, crcBits_xor, crcBits_xor _ _ (valN m)] at he
  refine crcBits_burst hj hd ?_
  rw [← hx, crcBits_xor]
  have h2 := congrArg (crcBits (8 * l.length) s ^^^ ·) he
  simp only [← Nat.xor_assoc, Nat.xor_self, Nat.zero_xor] at h2
  rw [h2, Nat.xor_self]
theorem xor_nought {a b : Nat} (h : a ^^^ b = 0) : a = b := by
  have h2 : a ^^^ b ^^^ b = 0 ^^^ b := by rw [h]
  rwa [Nat.xor_assoc, Nat.xor_self, Nat.xor_zero, Nat.zero_xor] at h2
theorem flip_xor {x : Nat} (h : x < 2 ^ 32) : 4294967295 - x = 4294967295 ^^^ x := by
  apply Nat.eq_of_testBit_eq
  intro i
  have h1 := Nat.testBit_two_pow_sub_succ h i
  have h2 : (4294967295 : Nat).testBit i = decide (i < 32) := Nat.testBit_two_pow_sub_one 32 i
  rw [Nat.testBit_xor, h2, show 4294967295 - x = 2 ^ 32 - (x + 1) by omega, h1]
  by_cases hi : i < 32
  · simp [hi]
  · have h3 : x.testBit i = false := Nat.testBit_lt_two_pow (Nat.lt_of_lt_of_le h (Nat.pow_le_pow_right (by omega) (by omega)))
    simp [hi, h3]
/-- A text's sum. -/
def sumN (l : List UInt8) : Nat := 4294967295 - crc 4294967295 l
theorem sumN_lt (l : List UInt8) : sumN l < 2 ^ 32 := by unfold sumN; omega
theorem sumN_inj {l m : List UInt8} : sumN l = sumN m ↔ crc 4294967295 l = crc 4294967295 m := by
  have h1 := crc_lt (s := 4294967295) l (by omega)
  have h2 := crc_lt (s := 4294967295) m (by omega)
  unfold sumN
  omega
/-- What ends in its sum: just what leaves the one rest. -/
theorem opens_iff {p t : List UInt8} (ht : t.length = 4) : valN t = sumN p ↔ crc 4294967295 (p ++ t) = crcBits 32 4294967295 := by
  have hc := crc_lt (s := 4294967295) p (by omega)
  have hv : valN t < 2 ^ 32 := by have := valN_lt t; rw [ht] at this; simpa using this
  rw [crc_append, crc_val _ t, ht]
  unfold sumN
  rw [flip_xor hc]
  obtain ⟨c, hcc⟩ : ∃ c, c = crc 4294967295 p := ⟨_, rfl⟩
  rw [← hcc] at hc ⊢
  constructor
  · intro h
    rw [h, Nat.xor_comm 4294967295 c, ← Nat.xor_assoc, Nat.xor_self, Nat.zero_xor]
  · intro h
    have h1 : crcBits 32 (c ^^^ valN t ^^^ 4294967295) = 0 := by rw [crcBits_xor, h, Nat.xor_self]
    have h2 := crcBits_nought 32 (Nat.xor_lt_two_pow (Nat.xor_lt_two_pow hc hv) (by omega)) h1
    have h3 := xor_nought h2
    rw [← h3, Nat.xor_comm c, Nat.xor_assoc, Nat.xor_self, Nat.xor_zero]
/-- What is sealed, with at most 32 bits in a row turned, opens just if none was. -/
theorem opens_burst {q m : List UInt8} {j d : Nat} (hq : crc 4294967295 q = crcBits 32 4294967295) (hl : q.length = m.length) (hj : j ≤ 8 * q.length) (hd : d < 2 ^ 32) (hx : valN q ^^^ valN m = 2 ^ j * d) : crc 4294967295 m = crcBits 32 4294967295 ↔ d = 0 := by
  constructor
  · intro h
    exact crc_burst hl hj hd hx (hq.trans h.symm)
  · intro h
    subst h
    have h1 := xor_nought (hx.trans (Nat.mul_zero _))
    rw [← hq, crc_val, crc_val, hl, h1]
end Go.Proofs.YtdijgidlachnjaaDoor
/- Step: a sum behind one more byte is the plain step. Condition: the sum fits 32 bits. -/
namespace Go.Proofs.YtdijgidlachnjaaDoor
open Go.RowKit

theorem bitStep_go (m : Nat) (h : m < 2 ^ 32) : bits .xor .u32 ((m : Int) / 2) (bits .and .u32 (m : Int) 1 * 2197175160 % 4294967296) = ((bitStep m : Nat) : Int) := by
  have h1 : bits .and .u32 (m : Int) 1 = ((m % 2 : Nat) : Int) := by
    rw [show (1 : Int) = ((1 : Nat) : Int) from rfl, u32_and_nat m 1 (by omega) (by omega), Nat.and_one_is_mod]
  have h2 : ((m % 2 : Nat) : Int) * 2197175160 % 4294967296 = ((if m % 2 = 1 then 2197175160 else 0 : Nat) : Int) := by
    split <;> omega
  rw [h1, h2, show ((m : Int) / 2) = ((m / 2 : Nat) : Int) by omega, u32_xor_nat _ _ (by omega) (by split <;> omega)]
  rfl
set_option maxHeartbeats 1000000 in
set_option maxRecDepth 20000 in
theorem Step_calls (s : Nat) (b : Nat) (w : World) (hs : s < 2 ^ 32) (hb : b < 256) :
    Calls Tryd.prog 63 #[.int .u32 s, .int .u8 b] w fun e w' => e = .returned (.int .u32 (step8 s b : Nat)) ∧ w = w' := by
  have e0 : bits .xor .u32 (s : Int) (b : Int) = ((s ^^^ b : Nat) : Int) := u32_xor_nat s b (by omega) (by omega)
  have l0 : s ^^^ b < 2 ^ 32 := Nat.xor_lt_two_pow hs (by omega)
  obtain ⟨x, hx⟩ : ∃ x, x = s ^^^ b := ⟨_, rfl⟩
  have HS := Lib.hid (show step8 s b = crcBits 8 x by rw [hx]; rfl)
  rw [← hx] at e0 l0
  clear hx hs
  go_enter Tryd.func63, Tryd.ntmps63
  go_wp2_with fail
  go_loop [0, 10] (fun v i => ∃ k m : Nat, k ≤ 8 ∧ i = .int .i64 k ∧ v = .int .u32 m ∧ Hid (m < 2 ^ 32) ∧ Hid (m = crcBits k x)) (fun _ i => 8 - (intOf i).toNat)
  case atStart => exact ⟨0, x, by omega, rfl, rfl, Lib.hid l0, Lib.hid rfl⟩
  case round =>
    obtain ⟨k, m, hk, rfl, rfl, hm, hv⟩ := hrel
    by_cases hlt : k < 8
    · have hb := bitStep_go m hm.out
      go_wp2_with fail
      go_round
      case rel => exact ⟨k + 1, bitStep m, by omega, by go_num, rfl, Lib.hid (bitStep_lt hm.out), Lib.hid (by rw [crcBits_succ, hv.out])⟩
      case measure => simp [intOf]; omega
    · have hk8 : k = 8 := by omega
      subst hk8
      go_wp2_with fail
      go_ret
      exact ⟨by rw [HS.out, hv.out]; rfl, rfl⟩
end Go.Proofs.YtdijgidlachnjaaDoor
/- The reference's Sum, bit by bit, is the plain sum. Condition: the text is the slice's. -/
namespace Go.Proofs.YtdijgidlachnjaaDoor
open Go.RowKit

theorem bitStep_ref (r c : Nat) : bitStep (r ^^^ c) = (r / 2 ^^^ (if (r % 2 + c) % 2 = 1 then 2197175160 else 0)) ^^^ c / 2 := by
  unfold bitStep
  rw [Nat.xor_div_two, xor_odd, show (r + c) % 2 = (r % 2 + c) % 2 by omega, Nat.xor_assoc, Nat.xor_comm (c / 2), Nat.xor_assoc]
theorem ref_next {y r x j : Nat} (h : crcBits j y = r ^^^ x / 2 ^ j) : crcBits (j + 1) y = (r / 2 ^^^ (if (r % 2 + x / 2 ^ j) % 2 = 1 then 2197175160 else 0)) ^^^ x / 2 ^ (j + 1) := by
  rw [crcBits_succ, h, bitStep_ref, Nat.div_div_eq_div_mul, Nat.pow_succ]
theorem crc_take {s : Nat} {l : List UInt8} {k : Nat} (h : k < l.length) : crc s (l.take (k + 1)) = crcBits 8 (crc s (l.take k) ^^^ l[k].toNat) := by
  rw [List.take_succ_eq_append_getElem h, crc_append]; rfl
end Go.Proofs.YtdijgidlachnjaaDoor
/- Make: the table of the plain steps. No condition. -/
namespace Go.Proofs.YtdijgidlachnjaaDoor
open Go.RowKit

/-- A table with its first k made. -/
def tabTo (k : Nat) : Array Value := ((List.range 256).map fun i => Value.int .u32 ((if i < k then step8 0 i else 0 : Nat) : Int)).toArray
theorem tabTo_size (k : Nat) : (tabTo k).size = 256 := by simp [tabTo]
theorem tabTo_get {k i : Nat} (h : i < 256) : (tabTo k)[i]? = some (Value.int .u32 ((if i < k then step8 0 i else 0 : Nat) : Int)) := by
  simp [tabTo, List.getElem?_range h]
theorem tabTo_set {k : Nat} : (tabTo k).set! k (Value.int .u32 ((step8 0 k : Nat) : Int)) = tabTo (k + 1) := by
  apply Array.ext_getElem?
  intro i
  rcases Nat.lt_or_ge i 256 with h | h
  · rw [Array.set!_eq_setIfInBounds, Array.getElem?_setIfInBounds, tabTo_get h, tabTo_get h, tabTo_size]
    by_cases hik : k = i
    · subst hik
      rw [if_pos rfl, if_pos h, if_pos (by omega)]
    · rw [if_neg hik]
      by_cases h1 : i < k
      · rw [if_pos h1, if_pos (by omega)]
      · rw [if_neg h1, if_neg (by omega)]
  · rw [Array.getElem?_eq_none (by rw [Array.set!_eq_setIfInBounds, Array.size_setIfInBounds, tabTo_size]; exact h), Array.getElem?_eq_none (by rw [tabTo_size]; exact h)]
theorem tabTo_all (k : Nat) : (tabTo k).all (·.oneCell') = true := by simp [tabTo, Value.oneCell']
theorem table_under : Tryd.prog.underlying 104 = some (.array 256 28) := by kernel_rfl
theorem table_size (k : Nat) : (Tryd.prog.info? 104).map (·.size) = some (tabTo k).size := by rw [tabTo_size]; kernel_rfl
theorem zeroTable (w : World) : (zeroValue 104).run Tryd.prog w = .ok (.agg (tabTo 0)) w := by kernel_rfl
set_option maxHeartbeats 1000000 in
set_option maxRecDepth 20000 in
theorem Make_calls (w : World) :
    Calls Tryd.prog 47 #[] w fun e w' => e = .returned (.agg (tabTo 256)) ∧ Below w.heap.size w w' := by
  go_enter Tryd.func47, Tryd.ntmps47
  go_wp2_with fail
  rw [show Tryd.zeroCells104 = tabTo 0 by kernel_rfl]
  have hg0 := heap_alloc2_new w (.cells (tabTo 0) 104) (.cells (tabTo 0) 104)
  have hr0 : ((w.alloc (.cells (tabTo 0) 104)).alloc (.cells (tabTo 0) 104)).heap[w.heap.size]? = some (.cells (tabTo 0) 104 (0, 0)) := (Below.heap_alloc _ _ _ (by simp)).trans (heap_alloc_new w _)
  have hb0 : Below w.heap.size w ((w.alloc (.cells (tabTo 0) 104)).alloc (.cells (tabTo 0) 104)) := ((Below.refl _ _).alloc (Nat.le_refl _) _).alloc (by simp) _
  go_wp2_with fail
  go_loopw [3] (fun i wr => ∃ k : Nat, k ≤ 256 ∧ i = .int .i64 k ∧ wr.heap[w.heap.size + 1]? = some (.cells (tabTo k) 104 (0, 0)) ∧ wr.heap[w.heap.size]? = some (.cells (tabTo 0) 104 (0, 0)) ∧ Below w.heap.size w wr) (fun i _ => 256 - (intOf i).toNat)
  case atStart => exact ⟨0, by omega, rfl, hg0, hr0, hb0⟩
  case round =>
    obtain ⟨k, hk, rfl, hg, hr, hb⟩ := hrel
    by_cases hlt : k < 256
    · have hc := cell_of_row wr (w.heap.size + 1) k _ _ _ hg
      rw [tabTo_get hlt] at hc
      have hfz := frozen_of_row wr (w.heap.size + 1) k _ _ hg
      go_wp2_with fail
      refine (Step_calls 0 k _ (by omega) hlt).mono ?_
      rintro e w1 ⟨rfl, rfl⟩
      go_wp2_with fail
      go_roundw
      case rel =>
        refine ⟨k + 1, by omega, by go_num, ?_, (heap_setCell_other _ _ _ _ (by simp)).trans hr, hb.setCell (by simp) _⟩
        have h1 := heap_setCell_same wr (w.heap.size + 1) k _ _ (.int .u32 (step8 0 k : Nat)) hg
        rwa [← Array.set!_eq_setIfInBounds, tabTo_set] at h1
      case measure => simp [intOf]; omega
    · have hk2 : k = 256 := by omega
      subst hk2
      go_wp2_with fail
      refine wp_load_row 104 _ rfl (w.heap.size + 1) rfl _ _ _ _ hg table_under rfl (table_size 256) ?_
      go_wp2_with fail
      have hst := run_storeCells_from (P := Tryd.prog) w.heap.size _ (tabTo 256).toList 0 _ wr hr (by simp [tabTo_size]) (fun v hv => (Array.all_eq_true_iff_forall_mem.1 (tabTo_all 256)) v (by simpa using hv))
      rw [List.take_zero, List.nil_append, Array.toArray_toList] at hst
      rw [hst]
      simp only [Result.andThen_ok]
      have hr2 := setRow_heap wr w.heap.size _ (tabTo 256) _ _ hr
      have hb2 := below_setRow hb w.heap.size (tabTo 256) (Nat.le_refl _)
      go_wp2_with fail
      refine bodyPost_ret (results_cell_row (P := Tryd.prog) rfl _ _ w.heap.size _ _ (0, 0) _ rfl hr2 table_under rfl (table_size 256)) rfl ?_
      exact ⟨rfl, hb2⟩
end Go.Proofs.YtdijgidlachnjaaDoor
/- (Table).Sum: of any parts, the sum of them joined. Condition: the table is Make's. -/
namespace Go.Proofs.YtdijgidlachnjaaDoor
open Go.RowKit

theorem crc_take' {s : Nat} {l : List UInt8} {k : Nat} (h : k < l.length) : crc s (l.take (k + 1)) = step8 (crc s (l.take k)) l[k].toNat := crc_take h
set_option maxHeartbeats 1000000 in
set_option maxRecDepth 20000 in
theorem TableSum_calls (A : Option Addr) (vs : List Value) (ls : List (List UInt8)) (n c b : Nat) (w : World) (hs : Sl w b A vs) (hv : Bss w vs ls) (hn : ls.length = n) (h1 : n ≤ maxLen) (h2 : ls.flatten.length ≤ 140737488355328) :
    Calls Tryd.prog 48 #[.agg (tabTo 256), .slice A n c] w fun e w' => e = .returned (.int .u32 (sumN ls.flatten : Nat)) ∧ Below w.heap.size w w' := by
  unfold maxLen at h1
  have HN := Lib.hid hn
  have HL := Lib.hid h2
  clear hn h2
  go_enter Tryd.func48, Tryd.ntmps48
  go_wp2_with fail
  have hb1 : Below w.heap.size w (w.alloc (.cells (tabTo 256) 104)) := (Below.refl _ _).alloc (Nat.le_refl _) _
  have hg := heap_alloc_new w (.cells (tabTo 256) 104)
  obtain ⟨W, hW⟩ : ∃ W, W = w.alloc (.cells (tabTo 256) 104) := ⟨_, rfl⟩
  rw [← hW] at hb1 hg ⊢
  have hs1 := Sl.ext hs hb1
  have hv1 := hv.ext hb1
  clear hW hs hv
  go_loop [5, 12] (fun v i => ∃ k m : Nat, k ≤ n ∧ i = .int .i64 k ∧ v = .int .u32 m ∧ Hid (m < 2 ^ 32) ∧ Hid (m = crc 4294967295 (ls.take k).flatten)) (fun _ i => n - (intOf i).toNat)
  case atStart => exact ⟨0, 4294967295, by omega, rfl, rfl, Lib.hid (by omega), Lib.hid rfl⟩
  case round =>
    obtain ⟨k, m0, hk, rfl, rfl, hm0, hc0⟩ := hrel
    by_cases hlt : k < n
    · have hkl : k < ls.length := by rw [HN.out]; exact hlt
      obtain ⟨A1, c1, b1, hv2, hs2⟩ := hv1.2 k ls[k] (List.getElem?_eq_getElem hkl)
      obtain ⟨oa, rfl, hca⟩ := hs1 (by rintro rfl; simp at hv2)
      have ca := hca k _ hv2
      obtain ⟨q, hq⟩ : ∃ q, q = ls[k] := ⟨_, rfl⟩
      rw [← hq] at ca hs2
      have e1 := Lib.hid (flatten_take_succ ls k hkl)
      have hql : q.length ≤ 140737488355328 := by
        have h3 := flatten_take_le ls (k + 1)
        have h4 := HL.out
        rw [e1.out, ← hq] at h3
        simp only [List.length_append] at h3
        omega
      have HQ := Lib.hid hq
      clear hca hv2 hq
      go_wp2_with fail
      go_loop [5, 18] (fun v i => ∃ j m : Nat, j ≤ q.length ∧ i = .int .i64 j ∧ v = .int .u32 m ∧ Hid (m < 2 ^ 32) ∧ Hid (m = crc m0 (q.take j))) (fun _ i => q.length - (intOf i).toNat)
      case atStart => exact ⟨0, m0, by omega, rfl, rfl, hm0, Lib.hid rfl⟩
      case round =>
        obtain ⟨j, m, hj, rfl, rfl, hm, hc⟩ := hrel
        by_cases hlt2 : j < q.length
        · obtain ⟨o2, rfl, hcb⟩ := hs2.at_ (k := j) hlt2
          have cb := hcb j hlt2
          have HT := Lib.hid (crc_take' (s := m0) hlt2)
          obtain ⟨x, hx⟩ : ∃ x : Nat, x = q[j].toNat := ⟨_, rfl⟩
          have x8 : x < 256 := by have := q[j].toNat_lt; omega
          rw [← hx] at cb HT
          have hmm := hm.out
          have hix : bits .xor .u8 ((m : Int) % 256) (x : Int) = ((m % 256 ^^^ x : Nat) : Int) := by
            rw [show ((m : Int) % 256) = ((m % 256 : Nat) : Int) by omega, u8_xor_nat _ _ (by omega) x8]
          have hil : m % 256 ^^^ x < 256 := Nat.xor_lt_two_pow (n := 8) (by omega) (by omega)
          have hst := step8_table m x
          have hsl := step8_lt hmm x8
          obtain ⟨t, ht⟩ : ∃ t, t = m % 256 ^^^ x := ⟨_, rfl⟩
          rw [← ht] at hix hil hst
          have htb := cell_of_row W w.heap.size t _ _ _ hg
          rw [tabTo_get hil, if_pos hil] at htb
          obtain ⟨z, hz⟩ : ∃ z, z = step8 0 t := ⟨_, rfl⟩
          have hzl : z < 2 ^ 32 := by rw [hz]; exact step8_lt (by omega) hil
          rw [← hz] at htb hst
          have hxo : bits .xor .u32 ((m : Int) / 256) (z : Int) = ((step8 m x : Nat) : Int) := by
            rw [hst, show ((m : Int) / 256) = ((m / 256 : Nat) : Int) by omega, u32_xor_nat _ _ (by omega) (by omega)]
          clear hcb hx hst ht hz hmm
          go_wp2_with fail
          go_round
          case rel => exact ⟨j + 1, step8 m x, by omega, by go_num, rfl, Lib.hid hsl, Lib.hid (by rw [HT.out, hc.out])⟩
          case measure => simp [intOf]; omega
        · have hjl : j = q.length := by omega
          subst hjl
          have hall : m = crc 4294967295 (ls.take (k + 1)).flatten := by rw [hc.out, List.take_length, e1.out, crc_append, ← hc0.out, HQ.out]
          go_wp2_with fail
          go_round
          case rel => exact ⟨k + 1, m, by omega, by go_num, rfl, hm, Lib.hid hall⟩
          case measure => simp [intOf]; omega
    · have hall : m0 = crc 4294967295 ls.flatten := by rw [hc0.out, List.take_of_length_le (by have := HN.out; omega)]
      have hmm := hm0.out
      rw [hall] at hmm
      have hno := Lib.hid (show bits .xor .u32 IntKind.u32.max ((crc 4294967295 ls.flatten : Nat) : Int) = ((sumN ls.flatten : Nat) : Int) by
        rw [show IntKind.u32.max = ((4294967295 : Nat) : Int) from rfl, u32_xor_nat _ _ (by omega) (by omega), sumN, flip_xor hmm])
      go_wp2_with fail
      go_ret
      exact ⟨by rw [← hno.out]; rfl, hb1⟩
end Go.Proofs.YtdijgidlachnjaaDoor
/- The pen's methods: what each call appends, and that only the pen's own memory turns; of a nil pen: nil, nothing. Condition: the sum of the lengths fits. -/
namespace Go.Proofs.YtdijgidlachnjaaDoor
open Go.RowKit

theorem Row.ne_blk {w : World} {B : Nat} {v : Value} {l : List UInt8} (h : Row w B v l) {g : Nat} {cs : Array Value} {t : TypeId} {fr : Nat × Nat} (hg : w.heap[g]? = some (.cells cs t fr)) (ht : t ≠ 5) : v.ownBlock ≠ some g := by
  intro hv
  rcases h.2 with ⟨rfl, _⟩ | ⟨g', cap, cur, rfl, _, hh, _⟩
  · simp [Value.ownBlock] at hv
  · have : g' = g := by simpa [Value.ownBlock] using hv
    subst this
    rw [hh] at hg
    injection hg with hg
    injection hg with _ h2 _
    exact ht h2.symm

/-- A pen in block g, its bytes l in the row r. -/
def PenAt (w : World) (g : Nat) (r : Option Nat) (l : List UInt8) : Prop :=
  ∃ v, w.heap[g]? = some (.cells #[v] 101 (0, 0)) ∧ Row w 0 v l ∧ v.ownBlock = r

/-- What a pen's write may turn: its block, its row; and where its row lies then. -/
def PenStep (g : Nat) (r r' : Option Nat) (w w' : World) : Prop :=
  (r' = r ∨ ∃ k, r' = some k ∧ w.heap.size ≤ k) ∧ Mod (fun i => i = g ∨ r = some i) w w'

theorem PenAt.lt {w : World} {g : Nat} {r : Option Nat} {l : List UInt8} (h : PenAt w g r l) : g < w.heap.size := by
  obtain ⟨v, hg, _⟩ := h
  exact (Array.getElem?_eq_some_iff.1 hg).1
theorem PenAt.mod {w w' : World} {g : Nat} {r : Option Nat} {l : List UInt8} (h : PenAt w g r l) {S : Nat → Prop} (hm : Mod S w w') (hg : ¬ S g) (hr : ∀ k, r = some k → ¬ S k) : PenAt w' g r l := by
  obtain ⟨v, h1, h2, h3⟩ := h
  exact ⟨v, by rw [hm.block g (Array.getElem?_eq_some_iff.1 h1).1 hg]; exact h1, h2.mod hm (fun k hk => hr k (h3 ▸ hk)), h3⟩
theorem PenAt.row_lt {w : World} {g : Nat} {r : Option Nat} {l : List UInt8} (h : PenAt w g r l) : ∀ k, r = some k → k < w.heap.size := by
  obtain ⟨v, _, h2, h3⟩ := h
  intro k hk
  exact (h2.lt k (h3.trans hk)).2
theorem PenAt.ext {w w' : World} {g : Nat} {r : Option Nat} {l : List UInt8} (h : PenAt w g r l) (hm : Below w.heap.size w w') : PenAt w' g r l :=
  h.mod (Mod.of_below hm) (by have := h.lt; omega) (fun k hk => by have := h.row_lt k hk; omega)
theorem PenAt.cast {w : World} {g : Nat} {r : Option Nat} {l l' : List UInt8} (h : PenAt w g r l) (e : l = l') : PenAt w g r l' := e ▸ h
theorem PenStep.refl (g : Nat) (r : Option Nat) (w : World) : PenStep g r r w w := ⟨.inl rfl, Mod.refl _ _⟩
theorem PenStep.trans {g : Nat} {r r1 r2 : Option Nat} {a b c : World} (h : PenStep g r r1 a b) (k : PenStep g r1 r2 b c) : PenStep g r r2 a c := by
  obtain ⟨h1, hm⟩ := h
  obtain ⟨k1, km⟩ := k
  refine ⟨?_, hm.trans km (fun i _ h => h) (fun i hi h => ?_)⟩
  · rcases k1 with rfl | ⟨q, rfl, hq⟩
    · exact h1
    · exact .inr ⟨q, rfl, Nat.le_trans hm.size hq⟩
  · rcases h with h | h
    · exact .inl h
    · rcases h1 with rfl | ⟨q, rfl, hq⟩
      · exact .inr h
      · injection h with h
        omega
theorem PenStep.below {g : Nat} {r r1 : Option Nat} {a b c : World} (h : Below a.heap.size a b) (k : PenStep g r r1 b c) : PenStep g r r1 a c :=
  ⟨k.1.imp id fun ⟨q, e, hq⟩ => ⟨q, e, Nat.le_trans h.size hq⟩, (Mod.of_below h).trans k.2 (fun i hi h => by omega) (fun i _ h => h)⟩
theorem PenStep.ext {g : Nat} {r r1 : Option Nat} {a b c : World} (h : PenStep g r r1 a b) (k : Below b.heap.size b c) : PenStep g r r1 a c :=
  ⟨h.1, h.2.trans (Mod.of_below k) (fun i _ h => h) (fun i hi hh => by have := h.2.size; omega)⟩

theorem pen_store {w : World} {g : Nat} {u v : Value} {l : List UInt8} {n : Nat} (hg : w.heap[g]? = some (.cells #[u] 101 (0, 0))) (hrow : w.ownsRow 0 5 1 v n (bv l)) : PenAt (w.setCell ⟨g, 0, none⟩ v) g v.ownBlock l := by
  have hn : n = l.length := by have := hrow.1; simpa using this.symm
  subst hn
  have hrow : Row w 0 v l := hrow
  exact ⟨v, by rw [heap_setCell_same w g 0 _ _ v hg]; rfl, hrow.mod (Mod.setCell w _ v) (fun k hk hkg => hrow.ne_blk hg (by decide) (by rw [hk, show k = g from hkg])), rfl⟩

set_option maxHeartbeats 400000 in
theorem add_calls (g : Nat) (r : Option Nat) (l : List UInt8) (A : Option Addr) (more : List UInt8) (n c b : Nat) (w : World) (hp : PenAt w g r l) (hs : Bs w b A more) (hn : more.length = n) (hlen : l.length + n ≤ 140737488355328) :
    Calls Tryd.prog 64 #[.pointer (some ⟨g, 0, none⟩), .slice A n c] w fun e w' => e = .returned (.pointer (some ⟨g, 0, none⟩)) ∧ ∃ r', PenAt w' g r' (l ++ more) ∧ PenStep g r r' w w' := by
  obtain ⟨v, hg, hrow, hr⟩ := hp
  have hc := cell_of_row w g 0 _ _ _ hg
  have hf := frozen_of_row w g 0 _ _ hg
  have hne := hrow.ne_blk hg (by decide)
  have hglt : g < w.heap.size := (Array.getElem?_eq_some_iff.1 hg).1
  simp only [List.getElem?_toArray, List.getElem?_cons_zero] at hc
  have HG := Lib.hid hg
  have HR := Lib.hid hr
  have HNE := Lib.hid hne
  clear hg hr hne
  go_enter Tryd.func64, Tryd.ntmps64
  go_wp2_with (at_builtin; refine wpList_app w rfl (.tmp 11) (.tmp 12) rfl 0 v l rfl hrow b A n c more rfl hs hn hlen (Nat.zero_le _) ?_; intro v' w1 hrow1 hmod hat; have hg1 := Lib.hid ((hmod.block g hglt HNE.out).trans HG.out); have hc1 : w1.cell? ⟨g, 0, none⟩ = some v := (cell_of_row w1 g 0 _ _ _ hg1.out).trans rfl; have hf1 := frozen_of_row w1 g 0 _ _ hg1.out; obtain ⟨A', c', b', hv', _⟩ := hrow1.sl; subst hv')
  go_ret
  have hmm : Mod (fun i => i = g ∨ r = some i) w w1 := hmod.mono fun i _ h => .inr (HR.out.symm.trans h)
  have el : (l ++ more).length = l.length + n := by simp [hn]
  rw [el] at hrow1 hat
  have hat' : (Value.slice A' (l.length + n) c').ownBlock = r ∨ ∃ k, (Value.slice A' (l.length + n) c').ownBlock = some k ∧ w.heap.size ≤ k := hat.imp (fun h => h.trans HR.out) (fun h => ⟨_, h, Nat.le_refl _⟩)
  exact ⟨rfl, _, pen_store hg1.out hrow1, hat', hmm.trans (Mod.setCell w1 _ _) (fun i _ h => h) (fun i _ h => .inl h)⟩

theorem add_nil (v : Value) (w : World) : Calls Tryd.prog 64 #[.pointer none, v] w fun e w' => e = .returned (.pointer none) ∧ w = w' := by
  go_enter Tryd.func64, Tryd.ntmps64
  go_wp2
  go_ret
  exact ⟨rfl, rfl⟩

/-- What each write's contract says. -/
def Wrote (g : Nat) (r : Option Nat) (l : List UInt8) (w : World) (e : Ending) (w' : World) : Prop :=
  e = .returned (.pointer (some ⟨g, 0, none⟩)) ∧ ∃ r', PenAt w' g r' l ∧ PenStep g r r' w w'

theorem low_one (n : Nat) : low n 1 = [UInt8.ofNat n] := by simp [low]
theorem bv_low_one (n : Nat) (h : n < 256) : bv (low n 1) = [.int .u8 (n : Int)] := by
  rw [low_one]
  simp only [bv, List.map_cons, List.map_nil, u8_ofNat]
  rw [Int.emod_eq_of_lt (by omega) (by omega)]
theorem bv_low_two (n : Nat) (h : n < 65536) : bv (low n 2) = [.int .u8 ((n : Int) % 256), .int .u8 ((n : Int) / 256)] := by
  simp only [low, List.range_succ, List.range_zero, List.nil_append, List.map_cons, List.map_nil, bv, u8_ofNat, List.cons_append]
  simp
  omega
theorem bv_low_four (n : Nat) (h : n < 4294967296) : bv (low n 4) = [.int .u8 ((n : Int) % 256), .int .u8 ((n : Int) / 256 % 256), .int .u8 ((n : Int) / 65536 % 256), .int .u8 ((n : Int) / 16777216)] := by
  simp only [low, List.range_succ, List.range_zero, List.nil_append, List.map_cons, List.map_nil, bv, u8_ofNat, List.cons_append]
  simp
  omega

set_option maxHeartbeats 400000 in
theorem PenWord_calls (g : Nat) (r : Option Nat) (l : List UInt8) (n : Nat) (w : World) (hp : PenAt w g r l) (hn : n < 4294967296) (hlen : l.length + 4 ≤ 140737488355328) :
    Calls Tryd.prog 50 #[.pointer (some ⟨g, 0, none⟩), .int .u32 n] w (Wrote g r (l ++ low n 4) w) := by
  have hb := Lib.hid (bv_low_four n hn)
  go_enter Tryd.func50, Tryd.ntmps50
  go_wp2_with fail
  have hx : Below w.heap.size w (w.alloc (.cells #[.int .u8 ((n : Int) % 256), .int .u8 ((n : Int) / 256 % 256), .int .u8 ((n : Int) / 65536 % 256), .int .u8 ((n : Int) / 16777216)] 5)) := (Below.refl _ _).alloc (Nat.le_refl _) _
  refine (add_calls g r l _ (low n 4) 4 4 w.heap.size _ (hp.ext hx) (by unfold Bs; rw [hb.out]; exact Sl.cells_new w _ _) (by simp) hlen).mono ?_
  rintro e w1 ⟨rfl, r', hp', hst⟩
  go_wp2
  go_ret
  exact ⟨rfl, r', hp', PenStep.below hx hst⟩

set_option maxHeartbeats 400000 in
theorem PenBytes_calls (g : Nat) (r : Option Nat) (l : List UInt8) (w : World) (hp : PenAt w g r l) (hlen : l.length ≤ 140737488355328) :
    Calls Tryd.prog 49 #[.pointer (some ⟨g, 0, none⟩)] w fun e w' => ∃ v, e = .returned v ∧ Row w' w.heap.size v l ∧ Below w.heap.size w w' := by
  obtain ⟨v, hg, hrow, hr⟩ := hp
  obtain ⟨A, c, b, rfl, _, _, _, _, hs, _⟩ := hrow.sl
  have hc := cell_of_row w g 0 _ _ _ hg
  simp only [List.getElem?_toArray, List.getElem?_cons_zero] at hc
  clear hr hrow hg
  go_enter Tryd.func49, Tryd.ntmps49
  go_wp2_with (at_builtin; refine wpList_app w rfl (.const (.slice none 0 0)) (.tmp 8) rfl w.heap.size (.slice none 0 0) [] rfl (Row.nil_ _ _) b A l.length c l rfl hs rfl (by simp; omega) (Nat.le_refl _) ?_; intro v' w1 hrow1 hmod hat; obtain ⟨A', c', b', hv', _⟩ := hrow1.sl; subst hv')
  go_ret
  exact ⟨_, rfl, hrow1, hmod.below (Nat.le_refl _) (fun i _ h => by simp [Value.ownBlock] at h)⟩
end Go.Proofs.YtdijgidlachnjaaDoor
