/- Parts of one proof, in their order. -/
import Derived.Test.YtnbbglhpjpebhaaDoorZTrBase01
import Derived.Test.YtnbbglhpjpebhaaDoorRows
import Derived.BigGuardPart
import Derived.Great.Walk
import Derived.Deep.RegionHeld3
import Derived.BigRegion
import Derived.RegionTactic
import Derived.Deep.RegionWith
import Derived.Outline
/- The law on append onto a slice of the call's own, the source nil, empty or not: what the row reads as behind it, and that only that row (or a new one) has turned. Condition: the sum of the lengths fits. -/
namespace Go.Proofs.YtnbbglhpjpebhaaDoor
open Go.RowKit
section
variable {P : Program} (w : World)

theorem run_append_of_nil (base : Nat) (t ty e : TypeId) (i : TypeInfo) (size : Nat) (ht : P.underlying t = some (.slice e)) (hi : P.info? e = some i)
    (v : Value) (n : Nat) (xs : List Value) (hown : w.ownsRow base e size v n xs) (c : Nat) : (Builtin.append_ #[t, t] ty #[v, .slice none 0 c]).run P w = .ok v w := by
  rcases hown.2 with ⟨rfl, rfl⟩ | ⟨g, cap, cur, rfl, _, _, hnc, _⟩
  · simp [Builtin.append_, run_underlying ht, sizeOf, typeInfo, hi, Builtin.lenOf, Builtin.firstCells]
  · simp [Builtin.append_, run_underlying ht, sizeOf, typeInfo, hi, Builtin.lenOf, Builtin.firstCells, hnc, storeCells]

theorem run_append_sl (base : Nat) (t ty e : TypeId) (i : TypeInfo) (z : Value) (size bytes : Nat) (ht : P.underlying t = some (.slice e)) (hi : P.info? e = some i) (hz : i.zero = some z)
    (hsize : i.size = size) (hby : i.bytes = bytes) (hzs : z.cells.size = size) (hsz : 0 < size)
    (v : Value) (n : Nat) (xs : List Value) (hown : w.ownsRow base e size v n xs)
    (b : Nat) (A : Option Addr) (m c : Nat) (news : List Value) (hr : Sl w b A news) (hm : news.length = m * size) (hA : A = none → m = 0) (h1 : ∀ u ∈ news, u.oneCell' = true)
    (h63 : n + m ≤ maxLen) (hbytes : (n + m) * bytes ≤ 140737488355328) (hbase : base ≤ w.heap.size) :
    ∃ v' w', (Builtin.append_ #[t, t] ty #[v, .slice A m c]).run P w = .ok v' w' ∧ w'.ownsRow base e size v' (n + m) (xs ++ news) ∧ w.grownBy w' v.ownBlock ∧
      (v'.ownBlock = v.ownBlock ∨ v'.ownBlock = some w.heap.size) := by
  rcases A with _ | ad
  · obtain rfl : m = 0 := hA rfl
    have hn : news = [] := List.eq_nil_of_length_eq_zero (by simpa using hm)
    subst hn
    exact ⟨v, w, run_append_of_nil w base t ty e i size ht hi v n xs hown c, by simpa using hown, World.grownBy.refl w _, .inl rfl⟩
  · have hcells : ∀ j u, news[j]? = some u → w.cell? (ad.add j) = some u := by
      intro j u hu
      obtain ⟨off, h, hc⟩ := hr (by rintro rfl; simp at hu)
      injection h with h
      subst h
      rw [Addr.add_lit]
      exact hc j u hu
    obtain ⟨v', w', hrun, h2, h3, _, h5⟩ := run_append_own_at (P := P) w base t ty e i z size bytes ht hi hz hsize hby hzs hsz v n xs hown ad m c news hm hcells h1 h63 hbytes hbase
    exact ⟨v', w', hrun, h2, h3, h5⟩

theorem wp_append_sl {o : Oper} {a : Act} {K : Act → World → Prop} {Q : Exit → Act → World → Prop} (s x : Operand) (t : TypeId)
    (ho : o.op = .call { callee := .builtin .append, args := #[s, x], argTypes := #[t, t] })
    (base : Nat) (e : TypeId) (i : TypeInfo) (z : Value) (size bytes : Nat) (ht : P.underlying t = some (.slice e)) (hi : P.info? e = some i) (hz : i.zero = some z)
    (hsize : i.size = size) (hby : i.bytes = bytes) (hzs : z.cells.size = size) (hsz : 0 < size)
    (v : Value) (n : Nat) (xs : List Value) (hs : a.eval s = v) (hown : w.ownsRow base e size v n xs)
    (b : Nat) (A : Option Addr) (m c : Nat) (news : List Value) (hx : a.eval x = .slice A m c) (hr : Sl w b A news) (hm : news.length = m * size) (hA : A = none → m = 0) (h1 : ∀ u ∈ news, u.oneCell' = true)
    (h63 : n + m ≤ maxLen) (hbytes : (n + m) * bytes ≤ 140737488355328) (hbase : base ≤ w.heap.size)
    (h : ∀ v' w', w'.ownsRow base e size v' (n + m) (xs ++ news) → w.grownBy w' v.ownBlock → (v'.ownBlock = v.ownBlock ∨ v'.ownBlock = some w.heap.size) → K (a.put o.dst v') w') : o.wp P a w K Q := by
  obtain ⟨v', w', hrun, h2, h3, h4⟩ := run_append_sl (P := P) w base t o.type e i z size bytes ht hi hz hsize hby hzs hsz v n xs hown b A m c news hr hm hA h1 h63 hbytes hbase
  unfold Oper.wp execOp
  simp only [ho, resolve, invoke, builtin, Sem.run_bind, Sem.run_pure, Result.andThen_ok, List.map_toArray, List.map_cons, List.map_nil, hs, hx, hrun]
  exact h v' w' h2 h3 h4

theorem wpList_append_sl {ops : Array Oper} {rest : List Oper} {o : Oper} {a : Act} {Q : Exit → Act → World → Prop} (hgd : o.guard = none) (s x : Operand) (t : TypeId)
    (ho : o.op = .call { callee := .builtin .append, args := #[s, x], argTypes := #[t, t] })
    (base : Nat) (e : TypeId) (i : TypeInfo) (z : Value) (size bytes : Nat) (ht : P.underlying t = some (.slice e)) (hi : P.info? e = some i) (hz : i.zero = some z)
    (hsize : i.size = size) (hby : i.bytes = bytes) (hzs : z.cells.size = size) (hsz : 0 < size)
    (v : Value) (n : Nat) (xs : List Value) (hs : a.eval s = v) (hown : w.ownsRow base e size v n xs)
    (b : Nat) (A : Option Addr) (m c : Nat) (news : List Value) (hx : a.eval x = .slice A m c) (hr : Sl w b A news) (hm : news.length = m * size) (hA : A = none → m = 0) (h1 : ∀ u ∈ news, u.oneCell' = true)
    (h63 : n + m ≤ maxLen) (hbytes : (n + m) * bytes ≤ 140737488355328) (hbase : base ≤ w.heap.size)
    (h : ∀ v' w', w'.ownsRow base e size v' (n + m) (xs ++ news) → w.grownBy w' v.ownBlock → (v'.ownBlock = v.ownBlock ∨ v'.ownBlock = some w.heap.size) → wpList P ops Q rest (a.put o.dst v') w') : wpList P ops Q (o :: rest) a w :=
  wpList_plain hgd fun _ hK => wp_append_sl w s x t ho base e i z size bytes ht hi hz hsize hby hzs hsz v n xs hs hown b A m c news hx hr hm hA h1 h63 hbytes hbase fun v' w' h2 h3 h4 => hK _ _ (h v' w' h2 h3 h4)
end

theorem Sl.one_new (w : World) (x : Value) (t : TypeId) : Sl (w.alloc (.cells #[x] t)) w.heap.size (some ⟨w.heap.size, 0, none⟩) [x] := fun _ =>
  ⟨0, rfl, fun j u hu => by
    have := cell_one_new w x t j u hu
    simpa [Addr.add_lit] using this⟩
theorem Sl.cells_new (w : World) (cs : Array Value) (t : TypeId) : Sl (w.alloc (.cells cs t)) w.heap.size (some ⟨w.heap.size, 0, none⟩) cs.toList := fun _ =>
  ⟨0, rfl, fun j u hu => by
    rw [Nat.zero_add, cell_of_row _ _ _ cs t (0, 0) (heap_alloc_new w _)]
    simpa using hu⟩
/-- An address is there where there is anything. -/
theorem Sl.none_len {w : World} {b : Nat} {A : Option Addr} {xs : List Value} {m : Nat} (h : Sl w b A xs) (hm : xs.length = m) : A = none → m = 0 := fun hA => by
  rcases Nat.eq_zero_or_pos m with h0 | h0
  · exact h0
  · obtain ⟨off, e, _⟩ := h (by rintro rfl; simp at hm; omega)
    rw [hA] at e
    cases e
end Go.Proofs.YtnbbglhpjpebhaaDoor
/- Slices of int, and a row of the call's own of which an element is written. No condition. -/
namespace Go.Proofs.YtnbbglhpjpebhaaDoor
open Go.RowKit

theorem own_set {w : World} {B n : Nat} {e : TypeId} {v : Value} {xs : List Value} (h : w.ownsRow B e 1 v n xs) (hn : 0 < n) :
    ∃ g cap, v = .slice (some ⟨g, 0, none⟩) n cap ∧ B ≤ g ∧ g < w.heap.size ∧ n ≤ cap ∧ (∀ j u, xs[j]? = some u → w.cell? ⟨g, j, none⟩ = some u) ∧ (∀ j, w.frozen? ⟨g, j, none⟩ = false) ∧
      ∀ (j : Nat) (u : Value) (w' : World), w'.heap[g]? = (w.setCell ⟨g, j, none⟩ u).heap[g]? → w'.ownsRow B e 1 v n (xs.set j u) := by
  rcases h.2 with ⟨_, h0⟩ | ⟨g, cap, cur, hv, hg, hh, hnc, hcm, hcs, hct⟩
  · omega
  · refine ⟨g, cap, hv, hg, (Array.getElem?_eq_some_iff.1 hh).1, hnc, fun j u hu => ?_, fun j => frozen_of_row w g j _ _ hh, fun j u w' hw => ?_⟩
    · rw [cell_of_row w g j _ _ _ hh]
      rw [← hct, List.getElem?_take] at hu
      split at hu
      · simpa using hu
      · cases hu
    · rw [heap_setCell_same w g j cur _ _ hh] at hw
      refine ⟨by rw [List.length_set]; exact h.1, .inr ⟨g, cap, _, hv, hg, hw, hnc, hcm, by simpa using hcs, ?_⟩⟩
      rw [← hct]
      simp [List.take_set]
theorem own_set2 {w : World} {B n g c : Nat} {e : TypeId} {xs : List Value} (hn : 0 < n) (h : w.ownsRow B e 1 (.slice (some ⟨g, 0, none⟩) n c) n xs) (j : Nat) (u : Value) : (w.setCell ⟨g, j, none⟩ u).ownsRow B e 1 (.slice (some ⟨g, 0, none⟩) n c) n (xs.set j u) := by
  obtain ⟨g', cap', hv, _, _, _, _, _, hset⟩ := own_set h hn
  injection hv with h1 _ _
  injection h1 with h1
  injection h1 with h1 _ _
  subst h1
  exact hset j u _ rfl
/-- Numbers as values. -/
def ints (l : List Nat) : List Value := l.map fun (x : Nat) => Value.int .i64 (x : Int)
@[simp] theorem ints_length (l : List Nat) : (ints l).length = l.length := by simp [ints]
@[simp] theorem ints_nil : ints [] = [] := rfl
theorem ints_get? {l : List Nat} {k x : Nat} (h : l[k]? = some x) : (ints l)[k]? = some (.int .i64 (x : Int)) := by simp [ints, h]
theorem ints_set (l : List Nat) (k x : Nat) : (ints l).set k (.int .i64 (x : Int)) = ints (l.set k x) := by simp [ints, List.map_set]
theorem own_mod {w w' : World} {B n : Nat} {e : TypeId} {v : Value} {xs : List Value} (h : w.ownsRow B e 1 v n xs) {S : Nat → Prop} (hm : Mod S w w') (hs : ∀ k, v.ownBlock = some k → ¬ S k) : w'.ownsRow B e 1 v n xs := by
  refine ⟨h.1, ?_⟩
  rcases h.2 with h2 | ⟨g, cap, cur, rfl, hg, hh, r⟩
  · exact .inl h2
  · exact .inr ⟨g, cap, cur, rfl, hg, by rw [hm.block g (Array.getElem?_eq_some_iff.1 hh).1 (hs g rfl)]; exact hh, r⟩
theorem own_ext {w w' : World} {B n : Nat} {e : TypeId} {v : Value} {xs : List Value} (h : w.ownsRow B e 1 v n xs) (hm : Below w.heap.size w w') : w'.ownsRow B e 1 v n xs :=
  own_mod h (Mod.of_below hm) fun k hk => by have := (World.ownsRow.lt h k hk).2; omega
end Go.Proofs.YtnbbglhpjpebhaaDoor
/- alone, Has, Less, Within, With, Of: the plain numbers. Conditions: the numbers fit 32 bits, the lists are short. -/
namespace Go.Proofs.YtnbbglhpjpebhaaDoor
open Go.RowKit

set_option maxHeartbeats 1000000 in
set_option maxRecDepth 20000 in
theorem alone_calls (o : Int) (w : World) :
    Calls Tryd.prog 38 #[.int .i64 o] w fun e w' => e = .returned (.int .u32 (aloneN o : Nat)) ∧ w' = w := by
  have hB := Lib.hid (show aloneN o = if 0 ≤ o ∧ o < 32 then 2 ^ o.toNat else 0 from rfl)
  obtain ⟨t, ht⟩ : ∃ t, t = aloneN o := ⟨_, rfl⟩
  rw [← ht] at hB ⊢
  clear ht
  by_cases h0 : o < 0
  · go_enter Tryd.func38, Tryd.ntmps38
    go_wp2_with fail
    go_ret
    exact ⟨by rw [hB.out, if_neg (by omega)]; rfl, rfl⟩
  · by_cases h1 : o < 32
    · obtain ⟨k, rfl⟩ : ∃ k : Nat, o = (k : Int) := ⟨o.toNat, by omega⟩
      obtain ⟨P, hP⟩ : ∃ P : Nat, P = 2 ^ k := ⟨_, rfl⟩
      have hPl : P < 4294967296 := by
        have : (2 : Nat) ^ k < 2 ^ 32 := Nat.pow_lt_pow_right (by omega) (by omega)
        omega
      have hPi : (2 : Int) ^ k = (P : Int) := by rw [hP]; simp
      have HP := Lib.hid hP
      have hw : IntKind.u32.wrap (P : Int) = (P : Int) := IntWalk.u32_in _ (by omega)
      have hk2 : (k : Int) < 32 := h1
      clear hP h0 h1
      go_enter Tryd.func38, Tryd.ntmps38
      go_wp2_with fail
      go_ret
      exact ⟨by rw [hB.out, if_pos (by omega), show (k : Int).toNat = k by omega, ← HP.out]; rfl, rfl⟩
    · go_enter Tryd.func38, Tryd.ntmps38
      go_wp2_with fail
      go_ret
      exact ⟨by rw [hB.out, if_neg (by omega)]; rfl, rfl⟩
set_option maxHeartbeats 1000000 in
set_option maxRecDepth 20000 in
theorem MHas_calls (m : Nat) (o : Int) (w : World) (hm : m < 4294967296) :
    Calls Tryd.prog 18 #[.int .u32 m, .int .i64 o] w fun e w' => e = .returned (.bool (decide (m &&& aloneN o ≠ 0))) ∧ w' = w := by
  have hA := alone_calls o
  have hl := aloneN_lt o
  have hand := u32_and_nat m (aloneN o) hm hl
  obtain ⟨t, ht⟩ : ∃ t, t = aloneN o := ⟨_, rfl⟩
  rw [← ht] at hA hand hl ⊢
  obtain ⟨z, hz⟩ : ∃ z, z = m &&& t := ⟨_, rfl⟩
  rw [← hz] at hand ⊢
  clear ht hz
  go_enter Tryd.func18, Tryd.ntmps18
  go_wp2_with fail
  refine (hA _).mono ?_
  rintro e w' ⟨rfl, rfl⟩
  go_wp2_with fail
  go_ret
  refine ⟨?_, rfl⟩
  show Ending.returned (.bool ((z : Int) != 0)) = _
  congr 2
  rw [Bool.eq_iff_iff]
  simp
theorem hasM_bit {m k : Nat} (hk : k < 32) : decide (m &&& aloneN (k : Int) ≠ 0) = m.testBit k := by
  rw [aloneN_nat hk]
  have : m &&& 2 ^ k = if m.testBit k = true then 2 ^ k else 0 := by
    apply Nat.eq_of_testBit_eq
    intro j
    rw [Nat.testBit_and, Nat.testBit_two_pow]
    by_cases h : m.testBit k = true
    · rw [if_pos h, Nat.testBit_two_pow]
      by_cases hij : k = j
      · subst hij; simp [h]
      · simp [hij]
    · rw [if_neg h, Nat.zero_testBit]
      by_cases hij : k = j
      · subst hij; simp [h]
      · simp [hij]
  rw [this]
  cases h : m.testBit k <;> simp
set_option maxHeartbeats 1000000 in
set_option maxRecDepth 20000 in
theorem MLess_calls (m n : Nat) (w : World) (hm : m < 4294967296) (hn : n < 4294967296) :
    Calls Tryd.prog 54 #[.int .u32 m, .int .u32 n] w fun e w' => e = .returned (.int .u32 (lessN m n : Nat)) ∧ w' = w := by
  have h := u32_andNot_nat m n hm hn
  go_enter Tryd.func54, Tryd.ntmps54
  go_wp2_with fail
  go_ret
  exact ⟨rfl, rfl⟩
set_option maxHeartbeats 1000000 in
set_option maxRecDepth 20000 in
theorem MWithin_calls (m n : Nat) (w : World) (hm : m < 4294967296) (hn : n < 4294967296) :
    Calls Tryd.prog 44 #[.int .u32 m, .int .u32 n] w fun e w' => e = .returned (.bool (decide (lessN m n = 0))) ∧ w' = w := by
  have h := fun W => MLess_calls m n W hm hn
  obtain ⟨t, ht⟩ : ∃ t, t = lessN m n := ⟨_, rfl⟩
  rw [← ht] at h ⊢
  clear ht
  go_enter Tryd.func44, Tryd.ntmps44
  go_wp2_with fail
  refine (h _).mono ?_
  rintro e w' ⟨rfl, rfl⟩
  go_wp2_with fail
  go_ret
  refine ⟨?_, rfl⟩
  show Ending.returned (.bool ((t : Int) == 0)) = _
  congr 2
  rw [Bool.eq_iff_iff]
  simp
/-- Observers as values. -/
def iz (l : List Int) : List Value := l.map fun x => Value.int .i64 x
@[simp] theorem iz_length (l : List Int) : (iz l).length = l.length := by simp [iz]
theorem iz_get? {l : List Int} {k : Nat} {x : Int} (h : l[k]? = some x) : (iz l)[k]? = some (.int .i64 x) := by simp [iz, h]
set_option maxHeartbeats 2000000 in
set_option maxRecDepth 20000 in
theorem With_calls (m : Nat) (A : Option Addr) (l : List Int) (n c b : Nat) (w : World) (hm : m < 4294967296) (hs : Sl w b A (iz l)) (hn : l.length = n) (hnm : n ≤ 1000000000000) :
    Calls Tryd.prog 90 #[.int .u32 m, .slice A n c] w fun e w' => e = .returned (.int .u32 (withN m l : Nat)) ∧ w' = w := by
  have HN := Lib.hid hn
  clear hn
  go_enter Tryd.func90, Tryd.ntmps90
  go_wp2_with fail
  go_loopw [0, 9] (fun mm i wr => ∃ j : Nat, j ≤ n ∧ i = .int .i64 j ∧ mm = .int .u32 (withN m (l.take j) : Nat) ∧ wr = w) (fun _ i _ => n - (intOf i).toNat)
  case atStart => exact ⟨0, Nat.zero_le _, rfl, rfl, rfl⟩
  case round =>
    obtain ⟨j, hj, rfl, rfl, rfl⟩ := hrel
    by_cases hlt : j < n
    · obtain ⟨o, ho⟩ : ∃ o, l[j]? = some o := ⟨_, List.getElem?_eq_getElem (by rw [HN.out]; exact hlt)⟩
      obtain ⟨off, rfl, hcl⟩ := hs (by intro h0; have := congrArg List.length h0; simp at this; rw [this] at ho; simp at ho)
      have hcj := hcl j _ (iz_get? ho)
      have hA := alone_calls o
      have hl := aloneN_lt o
      have hwl := withN_lt hm (l.take j)
      have hor := u32_or_nat (withN m (l.take j)) (aloneN o) hwl hl
      have hsn : withN m (l.take (j + 1)) = withN m (l.take j) ||| aloneN o := by rw [List.take_add_one, ho, ← withN_snoc]; rfl
      obtain ⟨t, ht⟩ : ∃ t, t = aloneN o := ⟨_, rfl⟩
      obtain ⟨u, hu⟩ : ∃ u, u = withN m (l.take j) := ⟨_, rfl⟩
      rw [← ht] at hA hor hl hsn
      rw [← hu] at hor hsn hwl ⊢
      obtain ⟨v, hv⟩ : ∃ v, v = u ||| t := ⟨_, rfl⟩
      rw [← hv] at hor hsn
      have HS := Lib.hid hsn
      have ej : (j : Int) < (n : Int) := by omega
      clear ht hu hv hsn hcl ho hs
      go_wp2_with fail
      refine (hA _).mono ?_
      rintro e w' ⟨rfl, rfl⟩
      go_wp2_with fail
      go_roundw
      case rel => exact ⟨j + 1, by omega, by go_num, by rw [HS.out], trivial⟩
      case measure => simp [intOf]; omega
    · obtain rfl : n = j := by omega
      rw [List.take_of_length_le (by rw [HN.out]; omega)]
      obtain ⟨u, hu⟩ : ∃ u, u = withN m l := ⟨_, rfl⟩
      rw [← hu]
      have HU := Lib.hid hu
      clear hu
      go_wp2_with fail
      go_ret
      exact ⟨by rw [← HU.out]; rfl, rfl⟩
set_option maxHeartbeats 2000000 in
set_option maxRecDepth 20000 in
theorem Of_calls (A : Option Addr) (l : List Int) (n c b : Nat) (w : World) (hs : Sl w b A (iz l)) (hn : l.length = n) (hnm : n ≤ 1000000000000) :
    Calls Tryd.prog 70 #[.slice A n c] w fun e w' => e = .returned (.int .u32 (withN 0 l : Nat)) ∧ w' = w := by
  have h := With_calls 0 A l n c b w (by omega) hs hn hnm
  go_enter Tryd.func70, Tryd.ntmps70
  go_wp2_with fail
  refine h.mono ?_
  rintro e w' ⟨rfl, rfl⟩
  go_wp2_with fail
  go_ret
  exact ⟨rfl, rfl⟩
end Go.Proofs.YtnbbglhpjpebhaaDoor
/- has, Len, At: what stands where. Conditions: a board has 48 cells at most. -/
namespace Go.Proofs.YtnbbglhpjpebhaaDoor
open Go.RowKit

theorem results_ct {P : Program} {fn : Func} {p t : Tmp} {ty : TypeId} (h : fn.results = #[.cell p ty, .tmp t]) (tmps : Array Value) (w : World) (g : Nat) (tt : TypeId) (cs : Array Value) (fr : Nat × Nat) (d : TypeDesc)
    (hp : tmps.getD p undef = .pointer (some ⟨g, 0, none⟩)) (hg : w.heap[g]? = some (.cells cs tt fr))
    (hu : P.underlying ty = some d) (hd : (match d with | .struct _ | .array _ _ => true | _ => false) = true) (hi : (P.info? ty).map (·.size) = some cs.size) :
    (results fn tmps).run P w = .ok (.tuple #[.agg cs, tmps.getD t undef]) w := by
  have hp' : tmps[p]?.getD undef = .pointer (some ⟨g, 0, none⟩) := by simpa using hp
  simp [results, h, hp', asAddr, run_loadVar_row w g tt ty cs fr d hg hu hd hi]
set_option maxHeartbeats 1000000 in
set_option maxRecDepth 20000 in
theorem bHas_calls (f : Nat → Int) (g : Nat → Nat) (n : Nat) (i : Int) (w : World) :
    Calls Tryd.prog 43 #[.agg (bdA f g n), .int .i64 i] w fun e w' => e = .returned (.bool (decide (0 ≤ i ∧ i < (n : Int)))) ∧ Below w.heap.size w w' := by
  have q := BoxB.new_ w f g n
  have hb := below_alloc1 w (.cells (bdA f g n) 36)
  have hc := q.cn
  obtain ⟨r, hr⟩ : ∃ r, r = decide (0 ≤ i ∧ i < (n : Int)) := ⟨_, rfl⟩
  rw [← hr]
  have HR := Lib.hid hr
  clear hr
  by_cases h0 : 0 ≤ i
  · have h0d : decide (0 ≤ i) = true := by simpa using h0
    go_enter Tryd.func43, Tryd.ntmps43
    go_wp2_with fail
    go_ret
    exact ⟨by rw [HR.out]; simp [h0], hb⟩
  · have h0d : decide (0 ≤ i) = false := by simpa using h0
    go_enter Tryd.func43, Tryd.ntmps43
    go_wp2_with fail
    go_ret
    exact ⟨by rw [HR.out]; simp; omega, hb⟩
set_option maxHeartbeats 1000000 in
set_option maxRecDepth 20000 in
theorem bLen_calls (f : Nat → Int) (g : Nat → Nat) (n : Nat) (w : World) :
    Calls Tryd.prog 46 #[.agg (bdA f g n)] w fun e w' => e = .returned (.int .i64 (n : Int)) ∧ Below w.heap.size w w' := by
  have q := BoxB.new_ w f g n
  have hb := below_alloc1 w (.cells (bdA f g n) 36)
  have hc := q.cn
  go_enter Tryd.func46, Tryd.ntmps46
  go_wp2_with fail
  go_ret
  exact ⟨rfl, hb⟩
theorem cell_size2 (a b : Value) : (Tryd.prog.info? 33).map (·.size) = some (#[a, b] : Array Value).size := by kernel_rfl
/-- Block b is a cell of a board. -/
def BoxC (w : World) (b : Nat) (x : Int) (y : Nat) : Prop := w.heap[b]? = some (.cells #[.int .i32 x, .int .u32 (y : Int)] 33 (0, 0))
namespace BoxC
variable {w w' : World} {b y : Nat} {x : Int}
theorem new_ (w : World) (x : Int) (y : Nat) : BoxC (w.alloc (.cells #[.int .i32 x, .int .u32 (y : Int)] 33)) w.heap.size x y := heap_alloc_new w _
theorem lt (h : BoxC w b x y) : b < w.heap.size := (Array.getElem?_eq_some_iff.1 h).1
theorem c0 (h : BoxC w b x y) : w.cell? ⟨b, 0, none⟩ = some (.int .i32 x) := by rw [cell_of_row w b 0 _ _ _ h]; rfl
theorem c1 (h : BoxC w b x y) : w.cell? ⟨b, 1, none⟩ = some (.int .u32 (y : Int)) := by rw [cell_of_row w b 1 _ _ _ h]; rfl
theorem fr (h : BoxC w b x y) (j : Nat) : w.frozen? ⟨b, j, none⟩ = false := frozen_of_row w b j _ _ h
theorem ext (h : BoxC w b x y) (hb : Below w.heap.size w w') : BoxC w' b x y := (hb.block b h.lt).trans h
theorem alloc (h : BoxC w b x y) (o : Obj) : BoxC (w.alloc o) b x y := (Below.heap_alloc w o b h.lt).trans h
theorem set0 (h : BoxC w b x y) (u : Int) : BoxC (w.setCell ⟨b, 0, none⟩ (.int .i32 u)) b u y := heap_setCell_same w b 0 _ _ _ h
theorem set1 (h : BoxC w b x y) (u : Nat) : BoxC (w.setCell ⟨b, 1, none⟩ (.int .u32 (u : Int))) b x u := heap_setCell_same w b 1 _ _ _ h
theorem other (h : BoxC w b x y) {p : Addr} (hp : b ≠ p.block) (u : Value) : BoxC (w.setCell p u) b x y := (heap_setCell_other w p b u hp).trans h
end BoxC
set_option maxHeartbeats 2000000 in
set_option maxRecDepth 20000 in
theorem bAt_in (f : Nat → Int) (g : Nat → Nat) (n i : Nat) (w : World) (hi : i < n) (hn : n ≤ 48) :
    Calls Tryd.prog 88 #[.agg (bdA f g n), .int .i64 i] w fun e w' => e = .returned (.tuple #[.agg #[.int .i32 (f i), .int .u32 ((g i : Nat) : Int)], .bool true]) ∧ Below w.heap.size w w' := by
  have q0 := (BoxB.new_ w f g n).alloc (.cells #[.int .i32 0, .int .u32 (0 : Nat)] 33)
  have q1 := BoxC.new_ (w.alloc (.cells (bdA f g n) 36)) 0 0
  rw [show (w.alloc (.cells (bdA f g n) 36)).heap.size = w.heap.size + 1 by simp] at q1
  have hb := below_alloc2 w (.cells (bdA f g n) 36) (.cells #[.int .i32 0, .int .u32 (0 : Nat)] 33)
  have hH := fun W => bHas_calls f g n (i : Int) W
  rw [show decide (0 ≤ (i : Int) ∧ (i : Int) < (n : Int)) = true by simp; omega] at hH
  have ei : (i : Int) < 48 := by omega
  go_enter Tryd.func88, Tryd.ntmps88
  go_wp2_with (refine wpList_load_bd rfl (.tmp 2) rfl w.heap.size rfl _ _ _ q0 ?_)
  refine (hH _).mono ?_
  rintro e w1 ⟨rfl, hb2⟩
  have q0 := q0.ext hb2
  have q1 := q1.ext hb2
  have hb := hb.trans (hb2.mono hb.size)
  have a0 := q0.cv (i := i) (by omega)
  have a1 := q0.cl (i := i) (by omega)
  have b0 := q1.c0
  have b1 := q1.c1
  have f0 := q1.fr 0
  have f1 := q1.fr 1
  clear hb2 hH
  go_wp2_with fail
  have hE := (q1.set0 (f i)).set1 (g i)
  refine bodyPost_ret (results_ct (P := Tryd.prog) rfl _ _ (w.heap.size + 1) _ _ (0, 0) _ rfl hE Tryd.underlying33 rfl (cell_size2 _ _)) rfl ⟨rfl, (hb.setCell (by simp) _).setCell (by simp) _⟩
set_option maxHeartbeats 2000000 in
set_option maxRecDepth 20000 in
theorem bAt_out (f : Nat → Int) (g : Nat → Nat) (n : Nat) (i : Int) (w : World) (hi : ¬(0 ≤ i ∧ i < (n : Int))) :
    Calls Tryd.prog 88 #[.agg (bdA f g n), .int .i64 i] w fun e w' => e = .returned (.tuple #[.agg #[.int .i32 0, .int .u32 0], .bool false]) ∧ Below w.heap.size w w' := by
  have q0 := (BoxB.new_ w f g n).alloc (.cells #[.int .i32 0, .int .u32 (0 : Nat)] 33)
  have q1 := BoxC.new_ (w.alloc (.cells (bdA f g n) 36)) 0 0
  rw [show (w.alloc (.cells (bdA f g n) 36)).heap.size = w.heap.size + 1 by simp] at q1
  have hb := below_alloc2 w (.cells (bdA f g n) 36) (.cells #[.int .i32 0, .int .u32 (0 : Nat)] 33)
  have hH := fun W => bHas_calls f g n i W
  rw [show decide (0 ≤ i ∧ i < (n : Int)) = false by simpa using hi] at hH
  go_enter Tryd.func88, Tryd.ntmps88
  go_wp2_with (refine wpList_load_bd rfl (.tmp 2) rfl w.heap.size rfl _ _ _ q0 ?_)
  refine (hH _).mono ?_
  rintro e w1 ⟨rfl, hb2⟩
  have q0 := q0.ext hb2
  have q1 := q1.ext hb2
  have hb := hb.trans (hb2.mono hb.size)
  have b0 := q1.c0
  have b1 := q1.c1
  have f0 := q1.fr 0
  have f1 := q1.fr 1
  clear hb2 hH
  go_wp2_with fail
  have hE := (q1.set0 0).set1 0
  refine bodyPost_ret (results_ct (P := Tryd.prog) rfl _ _ (w.heap.size + 1) _ _ (0, 0) _ rfl hE Tryd.underlying33 rfl (cell_size2 _ _)) rfl ⟨rfl, (hb.setCell (by simp) _).setCell (by simp) _⟩
end Go.Proofs.YtnbbglhpjpebhaaDoor
/- Put: another board with a cell set. Conditions: a board has 48 cells at most. -/
namespace Go.Proofs.YtnbbglhpjpebhaaDoor
open Go.RowKit

theorem wpList_alloc_bd {ops : Array Oper} {rest : List Oper} {o : Oper} {a : Act} {w : World} {Q : Exit → Act → World → Prop} (hg : o.guard = none) (ho : o.op = .alloc 36)
    (dst : Option Tmp) (hdst : o.dst = dst) (N : Nat) (hN : w.heap.size = N)
    (h : wpList Tryd.prog ops Q rest (a.put dst (.pointer (some ⟨N, 0, none⟩))) (w.alloc (.cells (bdA (fun _ => 0) (fun _ => 0) 0) 36))) : wpList Tryd.prog ops Q (o :: rest) a w := by
  subst hN
  refine Great.wpList_allocTo hg dst hdst _ _ ?_ h
  unfold execOp
  simp only [ho, Instr.alloc, newVar, newRow, run_newObj_alloc, Sem.run_bind, Sem.run_pure, Result.andThen_ok, bd_zero, Value.cells]
theorem wpList_store_bd {ops : Array Oper} {rest : List Oper} {o : Oper} {a : Act} {w : World} {Q : Exit → Act → World → Prop} (hg : o.guard = none) (x y : Operand) (ho : o.op = .store 36 x y)
    (b : Nat) (f' : Nat → Int) (g' : Nat → Nat) (n' : Nat) (hx : a.eval x = .pointer (some ⟨b, 0, none⟩)) (hy : a.eval y = .agg (bdA f' g' n')) (f : Nat → Int) (g : Nat → Nat) (n : Nat) (q : BoxB w b f g n)
    (h : wpList Tryd.prog ops Q rest (a.put o.dst undef) (w.setRow b (bdA f' g' n'))) : wpList Tryd.prog ops Q (o :: rest) a w :=
  wpList_plain hg fun _ hK => wp_store_row 36 x y ho b _ hx hy _ _ q (bd_size _ _ _) (by rw [bdA_size, bdA_size]) (bdA_all _ _ _) (hK _ _ h)
theorem wp_result_bd (fn : Func) (p t : Tmp) (h : fn.results = #[.cell p 36, .tmp t]) (tmps : Array Value) (w : World) (b : Nat) (f : Nat → Int) (g : Nat → Nat) (n : Nat) (hp : tmps.getD p undef = .pointer (some ⟨b, 0, none⟩)) (q : BoxB w b f g n) :
    (results fn tmps).run Tryd.prog w = .ok (.tuple #[.agg (bdA f g n), tmps.getD t undef]) w :=
  results_ct (P := Tryd.prog) h tmps w b _ _ (0, 0) _ hp q Tryd.underlying36 rfl (bd_size _ _ _)
set_option maxHeartbeats 2000000 in
set_option maxRecDepth 20000 in
theorem bPut_out (f : Nat → Int) (g : Nat → Nat) (n : Nat) (i : Int) (x : Int) (y : Nat) (w : World) (hi : ¬(0 ≤ i ∧ i < (n : Int))) :
    Calls Tryd.prog 27 #[.agg (bdA f g n), .int .i64 i, .agg #[.int .i32 x, .int .u32 (y : Int)]] w fun e w' => e = .returned (.tuple #[.agg (bdA f g n), .int .i64 7]) ∧ Below w.heap.size w w' := by
  have q0 := ((BoxB.new_ w f g n).alloc (.cells #[.int .i32 x, .int .u32 (y : Int)] 33)).alloc (.cells (bdA (fun _ => 0) (fun _ => 0) 0) 36)
  have q2 := BoxB.new_ ((w.alloc (.cells (bdA f g n) 36)).alloc (.cells #[.int .i32 x, .int .u32 (y : Int)] 33)) (fun _ => 0) (fun _ => 0) 0
  rw [show ((w.alloc (.cells (bdA f g n) 36)).alloc (.cells #[.int .i32 x, .int .u32 (y : Int)] 33)).heap.size = w.heap.size + 2 by simp] at q2
  have hb := below_alloc3 w (.cells (bdA f g n) 36) (.cells #[.int .i32 x, .int .u32 (y : Int)] 33) (.cells (bdA (fun _ => 0) (fun _ => 0) 0) 36)
  have hH := fun W => bHas_calls f g n i W
  rw [show decide (0 ≤ i ∧ i < (n : Int)) = false by simpa using hi] at hH
  go_enter Tryd.func27, Tryd.ntmps27
  go_wp2_with (first | refine wpList_alloc_bd rfl rfl _ rfl (w.heap.size + 2) (by simp) ?_ | refine wpList_load_bd rfl (.tmp 3) rfl w.heap.size rfl _ _ _ q0 ?_)
  refine (hH _).mono ?_
  rintro e w1 ⟨rfl, hb2⟩
  have q0 := q0.ext hb2
  have q2 := q2.ext hb2
  have hb := hb.trans (hb2.mono hb.size)
  clear hb2 hH
  go_wp2_with (first | refine wpList_load_bd rfl (.tmp 3) rfl w.heap.size rfl _ _ _ q0 ?_ | refine wpList_store_bd rfl (.tmp 6) (.tmp 12) rfl (w.heap.size + 2) _ _ _ rfl rfl _ _ _ q2 ?_)
  exact bodyPost_ret (wp_result_bd _ _ _ rfl _ _ (w.heap.size + 2) _ _ _ rfl (q2.row_ f g n)) rfl ⟨rfl, below_setRow hb _ _ (by omega)⟩
set_option maxHeartbeats 2000000 in
set_option maxRecDepth 20000 in
theorem bPut_in (f : Nat → Int) (g : Nat → Nat) (n i : Nat) (x : Int) (y : Nat) (w : World) (hi : i < n) (hn : n ≤ 48) :
    Calls Tryd.prog 27 #[.agg (bdA f g n), .int .i64 i, .agg #[.int .i32 x, .int .u32 (y : Int)]] w fun e w' => e = .returned (.tuple #[.agg (bdA (fun j => if j = i then x else f j) (fun j => if j = i then y else g j) n), .int .i64 0]) ∧ Below w.heap.size w w' := by
  have q0 := ((BoxB.new_ w f g n).alloc (.cells #[.int .i32 x, .int .u32 (y : Int)] 33)).alloc (.cells (bdA (fun _ => 0) (fun _ => 0) 0) 36)
  have q1 := (BoxC.new_ (w.alloc (.cells (bdA f g n) 36)) x y).alloc (.cells (bdA (fun _ => 0) (fun _ => 0) 0) 36)
  rw [show (w.alloc (.cells (bdA f g n) 36)).heap.size = w.heap.size + 1 by simp] at q1
  have q2 := BoxB.new_ ((w.alloc (.cells (bdA f g n) 36)).alloc (.cells #[.int .i32 x, .int .u32 (y : Int)] 33)) (fun _ => 0) (fun _ => 0) 0
  rw [show ((w.alloc (.cells (bdA f g n) 36)).alloc (.cells #[.int .i32 x, .int .u32 (y : Int)] 33)).heap.size = w.heap.size + 2 by simp] at q2
  have hb := below_alloc3 w (.cells (bdA f g n) 36) (.cells #[.int .i32 x, .int .u32 (y : Int)] 33) (.cells (bdA (fun _ => 0) (fun _ => 0) 0) 36)
  have hH := fun W => bHas_calls f g n (i : Int) W
  rw [show decide (0 ≤ (i : Int) ∧ (i : Int) < (n : Int)) = true by simp; omega] at hH
  have ei : (i : Int) < 48 := by omega
  go_enter Tryd.func27, Tryd.ntmps27
  go_wp2_with (first | refine wpList_alloc_bd rfl rfl _ rfl (w.heap.size + 2) (by simp) ?_ | refine wpList_load_bd rfl (.tmp 3) rfl w.heap.size rfl _ _ _ q0 ?_)
  refine (hH _).mono ?_
  rintro e w1 ⟨rfl, hb2⟩
  have q0 := q0.ext hb2
  have q1 := q1.ext hb2
  have q2 := q2.ext hb2
  have hb := hb.trans (hb2.mono hb.size)
  have a0 := q0.cv (i := i) (by omega)
  have a1 := q0.cl (i := i) (by omega)
  have b0 := q1.c0
  have b1 := q1.c1
  have f0 := q0.fr (i * 2)
  have f1 := q0.fr (i * 2 + 1)
  have p0 := (q0.setVal (k := i) (by omega) x).setLab (k := i) (by omega) y
  have p2 := (q2.other (p := ⟨w.heap.size, i * 2, none⟩) (by simp) (.int .i32 x)).other (p := ⟨w.heap.size, i * 2 + 1, none⟩) (by simp) (.int .u32 (y : Int))
  clear hb2 hH
  go_wp2_with (first | refine wpList_load_bd rfl (.tmp 3) rfl w.heap.size rfl _ _ _ p0 ?_ | refine wpList_store_bd rfl (.tmp 6) (.tmp 17) rfl (w.heap.size + 2) _ _ _ rfl rfl _ _ _ p2 ?_)
  exact bodyPost_ret (wp_result_bd _ _ _ rfl _ _ (w.heap.size + 2) _ _ _ rfl (p2.row_ _ _ n)) rfl ⟨rfl, below_setRow ((hb.setCell (by simp) _).setCell (by simp) _) _ _ (by omega)⟩
end Go.Proofs.YtnbbglhpjpebhaaDoor
/- Join, for the board's seat (as Meet has it). Conditions: the numbers fit 32 bits, the list is short. -/
namespace Go.Proofs.YtnbbglhpjpebhaaDoor
open Go.RowKit

/-- Masks as values. -/
def ms (l : List Nat) : List Value := l.map fun (x : Nat) => Value.int .u32 (x : Int)
@[simp] theorem ms_length (l : List Nat) : (ms l).length = l.length := by simp [ms]
theorem ms_get? {l : List Nat} {k x : Nat} (h : l[k]? = some x) : (ms l)[k]? = some (.int .u32 (x : Int)) := by simp [ms, h]
def joinN (m : Nat) (l : List Nat) : Nat := l.foldl (· ||| ·) m
theorem joinN_snoc (m : Nat) (l : List Nat) (x : Nat) : joinN m (l ++ [x]) = joinN m l ||| x := by simp [joinN]
theorem joinN_lt {m : Nat} (h : m < 4294967296) (l : List Nat) (hl : ∀ x ∈ l, x < 4294967296) : joinN m l < 4294967296 := by
  induction l generalizing m with
  | nil => exact h
  | cons x l ih => exact ih (m := m ||| x) (Nat.or_lt_two_pow (n := 32) h (hl x (by simp))) (fun y hy => hl y (by simp [hy]))
set_option maxHeartbeats 2000000 in
set_option maxRecDepth 20000 in
theorem MJoin_calls (m : Nat) (A : Option Addr) (l : List Nat) (n c b : Nat) (w : World) (hm : m < 4294967296) (hl : ∀ x ∈ l, x < 4294967296) (hs : Sl w b A (ms l)) (hn : l.length = n) (hnm : n ≤ 1000000000000) :
    Calls Tryd.prog 100 #[.int .u32 m, .slice A n c] w fun e w' => e = .returned (.int .u32 (joinN m l : Nat)) ∧ w' = w := by
  have HN := Lib.hid hn
  have HL := Lib.hid hl
  clear hn hl
  go_enter Tryd.func100, Tryd.ntmps100
  go_wp2_with fail
  go_loopw [0, 9] (fun mm i wr => ∃ j : Nat, j ≤ n ∧ i = .int .i64 j ∧ mm = .int .u32 (joinN m (l.take j) : Nat) ∧ wr = w) (fun _ i _ => n - (intOf i).toNat)
  case atStart => exact ⟨0, Nat.zero_le _, rfl, rfl, rfl⟩
  case round =>
    obtain ⟨j, hj, rfl, rfl, rfl⟩ := hrel
    by_cases hlt : j < n
    · obtain ⟨o, ho⟩ : ∃ o, l[j]? = some o := ⟨_, List.getElem?_eq_getElem (by rw [HN.out]; exact hlt)⟩
      obtain ⟨off, rfl, hcl⟩ := hs (by intro h0; have := congrArg List.length h0; simp at this; rw [this] at ho; simp at ho)
      have hcj := hcl j _ (ms_get? ho)
      have hlo := HL.out o (List.mem_of_getElem? ho)
      have hwl := joinN_lt hm (l.take j) (fun x hx => HL.out x (List.mem_of_mem_take hx))
      have hor := u32_or_nat (joinN m (l.take j)) o hwl hlo
      have hsn : joinN m (l.take (j + 1)) = joinN m (l.take j) ||| o := by rw [List.take_add_one, ho, ← joinN_snoc]; rfl
      obtain ⟨u, hu⟩ : ∃ u, u = joinN m (l.take j) := ⟨_, rfl⟩
      rw [← hu] at hor hsn hwl ⊢
      have HS := Lib.hid hsn
      have ej : (j : Int) < (n : Int) := by omega
      clear hu hsn hcl ho hs
      go_wp2_with fail
      go_roundw
      case rel => exact ⟨j + 1, by omega, by go_num, by rw [HS.out], trivial⟩
      case measure => simp [intOf]; omega
    · obtain rfl : n = j := by omega
      rw [List.take_of_length_le (by rw [HN.out]; omega)]
      obtain ⟨u, hu⟩ : ∃ u, u = joinN m l := ⟨_, rfl⟩
      rw [← hu]
      have HU := Lib.hid hu
      clear hu
      go_wp2_with fail
      go_ret
      exact ⟨by rw [← HU.out]; rfl, rfl⟩
end Go.Proofs.YtnbbglhpjpebhaaDoor
/- Show: another board whose cell more may see. Conditions: a board has 48 cells at most; the labels fit 32 bits. -/
namespace Go.Proofs.YtnbbglhpjpebhaaDoor
open Go.RowKit

theorem results_ctt {P : Program} {fn : Func} {p t u : Tmp} {ty : TypeId} (h : fn.results = #[.cell p ty, .tmp t, .tmp u]) (tmps : Array Value) (w : World) (g : Nat) (tt : TypeId) (cs : Array Value) (fr : Nat × Nat) (d : TypeDesc)
    (hp : tmps.getD p undef = .pointer (some ⟨g, 0, none⟩)) (hg : w.heap[g]? = some (.cells cs tt fr))
    (hu : P.underlying ty = some d) (hd : (match d with | .struct _ | .array _ _ => true | _ => false) = true) (hi : (P.info? ty).map (·.size) = some cs.size) :
    (results fn tmps).run P w = .ok (.tuple #[.agg cs, tmps.getD t undef, tmps.getD u undef]) w := by
  have hp' : tmps[p]?.getD undef = .pointer (some ⟨g, 0, none⟩) := by simpa using hp
  simp [results, h, hp', asAddr, run_loadVar_row w g tt ty cs fr d hg hu hd hi]
theorem wp_result_bdtt (fn : Func) (p t u : Tmp) (h : fn.results = #[.cell p 36, .tmp t, .tmp u]) (tmps : Array Value) (w : World) (b : Nat) (f : Nat → Int) (g : Nat → Nat) (n : Nat) (hp : tmps.getD p undef = .pointer (some ⟨b, 0, none⟩)) (q : BoxB w b f g n) :
    (results fn tmps).run Tryd.prog w = .ok (.tuple #[.agg (bdA f g n), tmps.getD t undef, tmps.getD u undef]) w :=
  results_ctt (P := Tryd.prog) h tmps w b _ _ (0, 0) _ hp q Tryd.underlying36 rfl (bd_size _ _ _)
set_option maxHeartbeats 2000000 in
set_option maxRecDepth 20000 in
theorem bShow_out (f : Nat → Int) (g : Nat → Nat) (n : Nat) (i : Int) (m : Nat) (w : World) (hi : ¬(0 ≤ i ∧ i < (n : Int))) :
    Calls Tryd.prog 91 #[.agg (bdA f g n), .int .i64 i, .int .u32 m] w fun e w' => e = .returned (.tuple #[.agg (bdA f g n), .bool false, .int .i64 7]) ∧ Below w.heap.size w w' := by
  have q0 := (BoxB.new_ w f g n).alloc (.cells (bdA (fun _ => 0) (fun _ => 0) 0) 36)
  have q2 := BoxB.new_ (w.alloc (.cells (bdA f g n) 36)) (fun _ => 0) (fun _ => 0) 0
  rw [show (w.alloc (.cells (bdA f g n) 36)).heap.size = w.heap.size + 1 by simp] at q2
  have hb := below_alloc2 w (.cells (bdA f g n) 36) (.cells (bdA (fun _ => 0) (fun _ => 0) 0) 36)
  have hH := fun W => bHas_calls f g n i W
  rw [show decide (0 ≤ i ∧ i < (n : Int)) = false by simpa using hi] at hH
  go_enter Tryd.func91, Tryd.ntmps91
  go_wp2_with (first | refine wpList_alloc_bd rfl rfl _ rfl (w.heap.size + 1) (by simp) ?_ | refine wpList_load_bd rfl (.tmp 3) rfl w.heap.size rfl _ _ _ q0 ?_)
  refine (hH _).mono ?_
  rintro e w1 ⟨rfl, hb2⟩
  have q0 := q0.ext hb2
  have q2 := q2.ext hb2
  have hb := hb.trans (hb2.mono hb.size)
  clear hb2 hH
  go_wp2_with (first | refine wpList_load_bd rfl (.tmp 3) rfl w.heap.size rfl _ _ _ q0 ?_ | refine wpList_store_bd rfl (.tmp 6) (.tmp 14) rfl (w.heap.size + 1) _ _ _ rfl rfl _ _ _ q2 ?_)
  exact bodyPost_ret (wp_result_bdtt _ _ _ _ rfl _ _ (w.heap.size + 1) _ _ _ rfl (q2.row_ f g n)) rfl ⟨rfl, below_setRow hb _ _ (by omega)⟩
end Go.Proofs.YtnbbglhpjpebhaaDoor
/- Show of a cell that is there; View. Conditions: a board has 48 cells at most; the labels fit 32 bits. -/
namespace Go.Proofs.YtnbbglhpjpebhaaDoor
open Go.RowKit

theorem yieldsIf_load_bd {ops : Array Oper} {S : World → Prop} {op : Oper} {a : Act} (hw : Region.wanted op (yielded ops a.tmps) = true) (x : Operand) (ho : op.op = .load 36 x)
    (b : Nat) (hx : a.eval x = .pointer (some ⟨b, 0, none⟩)) (f : Nat → Int) (g : Nat → Nat) (n : Nat) (hS : ∀ w, S w → BoxB w b f g n) : YieldsIf Tryd.prog ops S op (.agg (bdA f g n)) a :=
  .inl ⟨hw, fun w hw' => by
    unfold execOp
    simp only [ho, hx, Sem.run_bind, (hS w hw').load, Sem.run_pure, Result.andThen_ok]⟩
theorem BoxB.set1 {w : World} {b : Nat} {f : Nat → Int} {g : Nat → Nat} {n : Nat} (h : BoxB w b f g n) {p : Addr} (hp : b ≠ p.block) (u : Value) : BoxB (w.setCell p u) b f g n := h.other hp u
set_option maxHeartbeats 4000000 in
set_option maxRecDepth 20000 in
theorem bShow_in (f : Nat → Int) (g : Nat → Nat) (n i : Nat) (m : Nat) (w : World) (hi : i < n) (hn : n ≤ 48) (hgi : g i < 4294967296) (hm : m < 4294967296) :
    Calls Tryd.prog 91 #[.agg (bdA f g n), .int .i64 i, .int .u32 m] w fun e w' => e = .returned (.tuple #[.agg (bdA f (fun j => if j = i then g i ||| m else g j) n), .bool (!decide (lessN m (g i) = 0)), .int .i64 0]) ∧ Below w.heap.size w w' := by
  have q0 := (BoxB.new_ w f g n).alloc (.cells (bdA (fun _ => 0) (fun _ => 0) 0) 36)
  have q2 := BoxB.new_ (w.alloc (.cells (bdA f g n) 36)) (fun _ => 0) (fun _ => 0) 0
  rw [show (w.alloc (.cells (bdA f g n) 36)).heap.size = w.heap.size + 1 by simp] at q2
  have hb := below_alloc2 w (.cells (bdA f g n) 36) (.cells (bdA (fun _ => 0) (fun _ => 0) 0) 36)
  have hH := fun W => bHas_calls f g n (i : Int) W
  rw [show decide (0 ≤ (i : Int) ∧ (i : Int) < (n : Int)) = true by simp; omega] at hH
  have ei : (i : Int) < 48 := by omega
  obtain ⟨G, hG⟩ : ∃ G, G = g i := ⟨_, rfl⟩
  have hGl : G < 4294967296 := by omega
  have hJ := fun W b h => MJoin_calls G (some ⟨b, 0, none⟩) [m] 1 1 b W hGl (by simpa using hm) h rfl (by omega)
  have hW := fun W => MWithin_calls m G W hm hGl
  have eJ : joinN G [m] = G ||| m := rfl
  rw [eJ] at hJ
  obtain ⟨J, hJe⟩ : ∃ J, J = G ||| m := ⟨_, rfl⟩
  obtain ⟨d, hd⟩ : ∃ d, d = decide (lessN m G = 0) := ⟨_, rfl⟩
  rw [← hJe] at hJ
  rw [← hd] at hW
  rw [← hG]
  rw [← hJe, ← hd]
  have HG := Lib.hid hG
  clear hG hJe hd eJ hgi hm
  go_enter Tryd.func91, Tryd.ntmps91
  go_wp2_with (first | refine wpList_alloc_bd rfl rfl _ rfl (w.heap.size + 1) (by simp) ?_ | refine wpList_load_bd rfl (.tmp 3) rfl w.heap.size rfl _ _ _ q0 ?_)
  refine (hH _).mono ?_
  rintro e w1 ⟨rfl, hb2⟩
  have q0 := q0.ext hb2
  have q2 := q2.ext hb2
  have hb := hb.trans (hb2.mono hb.size)
  have hz1 := q2.lt
  have a1 := q0.cl (i := i) (by omega)
  rw [← HG.out] at a1
  have f1 := q0.fr (i * 2 + 1)
  clear hb2 hH
  go_wp2_with fail
  have s3 := below_alloc1 w1 (.cells #[.int .u32 (m : Int)] 31)
  refine (hJ _ _ (Sl.one_new w1 (.int .u32 (m : Int)) 31)).mono ?_
  rintro e w2 ⟨rfl, rfl⟩
  have q0 := q0.ext s3
  have q2 := q2.ext s3
  have hb := hb.trans (s3.mono hb.size)
  have p0 := q0.setLab (k := i) (by omega) J
  have p2 := q2.other (p := ⟨w.heap.size, i * 2 + 1, none⟩) (by simp) (.int .u32 (J : Int))
  have hb := hb.setCell (p := ⟨w.heap.size, i * 2 + 1, none⟩) (by simp) (.int .u32 (J : Int))
  have f2 := q0.fr (i * 2 + 1)
  have a2 := q0.cl (i := i) (by omega)
  clear s3 hJ a1 f1
  go_wp2_with fail
  refine wp_region_held_drew (S := fun w' => BoxB w' w.heap.size f (fun j => if j = i then J else g j) n) (by kernel_rfl) ?_ (fun hHeld => ?_)
  · exact p0
  refine wpAnyH_take (i := 0) (by simp only [List.getElem?_toArray, List.getElem?_cons_zero]; rfl) (by kernel_rfl) (by kernel_rfl) (by kernel_rfl) (by exact fun _ _ _ h => h) (by exact yieldsIf_load_bd (by rfl) (.tmp 3) rfl w.heap.size rfl _ _ _ (fun w h => h)) hHeld ?_
  try simp only [Act.put, List.setIfInBounds_toArray, List.set_cons_zero, List.set_cons_succ]
  refine wpAnyH_take (i := 1) (v := ?sv1) (by simp only [List.getElem?_toArray, List.getElem?_cons_succ, List.getElem?_cons_zero]; rfl) (by kernel_rfl) (by kernel_rfl) (by kernel_rfl) (by exact fun _ _ _ h => h) (Or.inl ⟨by rfl, ?sy1⟩) hHeld ?_
  case sy1 => (intro w hSw; (try dsimp only at hSw); skip; go_simp; try (with_reducible rfl))
  try simp only [Act.put, List.setIfInBounds_toArray, List.set_cons_zero, List.set_cons_succ]
  refine wpAnyH_take (i := 2) (v := ?sv2) (by simp only [List.getElem?_toArray, List.getElem?_cons_succ, List.getElem?_cons_zero]; rfl) (by kernel_rfl) (by kernel_rfl) (by kernel_rfl) (by exact fun _ _ _ h => h) (Or.inl ⟨by rfl, ?sy2⟩) hHeld ?_
  case sy2 => (intro w hSw; (try dsimp only at hSw); skip; go_simp; try (with_reducible rfl))
  try simp only [Act.put, List.setIfInBounds_toArray, List.set_cons_zero, List.set_cons_succ]
  refine wpAnyH_ready (rs := [3]) (by kernel_rfl) (by simp) ?_
  refine AllReadyH.cons (by simp only [List.getElem?_toArray, List.getElem?_cons_succ, List.getElem?_cons_zero]; rfl) (fun KK hKK => ?_) AllReadyH.nil
  go_simp
  refine (hW _).mono ?_
  rintro e w3 ⟨rfl, rfl⟩
  go_wp2_with fail
  refine hKK.out _ _ ?_ (fun hHeld => ?_)
  · exact p0
  clear hKK KK
  try simp only [Act.put, List.setIfInBounds_toArray, List.set_cons_zero, List.set_cons_succ]
  refine wpAnyH_take (i := 4) (v := ?sv4) (by simp only [List.getElem?_toArray, List.getElem?_cons_succ, List.getElem?_cons_zero]; rfl) (by kernel_rfl) (by kernel_rfl) (by kernel_rfl) (by exact fun _ _ _ h => h) (Or.inl ⟨by rfl, ?sy4⟩) hHeld ?_
  case sy4 => (intro w hSw; (try dsimp only at hSw); skip; go_simp; try (with_reducible rfl))
  try simp only [Act.put, List.setIfInBounds_toArray, List.set_cons_zero, List.set_cons_succ]
  refine wpAnyH_ready (rs := [5]) (by kernel_rfl) (by simp) ?_
  refine AllReadyH.cons (by simp only [List.getElem?_toArray, List.getElem?_cons_succ, List.getElem?_cons_zero]; rfl) (fun KK hKK => ?_) AllReadyH.nil
  rw [if_pos (by rfl)]
  refine wp_store_row 36 (.tmp 6) (.tmp 28) rfl (w.heap.size + 1) (bdA f (fun j => if j = i then J else g j) n) rfl rfl _ _ p2 (bd_size _ _ _) (by rw [bdA_size, bdA_size]) (bdA_all _ _ _) ?_
  refine hKK.out _ _ ?_ (fun hHeld => ?_)
  · exact p0.orow (by omega) _
  clear hKK KK
  try simp only [Act.put]
  refine wpAnyH_take (i := 6) (v := ?sv6) (by simp only [List.getElem?_toArray, List.getElem?_cons_succ, List.getElem?_cons_zero]; rfl) (by kernel_rfl) (by kernel_rfl) (by kernel_rfl) (by exact fun _ _ _ h => h) (Or.inl ⟨by rfl, ?sy6⟩) hHeld ?_
  case sy6 => (intro w hSw; (try dsimp only at hSw); skip; go_simp; try (with_reducible rfl))
  try simp only [Act.put, List.setIfInBounds_toArray, List.set_cons_zero, List.set_cons_succ]
  refine wpAnyH_take (i := 7) (v := ?sv7) (by simp only [List.getElem?_toArray, List.getElem?_cons_succ, List.getElem?_cons_zero]; rfl) (by kernel_rfl) (by kernel_rfl) (by kernel_rfl) (by exact fun _ _ _ h => h) (Or.inl ⟨by rfl, ?sy7⟩) hHeld ?_
  case sy7 => (intro w hSw; (try dsimp only at hSw); skip; go_simp; try (with_reducible rfl))
  try simp only [Act.put, List.setIfInBounds_toArray, List.set_cons_zero, List.set_cons_succ]
  refine wpAnyH_done (by kernel_rfl) ?_ _
  go_wp2_with fail
  exact bodyPost_ret (wp_result_bdtt _ _ _ _ rfl _ _ (w.heap.size + 1) _ _ _ rfl (p2.row_ _ _ n)) rfl ⟨rfl, below_setRow (below_drew hb) _ _ (by omega)⟩
set_option maxHeartbeats 4000000 in
set_option maxRecDepth 20000 in
theorem bView_calls (f : Nat → Int) (g : Nat → Nat) (n : Nat) (o : Int) (w : World) (hn : n ≤ 48) (hg : ∀ i, i < n → g i < 4294967296) :
    Calls Tryd.prog 33 #[.agg (bdA f g n), .int .i64 o] w fun e w' => e = .returned (.agg (bdA (fun j => if j < n ∧ sees (g j) o = false then 0 else f j) g n)) ∧ Below w.heap.size w w' := by
  have q0 := (BoxB.new_ w f g n).alloc (.cells (bdA (fun _ => 0) (fun _ => 0) 0) 36)
  have q2 := BoxB.new_ (w.alloc (.cells (bdA f g n) 36)) (fun _ => 0) (fun _ => 0) 0
  rw [show (w.alloc (.cells (bdA f g n) 36)).heap.size = w.heap.size + 1 by simp] at q2
  have hb := below_alloc2 w (.cells (bdA f g n) 36) (.cells (bdA (fun _ => 0) (fun _ => 0) 0) 36)
  have c0 := q0.cn
  have HG := Lib.hid hg
  clear hg
  go_enter Tryd.func33, Tryd.ntmps33
  go_wp2_with (refine wpList_alloc_bd rfl rfl _ rfl (w.heap.size + 1) (by simp) ?_)
  go_loopw [5, 8] (fun v i wr => ∃ k : Nat, k ≤ n ∧ i = .int .i64 k ∧ BoxB wr w.heap.size (fun j => if j < k ∧ sees (g j) o = false then 0 else f j) g n ∧ BoxB wr (w.heap.size + 1) (fun _ => 0) (fun _ => 0) 0 ∧ Below w.heap.size w wr) (fun _ i _ => n - (intOf i).toNat)
  case atStart => exact ⟨0, Nat.zero_le _, rfl, q0.congr (fun j _ => by simp) (fun _ _ => rfl), q2, hb⟩
  case round =>
    obtain ⟨k, hk, rfl, r0, r2, hb1⟩ := hrel
    clear q0 q2 hb c0
    by_cases hlt : k < n
    · have a1 := r0.cl (i := k) (by omega)
      have f0 := r0.fr (k * 2)
      obtain ⟨x0, a0⟩ : ∃ x0, wr.cell? ⟨w.heap.size, k * 2, none⟩ = some (.int .i32 x0) := ⟨_, r0.cv (i := k) (by omega)⟩
      have hH := fun W => MHas_calls (g k) o W (HG.out k hlt)
      have hS := Lib.hid (show sees (g k) o = decide (g k &&& aloneN o ≠ 0) from rfl)
      obtain ⟨d, hd⟩ : ∃ d, d = decide (g k &&& aloneN o ≠ 0) := ⟨_, rfl⟩
      rw [← hd] at hH hS
      obtain ⟨G, hG⟩ : ∃ G, G = g k := ⟨_, rfl⟩
      rw [← hG] at hH hS a1
      have HGk := Lib.hid hG
      have ek : (k : Int) < 48 := by omega
      have ej : (k : Int) < (n : Int) := by omega
      clear hd hG
      cases d with
      | true =>
        go_wp2_with fail
        refine (hH _).mono ?_
        rintro e w2 ⟨rfl, rfl⟩
        go_wp2_with fail
        go_roundw
        case rel =>
          refine ⟨k + 1, by omega, by go_num, r0.congr (fun j _ => ?_) (fun _ _ => rfl), r2, hb1⟩
          have h1 := hS.out
          rw [HGk.out] at h1
          by_cases e : j = k
          · subst e; simp [h1]
          · have h2 : j < k + 1 ↔ j < k := by omega
            simp only [h2]
        case measure => simp [intOf]; omega
      | false =>
        go_wp2_with fail
        refine (hH _).mono ?_
        rintro e w2 ⟨rfl, rfl⟩
        go_wp2_with fail
        go_roundw
        case rel =>
          refine ⟨k + 1, by omega, by go_num, (r0.setVal (k := k) (by omega) 0).congr (fun j _ => ?_) (fun _ _ => rfl), r2.other (by simp) _, hb1.setCell (by simp) _⟩
          have h1 := hS.out
          rw [HGk.out] at h1
          by_cases e : j = k
          · subst e; simp [h1]
          · have h2 : j < k + 1 ↔ j < k := by omega
            simp only [h2, if_neg e]
        case measure => simp [intOf]; omega
    · obtain rfl : n = k := by omega
      go_wp2_with (first | refine wpList_load_bd rfl (.tmp 2) rfl w.heap.size rfl _ _ _ r0 ?_ | refine wpList_store_bd rfl (.tmp 4) (.tmp 24) rfl (w.heap.size + 1) _ _ _ rfl rfl _ _ _ r2 ?_)
      have hE := r2.row_ (fun j => if j < n ∧ sees (g j) o = false then 0 else f j) g n
      exact bodyPost_ret (results_cell_row (P := Tryd.prog) rfl _ _ (w.heap.size + 1) _ _ (0, 0) _ rfl hE Tryd.underlying36 rfl (bd_size _ _ _)) rfl ⟨rfl, below_setRow hb1 _ _ (by omega)⟩
end Go.Proofs.YtnbbglhpjpebhaaDoor
/- Rows of cells of the call's own: what they read as, what append makes of them, how one is written. Conditions: those said. -/
namespace Go.Proofs.YtnbbglhpjpebhaaDoor
open Go.RowKit

/-- The slice value v is the call's own (its block not below B), and holds these cells, of type e. -/
abbrev RowC (e : TypeId) (w : World) (B : Nat) (v : Value) (L : List (Int × Nat)) : Prop := w.ownsRow B e 2 v L.length (cv L)
theorem owns_mod {w w' : World} {B n sz : Nat} {e : TypeId} {v : Value} {xs : List Value} (h : w.ownsRow B e sz v n xs) {S : Nat → Prop} (hm : Mod S w w') (hs : ∀ k, v.ownBlock = some k → ¬ S k) : w'.ownsRow B e sz v n xs := by
  refine ⟨h.1, ?_⟩
  rcases h.2 with h2 | ⟨g, cap, cur, rfl, hg, hh, r⟩
  · exact .inl h2
  · exact .inr ⟨g, cap, cur, rfl, hg, by rw [hm.block g (Array.getElem?_eq_some_iff.1 hh).1 (hs g rfl)]; exact hh, r⟩
theorem owns_low {w : World} {B B' n sz : Nat} {e : TypeId} {v : Value} {xs : List Value} (h : w.ownsRow B e sz v n xs) (hB : B' ≤ B) : w.ownsRow B' e sz v n xs := by
  refine ⟨h.1, ?_⟩
  rcases h.2 with h2 | ⟨g, cap, cur, rfl, hg, r⟩
  · exact .inl h2
  · exact .inr ⟨g, cap, cur, rfl, by omega, r⟩
namespace RowC
variable {e : TypeId} {w w' : World} {B : Nat} {v : Value} {L : List (Int × Nat)}
theorem nil_ (e : TypeId) (w : World) (B : Nat) : RowC e w B (.slice none 0 0) [] := World.ownsRow_nil _ _ _ _
theorem mod (h : RowC e w B v L) {S : Nat → Prop} (hm : Mod S w w') (hs : ∀ k, v.ownBlock = some k → ¬ S k) : RowC e w' B v L := owns_mod h hm hs
theorem ext (h : RowC e w B v L) (hm : Below w.heap.size w w') : RowC e w' B v L :=
  owns_mod h (Mod.of_below hm) fun k hk => by have := (World.ownsRow.lt h k hk).2; omega
theorem sl (h : RowC e w B v L) : ∃ A c b, v = .slice A L.length c ∧ L.length ≤ c ∧ c ≤ maxLen ∧ (A = none → L.length = 0) ∧ B ≤ b ∧ Sl w b A (cv L) ∧ (∀ k, v.ownBlock = some k → k = b) := by
  rcases h.2 with ⟨rfl, hn⟩ | ⟨g, cap, cur, rfl, hb, _, hnc, hcm, _⟩
  · have hl : L = [] := List.eq_nil_of_length_eq_zero hn
    subst hl
    exact ⟨none, 0, B, rfl, Nat.le_refl _, by simp [maxLen], fun _ => rfl, Nat.le_refl _, Sl.nil_ _ _ _, by simp [Value.ownBlock]⟩
  · refine ⟨_, cap, g, rfl, hnc, hcm, by simp, hb, fun _ => ⟨0, rfl, fun j u hu => ?_⟩, by simp [Value.ownBlock]⟩
    have := h.cells (g := g) rfl j u hu
    simpa [Addr.add_lit] using this
/-- A cell of it, written. -/
theorem set_ (h : RowC e w B v L) {k : Nat} (hk : k < L.length) :
    ∃ g cap, v = .slice (some ⟨g, 0, none⟩) L.length cap ∧ B ≤ g ∧ g < w.heap.size ∧ L.length ≤ cap ∧ w.cell? ⟨g, k * 2, none⟩ = some (.int .i32 L[k].1) ∧ w.cell? ⟨g, k * 2 + 1, none⟩ = some (.int .u32 ((L[k].2 : Nat) : Int)) ∧ (∀ j, w.frozen? ⟨g, j, none⟩ = false) ∧
      (∀ (x : Int) w', w'.heap[g]? = (w.setCell ⟨g, k * 2, none⟩ (.int .i32 x)).heap[g]? → RowC e w' B v (L.set k (x, L[k].2))) ∧
      (∀ (c : Int × Nat) w', w'.heap[g]? = ((w.setCell ⟨g, k * 2, none⟩ (.int .i32 c.1)).setCell ⟨g, k * 2 + 1, none⟩ (.int .u32 ((c.2 : Nat) : Int))).heap[g]? → RowC e w' B v (L.set k c)) := by
  rcases h.2 with ⟨_, hn⟩ | ⟨g, cap, cur, hv, hg, hh, hnc, hcm, hcs, hct⟩
  · omega
  · have hcell : ∀ j u, (cv L)[j]? = some u → w.cell? ⟨g, j, none⟩ = some u := fun j u hu => by
      rw [cell_of_row w g j _ _ _ hh]
      rw [← hct, List.getElem?_take] at hu
      split at hu
      · simpa using hu
      · cases hu
    have hset : ∀ (L' : List (Int × Nat)) (cur' : Array Value) w', L'.length = L.length → cur'.size = cur.size → cur'.toList.take (L.length * 2) = cv L' → w'.heap[g]? = some (.cells cur' e (0, 0)) → RowC e w' B v L' := fun L' cur' w' h1 h2 h3 h4 => by
      refine ⟨by simp, .inr ⟨g, cap, cur', by rw [hv, h1], hg, h4, by omega, hcm, by omega, by rw [h1]; exact h3⟩⟩
    have s1 : ∀ x : Int, (cv L).set (k * 2) (.int .i32 x) = cv (L.set k (x, L[k].2)) := fun x => by
      clear hset hcell hct hh hv h hnc
      induction L generalizing k with
      | nil => simp at hk
      | cons c L ih => cases k with
        | zero => rfl
        | succ k =>
          have := ih (by simpa using hk)
          rw [cv_cons, show (k + 1) * 2 = k * 2 + 1 + 1 by omega, List.set_cons_succ, List.set_cons_succ, this]
          rfl
    have s2 : ∀ c : Int × Nat, ((cv L).set (k * 2) (.int .i32 c.1)).set (k * 2 + 1) (.int .u32 ((c.2 : Nat) : Int)) = cv (L.set k c) := fun x => by
      clear hset hcell hct hh hv h s1 hnc
      induction L generalizing k with
      | nil => simp at hk
      | cons c L ih => cases k with
        | zero => rfl
        | succ k =>
          have := ih (by simpa using hk)
          rw [cv_cons, show (k + 1) * 2 + 1 = k * 2 + 1 + 1 + 1 by omega, show (k + 1) * 2 = k * 2 + 1 + 1 by omega, List.set_cons_succ, List.set_cons_succ, List.set_cons_succ, List.set_cons_succ, this]
          rfl
    refine ⟨g, cap, hv, hg, (Array.getElem?_eq_some_iff.1 hh).1, hnc, hcell _ _ (cv_val hk), hcell _ _ (cv_lab hk), fun j => frozen_of_row w g j _ _ hh, fun x w' hw => ?_, fun c w' hw => ?_⟩
    · rw [heap_setCell_same w g _ cur _ _ hh] at hw
      refine hset _ _ w' (by simp) (by simp) ?_ hw
      rw [Array.toList_setIfInBounds, List.take_set, hct, s1]
    · rw [heap_setCell_same _ g _ _ _ _ (heap_setCell_same w g _ cur _ _ hh)] at hw
      refine hset _ _ w' (by simp) (by simp) ?_ hw
      rw [Array.toList_setIfInBounds, Array.toList_setIfInBounds, List.take_set, List.take_set, hct, s2]
end RowC
theorem cellB_info : (Tryd.prog.info? 33).map (fun i => (i.zero, i.size, i.bytes)) = some (some (.agg #[.int .i32 0, .int .u32 0]), 2, 8) := by kernel_rfl
section
variable (w : World)
/-- append of cells onto a row of the call's own. -/
theorem wpList_appC {t e : TypeId} (ht : Tryd.prog.underlying t = some (.slice e)) (hinf : (Tryd.prog.info? e).map (fun i => (i.zero, i.size, i.bytes)) = some (some (.agg #[.int .i32 0, .int .u32 0]), 2, 8)) {ops : Array Oper} {rest : List Oper} {o : Oper} {a : Act} {Q : Exit → Act → World → Prop} (hgd : o.guard = none) (s x : Operand)
    (ho : o.op = .call { callee := .builtin .append, args := #[s, x], argTypes := #[t, t] })
    (B : Nat) (v : Value) (L : List (Int × Nat)) (hs : a.eval s = v) (hown : RowC e w B v L)
    (b : Nat) (A : Option Addr) (m c : Nat) (M : List (Int × Nat)) (hx : a.eval x = .slice A m c) (hr : Sl w b A (cv M)) (hm : M.length = m)
    (hlen : L.length + m ≤ 1000000000000) (hbase : B ≤ w.heap.size)
    (h : ∀ v' w', RowC e w' B v' (L ++ M) → Mod (fun i => v.ownBlock = some i) w w' → (v'.ownBlock = v.ownBlock ∨ v'.ownBlock = some w.heap.size) → wpList Tryd.prog ops Q rest (a.put o.dst v') w') : wpList Tryd.prog ops Q (o :: rest) a w := by
  obtain ⟨i0, hi0, hz0, hz1, hz2⟩ := info_parts hinf
  refine wpList_append_sl (P := Tryd.prog) w hgd s x _ ho B e i0 _ 2 8 ht hi0 hz0 hz1 hz2 rfl (by omega) v L.length (cv L) hs hown b A m c (cv M) hx hr (by simp [hm]) (fun hA => by have := Sl.none_len hr rfl hA; simp at this; omega) (cv_one _)
    (by simp only [maxLen]; omega) (by omega) hbase ?_
  intro v' w' h1 h2 h3
  exact h v' w' (by unfold RowC; rw [List.length_append, hm, cv_append]; exact h1) (Mod.of_grown h2) h3
end
/-- One cell in a block of its own, as an append's source. -/
theorem Sl.cell_new (w : World) (c : Int × Nat) (t : TypeId) : Sl (w.alloc (.cells #[.int .i32 c.1, .int .u32 ((c.2 : Nat) : Int)] t)) w.heap.size (some ⟨w.heap.size, 0, none⟩) (cv [c]) := Sl.cells_new w _ t
theorem Mod.below_own {w w' : World} {v : Value} {B : Nat} (h : Mod (fun i => v.ownBlock = some i) w w') (hB : B ≤ w.heap.size) (hv : ∀ k, v.ownBlock = some k → B ≤ k) : Below B w w' :=
  h.below hB fun i hi hk => by have := hv i hk; omega
end Go.Proofs.YtnbbglhpjpebhaaDoor
/- Gates: each lets an arm of a walk be tried at one operation alone (by 'with_reducible refine'); it says nothing by itself. No condition. -/
namespace Go.Proofs.YtnbbglhpjpebhaaDoor
open Go.RowKit

section
variable {P : Program} {ops : Array Oper} {rest : List Oper} {a : Act} {w : World} {Q : Exit → Act → World → Prop} {d : Option Tmp} {ty : TypeId} {pos : String} {af : Array Edge} {g : Option (Nat × Bool)}
theorem at_ld (T : TypeId) (s : Tmp) (h : wpList P ops Q (Oper.mk d (.load T (.tmp s)) ty pos af g :: rest) a w) : wpList P ops Q (Oper.mk d (.load T (.tmp s)) ty pos af g :: rest) a w := h
theorem at_st (T : TypeId) (x y : Tmp) (h : wpList P ops Q (Oper.mk d (.store T (.tmp x) (.tmp y)) ty pos af g :: rest) a w) : wpList P ops Q (Oper.mk d (.store T (.tmp x) (.tmp y)) ty pos af g :: rest) a w := h
theorem at_al (T : TypeId) (k : Tmp) (h : wpList P ops Q (Oper.mk (some k) (.alloc T) ty pos af g :: rest) a w) : wpList P ops Q (Oper.mk (some k) (.alloc T) ty pos af g :: rest) a w := h
theorem at_bd (T : TypeId) (k : Tmp) (ps : Array (Nat × Operand)) (h : wpList P ops Q (Oper.mk (some k) (.build T ps) ty pos af g :: rest) a w) : wpList P ops Q (Oper.mk (some k) (.build T ps) ty pos af g :: rest) a w := h
theorem at_ca (k : Tmp) (c : Call) (h : wpList P ops Q (Oper.mk (some k) (.call c) ty pos af g :: rest) a w) : wpList P ops Q (Oper.mk (some k) (.call c) ty pos af g :: rest) a w := h
theorem at_bi (k : Tmp) (b : BinOp) (T U : TypeId) (x y : Operand) (h : wpList P ops Q (Oper.mk (some k) (.binOp b T x y U) ty pos af g :: rest) a w) : wpList P ops Q (Oper.mk (some k) (.binOp b T x y U) ty pos af g :: rest) a w := h
end
end Go.Proofs.YtnbbglhpjpebhaaDoor
/- New, Cells; when two boards are the same to Go. Conditions: those said. -/
namespace Go.Proofs.YtnbbglhpjpebhaaDoor
open Go.RowKit

theorem bd_info : (Tryd.prog.info? 36).map (fun i => (i.zero, i.size, i.bytes)) = some (some (.agg (bdA (fun _ => 0) (fun _ => 0) 0)), 97, 392) := by kernel_rfl
theorem foldl_one (A : Array Value) (v : Value) (k : Nat) : Array.foldl (fun (cs : Array Value) (x : Value × Nat) => cs.setIfInBounds x.snd x.fst) A #[(v, k)] 0 1 = A.setIfInBounds k v := by simp
theorem bd_built0 : Tryd.prog.built 36 [] = some (bdA (fun _ => 0) (fun _ => 0) 0) := by
  unfold Program.built
  obtain ⟨i, hi, hz, _, _⟩ := info_parts bd_info
  rw [hi, Tryd.underlying36]
  simp only []
  rw [hz]
  rw [show (List.mapM (fun f => Option.map (fun (i : TypeInfo) => (Field.offset f, i.size)) (Tryd.prog.info? f.type)) _ : Option (List (Nat × Nat))) = some [(0, 96), (96, 1)] by kernel_rfl]
  simp [Instr.fill]
  rfl
theorem bd_built1 (n : Nat) : Tryd.prog.built 36 [(1, .int .i64 (n : Int))] = some (bdA (fun _ => 0) (fun _ => 0) n) := by
  unfold Program.built
  obtain ⟨i, hi, hz, _, _⟩ := info_parts bd_info
  rw [hi, Tryd.underlying36]
  simp only []
  rw [hz]
  rw [show (List.mapM (fun f => Option.map (fun (i : TypeInfo) => (Field.offset f, i.size)) (Tryd.prog.info? f.type)) _ : Option (List (Nat × Nat))) = some [(0, 96), (96, 1)] by kernel_rfl]
  simp [Instr.fill]
  refine ⟨⟨rfl, by show 97 ≤ (bdA _ _ 0).size; rw [bdA_size]; omega⟩, ?_⟩
  show Array.foldl (fun cs x => cs.setIfInBounds x.snd x.fst) (bdA (fun _ => 0) (fun _ => 0) 0) #[(Value.int .i64 (n : Int), 96)] 0 1 = _
  rw [foldl_one]
  refine bdA_ext (by simp [bdA_size]) (fun i hi => ?_) (fun i hi => ?_) ?_
  · rw [Array.getElem?_setIfInBounds, if_neg (by omega), bdA_val hi]
  · rw [Array.getElem?_setIfInBounds, if_neg (by omega), bdA_lab hi]
  · rw [Array.getElem?_setIfInBounds, if_pos rfl, if_pos (by rw [bdA_size]; omega)]
theorem wpList_build_bd0 {ops : Array Oper} {rest : List Oper} {o : Oper} {a : Act} {w : World} {Q : Exit → Act → World → Prop} (hgd : o.guard = none)
    (ho : o.op = .build 36 #[]) (h : wpList Tryd.prog ops Q rest (a.put o.dst (.agg (bdA (fun _ => 0) (fun _ => 0) 0))) w) : wpList Tryd.prog ops Q (o :: rest) a w := by
  have e : Tryd.prog.built 36 ((#[] : Array (Nat × Operand)).map fun (i, x) => (i, a.eval x)).toList = some (bdA (fun _ => 0) (fun _ => 0) 0) := by
    rw [← bd_built0]
    simp
  exact wpList_build hgd _ _ ho (by rw [e]; rfl) (by rw [e]; exact h)
theorem wpList_build_bd1 {ops : Array Oper} {rest : List Oper} {o : Oper} {a : Act} {w : World} {Q : Exit → Act → World → Prop} (hgd : o.guard = none) (s : Operand) (n : Nat)
    (ho : o.op = .build 36 #[(1, s)]) (hs : a.eval s = .int .i64 (n : Int)) (h : wpList Tryd.prog ops Q rest (a.put o.dst (.agg (bdA (fun _ => 0) (fun _ => 0) n))) w) : wpList Tryd.prog ops Q (o :: rest) a w := by
  have e : Tryd.prog.built 36 ((#[(1, s)] : Array (Nat × Operand)).map fun (i, x) => (i, a.eval x)).toList = some (bdA (fun _ => 0) (fun _ => 0) n) := by
    rw [← bd_built1 n]
    simp [hs]
  exact wpList_build hgd _ _ ho (by rw [e]; rfl) (by rw [e]; exact h)
/-- The builtin copy of cells into a new board's. -/
theorem cells_size : (Tryd.prog.info? 33).map (·.size) = some 2 := by kernel_rfl
theorem bd_filled {L : List (Int × Nat)} (hL : L.length ≤ 48) : ((bdA (fun _ => 0) (fun _ => 0) L.length).toList.take 0 ++ cv L ++ (bdA (fun _ => 0) (fun _ => 0) L.length).toList.drop (0 + (cv L).length)).toArray = bdL L := by
  have hs := bdA_size (fun _ => 0) (fun _ => 0) L.length
  refine bdA_ext ?_ (fun i hi => ?_) (fun i hi => ?_) ?_
  · simp [hs]; omega
  · simp only [List.take_zero, List.nil_append, Nat.zero_add, List.getElem?_toArray, cv_length]
    by_cases h : i < L.length
    · rw [List.getElem?_append_left (by simp; omega), cv_val h, bdF_in h]
    · rw [List.getElem?_append_right (by simp; omega), List.getElem?_drop, cv_length, show L.length * 2 + (i * 2 - L.length * 2) = i * 2 by omega, Array.getElem?_toList, bdA_val hi, bdF_out (by omega)]
  · simp only [List.take_zero, List.nil_append, Nat.zero_add, List.getElem?_toArray, cv_length]
    by_cases h : i < L.length
    · rw [List.getElem?_append_left (by simp; omega), cv_lab h, bdG_in h]
    · rw [List.getElem?_append_right (by simp; omega), List.getElem?_drop, cv_length, show L.length * 2 + (i * 2 + 1 - L.length * 2) = i * 2 + 1 by omega, Array.getElem?_toList, bdA_lab hi, bdG_out (by omega)]
  · simp only [List.take_zero, List.nil_append, Nat.zero_add, List.getElem?_toArray, cv_length]
    rw [List.getElem?_append_right (by simp; omega), List.getElem?_drop, cv_length, show L.length * 2 + (96 - L.length * 2) = 96 by omega, Array.getElem?_toList, bdA_len]
theorem wpList_copy_bd {ops : Array Oper} {rest : List Oper} {o : Oper} {a : Act} {w : World} {Q : Exit → Act → World → Prop} (hgd : o.guard = none) (d s : Operand)
    (ho : o.op = .call { callee := .builtin .copy, args := #[d, s], argTypes := #[23, 23] }) (g : Nat) (hd : a.eval d = .slice (some ⟨g, 0, none⟩) 48 48)
    (A : Option Addr) (L : List (Int × Nat)) (n c b : Nat) (hs : a.eval s = .slice A n c) (hn : L.length = n) (h48 : n ≤ 48) (hS : Sl w b A (cv L)) (q : BoxB w g (fun _ => 0) (fun _ => 0) n)
    (h : wpList Tryd.prog ops Q rest (a.put o.dst (.int .i64 (n : Int))) (w.setRow g (bdL L))) : wpList Tryd.prog ops Q (o :: rest) a w := by
  subst hn
  refine wpList_plain hgd fun K hK => ?_
  have hfc : (Builtin.firstCells 2 L.length (.slice A L.length c)).run Tryd.prog w = .ok (cv L).toArray w := by
    rcases A with _ | ad
    · have h0 := Sl.none_len hS rfl rfl
      rw [cv_length] at h0
      have hL : L = [] := List.eq_nil_of_length_eq_zero (by omega)
      subst hL
      rfl
    · refine run_firstCells_some w 2 L.length ad L.length c (cv L) (by simp) fun j v hv => ?_
      obtain ⟨off, e, hc⟩ := hS (by rintro h0; rw [h0] at hv; simp at hv)
      injection e with e
      subst e
      rw [Addr.add_lit]
      exact hc j v hv
  have hst := run_storeCells_at Tryd.prog g 0 _ (cv L) 0 _ w q (by rw [bdA_size]; simp; omega) (cv_one L)
  rw [show 0 + 0 = 0 from rfl, bd_filled h48] at hst
  cases hq : Tryd.prog.info? 33 with
  | none => have := cells_size; rw [hq] at this; cases this
  | some i =>
    have hi : i.size = 2 := by have := cells_size; rw [hq] at this; simpa using this
    have hrun : (Builtin.copy_ #[23, 23] o.type #[.slice (some ⟨g, 0, none⟩) 48 48, .slice A L.length c]).run Tryd.prog w = .ok (goInt L.length) (w.setRow g (bdL L)) := by
      simp [Builtin.copy_, run_underlying Tryd.underlying23, Builtin.lenOf, sizeOf, typeInfo, hq, hi, show Nat.min L.length 48 = L.length from Nat.min_eq_left h48, hfc, hst]
    unfold Oper.wp
    simp [execOp, ho, resolve, invoke, builtin, hd, hs, hrun, Result.andThen]
    exact hK _ _ h
set_option maxHeartbeats 4000000 in
set_option maxRecDepth 20000 in
theorem New_in (A : Option Addr) (L : List (Int × Nat)) (n c b : Nat) (w : World) (hs : Sl w b A (cv L)) (hn : L.length = n) (h48 : n ≤ 48) :
    Calls Tryd.prog 22 #[.slice A n c] w fun e w' => e = .returned (.tuple #[.agg (bdL L), .int .i64 0]) ∧ Below w.heap.size w w' := by
  subst hn
  have q0 := (BoxB.new_ w (fun _ => 0) (fun _ => 0) 0).alloc (.cells (bdA (fun _ => 0) (fun _ => 0) 0) 36)
  have q1 := BoxB.new_ (w.alloc (.cells (bdA (fun _ => 0) (fun _ => 0) 0) 36)) (fun _ => 0) (fun _ => 0) 0
  rw [show (w.alloc (.cells (bdA (fun _ => 0) (fun _ => 0) 0) 36)).heap.size = w.heap.size + 1 by simp] at q1
  have hb := below_alloc2 w (.cells (bdA (fun _ => 0) (fun _ => 0) 0) 36) (.cells (bdA (fun _ => 0) (fun _ => 0) 0) 36)
  have r0 := q0.orow (b' := w.heap.size + 1) (by omega) (bdA (fun _ => 0) (fun _ => 0) L.length)
  have r1 := q1.row_ (fun _ => 0) (fun _ => 0) L.length
  have hb1 := below_setRow hb (w.heap.size + 1) (bdA (fun _ => 0) (fun _ => 0) L.length) (by omega)
  have hs1 := Sl.ext hs hb1
  have s0 := r0.orow (b' := w.heap.size + 1) (by omega) (bdL L)
  have s1 := r1.row_ (bdF L) (bdG L) L.length
  have hb2 := below_setRow hb1 (w.heap.size + 1) (bdL L) (by omega)
  have ei : decide ((48 : Int) < (L.length : Int)) = false := by simp; omega
  go_enter Tryd.func22, Tryd.ntmps22
  go_wp2_with (first | ((with_reducible refine at_al 36 2 ?_); refine wpList_alloc_bd rfl rfl (some 2) rfl w.heap.size (by simp) ?_) | ((with_reducible refine at_al 36 4 ?_); refine wpList_alloc_bd rfl rfl (some 4) rfl (w.heap.size + 1) (by simp) ?_) | ((with_reducible refine at_bd 36 11 _ ?_); refine wpList_build_bd1 rfl (.tmp 10) L.length rfl rfl ?_) | ((with_reducible refine at_st 36 4 11 ?_); refine wpList_store_bd rfl (.tmp 4) (.tmp 11) rfl (w.heap.size + 1) _ _ _ rfl rfl _ _ _ q1 ?_) | ((with_reducible refine at_ca 15 _ ?_); refine wpList_copy_bd rfl (.tmp 13) (.tmp 14) rfl (w.heap.size + 1) rfl A L L.length c b rfl rfl h48 hs1 r1 ?_) | ((with_reducible refine at_ld 36 4 ?_); refine wpList_load_bd rfl (.tmp 4) rfl (w.heap.size + 1) rfl _ _ _ s1 ?_) | ((with_reducible refine at_st 36 2 16 ?_); refine wpList_store_bd rfl (.tmp 2) (.tmp 16) rfl w.heap.size _ _ _ rfl rfl _ _ _ s0 ?_))
  exact bodyPost_ret (wp_result_bd _ _ _ rfl _ _ w.heap.size _ _ _ rfl (s0.row_ _ _ _)) rfl ⟨rfl, below_setRow hb2 _ _ (by omega)⟩
end Go.Proofs.YtnbbglhpjpebhaaDoor
/- When two boards, or two cells, are the same to Go's own test. No condition. -/
namespace Go.Proofs.YtnbbglhpjpebhaaDoor
open Go.RowKit

theorem cell_under : ∃ f0 f1 : Field, Tryd.prog.underlying 33 = some (.struct #[f0, f1]) ∧ f0.name ≠ "_" ∧ f1.name ≠ "_" ∧ f0.type = 21 ∧ f1.type = 31 ∧ f0.offset = 0 ∧ f1.offset = 1 :=
  ⟨_, _, Tryd.underlying33, by decide, by decide, rfl, rfl, rfl, rfl⟩
theorem board_under : ∃ f0 f1 : Field, Tryd.prog.underlying 36 = some (.struct #[f0, f1]) ∧ f0.name ≠ "_" ∧ f1.name ≠ "_" ∧ f0.type = 34 ∧ f1.type = 3 ∧ f0.offset = 0 ∧ f1.offset = 96 :=
  ⟨_, _, Tryd.underlying36, by decide, by decide, rfl, rfl, rfl, rfl⟩
theorem cell_held : Tryd.prog.stoodInHeld 33 = false := by kernel_rfl
theorem board_held : Tryd.prog.stoodInHeld 36 = false := by kernel_rfl
/-- The flat cells alone. -/
def cellsA (f : Nat → Int) (g : Nat → Nat) : Array Value := ((List.range 96).map (bdC f g)).toArray
theorem cellsA_at (f : Nat → Int) (g : Nat → Nat) {i : Nat} (hi : i < 48) : (cellsA f g).extract (i * 2) (i * 2 + 2) = #[.int .i32 (f i), .int .u32 ((g i : Nat) : Int)] := by
  apply Array.ext'
  have h : ((List.range 96).map (bdC f g)).drop (i * 2) = bdC f g (i * 2) :: bdC f g (i * 2 + 1) :: ((List.range 96).map (bdC f g)).drop (i * 2 + 2) := by
    rw [List.drop_eq_getElem_cons (by simp; omega), List.drop_eq_getElem_cons (by simp; omega)]
    simp
  simp only [cellsA, List.extract_toArray, List.extract_eq_take_drop]
  rw [show i * 2 + 2 - i * 2 = 2 by omega, h]
  simp [bdC_val, bdC_lab]
theorem bdA_cells (f : Nat → Int) (g : Nat → Nat) (n : Nat) : (bdA f g n).extract 0 96 = cellsA f g := by
  apply Array.ext'
  simp only [bdA, cellsA, List.extract_toArray, List.extract_eq_take_drop]
  simp
section
variable (w : World)
theorem part_at (f : Nat → Int) (g : Nat → Nat) {i : Nat} (hi : i < 48) : (part 33 (cellsA f g) (i * 2)).run Tryd.prog w = .ok (.agg #[.int .i32 (f i), .int .u32 ((g i : Nat) : Int)]) w := by
  obtain ⟨i0, hi0, _, hz1, _⟩ := info_parts cellB_info
  simp [part, isAgg, run_underlying Tryd.underlying33, sizeOf, typeInfo, hi0, hz1, cellsA_at f g hi]
theorem run_equal_cell (d : Nat) (x x' : Int) (y y' : Nat) : (Op.equalIn (d + 2) 33 (.agg #[.int .i32 x, .int .u32 (y : Int)]) (.agg #[.int .i32 x', .int .u32 (y' : Int)])).run Tryd.prog w = .ok (x == x' && y == y') w := by
  obtain ⟨f0, f1, hu, h0, h1, t0, t1, o0, o1⟩ := cell_under
  have hf : Tryd.prog.fieldsOf 33 = #[f0, f1] := by simp [Program.fieldsOf, hu]
  rw [run_equalIn_struct w (d + 1) _ _ _ (by rw [hf]; exact hu) cell_held, hf]
  simp [Op.eqFields, h0, h1, t0, t1, o0, o1, part, isAgg, run_underlying Tryd.underlying21, run_underlying Tryd.underlying31, run_equalIn_int w d _ .i32 .i32 _ _ Tryd.underlying21, run_equalIn_int w d _ .u32 .u32 _ _ Tryd.underlying31]
  by_cases e : x = x' <;> by_cases e2 : y = y' <;> simp [e, e2, Int.natCast_inj]
theorem run_equal_cells (d : Nat) (f f' : Nat → Int) (g g' : Nat → Nat) : (Op.equalIn (d + 3) 34 (.agg (cellsA f g)) (.agg (cellsA f' g'))).run Tryd.prog w = .ok ((List.range 48).all fun i => f i == f' i && g i == g' i) w := by
  obtain ⟨i0, hi0, _, hz1, _⟩ := info_parts cellB_info
  have hsz : ∀ w, (sizeOf 33).run Tryd.prog w = .ok 2 w := fun w => by simp [sizeOf, typeInfo, hi0, hz1]
  rw [List.range_eq_range', Op.equalIn]
  simp only [Sem.run_bind, run_underlying Tryd.underlying34, Result.andThen_ok, hsz, Std.Legacy.Range.forIn_eq_forIn_range', Std.Legacy.Range.size, Nat.sub_zero, Nat.add_sub_cancel, Nat.div_one]
  have hl : ∀ i ∈ List.range' 0 48 1, i < 48 := fun i hi => by simpa using (List.mem_range'_1.1 hi).2
  generalize List.range' 0 48 1 = l at hl ⊢
  induction l with
  | nil => simp
  | cons i l ih =>
    have hi : i < 48 := hl i (by simp)
    simp only [List.forIn_cons, Sem.run_bind, part_at w f g hi, part_at w f' g' hi, run_equal_cell w d, Result.andThen_ok, List.all_cons]
    cases hb : (f i == f' i && g i == g' i)
    · simp
    · simp only [Bool.not_true, Bool.false_eq_true, if_false, Sem.run_pure, Result.andThen_ok, Bool.true_and]
      exact ih fun j hj => hl j (by simp [hj])
theorem cells_info : ∃ i : TypeInfo, Tryd.prog.info? 34 = some i ∧ i.size = 96 := by
  have hz : (Tryd.prog.info? 34).map (·.size) = some 96 := by kernel_rfl
  cases hi : Tryd.prog.info? 34 with
  | none => rw [hi] at hz; cases hz
  | some i => exact ⟨i, rfl, by rw [hi] at hz; simpa using hz⟩
theorem part_cells (f : Nat → Int) (g : Nat → Nat) (n : Nat) : (part 34 (bdA f g n) 0).run Tryd.prog w = .ok (.agg (cellsA f g)) w := by
  obtain ⟨i, hi, hs⟩ := cells_info
  have e := bdA_cells f g n
  obtain ⟨X, hX⟩ : ∃ X, X = bdA f g n := ⟨_, rfl⟩
  obtain ⟨Y, hY⟩ : ∃ Y, Y = cellsA f g := ⟨_, rfl⟩
  rw [← hX, ← hY] at e
  rw [← hX, ← hY]
  clear hX hY
  simp [part, isAgg, run_underlying Tryd.underlying34, sizeOf, typeInfo, hi, hs, e]
theorem part_len (f : Nat → Int) (g : Nat → Nat) (n : Nat) : (part 3 (bdA f g n) 96).run Tryd.prog w = .ok (.int .i64 (n : Int)) w := by
  have e := bdA_len f g n
  obtain ⟨X, hX⟩ : ∃ X, X = bdA f g n := ⟨_, rfl⟩
  rw [← hX] at e
  rw [← hX]
  clear hX
  simp [part, isAgg, run_underlying Tryd.underlying3, e]
theorem run_equal_bd (d : Nat) (f f' : Nat → Int) (g g' : Nat → Nat) (n n' : Nat) (q : Bool) (hq : q = true ↔ bdA f g n = bdA f' g' n') : (Op.equalIn (d + 3 + 1) 36 (.agg (bdA f g n)) (.agg (bdA f' g' n'))).run Tryd.prog w = .ok q w := by
  obtain ⟨f0, f1, hu, h0, h1, t0, t1, o0, o1⟩ := board_under
  have hf : Tryd.prog.fieldsOf 36 = #[f0, f1] := by simp [Program.fieldsOf, hu]
  rw [run_equalIn_struct w (d + 3) _ _ _ (by rw [hf]; exact hu) board_held, hf]
  have hc := run_equal_cells w d f f' g g'
  obtain ⟨r, hr⟩ : ∃ r, r = (List.range 48).all (fun i => f i == f' i && g i == g' i) := ⟨_, rfl⟩
  rw [← hr] at hc
  have key : q = true ↔ (r = true ∧ n = n') := by
    rw [hr]
    constructor
    · intro h
      obtain ⟨h1, h2⟩ := bdA_inj (hq.1 h)
      refine ⟨?_, h1⟩
      simp only [List.all_eq_true, List.mem_range, Bool.and_eq_true, beq_iff_eq]
      exact h2
    · rintro ⟨h1, rfl⟩
      simp only [List.all_eq_true, List.mem_range, Bool.and_eq_true, beq_iff_eq] at h1
      exact hq.2 (bdA_congr (fun i hi => (h1 i hi).1) (fun i hi => (h1 i hi).2))
  have hint : (Op.equalIn (d + 3) 3 (.int .i64 (n : Int)) (.int .i64 (n' : Int))).run Tryd.prog w = .ok ((n : Int) == (n' : Int)) w := run_equalIn_int w (d + 2) _ .i64 .i64 _ _ Tryd.underlying3
  have q1 := part_cells w f g n
  have q2 := part_cells w f' g' n'
  have q3 := part_len w f g n
  have q4 := part_len w f' g' n'
  clear hr hq hf hu
  obtain ⟨X, hX⟩ : ∃ X, X = bdA f g n := ⟨_, rfl⟩
  obtain ⟨Y, hY⟩ : ∃ Y, Y = bdA f' g' n' := ⟨_, rfl⟩
  obtain ⟨CX, hCX⟩ : ∃ X, X = cellsA f g := ⟨_, rfl⟩
  obtain ⟨CY, hCY⟩ : ∃ Y, Y = cellsA f' g' := ⟨_, rfl⟩
  rw [← hX] at q1 q3 ⊢
  rw [← hY] at q2 q4 ⊢
  rw [← hCX] at q1 hc
  rw [← hCY] at q2 hc
  clear hX hY hCX hCY
  have e1 : (Op.eqFields (d + 3) X Y [f1]).run Tryd.prog w = .ok ((n : Int) == (n' : Int)) w := by
    simp only [Op.eqFields, h1, t1, o1, ne_eq, not_false_eq_true, if_true, Sem.run_bind, q3, q4, hint, Result.andThen_ok]
    cases ((n : Int) == (n' : Int)) <;> rfl
  show (Op.eqFields (d + 3) X Y [f0, f1]).run Tryd.prog w = _
  rw [Op.eqFields, if_pos h0, t0, o0]
  rw [Sem.run_bind, q1, Result.andThen_ok, Sem.run_bind, q2, Result.andThen_ok, Sem.run_bind, hc, Result.andThen_ok]
  cases r
  · have : q = false := by rw [Bool.eq_false_iff]; intro h; have := (key.1 h).1; cases this
    rw [this]
    simp only [Bool.not_false, if_true, Sem.run_pure]
  · have : q = ((n : Int) == (n' : Int)) := by
      rw [Bool.eq_iff_iff, key]
      simp only [true_and, beq_iff_eq]
      omega
    rw [this]
    simp only [Bool.not_true, Bool.false_eq_true, if_false]
    exact e1
theorem run_eql_bd (f f' : Nat → Int) (g g' : Nat → Nat) (n n' : Nat) (q : Bool) (hq : q = true ↔ bdA f g n = bdA f' g' n') : (binOp .eql 36 (.agg (bdA f g n)) (.agg (bdA f' g' n'))).run Tryd.prog w = .ok (.bool q) w := by
  rw [run_eql_struct, run_equal_bd w 9996 _ _ _ _ _ _ q hq]
  rfl
theorem run_neq_bd (f f' : Nat → Int) (g g' : Nat → Nat) (n n' : Nat) (q : Bool) (hq : q = true ↔ bdA f g n = bdA f' g' n') : (binOp .neq 36 (.agg (bdA f g n)) (.agg (bdA f' g' n'))).run Tryd.prog w = .ok (.bool (!q)) w := by
  rw [run_neq_struct, run_equal_bd w 9996 _ _ _ _ _ _ q hq]
  rfl
end
theorem eq_guard (b : BinOp) (x y : Operand) (xs ys : Array Value) (w : World) : (eqGuard b 36 x y (.agg xs) (.agg ys)).run Tryd.prog w = .ok () w := run_eqGuard_agg w b _ x y xs ys (by kernel_rfl)
theorem wpList_eql_bd {ops : Array Oper} {rest : List Oper} {o : Oper} {a : Act} {w : World} {Q : Exit → Act → World → Prop} (hw : Region.wanted o (yielded ops a.tmps) = true) (x y : Operand) (ho : o.op = .binOp .eql 36 x y 36)
    (L M : List (Int × Nat)) (hx : a.eval x = .agg (bdL L)) (hy : a.eval y = .agg (bdL M)) (hL : L.length ≤ 48) (d : Bool) (hd : d = decide (L = M))
    (h : wpList Tryd.prog ops Q rest (a.put o.dst (.bool d)) w) : wpList Tryd.prog ops Q (o :: rest) a w :=
  BigFrame.wpList_want hw fun K hK => by
    have e : d = true ↔ bdA (bdF L) (bdG L) L.length = bdA (bdF M) (bdG M) M.length := by
      rw [hd, decide_eq_true_iff]
      exact (bdL_inj hL).symm
    unfold Oper.wp
    simp only [execOp, ho, hx, hy, bdL, Sem.run_bind, eq_guard, Result.andThen_ok, run_eql_bd w _ _ _ _ _ _ d e, Sem.run_pure]
    exact hK _ _ h
end Go.Proofs.YtnbbglhpjpebhaaDoor
/- Rows of int of the call's own. Conditions: those said. -/
namespace Go.Proofs.YtnbbglhpjpebhaaDoor
open Go.RowKit

theorem int_info0 : (Tryd.prog.info? 3).map (fun i => (i.zero, i.size, i.bytes)) = some (some (.int .i64 0), 1, 8) := by kernel_rfl
abbrev RowI (w : World) (B : Nat) (v : Value) (l : List Int) : Prop := w.ownsRow B 3 1 v l.length (iz l)
theorem RowI.cast {w : World} {B : Nat} {v : Value} {l l' : List Int} (h : RowI w B v l) (e : l = l') : RowI w B v l' := e ▸ h
theorem wpList_appI {w : World} {ops : Array Oper} {rest : List Oper} {o : Oper} {a : Act} {Q : Exit → Act → World → Prop} (hw : Region.wanted o (yielded ops a.tmps) = true) (s x : Operand)
    (ho : o.op = .call { callee := .builtin .append, args := #[s, x], argTypes := #[153, 153] })
    (B : Nat) (v : Value) (l : List Int) (hs : a.eval s = v) (hown : RowI w B v l)
    (b : Nat) (A : Option Addr) (m c : Nat) (news : List Int) (hx : a.eval x = .slice A m c) (hr : Sl w b A (iz news)) (hm : news.length = m)
    (hlen : l.length + m ≤ 1000000000000) (hbase : B ≤ w.heap.size)
    (h : ∀ v' w', RowI w' B v' (l ++ news) → Mod (fun i => v.ownBlock = some i) w w' → (v'.ownBlock = v.ownBlock ∨ v'.ownBlock = some w.heap.size) → wpList Tryd.prog ops Q rest (a.put o.dst v') w') : wpList Tryd.prog ops Q (o :: rest) a w := by
  obtain ⟨i0, hi0, hz0, hz1, hz2⟩ := info_parts int_info0
  refine BigFrame.wpList_want hw fun _ hK => ?_
  refine wp_append_sl (P := Tryd.prog) w s x _ ho B 3 i0 _ 1 8 Tryd.underlying153 hi0 hz0 hz1 hz2 rfl (by omega) v l.length (iz l) hs hown b A m c (iz news) hx hr (by simp [hm]) (Sl.none_len hr (by simp [hm])) (by simp [iz, Value.oneCell'])
    (by simp only [maxLen]; omega) (by omega) hbase ?_
  intro v' w' h1 h2 h3
  exact hK _ _ (h v' w' (by unfold RowI; rw [List.length_append, hm]; have := h1; simp only [iz, List.map_append] at this ⊢; exact this) (Mod.of_grown h2) h3)
end Go.Proofs.YtnbbglhpjpebhaaDoor
/- New of too many; Cells; Shown. Conditions: those said. -/
namespace Go.Proofs.YtnbbglhpjpebhaaDoor
open Go.RowKit

theorem bd_sl {w : World} {g : Nat} {L : List (Int × Nat)} (h : BoxB w g (bdF L) (bdG L) L.length) (hL : L.length ≤ 48) : Sl w g (some ⟨g, 0, none⟩) (cv L) := fun _ =>
  ⟨0, rfl, fun j u hu => by
    rw [Nat.zero_add, cell_of_row w g j _ _ _ h]
    have h1 := bdL_cells hL
    rw [← h1, List.getElem?_take] at hu
    split at hu
    · simpa [bdL] using hu
    · cases hu⟩
set_option maxHeartbeats 4000000 in
set_option maxRecDepth 20000 in
theorem New_out (A : Option Addr) (n c : Nat) (w : World) (h48 : 48 < n) (hm : n ≤ 1000000000000) :
    Calls Tryd.prog 22 #[.slice A n c] w fun e w' => e = .returned (.tuple #[.agg (bdL []), .int .i64 6]) ∧ Below w.heap.size w w' := by
  have q0 := BoxB.new_ w (fun _ => 0) (fun _ => 0) 0
  have hb := below_alloc1 w (.cells (bdA (fun _ => 0) (fun _ => 0) 0) 36)
  have ei : decide ((48 : Int) < (n : Int)) = true := by simp; omega
  go_enter Tryd.func22, Tryd.ntmps22
  go_wp2_with (first | ((with_reducible refine at_al 36 2 ?_); refine wpList_alloc_bd rfl rfl (some 2) rfl w.heap.size (by simp) ?_) | ((with_reducible refine at_bd 36 8 _ ?_); refine wpList_build_bd0 rfl rfl ?_) | ((with_reducible refine at_st 36 2 8 ?_); refine wpList_store_bd rfl (.tmp 2) (.tmp 8) rfl w.heap.size _ _ _ rfl rfl _ _ _ q0 ?_))
  exact bodyPost_ret (wp_result_bd _ _ _ rfl _ _ w.heap.size _ _ _ rfl (q0.row_ _ _ _)) rfl ⟨rfl, below_setRow hb _ _ (by omega)⟩
end Go.Proofs.YtnbbglhpjpebhaaDoor
/- The board's calls, over lists of cells; the arms of a walk that meets whole boards. Conditions: a board has 48 cells at most; the cells fit. -/
namespace Go.Proofs.YtnbbglhpjpebhaaDoor
open Go.RowKit

theorem made_row (w : World) (c cs : Array Value) (t : TypeId) : (w.alloc (.cells c t)).setRow w.heap.size cs = w.alloc (.cells cs t) := by
  unfold World.setRow World.alloc
  congr 1
  apply Array.ext
  · simp
  · intro k h1 h2
    simp only [Array.getElem_modify, Array.getElem_push]
    by_cases h : k < w.heap.size
    · rw [if_neg (by omega), dif_pos h, dif_pos h]
    · have hk : w.heap.size = k := by simp at h2; omega
      rw [if_pos hk, dif_neg h, dif_neg h]
/-- Block b holds the board of these cells. -/
def BoxL (w : World) (b : Nat) (L : List (Int × Nat)) : Prop := w.heap[b]? = some (.cells (bdL L) 36 (0, 0))
namespace BoxL
variable {w w' : World} {b : Nat} {L : List (Int × Nat)}
theorem new_ (w : World) (L : List (Int × Nat)) : BoxL (w.alloc (.cells (bdL L) 36)) w.heap.size L := heap_alloc_new w _
theorem lt (h : BoxL w b L) : b < w.heap.size := (Array.getElem?_eq_some_iff.1 h).1
theorem ext (h : BoxL w b L) (hb : Below w.heap.size w w') : BoxL w' b L := (hb.block b h.lt).trans h
theorem below {B : Nat} (h : BoxL w b L) (hb : Below B w w') (hB : b < B) : BoxL w' b L := (hb.block b hB).trans h
theorem alloc (h : BoxL w b L) (o : Obj) : BoxL (w.alloc o) b L := (Below.heap_alloc w o b h.lt).trans h
theorem other (h : BoxL w b L) {p : Addr} (hp : b ≠ p.block) (u : Value) : BoxL (w.setCell p u) b L := (heap_setCell_other w p b u hp).trans h
theorem row_ (h : BoxL w b L) (M : List (Int × Nat)) : BoxL (w.setRow b (bdL M)) b M := setRow_heap w b _ _ _ _ h
theorem orow (h : BoxL w b L) {b' : Nat} (hp : b ≠ b') (cs : Array Value) : BoxL (w.setRow b' cs) b L := (setRow_other w b' b cs hp).trans h
theorem mod {S : Nat → Prop} (h : BoxL w b L) (hm : Mod S w w') (hs : ¬ S b) : BoxL w' b L := (hm.block b h.lt hs).trans h
end BoxL
section
variable {ops : Array Oper} {rest : List Oper} {o : Oper} {a : Act} {w : World} {Q : Exit → Act → World → Prop}
theorem wpList_ld (hw : Region.wanted o (yielded ops a.tmps) = true) (s : Operand) (ho : o.op = .load 36 s)
    (b : Nat) (hx : a.eval s = .pointer (some ⟨b, 0, none⟩)) (L : List (Int × Nat)) (q : BoxL w b L) (h : wpList Tryd.prog ops Q rest (a.put o.dst (.agg (bdL L))) w) : wpList Tryd.prog ops Q (o :: rest) a w :=
  wpList_load_bd hw s ho b hx _ _ _ q h
theorem wpList_al (hg : o.guard = none) (ho : o.op = .alloc 36) (dst : Option Tmp) (hdst : o.dst = dst) (N : Nat) (hN : w.heap.size = N)
    (h : wpList Tryd.prog ops Q rest (a.put dst (.pointer (some ⟨N, 0, none⟩))) (w.alloc (.cells (bdL []) 36))) : wpList Tryd.prog ops Q (o :: rest) a w :=
  wpList_alloc_bd hg ho dst hdst N hN h
theorem wpList_st (hg : o.guard = none) (x y : Operand) (ho : o.op = .store 36 x y)
    (b : Nat) (L M : List (Int × Nat)) (hx : a.eval x = .pointer (some ⟨b, 0, none⟩)) (hy : a.eval y = .agg (bdL M)) (q : BoxL w b L)
    (h : wpList Tryd.prog ops Q rest (a.put o.dst undef) (w.setRow b (bdL M))) : wpList Tryd.prog ops Q (o :: rest) a w :=
  wpList_store_bd hg x y ho b _ _ _ hx hy _ _ _ q h
/-- The first store into a board's variable that was just made. -/
theorem wpList_put {N : Nat} (hg : o.guard = none) (x y : Operand) (ho : o.op = .store 36 x y) (hN : w.heap.size = N)
    (M : List (Int × Nat)) (hx : a.eval x = .pointer (some ⟨N, 0, none⟩)) (hy : a.eval y = .agg (bdL M))
    (h : wpList Tryd.prog ops Q rest (a.put o.dst undef) (w.alloc (.cells (bdL M) 36))) : wpList Tryd.prog ops Q (o :: rest) a (w.alloc (.cells (bdL []) 36)) := by
  subst hN
  refine wpList_st hg x y ho _ [] M hx hy (BoxL.new_ w []) ?_
  rw [made_row]
  exact h
end
theorem View_calls (L : List (Int × Nat)) (o : Int) (w : World) (hL : L.length ≤ 48) (hok : okC L) :
    Calls Tryd.prog 33 #[.agg (bdL L), .int .i64 o] w fun e w' => e = .returned (.agg (bdL (viewL o L))) ∧ Below w.heap.size w w' := by
  have h := bView_calls (bdF L) (bdG L) L.length o w hL (fun i hi => by rw [bdG_in hi]; exact (okC_get hok hi).2)
  have e : bdA (fun j => if j < L.length ∧ sees (bdG L j) o = false then 0 else bdF L j) (bdG L) L.length = bdL (viewL o L) := by
    unfold bdL
    rw [viewL_length]
    refine bdA_congr (fun j _ => ?_) (fun j _ => ?_)
    · by_cases hj : j < L.length
      · rw [bdF_in (L := viewL o L) (by simpa using hj), bdG_in hj, bdF_in hj]
        simp only [viewL, List.getElem_map, seeC]
        cases h : sees L[j].2 o <;> simp [hj]
      · rw [if_neg (by omega), bdF_out (L := L) (by omega), bdF_out (L := viewL o L) (by simp; omega)]
    · by_cases hj : j < L.length
      · rw [bdG_in (L := viewL o L) (by simpa using hj), bdG_in hj]
        simp [viewL, seeC_lab]
      · rw [bdG_out (L := L) (by omega), bdG_out (L := viewL o L) (by simp; omega)]
  rw [e] at h
  exact h
theorem At_in (L : List (Int × Nat)) (i : Nat) (w : World) (hL : L.length ≤ 48) (hi : i < L.length) :
    Calls Tryd.prog 88 #[.agg (bdL L), .int .i64 i] w fun e w' => e = .returned (.tuple #[.agg #[.int .i32 L[i].1, .int .u32 ((L[i].2 : Nat) : Int)], .bool true]) ∧ Below w.heap.size w w' := by
  have h := bAt_in (bdF L) (bdG L) L.length i w hi hL
  rw [bdF_in hi, bdG_in hi] at h
  exact h
theorem At_out (L : List (Int × Nat)) (i : Int) (w : World) (hi : ¬(0 ≤ i ∧ i < (L.length : Int))) :
    Calls Tryd.prog 88 #[.agg (bdL L), .int .i64 i] w fun e w' => e = .returned (.tuple #[.agg #[.int .i32 0, .int .u32 0], .bool false]) ∧ Below w.heap.size w w' :=
  bAt_out _ _ _ i w hi
theorem Put_in (L : List (Int × Nat)) (i : Nat) (x : Int) (y : Nat) (w : World) (hL : L.length ≤ 48) (hi : i < L.length) :
    Calls Tryd.prog 27 #[.agg (bdL L), .int .i64 i, .agg #[.int .i32 x, .int .u32 (y : Int)]] w fun e w' => e = .returned (.tuple #[.agg (bdL (L.set i (x, y))), .int .i64 0]) ∧ Below w.heap.size w w' := by
  have h := bPut_in (bdF L) (bdG L) L.length i x y w hi hL
  rw [bdL_set (x, y) hi] at h
  exact h
theorem Put_out (L : List (Int × Nat)) (i : Int) (x : Int) (y : Nat) (w : World) (hi : ¬(0 ≤ i ∧ i < (L.length : Int))) :
    Calls Tryd.prog 27 #[.agg (bdL L), .int .i64 i, .agg #[.int .i32 x, .int .u32 (y : Int)]] w fun e w' => e = .returned (.tuple #[.agg (bdL L), .int .i64 7]) ∧ Below w.heap.size w w' :=
  bPut_out _ _ _ i x y w hi
theorem Show_in (L : List (Int × Nat)) (i m : Nat) (w : World) (hL : L.length ≤ 48) (hok : okC L) (hi : i < L.length) (hm : m < 4294967296) :
    Calls Tryd.prog 91 #[.agg (bdL L), .int .i64 i, .int .u32 m] w fun e w' => e = .returned (.tuple #[.agg (bdL (L.set i (L[i].1, L[i].2 ||| m))), .bool (!decide (lessN m L[i].2 = 0)), .int .i64 0]) ∧ Below w.heap.size w w' := by
  have h := bShow_in (bdF L) (bdG L) L.length i m w hi hL (by rw [bdG_in hi]; exact (okC_get hok hi).2) hm
  rw [bdG_in hi] at h
  have e := bdL_set (L[i].1, L[i].2 ||| m) hi
  rw [← e]
  have e2 : (fun j => if j = i then L[i].1 else bdF L j) = bdF L := by
    funext j
    by_cases hj : j = i
    · subst hj; rw [if_pos rfl, bdF_in hi]
    · rw [if_neg hj]
  rw [e2]
  exact h
theorem Show_out (L : List (Int × Nat)) (i : Int) (m : Nat) (w : World) (hi : ¬(0 ≤ i ∧ i < (L.length : Int))) :
    Calls Tryd.prog 91 #[.agg (bdL L), .int .i64 i, .int .u32 m] w fun e w' => e = .returned (.tuple #[.agg (bdL L), .bool false, .int .i64 7]) ∧ Below w.heap.size w w' :=
  bShow_out _ _ _ i m w hi
theorem Len_calls (L : List (Int × Nat)) (w : World) :
    Calls Tryd.prog 46 #[.agg (bdL L)] w fun e w' => e = .returned (.int .i64 (L.length : Int)) ∧ Below w.heap.size w w' := bLen_calls _ _ _ w
end Go.Proofs.YtnbbglhpjpebhaaDoor
/- Meet, Join, and the plain facts of both. Conditions: the numbers fit 32 bits, the lists are short. -/
namespace Go.Proofs.YtnbbglhpjpebhaaDoor
open Go.RowKit

def meetN (m : Nat) (l : List Nat) : Nat := l.foldl (· &&& ·) m
theorem meetN_snoc (m : Nat) (l : List Nat) (x : Nat) : meetN m (l ++ [x]) = meetN m l &&& x := by simp [meetN]
theorem meetN_lt {m : Nat} (h : m < 4294967296) (l : List Nat) (hl : ∀ x ∈ l, x < 4294967296) : meetN m l < 4294967296 := by
  induction l generalizing m with
  | nil => exact h
  | cons x l ih => exact ih (m := m &&& x) (Nat.lt_of_le_of_lt Nat.and_le_left h) (fun y hy => hl y (by simp [hy]))
set_option maxHeartbeats 2000000 in
set_option maxRecDepth 20000 in
theorem MMeet_calls (m : Nat) (A : Option Addr) (l : List Nat) (n c b : Nat) (w : World) (hm : m < 4294967296) (hl : ∀ x ∈ l, x < 4294967296) (hs : Sl w b A (ms l)) (hn : l.length = n) (hnm : n ≤ 1000000000000) :
    Calls Tryd.prog 72 #[.int .u32 m, .slice A n c] w fun e w' => e = .returned (.int .u32 (meetN m l : Nat)) ∧ w' = w := by
  have HN := Lib.hid hn
  have HL := Lib.hid hl
  clear hn hl
  go_enter Tryd.func72, Tryd.ntmps72
  go_wp2_with fail
  go_loopw [0, 9] (fun mm i wr => ∃ j : Nat, j ≤ n ∧ i = .int .i64 j ∧ mm = .int .u32 (meetN m (l.take j) : Nat) ∧ wr = w) (fun _ i _ => n - (intOf i).toNat)
  case atStart => exact ⟨0, Nat.zero_le _, rfl, rfl, rfl⟩
  case round =>
    obtain ⟨j, hj, rfl, rfl, rfl⟩ := hrel
    by_cases hlt : j < n
    · obtain ⟨o, ho⟩ : ∃ o, l[j]? = some o := ⟨_, List.getElem?_eq_getElem (by rw [HN.out]; exact hlt)⟩
      obtain ⟨off, rfl, hcl⟩ := hs (by intro h0; have := congrArg List.length h0; simp at this; rw [this] at ho; simp at ho)
      have hcj := hcl j _ (ms_get? ho)
      have hlo := HL.out o (List.mem_of_getElem? ho)
      have hwl := meetN_lt hm (l.take j) (fun x hx => HL.out x (List.mem_of_mem_take hx))
      have hor := u32_and_nat (meetN m (l.take j)) o hwl hlo
      have hsn : meetN m (l.take (j + 1)) = meetN m (l.take j) &&& o := by rw [List.take_add_one, ho, ← meetN_snoc]; rfl
      obtain ⟨u, hu⟩ : ∃ u, u = meetN m (l.take j) := ⟨_, rfl⟩
      rw [← hu] at hor hsn hwl ⊢
      have HS := Lib.hid hsn
      have ej : (j : Int) < (n : Int) := by omega
      clear hu hsn hcl ho hs
      go_wp2_with fail
      go_roundw
      case rel => exact ⟨j + 1, by omega, by go_num, by rw [HS.out], trivial⟩
      case measure => simp [intOf]; omega
    · obtain rfl : n = j := by omega
      rw [List.take_of_length_le (by rw [HN.out]; omega)]
      obtain ⟨u, hu⟩ : ∃ u, u = meetN m l := ⟨_, rfl⟩
      rw [← hu]
      have HU := Lib.hid hu
      clear hu
      go_wp2_with fail
      go_ret
      exact ⟨by rw [← HU.out]; rfl, rfl⟩
end Go.Proofs.YtnbbglhpjpebhaaDoor
/- mix: a state is mixed as the plain numbers say; and the reference's Next. Condition: the state fits 64 bits. -/
namespace Go.Proofs.YtnbbglhpjpebhaaDoor
open Go.RowKit

theorem mixA_int (z : Nat) (h : z < 18446744073709551616) : IntKind.u64.wrap (bits .xor .u64 (z : Int) ((z : Int) / 1073741824) * 13787848793156543929) = ((mixA z : Nat) : Int) := by
  rw [show ((z : Int) / 1073741824) = ((z / 1073741824 : Nat) : Int) by omega, u64_xor_nat _ _ (by omega) (by omega), IntKind.wrap_u64]
  unfold mixA mulA two64
  omega
theorem mixB_int (z : Nat) (h : z < 18446744073709551616) : IntKind.u64.wrap (bits .xor .u64 (z : Int) ((z : Int) / 134217728) * 10723151780598845931) = ((mixB z : Nat) : Int) := by
  rw [show ((z : Int) / 134217728) = ((z / 134217728 : Nat) : Int) by omega, u64_xor_nat _ _ (by omega) (by omega), IntKind.wrap_u64]
  unfold mixB mulB two64
  omega
theorem mixC_int (z : Nat) (h : z < 18446744073709551616) : bits .xor .u64 (z : Int) ((z : Int) / 2147483648) = ((mixC z : Nat) : Int) := by
  rw [show ((z : Int) / 2147483648) = ((z / 2147483648 : Nat) : Int) by omega, u64_xor_nat _ _ (by omega) (by omega)]
  rfl
set_option maxHeartbeats 1000000 in
set_option maxRecDepth 20000 in
theorem Mix_calls (z : Nat) (w : World) (hz : z < 18446744073709551616) :
    Calls Tryd.prog 103 #[.int .u64 z] w fun e w' => e = .returned (.int .u64 (mixN z : Nat)) ∧ w = w' := by
  have hA := mixA_int z hz
  have lA := mixA_lt z
  have hE := Lib.hid (show mixN z = mixC (mixB (mixA z)) from rfl)
  obtain ⟨a, ha⟩ : ∃ a, a = mixA z := ⟨_, rfl⟩
  rw [← ha] at hA hE lA
  have hB := mixB_int a lA
  have lB := mixB_lt a
  obtain ⟨b, hb⟩ : ∃ b, b = mixB a := ⟨_, rfl⟩
  rw [← hb] at hB hE lB
  have hC := mixC_int b lB
  clear ha hb
  go_enter Tryd.func103, Tryd.ntmps103
  go_wp2_with fail
  go_ret
  exact ⟨by rw [hE.out]; rfl, rfl⟩
end Go.Proofs.YtnbbglhpjpebhaaDoor
/- (Dice).Next, Below, and the reference's: the plain numbers; nothing that was there turns. Condition: the state fits 64 bits, the bound 32. -/
namespace Go.Proofs.YtnbbglhpjpebhaaDoor
open Go.RowKit

theorem bcell {W w1 : World} (hb : Below W.heap.size W w1) : (∀ b o, b < W.heap.size → w1.cell? ⟨b, o, none⟩ = W.cell? ⟨b, o, none⟩) ∧ (∀ b o, b < W.heap.size → w1.frozen? ⟨b, o, none⟩ = W.frozen? ⟨b, o, none⟩) :=
  ⟨fun b o h => hb.cell (p := ⟨b, o, none⟩) h, fun b o h => hb.frozen (p := ⟨b, o, none⟩) h⟩
abbrev diceV (s : Nat) : Value := .agg #[.int .u64 (s : Int)]
set_option maxHeartbeats 1000000 in
set_option maxRecDepth 20000 in
theorem Next_calls (s : Nat) (w : World) :
    Calls Tryd.prog 101 #[diceV s] w fun e w' => e = .returned (.tuple #[.int .u32 (nextN s : Nat), diceV (goN s)]) ∧ Below w.heap.size w w' := by
  have hG : IntKind.u64.wrap ((s : Int) + 11400714819323198485) = ((goN s : Nat) : Int) := by
    rw [IntKind.wrap_u64]; unfold goN strideN two64; omega
  have hN : ((mixN (goN s) : Nat) : Int) / 4294967296 = ((nextN s : Nat) : Int) := by unfold nextN; omega
  have lN := nextN_lt s
  have lG := goN_lt s
  obtain ⟨g, hg⟩ : ∃ g, g = goN s := ⟨_, rfl⟩
  obtain ⟨n, hn⟩ : ∃ n, n = nextN s := ⟨_, rfl⟩
  rw [← hg] at hG lG hN ⊢
  rw [← hn] at hN lN ⊢
  clear hg hn
  go_enter Tryd.func101, Tryd.ntmps101
  go_wp2_with fail
  have hW : IntKind.u32.wrap (n : Int) = (n : Int) := IntWalk.u32_in _ (by omega)
  go_region_with (go_at_call 103; refine (Mix_calls g _ lG).mono ?_; rintro e w1 ⟨rfl, rfl⟩)
  all_goals
    go_wp2_with fail
    refine bodyPost_ret (v := .tuple #[.int .u32 (n : Int), .agg #[.int .u64 (g : Int)]]) (by simp [results, Tryd.results101, go_sem]) rfl ⟨rfl, ?_⟩
    exact below_drew (((Below.refl _ _).alloc (Nat.le_refl _) _).alloc (by simp) _)

end Go.Proofs.YtnbbglhpjpebhaaDoor
/- (Dice).Below: the plain number, and the dice behind it; nothing that was there turns. Condition: the bound fits 32 bits. -/
namespace Go.Proofs.YtnbbglhpjpebhaaDoor
open Go.RowKit

theorem results_tc {P : Program} {fn : Func} {p t : Tmp} {ty : TypeId} (h : fn.results = #[.tmp t, .cell p ty]) (tmps : Array Value) (w : World) (g : Nat) (tt : TypeId) (cs : Array Value) (fr : Nat × Nat) (d : TypeDesc)
    (hp : tmps.getD p undef = .pointer (some ⟨g, 0, none⟩)) (hg : w.heap[g]? = some (.cells cs tt fr))
    (hu : P.underlying ty = some d) (hd : (match d with | .struct _ | .array _ _ => true | _ => false) = true) (hi : (P.info? ty).map (·.size) = some cs.size) :
    (results fn tmps).run P w = .ok (.tuple #[tmps.getD t undef, .agg cs]) w := by
  have hp' : tmps[p]?.getD undef = .pointer (some ⟨g, 0, none⟩) := by simpa using hp
  simp [results, h, hp', asAddr, run_loadVar_row w g tt ty cs fr d hg hu hd hi]
theorem results_cc {P : Program} {fn : Func} {p q : Tmp} {ty sy : TypeId} (h : fn.results = #[.cell p ty, .cell q sy]) (tmps : Array Value) (w : World) (g g2 : Nat) (tt t2 : TypeId) (cs ds : Array Value) (fr fr2 : Nat × Nat) (d d2 : TypeDesc)
    (hp : tmps.getD p undef = .pointer (some ⟨g, 0, none⟩)) (hg : w.heap[g]? = some (.cells cs tt fr))
    (hu : P.underlying ty = some d) (hd : (match d with | .struct _ | .array _ _ => true | _ => false) = true) (hi : (P.info? ty).map (·.size) = some cs.size)
    (hp2 : tmps.getD q undef = .pointer (some ⟨g2, 0, none⟩)) (hg2 : w.heap[g2]? = some (.cells ds t2 fr2))
    (hu2 : P.underlying sy = some d2) (hd2 : (match d2 with | .struct _ | .array _ _ => true | _ => false) = true) (hi2 : (P.info? sy).map (·.size) = some ds.size) :
    (results fn tmps).run P w = .ok (.tuple #[.agg cs, .agg ds]) w := by
  have hp' : tmps[p]?.getD undef = .pointer (some ⟨g, 0, none⟩) := by simpa using hp
  have hp2' : tmps[q]?.getD undef = .pointer (some ⟨g2, 0, none⟩) := by simpa using hp2
  simp [results, h, hp', hp2', asAddr, run_loadVar_row w g tt ty cs fr d hg hu hd hi, run_loadVar_row w g2 t2 sy ds fr2 d2 hg2 hu2 hd2 hi2]
set_option maxHeartbeats 1000000 in
set_option maxRecDepth 20000 in
theorem Below_calls (s n : Nat) (w : World) (hn : n < 4294967296) :
    Calls Tryd.prog 92 #[diceV s, .int .u32 n] w fun e w' => e = .returned (.tuple #[.int .u32 (belowN s n : Nat), diceV (goN s)]) ∧ Below w.heap.size w w' := by
  have hP : IntKind.u64.wrap (((nextN s : Nat) : Int) * (n : Int)) = ((nextN s * n : Nat) : Int) := by
    rw [IntKind.wrap_u64]
    have := prod_lt (s := s) hn
    rw [← Int.natCast_mul]
    omega
  have hD : ((nextN s * n : Nat) : Int) / 4294967296 = ((belowN s n : Nat) : Int) := by unfold belowN; omega
  have lB : belowN s n < 4294967296 := Nat.lt_of_le_of_lt (belowN_le s n) hn
  have hW : IntKind.u32.wrap ((belowN s n : Nat) : Int) = ((belowN s n : Nat) : Int) := IntWalk.u32_in _ (by omega)
  have lN := nextN_lt s
  have lP := prod_lt (s := s) hn
  have hc := Next_calls s
  obtain ⟨b, hb⟩ : ∃ b, b = belowN s n := ⟨_, rfl⟩
  obtain ⟨x, hx⟩ : ∃ x, x = nextN s := ⟨_, rfl⟩
  obtain ⟨g, hg⟩ : ∃ g, g = goN s := ⟨_, rfl⟩
  obtain ⟨p, hp⟩ : ∃ p, p = nextN s * n := ⟨_, rfl⟩
  rw [← hp] at hP hD lP
  rw [← hb] at hD lB hW ⊢
  rw [← hx] at hP lN
  rw [← hx, ← hg] at hc
  rw [← hg]
  clear hb hx hg hp
  go_enter Tryd.func92, Tryd.ntmps92
  go_wp2_with fail
  have k0 : ((w.alloc (.cells #[.int .u64 (s : Int)] 38)).alloc (.cells #[.int .u64 0] 38)).heap[w.heap.size]? = some (.cells #[.int .u64 (s : Int)] 38 (0, 0)) := (Below.heap_alloc _ _ _ (by simp)).trans (heap_alloc_new w _)
  have k1 := heap_alloc2_new w (.cells #[.int .u64 (s : Int)] 38) (.cells #[.int .u64 0] 38)
  have kb : Below w.heap.size w ((w.alloc (.cells #[.int .u64 (s : Int)] 38)).alloc (.cells #[.int .u64 0] 38)) := ((Below.refl _ _).alloc (Nat.le_refl _) _).alloc (by simp) _
  have kz : ((w.alloc (.cells #[.int .u64 (s : Int)] 38)).alloc (.cells #[.int .u64 0] 38)).heap.size = w.heap.size + 2 := by simp
  refine (hc _).mono ?_
  rintro e w1 ⟨rfl, hb⟩
  have m0 := (hb.block w.heap.size (by omega)).trans k0
  have m1 := (hb.block (w.heap.size + 1) (by omega)).trans k1
  have mb := kb.trans (hb.mono (by omega))
  have mc0 := cell_of_row w1 w.heap.size 0 _ _ _ m0
  have mf0 := frozen_of_row w1 w.heap.size 0 _ _ m0
  simp at mc0
  clear hc k0 k1 kb kz hb
  go_wp2_with fail
  have q0 : (w1.setCell ⟨w.heap.size, 0, none⟩ (.int .u64 (g : Int))).heap[w.heap.size]? = some (.cells #[.int .u64 (g : Int)] 38 (0, 0)) := heap_setCell_same w1 w.heap.size 0 _ _ (.int .u64 (g : Int)) m0
  have q1 := (heap_setCell_other w1 ⟨w.heap.size, 0, none⟩ (w.heap.size + 1) (.int .u64 (g : Int)) (by simp)).trans m1
  have qb := mb.setCell (p := ⟨w.heap.size, 0, none⟩) (Nat.le_refl _) (.int .u64 (g : Int))
  obtain ⟨W, hW2⟩ : ∃ W, W = w1.setCell ⟨w.heap.size, 0, none⟩ (.int .u64 (g : Int)) := ⟨_, rfl⟩
  rw [← hW2] at q0 q1 qb ⊢
  have r0 := cell_of_row W w.heap.size 0 _ _ _ q0
  have r1 := cell_of_row W (w.heap.size + 1) 0 _ _ _ q1
  have rf1 := frozen_of_row W (w.heap.size + 1) 0 _ _ q1
  simp at r0 r1
  have H1 := Lib.hid q1
  clear mc0 mf0 m0 m1 hW2 q0 q1 mb
  go_region
  go_wp2_with fail
  have hE : (W.setCell ⟨w.heap.size + 1, 0, none⟩ (.int .u64 (g : Int))).drew.heap[w.heap.size + 1]? = some (.cells #[.int .u64 (g : Int)] 38 (0, 0)) := heap_setCell_same W (w.heap.size + 1) 0 _ _ (.int .u64 (g : Int)) H1.out
  refine bodyPost_ret (results_tc (P := Tryd.prog) rfl _ _ (w.heap.size + 1) _ _ (0, 0) _ rfl hE Tryd.underlying38 rfl (by kernel_rfl)) rfl ⟨rfl, ?_⟩
  exact below_drew (qb.setCell (by simp) _)

end Go.Proofs.YtnbbglhpjpebhaaDoor
/- Nothing of it is wanted here. -/
namespace Go.Proofs.YtnbbglhpjpebhaaDoor
theorem splitv_there : True := trivial
end Go.Proofs.YtnbbglhpjpebhaaDoor
/- Slices of int32, and a row of the call's own of which an element is written. No condition. -/
namespace Go.Proofs.YtnbbglhpjpebhaaDoor
open Go.RowKit

theorem i32_info : (Tryd.prog.info? 21).map (fun i => (i.zero, i.size, i.bytes)) = some (some (.int .i32 0), 1, 4) := by kernel_rfl
/-- Numbers as values. -/
def iv (l : List Int) : List Value := l.map fun x => .int .i32 x
@[simp] theorem iv_length (l : List Int) : (iv l).length = l.length := by simp [iv]
@[simp] theorem iv_nil : iv [] = [] := rfl
theorem iv_get (l : List Int) (k : Nat) (h : k < l.length) : (iv l)[k]? = some (.int .i32 l[k]) := by simp [iv, h]
theorem iv_take (l : List Int) (k : Nat) : (iv l).take k = iv (l.take k) := by simp [iv]
theorem iv_set (l : List Int) (k : Nat) (x : Int) : (iv l).set k (.int .i32 x) = iv (l.set k x) := by simp [iv, List.map_set]
theorem iv_one (l : List Int) : ∀ u ∈ iv l, u.oneCell' = true := by
  intro u hu
  obtain ⟨_, _, rfl⟩ := List.mem_map.1 hu
  rfl
abbrev Is (w : World) (b : Nat) (A : Option Addr) (l : List Int) : Prop := Sl w b A (iv l)
abbrev Row32 (w : World) (B : Nat) (v : Value) (l : List Int) : Prop := w.ownsRow B 21 1 v l.length (iv l)
theorem Row32.cast {w : World} {B : Nat} {v : Value} {l l' : List Int} (h : Row32 w B v l) (e : l = l') : Row32 w B v l' := e ▸ h
theorem Row32.lt {w : World} {B : Nat} {v : Value} {l : List Int} (h : Row32 w B v l) : ∀ k, v.ownBlock = some k → B ≤ k ∧ k < w.heap.size := World.ownsRow.lt h
theorem own_low {w : World} {B B' n : Nat} {e : TypeId} {v : Value} {xs : List Value} (h : w.ownsRow B e 1 v n xs) (hB : B' ≤ B) : w.ownsRow B' e 1 v n xs := by
  refine ⟨h.1, ?_⟩
  rcases h.2 with h2 | ⟨g, cap, cur, rfl, hg, r⟩
  · exact .inl h2
  · exact .inr ⟨g, cap, cur, rfl, by omega, r⟩
theorem own_sl {w : World} {B n : Nat} {e : TypeId} {v : Value} {xs : List Value} (h : w.ownsRow B e 1 v n xs) : ∃ A c b, v = .slice A n c ∧ n ≤ c ∧ B ≤ b ∧ Sl w b A xs := by
  rcases h.2 with ⟨rfl, rfl⟩ | ⟨g, cap, cur, rfl, hb, _, hnc, hcm, _⟩
  · have hx : xs = [] := List.eq_nil_of_length_eq_zero (by simpa using h.1)
    subst hx
    exact ⟨none, 0, B, rfl, Nat.le_refl _, Nat.le_refl _, Sl.nil_ _ _ _⟩
  · refine ⟨_, cap, g, rfl, hnc, hb, fun _ => ⟨0, rfl, fun j u hu => ?_⟩⟩
    have := h.cells (g := g) rfl j u hu
    simpa [Addr.add_lit] using this
section
variable (w : World)
theorem wpList_app32 {ops : Array Oper} {rest : List Oper} {o : Oper} {a : Act} {Q : Exit → Act → World → Prop} (hgd : o.guard = none) (s x : Operand)
    (ho : o.op = .call { callee := .builtin .append, args := #[s, x], argTypes := #[76, 76] })
    (B : Nat) (v : Value) (l : List Int) (hs : a.eval s = v) (hown : Row32 w B v l)
    (b : Nat) (A : Option Addr) (m c : Nat) (news : List Int) (hx : a.eval x = .slice A m c) (hr : Is w b A news) (hm : news.length = m)
    (hlen : l.length + m ≤ 1000000000000) (hbase : B ≤ w.heap.size)
    (h : ∀ v' w', Row32 w' B v' (l ++ news) → Mod (fun i => v.ownBlock = some i) w w' → (v'.ownBlock = v.ownBlock ∨ v'.ownBlock = some w.heap.size) → wpList Tryd.prog ops Q rest (a.put o.dst v') w') : wpList Tryd.prog ops Q (o :: rest) a w := by
  obtain ⟨i0, hi0, hz0, hz1, hz2⟩ := info_parts i32_info
  refine wpList_append_sl (P := Tryd.prog) w hgd s x _ ho B 21 i0 _ 1 4 Tryd.underlying76 hi0 hz0 hz1 hz2 rfl (by omega) v l.length (iv l) hs hown b A m c (iv news) hx hr (by simp [hm]) (Sl.none_len hr (by simp [hm])) (iv_one _)
    (by simp only [maxLen]; omega) (by omega) hbase ?_
  intro v' w' h1 h2 h3
  exact h v' w' (by unfold Row32; rw [List.length_append, hm]; have := h1; simp only [iv, List.map_append] at this ⊢; exact this) (Mod.of_grown h2) h3
end
end Go.Proofs.YtnbbglhpjpebhaaDoor
/- (Dice).Shuffle: the plain shuffle, in new memory; nothing that was there turns. Condition: the list is short. -/
namespace Go.Proofs.YtnbbglhpjpebhaaDoor
open Go.RowKit

theorem swapL_eq {ls : List Int} {i j : Nat} {a b : Int} (hi : ls[i]? = some a) (hj : ls[j]? = some b) : swapL ls i j = (ls.set i b).set j a := by
  unfold swapL
  rw [hi, hj]
set_option maxHeartbeats 4000000 in
set_option maxRecDepth 20000 in
theorem Shuffle_calls (s : Nat) (A : Option Addr) (l : List Int) (n c b : Nat) (w : World) (hs : Is w b A l) (hn : l.length = n) (hl : n ≤ 1000) :
    Calls Tryd.prog 93 #[diceV s, .slice A n c] w fun e w' => ∃ v, e = .returned (.tuple #[v, diceV (shufN (n - 1) s l).2]) ∧ Row32 w' w.heap.size v (shufN (n - 1) s l).1 ∧ Below w.heap.size w w' := by
  have HN := Lib.hid hn
  clear hn
  have k0 := (Box.new_ w (.int .u64 (s : Int)) 38).alloc (.cells #[.int .u64 0] 38)
  have k1 := Box.new_ (w.alloc (.cells #[.int .u64 (s : Int)] 38)) (.int .u64 0) 38
  rw [show (w.alloc (.cells #[.int .u64 (s : Int)] 38)).heap.size = w.heap.size + 1 by simp] at k1
  have kb := below_alloc2 w (.cells #[.int .u64 (s : Int)] 38) (.cells #[.int .u64 0] 38)
  have kz : ((w.alloc (.cells #[.int .u64 (s : Int)] 38)).alloc (.cells #[.int .u64 0] 38)).heap.size = w.heap.size + 2 := by simp
  have hs1 := Sl.ext hs kb
  have H0 := Lib.hid k0
  have H1 := Lib.hid k1
  have HZ := Lib.hid kz
  clear hs k0 k1 kz
  go_enter Tryd.func93, Tryd.ntmps93
  go_wp2_with (at_builtin; go_loud (refine wpList_app32 ((w.alloc (.cells #[.int .u64 (s : Int)] 38)).alloc (.cells #[.int .u64 0] 38)) rfl (.const (.slice none 0 0)) (.tmp 9) rfl (w.heap.size + 2) (.slice none 0 0) [] rfl (World.ownsRow_nil _ _ _ _) b A n c l rfl hs1 HN.out (by simp; omega) (Nat.le_of_eq HZ.out.symm) ?_); intro v1 w1 hrow1 hmod1 hown1; have m0 := H0.out.mod hmod1 (by intro h; cases h); have m1 := H1.out.mod hmod1 (by intro h; cases h); have mb : Below w.heap.size w w1 := kb.trans (hmod1.below kb.size (fun i _ h => by cases h)); have hrow : w1.ownsRow (w.heap.size + 2) 21 1 v1 l.length (iv l) := hrow1.cast (List.nil_append _); clear kb H0 H1 HZ hs1 hmod1 hown1 hrow1; rw [HN.out] at hrow; obtain ⟨A1, c1, b1, hv, hc1, _, _⟩ := own_sl hrow; subst hv)
  go_loopw [7, 8, 18] (fun i x t wr => ∃ (m st : Nat) (ls : List Int), m ≤ n ∧ (n = 0 ∨ 0 < m) ∧ i = .int .i64 ((m : Int) - 1) ∧ Hid (ls.length = n ∧ shufN (m - 1) st ls = shufN (n - 1) s l) ∧ Box wr w.heap.size (.int .u64 (st : Int)) 38 ∧ Box wr (w.heap.size + 1) (.int .u64 0) 38 ∧ wr.ownsRow (w.heap.size + 2) 21 1 (.slice A1 n c1) n (iv ls) ∧ Below w.heap.size w wr) (fun i _ _ _ => (intOf i + 1).toNat)
  case atStart => exact ⟨n, s, l, Nat.le_refl _, by omega, by go_num, Lib.hid ⟨HN.out, rfl⟩, m0, m1, hrow, mb⟩
  case round =>
    obtain ⟨m, st, ls, hm, hm0, rfl, hls, b0, b1', hr, hb⟩ := hrel
    clear m0 m1 hrow mb
    have hlen := hls.out.1
    have HL := Lib.hid hls.out.1
    have HE := Lib.hid hls.out.2
    clear hlen hls
    have c0 := b0.cell
    by_cases hlt : 2 ≤ m
    · obtain ⟨k, rfl⟩ : ∃ k, m = k + 2 := ⟨m - 2, by omega⟩
      have hJ := belowN_lt (s := st) (n := k + 2) (by omega)
      have hB := Below_calls st (k + 2)
      have hsw := HE.out
      rw [show k + 2 - 1 = k + 1 by omega, shufN] at hsw
      obtain ⟨J, hJe⟩ : ∃ J, J = belowN st (k + 2) := ⟨_, rfl⟩
      obtain ⟨h, hh⟩ : ∃ h, h = goN st := ⟨_, rfl⟩
      rw [← hJe, ← hh] at hB hsw
      rw [← hJe] at hJ
      have HS := Lib.hid hsw
      clear hsw hJe hh HE
      go_wp2_with fail
      refine (hB _ (by omega)).mono ?_
      rintro e w2 ⟨rfl, hb2⟩
      have p0 := b0.ext hb2
      have p1 := b1'.ext hb2
      have pr := own_ext hr hb2
      have pb := hb.trans (hb2.mono hb.size)
      have pc := p0.cell
      have pf := p0.frozen
      clear b0 b1' hr hb hb2 c0 hB
      go_wp2_with fail
      have q0 := p0.set_ (.int .u64 (h : Int))
      have q1 := p1.other (p := ⟨w.heap.size, 0, none⟩) (by simp) (.int .u64 (h : Int))
      have qr := own_mod pr (Mod.setCell w2 ⟨w.heap.size, 0, none⟩ (.int .u64 (h : Int))) (fun i hi hx => by have := (World.ownsRow.lt pr i hi).1; simp at hx; omega)
      have qb := pb.setCell (p := ⟨w.heap.size, 0, none⟩) (Nat.le_refl _) (.int .u64 (h : Int))
      obtain ⟨V, hV⟩ : ∃ V, V = w2.setCell ⟨w.heap.size, 0, none⟩ (.int .u64 (h : Int)) := ⟨_, rfl⟩
      rw [← hV] at q0 q1 qr qb ⊢
      clear hV p0 p1 pr pb pc pf
      obtain ⟨g, cap, hv, hBg, hgl, hnc, hcell, hfr, hset⟩ := own_set qr (by omega)
      injection hv with hA hA2 hA3
      subst hA
      clear hA2 hA3
      obtain ⟨xi, hxi⟩ : ∃ xi, ls[k + 1]? = some xi := ⟨_, List.getElem?_eq_getElem (by rw [HL.out]; omega)⟩
      obtain ⟨xj, hxj⟩ : ∃ xj, ls[J]? = some xj := ⟨_, List.getElem?_eq_getElem (by rw [HL.out]; omega)⟩
      have hci := hcell (k + 1) (.int .i32 xi) (by simp [iv, hxi])
      have hcj := hcell J (.int .i32 xj) (by simp [iv, hxj])
      have hfi := hfr (k + 1)
      have hfj := hfr J
      have HSet := Lib.hid hset
      have HXi := Lib.hid hxi
      have HXj := Lib.hid hxj
      have e1 : (J : Int) < (n : Int) := by omega
      have e2 : (k : Int) + 1 < (n : Int) := by omega
      clear hcell hfr hset hxi hxj
      by_cases hJk : J = k + 1
      · subst hJk
        obtain rfl : xi = xj := Option.some.inj (HXi.out.symm.trans HXj.out)
        go_region
        go_wp2_with fail
        refine ⟨⟨k + 1, h, swapL ls (k + 1) (k + 1), by omega, .inr (by omega), by go_num, Lib.hid ⟨by rw [swapL_length, HL.out], by rw [show k + 1 - 1 = k by omega]; exact HS.out⟩, ((q0.other (p := ⟨g, k + 1, none⟩) (by simp; omega) _).other (p := ⟨g, (k + 1), none⟩) (by simp; omega) _).drew, ((q1.other (p := ⟨g, k + 1, none⟩) (by simp; omega) _).other (p := ⟨g, (k + 1), none⟩) (by simp; omega) _).drew, ?_, below_drew ((qb.setCell (by simp; omega) _).setCell (by simp; omega) _)⟩, by simp [intOf]; omega⟩
        rw [show iv (swapL ls (k + 1) (k + 1)) = ((iv ls).set (k + 1) (.int .i32 xi)).set (k + 1) (.int .i32 xi) by rw [swapL_eq HXi.out HXi.out, iv_set, iv_set]]
        exact own_mod (own_set2 (by omega) (HSet.out (k + 1) _ _ rfl) _ _) (Mod.drew (fun _ => False) _) (fun _ _ h => h)
      · have hne : ¬ (k + 1 = J) := fun h => hJk h.symm
        go_region
        go_wp2_with fail
        refine ⟨⟨k + 1, h, swapL ls (k + 1) J, by omega, .inr (by omega), by go_num, Lib.hid ⟨by rw [swapL_length, HL.out], by rw [show k + 1 - 1 = k by omega]; exact HS.out⟩, ((q0.other (p := ⟨g, k + 1, none⟩) (by simp; omega) _).other (p := ⟨g, J, none⟩) (by simp; omega) _).drew, ((q1.other (p := ⟨g, k + 1, none⟩) (by simp; omega) _).other (p := ⟨g, J, none⟩) (by simp; omega) _).drew, ?_, below_drew ((qb.setCell (by simp; omega) _).setCell (by simp; omega) _)⟩, by simp [intOf]; omega⟩
        rw [show iv (swapL ls (k + 1) J) = ((iv ls).set (k + 1) (.int .i32 xj)).set J (.int .i32 xi) by rw [swapL_eq HXi.out HXj.out, iv_set, iv_set]]
        exact own_mod (own_set2 (by omega) (HSet.out (k + 1) _ _ rfl) _ _) (Mod.drew (fun _ => False) _) (fun _ _ h => h)
    · have hm1 : m = 0 ∨ m = 1 := by omega
      have hend : shufN (m - 1) st ls = (ls, st) := by rw [show m - 1 = 0 by omega]; rfl
      have hfin := hend.symm.trans HE.out
      have HF := Lib.hid hfin
      have cz := b1'.cell
      have fz := b1'.frozen
      clear hend hfin hm1 HE
      go_wp2_with fail
      go_region
      go_wp2_with fail
      have hE := (b1'.set_ (.int .u64 (st : Int))).drew
      refine bodyPost_ret (results_tc (P := Tryd.prog) rfl _ _ (w.heap.size + 1) _ _ (0, 0) _ rfl hE Tryd.underlying38 rfl (by kernel_rfl)) rfl ?_
      refine ⟨.slice A1 n c1, ?_, ?_, below_drew (hb.setCell (by simp) _)⟩
      · rw [← HF.out]
        rfl
      · rw [← HF.out]
        show World.ownsRow _ _ _ _ _ ls.length _
        rw [HL.out]
        exact own_low (own_mod hr ((Mod.setCell _ _ _).trans (Mod.drew (fun _ => False) _) (fun _ _ h => h) (fun _ _ h => h.elim)) (fun i hi h => by have h1 := (World.ownsRow.lt hr i hi).1; have h2 : i = w.heap.size + 1 := h; omega)) (by omega)
end Go.Proofs.YtnbbglhpjpebhaaDoor
