/- What Held tells: the ticks of a player's moves, rising. Conditions: the numbers fit; the moves of a player stand within eight ticks. -/
import Derived.Test.YtglmciklegifaaaDoorDkT
namespace Go.Proofs.YtglmciklegifaaaDoor
open Go.RowKit
open Go.Maps (Keyed IsMap Tidy)
set_option linter.unusedVariables false

theorem wv_one (l : List Nat) : ∀ u ∈ wv l, u.oneCell' = true := by
  intro u hu
  obtain ⟨_, _, rfl⟩ := List.mem_map.1 hu
  rfl
theorem wpList_appW (w : World) {ops : Array Oper} {rest : List Oper} {o : Oper} {a : Act} {Q : Exit → Act → World → Prop} (hgd : o.guard = none) (s x : Operand)
    (ho : o.op = .call { callee := .builtin .append, args := #[s, x], argTypes := #[44, 44] })
    (B n : Nat) (v : Value) (l : List Nat) (hs : a.eval s = v) (hown : w.ownsRow B 22 1 v n (wv l))
    (b : Nat) (A : Option Addr) (m c : Nat) (news : List Nat) (hx : a.eval x = .slice A m c) (hr : Sl w b A (wv news)) (hm : news.length = m)
    (hlen : n + m ≤ 1000000000000) (hbase : B ≤ w.heap.size)
    (h : ∀ v' w', w'.ownsRow B 22 1 v' (n + m) (wv (l ++ news)) → w.grownBy w' v.ownBlock → (v'.ownBlock = v.ownBlock ∨ v'.ownBlock = some w.heap.size) → wpList Tryd.prog ops Q rest (a.put o.dst v') w') : wpList Tryd.prog ops Q (o :: rest) a w := by
  obtain ⟨i0, hi0, hz0, hz1, hz2⟩ := info_parts u32_info
  refine wpList_append_sl (P := Tryd.prog) w hgd s x _ ho B 22 i0 _ 1 4 Tryd.underlying44 hi0 hz0 hz1 hz2 rfl (by omega) v n (wv l) hs hown b A m c (wv news) hx hr (by simp [hm]) (Sl.none_len hr (by simp [hm])) (wv_one _)
    (by simp only [maxLen]; omega) (by omega) hbase ?_
  intro v' w' h1 h2 h3
  exact h v' w' (by rw [wv, List.map_append]; exact h1) h2 h3
theorem skey_same {p : Int} {t u : Nat} (hp : inI p) (ht : t < 4294967296) (hu : u < 4294967296) : (skey p t).sameKey (skey p u) = decide (t = u) := by
  by_cases h : t = u
  · subst h
    rw [WideAt.sameKey_self (skey_ok hp ht)]
    simp
  · rw [Maps.sameKey_ne (fun e => h (skey_inj hp hp ht hu e).2)]
    simp [h]
theorem skey_other {p q : Int} {t u : Nat} (hp : inI p) (hq : inI q) (ht : t < 4294967296) (hu : u < 4294967296) (h : p ≠ q) : (skey p t).sameKey (skey q u) = false :=
  Maps.sameKey_ne (fun e => h (skey_inj hp hq ht hu e).1)
/-- What was collected: just those that came. -/
structure Coll (D : DataW Unit) (left : Lit → Bool) (p : Int) (acc : List Nat) : Prop where
  nd : acc.Nodup
  lt : ∀ t ∈ acc, t < 4294967296
  mem : ∀ t, t < 4294967296 → (t ∈ acc ↔ Maps.has D (skey p t) = true ∧ left (skey p t) = false)
theorem Coll.start (D : DataW Unit) (p : Int) : Coll D (Maps.has D) p [] := ⟨List.nodup_nil, (fun t h => by cases h), fun t _ => by
  simp only [List.not_mem_nil, false_iff, not_and, Bool.not_eq_false]
  exact fun h => h⟩
theorem Coll.add {D : DataW Unit} {left : Lit → Bool} {p : Int} {acc : List Nat} (h : Coll D left p acc) (hp : inI p) {u : Nat} (hu : u < 4294967296) (hl : left (skey p u) = true) (hD : Maps.has D (skey p u) = true) : Coll D (fun z => left z && !z.sameKey (skey p u)) p (acc ++ [u]) := by
  have hnu : u ∉ acc := fun hm => by
    have := ((h.mem u hu).1 hm).2
    rw [hl] at this
    cases this
  refine ⟨?_, ?_, ?_⟩
  · rw [List.nodup_append]
    exact ⟨h.nd, by simp, fun a ha b hb => by
      simp only [List.mem_singleton] at hb
      subst hb
      intro e
      subst e
      exact hnu ha⟩
  · intro t ht
    simp only [List.mem_append, List.mem_singleton] at ht
    rcases ht with ht | rfl
    · exact h.lt t ht
    · exact hu
  · intro t ht
    rw [skey_same hp ht hu]
    simp only [List.mem_append, List.mem_singleton, Bool.and_eq_false_iff, h.mem t ht]
    by_cases e : t = u
    · subst e
      simp [hD]
    · simp [e]
theorem Coll.skip {D : DataW Unit} {left : Lit → Bool} {p q : Int} {acc : List Nat} (h : Coll D left p acc) (hp : inI p) (hq : inI q) {u : Nat} (hu : u < 4294967296) (hne : p ≠ q) : Coll D (fun z => left z && !z.sameKey (skey q u)) p acc :=
  ⟨h.nd, h.lt, fun t ht => by rw [h.mem t ht, skey_other hp hq ht hu hne]; simp⟩
theorem len_le_of_mem : ∀ (l m : List Nat), l.Nodup → (∀ t ∈ l, t ∈ m) → l.length ≤ m.length
  | [], _, _, _ => Nat.zero_le _
  | x :: l, m, hn, h => by
    obtain ⟨h1, h2⟩ := List.nodup_cons.1 hn
    have hx := h x (by simp)
    have ih := len_le_of_mem l (m.erase x) h2 (fun t ht => by
      have hne : t ≠ x := fun e => h1 (by rw [← e]; exact ht)
      exact (List.mem_erase_of_ne hne).2 (h t (by simp [ht])))
    rw [List.length_erase_of_mem hx] at ih
    have hm : 0 < m.length := List.length_pos_of_mem hx
    rw [List.length_cons]
    omega
/-- No more than eight stand within eight. -/
theorem within8 (l : List Nat) (T : Nat) (hn : l.Nodup) (h : ∀ t ∈ l, T < t ∧ t ≤ T + 8) : l.length ≤ 8 := by
  have h1 := len_le_of_mem l ((List.range 8).map fun i => T + 1 + i) hn (fun t ht => by
    have := h t ht
    simp only [List.mem_map, List.mem_range]
    exact ⟨t - T - 1, by omega, by omega⟩)
  simpa using h1

structure StopW (p : Prop) : Prop where
  out : p
theorem stop_atW {p : Prop} (h : StopW p) : p := h.out
theorem own_lowW {w : World} {B B' n : Nat} {e : TypeId} {v : Value} {xs : List Value} (h : w.ownsRow B e 1 v n xs) (hB : B' ≤ B) : w.ownsRow B' e 1 v n xs := by
  refine ⟨h.1, ?_⟩
  rcases h.2 with h2 | ⟨g, cap, cur, rfl, hg, r⟩
  · exact .inl h2
  · exact .inr ⟨g, cap, cur, rfl, by omega, r⟩
theorem slot_shape (key : Value) (kl : Lit) (h : keyOf Tryd.prog 75 key = some kl) : ∃ x : Int × Nat, key = slotV x.1 x.2 := by
  obtain ⟨p, t, rfl, _⟩ := slot_inv h
  exact ⟨(p, t), rfl⟩
theorem elem_shape (v : Value) (y : DataW Unit × List MemPlace) (h : plainElem Tryd.prog 22 v = some y) : ∃ c : Int, v = .int .u32 c := by
  obtain ⟨c, rfl, _⟩ := plainElem_int_inv Tryd.underlying22 h
  exact ⟨c, rfl⟩
theorem slot_at_key {q : Int} {u : Nat} {kl : Lit} (h : keyOf Tryd.prog 75 (slotV q u) = some kl) : inI q ∧ u < 4294967296 ∧ kl = skey q u := by
  obtain ⟨p, t, e, hp, ht, rfl⟩ := slot_inv h
  simp only [slotV, Value.agg.injEq] at e
  have e2 := congrArg Array.toList e
  simp at e2
  obtain ⟨rfl, e3⟩ := e2
  have e4 : u = t := by omega
  subst e4
  exact ⟨hp, ht, rfl⟩
set_option maxHeartbeats 4000000 in
set_option maxRecDepth 20000 in
theorem Held_calls (b bm : Nat) (s : DkS) (p : Int) (T : Nat) (w : World) (h : Dk w b bm s) (hp : inI p) (hW : ∀ t, t < 4294967296 → (s.f p t).isSome = true → T < t ∧ t ≤ T + 8) :
    Calls Tryd.prog 21 #[.pointer (some ⟨b, 0, none⟩), .int .i64 p] w fun e w' => ∃ v l, e = .returned v ∧ w'.ownsRow w.heap.size 22 1 v l.length (wv l) ∧ l.Pairwise (· ≤ ·) ∧ l.Nodup ∧ (∀ t, t ∈ l ↔ t < 4294967296 ∧ (s.f p t).isSome = true) ∧ Below w.heap.size w w' := by
  obtain ⟨D, hown, hD⟩ := h.mv
  have q7 := h.c7
  have HD := Lib.hid hD
  have HW := Lib.hid hW
  clear hW hD
  go_enter Tryd.func21, Tryd.ntmps21
  go_wp2_with (at_range; refine wpList_range_own _ rfl _ 62 rfl 75 22 slot_law mapT _ bm s.n D rfl hown ?_; intro w1 hrg hg1 hs1)
  go_frame
  obtain ⟨r, hr⟩ : ∃ r, r = w.heap.size := ⟨_, rfl⟩
  have hb1 : Below w.heap.size w w1 := (Mod.of_grown hg1).below (Nat.le_refl _) (fun i _ h => by cases h)
  have hbm : bm < r := by rw [hr]; exact h.ltm
  rw [← hr] at hrg hb1 hs1 ⊢
  have HR := Lib.hid hr
  clear hg1 hown q7 hr
  go_loopw [5] (fun v wr => ∃ left cnt acc, wr.ranges Tryd.prog 75 (plainElem Tryd.prog 22) bm r s.n D left cnt ∧ Hid (wr.ownsRow (r + 1) 22 1 v acc.length (wv acc)) ∧ Hid (Coll D left p acc) ∧ Below r w wr ∧ r + 1 ≤ wr.heap.size) (fun _ wr => wr.rangeLeft bm r)
  case atStart => exact ⟨_, _, [], hrg, Lib.hid (World.ownsRow_nil _ _ _ _), Lib.hid (Coll.start D p), hb1, by omega⟩
  case round =>
    obtain ⟨left, cnt, acc, hrg2, hown, hco, hb, hrs⟩ := hrel
    clear hrg hb1 hs1
    have hal : acc.length ≤ 8 := within8 acc T hco.out.nd (fun t ht => by
      have h1 := hco.out.lt t ht
      have h2 := ((hco.out.mem t h1).1 ht).1
      rw [(HD.out p t hp h1).1] at h2
      exact HW.out t h1 h2)
    have hlq := hrg2.left_eq
    have HLQ := Lib.hid hlq
    clear hlq
    go_wp2_with (at_next; refine wpList_next_ranges _ rfl _ rfl 75 slot_law (plainElem Tryd.prog 22) (fun (x : Int × Nat) => slotV x.1 x.2) (fun (c : Int) => Value.int .u32 c) slot_shape elem_shape bm r s.n D left cnt rfl hrg2 ?_ ?_)
    · intro _ hl0
      have hco0 := hco.out
      have hmem : ∀ t, t ∈ acc ↔ t < 4294967296 ∧ (s.f p t).isSome = true := fun t => by
        constructor
        · intro ht
          have h1 := hco0.lt t ht
          have h2 := ((hco0.mem t h1).1 ht).1
          rw [(HD.out p t hp h1).1] at h2
          exact ⟨h1, h2⟩
        · rintro ⟨h1, h2⟩
          rw [hco0.mem t h1, (HD.out p t hp h1).1]
          exact ⟨h2, hl0 _⟩
      have HM := Lib.hid (And.intro hmem hco0.nd)
      have hS := fun v h => Sort_calls (r + 1) acc.length v acc wr h rfl (by omega)
      clear hmem hco0 hl0 hrg2 hco
      go_wp2_with fail
      refine (hS _ hown.out).mono ?_
      rintro e w2 ⟨rfl, l', h1, h2, h3, h4⟩
      have hb3 : Below r w w2 := hb.trans (h4.below (by omega) (fun i hi e => by have h9 := (World.ownsRow.lt hown.out i e).1; omega))
      have hll := h1.length_eq
      rw [← hll] at h3
      have HF := Lib.hid (And.intro h1 (And.intro h2 (And.intro h3 hb3)))
      clear hS hown hb h1 h2 h3 h4 hb3 hll
      go_wp2_with fail
      go_ret
      obtain ⟨h1, h2, h3, hb3⟩ := HF.out
      rw [HR.out] at h3 hb3
      exact ⟨_, l', rfl, own_lowW h3 (by omega), h2, h1.nodup_iff.2 HM.out.2, fun t => h1.mem_iff.trans (HM.out.1 t), hb3⟩
    · intro q u c kl ya yb w2 cnt2 hkey hlx hRy hat hrg3 hlt2 hg2 hs2 hen
      obtain ⟨hq, hu, rfl⟩ := slot_at_key hkey
      have HS2 := Lib.hid hs2
      clear hs2
      have hhas : Maps.has D (skey q u) = true := Maps.has_true_of_atKey hat
      have hb2 : Below r w w2 := hb.trans ((Mod.of_grown hg2).below (by omega) (fun i hi e => by injection e with e; omega))
      replace hown := Lib.hid (own_mod hown.out (Mod.of_grown hg2) (fun k hk e => by injection e with e; have h9 := (World.ownsRow.lt hown.out k hk).1; omega))
      have hx : (w2.alloc (.cells #[.int .i64 q, .int .u32 (u : Int)] 75)).heap[w2.heap.size]? = some (.cells #[.int .i64 q, .int .u32 (u : Int)] 75 (0, 0)) := heap_alloc_new w2 _
      have g1 := below_alloc1 w2 (.cells #[.int .i64 q, .int .u32 (u : Int)] 75)
      replace hrg3 := hrg3.alloc (.cells #[.int .i64 q, .int .u32 (u : Int)] 75)
      replace hb2 := hb2.trans (g1.mono (by have := HS2.out; omega))
      replace hown := Lib.hid (own_ext hown.out g1)
      obtain ⟨x0, x1⟩ := dbox2_all hx
      have HC := Lib.hid (And.intro hlx hhas)
      have HL2 := Lib.hid hlt2
      clear hkey hlx hRy hat hrg2 hg2 hb hhas g1 hlt2
      by_cases hqp : q = p
      · subst hqp
        have hco2 := Lib.hid (hco.out.add hq hu HC.out.1 HC.out.2)
        have hs1 : Sl ((w2.alloc (.cells #[.int .i64 q, .int .u32 (u : Int)] 75)).alloc (.cells #[.int .u32 (u : Int)] 22)) (w2.alloc (.cells #[.int .i64 q, .int .u32 (u : Int)] 75)).heap.size (some ⟨(w2.alloc (.cells #[.int .i64 q, .int .u32 (u : Int)] 75)).heap.size, 0, none⟩) (wv [u]) := Sl.cells_new _ _ _
        rw [World.size_alloc] at hs1
        have g2 := below_alloc1 (w2.alloc (.cells #[.int .i64 q, .int .u32 (u : Int)] 75)) (.cells #[.int .u32 (u : Int)] 22)
        replace hrg3 := hrg3.alloc (.cells #[.int .u32 (u : Int)] 22)
        replace hb2 := hb2.trans (g2.mono (by have := HS2.out; rw [World.size_alloc]; omega))
        replace hown := Lib.hid (own_ext hown.out g2)
        clear g2
        go_wp2_with (at_builtin; refine stop_atW ?_)
        refine ⟨?_⟩
        refine wpList_appW _ rfl (.tmp 22) (.tmp 25) rfl (r + 1) acc.length u5 acc rfl hown.out (w2.heap.size + 1) (some ⟨w2.heap.size + 1, 0, none⟩) 1 1 [u] rfl hs1 rfl (by omega) (by have := HS2.out; simp only [World.size_alloc]; omega) ?_
        intro v5 w5 hrow5 hgr5 hloc5
        have hob : ∀ k, u5.ownBlock = some k → r + 1 ≤ k := fun k hk => (World.ownsRow.lt hown.out k hk).1
        replace hrg3 := hrg3.kept hgr5 (fun e => by have := hob bm e.symm; omega) (fun e => by have := hob r e.symm; omega)
        have hbr : Below r ((w2.alloc (.cells #[.int .i64 q, .int .u32 (u : Int)] 75)).alloc (.cells #[.int .u32 (u : Int)] 22)) w5 := (Mod.of_grown hgr5).below (by have := HS2.out; simp only [World.size_alloc]; omega) (fun i hi e => by have := hob i e; omega)
        replace hb2 := hb2.trans hbr
        have hsz := hgr5.size
        have HZ := Lib.hid (show r + 1 ≤ w5.heap.size by have := HS2.out; simp only [World.size_alloc] at hsz; omega)
        have HROW := Lib.hid (show w5.ownsRow (r + 1) 22 1 v5 (acc ++ [u]).length (wv (acc ++ [u])) by rw [List.length_append]; exact hrow5)
        clear hsz hbr hgr5 hrow5 hown hs1 hx x0 x1 hen hob
        go_wp2_with fail
        go_roundw
        case rel => exact ⟨_, cnt2, acc ++ [u], hrg3, HROW.out, hco2, hb2, HZ.out⟩
        case measure => rw [hrg3.left_eq, HLQ.out]; exact HL2.out
      · have hqp' : (q == p) = false := by simpa using hqp
        have hco2 := Lib.hid (hco.out.skip hp hq hu (fun e => hqp e.symm))
        have HZ := Lib.hid (show r + 1 ≤ (w2.alloc (.cells #[.int .i64 q, .int .u32 (u : Int)] 75)).heap.size by have := HS2.out; simp only [World.size_alloc]; omega)
        go_wp2_with fail
        go_roundw
        case rel => exact ⟨_, cnt2, acc, hrg3, hown, hco2, hb2, HZ.out⟩
        case measure => rw [hrg3.left_eq, HLQ.out]; exact HL2.out
end Go.Proofs.YtglmciklegifaaaDoor
