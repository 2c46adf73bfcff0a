/- The laws' few: the first fields, with short blobs, in new memory; nothing that was there turns. Condition: the fields' numbers fit. -/
import Derived.Test.YtokjkbbijfiloaaRefLay
import Derived.Test.YtokjkbbijfiloaaRefCut
namespace Go.Proofs.Ytokjkbbijfiloaa
open Go.RowKit

/-- A field as it lies in memory: where its blob lies. -/
structure FV where
  f : Fld
  A : Option Addr
  c : Nat
  b : Nat
abbrev FV.cells (x : FV) : List Value := x.f.cells x.A x.c
def FV.In (w : World) (x : FV) : Prop := Bs w x.b x.A x.f.b ∧ x.f.Ok ∧ x.f.b.length ≤ maxLen
def cellsOf (xs : List FV) : List Value := xs.flatMap FV.cells
theorem cellsOf_length (xs : List FV) : (cellsOf xs).length = xs.length * 4 := by
  induction xs with
  | nil => rfl
  | cons x l ih =>
    have : cellsOf (x :: l) = x.cells ++ cellsOf l := rfl
    rw [this, List.length_append, ih, List.length_cons]
    simp
    omega
theorem cellsOf_append (xs ys : List FV) : cellsOf (xs ++ ys) = cellsOf xs ++ cellsOf ys := by simp [cellsOf]
theorem cellsOf_at (xs : List FV) (k : Nat) (hk : k < xs.length) (j : Nat) (hj : j < 4) : (cellsOf xs)[k * 4 + j]? = xs[k].cells[j]? := by
  induction xs generalizing k with
  | nil => simp at hk
  | cons x l ih =>
    have e : cellsOf (x :: l) = x.cells ++ cellsOf l := rfl
    have e4 : x.cells.length = 4 := rfl
    rw [e]
    cases k with
    | zero =>
      rw [List.getElem?_append_left (by rw [e4]; omega)]
      simp
    | succ k =>
      rw [List.getElem?_append_right (by rw [e4]; omega), e4, show (k + 1) * 4 + j - 4 = k * 4 + j by omega, ih k (by simpa using hk)]
      simp

/-- Fields that lie in a slice. -/
def FldsIn (w : World) (b : Nat) (A : Option Addr) (xs : List FV) : Prop := Sl w b A (cellsOf xs) ∧ ∀ x ∈ xs, FV.In w x

theorem FV.In.ext {w w' : World} {x : FV} (h : FV.In w x) (hm : Below w.heap.size w w') : FV.In w' x := ⟨Sl.ext h.1 hm, h.2⟩
theorem FldsIn.ext {w w' : World} {b : Nat} {A : Option Addr} {xs : List FV} (h : FldsIn w b A xs) (hm : Below w.heap.size w w') : FldsIn w' b A xs := ⟨Sl.ext h.1 hm, fun x hx => (h.2 x hx).ext hm⟩
theorem FldsIn.at_ {w : World} {b : Nat} {A : Option Addr} {xs : List FV} (h : FldsIn w b A xs) {k : Nat} (hk : k < xs.length) :
    ∃ off, A = some ⟨b, off, none⟩ ∧ w.cell? ⟨b, off + k * 4, none⟩ = some (.int .u8 (xs[k].f.kind : Int)) ∧ w.cell? ⟨b, off + k * 4 + 1, none⟩ = some (.int .u64 (xs[k].f.n : Int)) ∧
      w.cell? ⟨b, off + k * 4 + 2, none⟩ = some (.slice xs[k].A xs[k].f.b.length xs[k].c) ∧ w.cell? ⟨b, off + k * 4 + 3, none⟩ = some (.int .u64 (xs[k].f.most : Int)) := by
  have hne : cellsOf xs ≠ [] := by
    intro h0
    have := cellsOf_length xs
    rw [h0] at this
    simp at this
    omega
  obtain ⟨off, e, hc⟩ := h.1 hne
  exact ⟨off, e, hc (k * 4 + 0) _ (cellsOf_at xs k hk 0 (by omega)), hc (k * 4 + 1) _ (cellsOf_at xs k hk 1 (by omega)), hc (k * 4 + 2) _ (cellsOf_at xs k hk 2 (by omega)), hc (k * 4 + 3) _ (cellsOf_at xs k hk 3 (by omega))⟩

def fewOne (f : Fld) : Fld := { f with b := f.b.take 40, most := if f.kind % 5 = 4 then f.most % 1000 else f.most }
def fewF (fs : List Fld) : List Fld := (fs.take 12).map fewOne

theorem field_info : (Try.prog.info? 30).map (fun i => (i.zero, i.size, i.bytes)) = some (some (.agg #[.int .u8 0, .int .u64 0, .slice none 0 0, .int .u64 0]), 4, 48) := by kernel_rfl

abbrev Rows (w : World) (B : Nat) (v : Value) (ys : List FV) : Prop := w.ownsRow B 30 4 v ys.length (cellsOf ys)
theorem Rows.mod {w w' : World} {B : Nat} {v : Value} {l : List FV} (h : Rows w B v l) {S : Nat → Prop} (hm : Mod S w w') (hs : ∀ k, v.ownBlock = some k → ¬ S k) : Rows w' B v l := by
  refine ⟨h.1, ?_⟩
  rcases h.2 with h2 | ⟨g, cap, cur, rfl, hg, hh, r⟩
  · exact .inl h2
  · exact .inr ⟨g, cap, cur, rfl, hg, by rw [hm.block g (Array.getElem?_eq_some_iff.1 hh).1 (hs g rfl)]; exact hh, r⟩
theorem Rows.ext {w w' : World} {B : Nat} {v : Value} {l : List FV} (h : Rows w B v l) (hm : Below w.heap.size w w') : Rows w' B v l :=
  h.mod (Mod.of_below hm) fun k hk => by have := (World.ownsRow.lt h k hk).2; omega

/-- append(out, f) of one field, which lies in a new block of its own. -/
theorem wpList_appF (w : World) {u0 u1 u2 u3 : Value} {ops : Array Oper} {rest : List Oper} {o : Oper} {a : Act} {Q : Exit → Act → World → Prop} (hgd : o.guard = none) (s x : Operand)
    (ho : o.op = .call { callee := .builtin .append, args := #[s, x], argTypes := #[22, 22] })
    (B : Nat) (v : Value) (ys : List FV) (hs : a.eval s = v) (hown : Rows w B v ys)
    (y : FV) (hu : [u0, u1, u2, u3] = y.cells) (sz : Nat) (hsz : w.heap.size = sz) (hx : a.eval x = .slice (some ⟨sz, 0, none⟩) 1 1)
    (hlen : ys.length ≤ 100) (hbase : B ≤ w.heap.size)
    (h : ∀ v' w', Rows w' B v' (ys ++ [y]) → Mod (fun i => v.ownBlock = some i) w w' → (v'.ownBlock = v.ownBlock ∨ ∃ k, v'.ownBlock = some k ∧ w.heap.size ≤ k) → wpList Try.prog ops Q rest (a.put o.dst v') w') : wpList Try.prog ops Q (o :: rest) a (w.alloc (.cells #[u0, u1, u2, u3] 30)) := by
  subst hsz
  obtain ⟨i0, hi0, hz0, hz1, hz2⟩ := info_parts field_info
  refine wpList_append_sl (P := Try.prog) _ hgd s x _ ho B 30 i0 _ 4 48 Try.underlying22 hi0 hz0 hz1 hz2 rfl (by omega) v ys.length (cellsOf ys) hs (World.ownsRow.alloc hown _) w.heap.size _ 1 1 y.cells hx
    (by rw [← hu]; exact Sl.cells_new w #[u0, u1, u2, u3] _) rfl (fun h => by cases h) (by intro u hu'; simp [FV.cells, Fld.cells] at hu'; rcases hu' with h | h | h | h <;> (subst h; rfl)) (by simp only [maxLen]; omega) (by omega) (by simp; omega) ?_
  intro v' w' h1 h2 h3
  refine h v' w' ?_ ((Mod.alloc (fun _ => False) w _).trans (Mod.of_grown h2) (fun i _ h => h.elim) (fun i _ h => h)) (h3.imp id fun h => ⟨_, h, by simp⟩)
  have e : cellsOf (ys ++ [y]) = cellsOf ys ++ y.cells := by rw [cellsOf_append]; simp [cellsOf]
  unfold Rows
  rw [List.length_append, e]
  exact h1

theorem fewMT {v : Value} {wr w1 W w2 : World} (hb2 : Below wr.heap.size wr w1) (hm : Mod (fun i => i = wr.heap.size) w1 W) (h2 : Mod (fun i => v.ownBlock = some i) W w2) : Mod (fun i => v.ownBlock = some i ∨ wr.heap.size ≤ i) wr w2 :=
  (Mod.of_below hb2).trans (hm.trans h2 (S := fun i => v.ownBlock = some i ∨ i = wr.heap.size) (fun i _ h => .inr h) (fun i _ h => .inl h)) (fun i _ h => .inr h) (fun i _ h => h.imp id (fun h => by omega))

theorem few_step (fs : List Fld) (k : Nat) (hk : k < fs.length) (h12 : k < 12) : fewF (fs.take (k + 1)) = fewF (fs.take k) ++ [fewOne fs[k]] := by
  unfold fewF
  rw [List.take_take, List.take_take, Nat.min_eq_right (by omega), Nat.min_eq_right (by omega), List.take_succ_eq_append_getElem hk, List.map_append]
  rfl
theorem few_stop (fs : List Fld) (k : Nat) (h12 : 12 ≤ k) : fewF (fs.take (k + 1)) = fewF (fs.take k) := by
  unfold fewF
  rw [List.take_take, List.take_take, Nat.min_eq_left (by omega), Nat.min_eq_left (by omega)]
theorem few_len (fs : List Fld) : (fewF fs).length ≤ 12 := by simp [fewF]; omega

set_option maxHeartbeats 2000000 in
theorem few_calls (A : Option Addr) (xs : List FV) (n c b : Nat) (w : World) (hs : FldsIn w b A xs) (hn : xs.length = n) (h1 : n ≤ maxLen) :
    Calls Try.prog 10 #[.slice A n c] w fun e w' => ∃ v ys, e = .returned v ∧ ys.map FV.f = fewF (xs.map FV.f) ∧ Rows w' w.heap.size v ys ∧ (∀ y ∈ ys, FV.In w' y ∧ w.heap.size ≤ y.b) ∧ Below w.heap.size w w' := by
  unfold maxLen at h1
  have HN := Lib.hid hn
  clear hn
  go_enter Try.func10, Try.ntmps10
  go_wp2_with fail
  go_loopw [3, 8] (fun v i wr => ∃ (k : Nat) (ys : List FV), k ≤ n ∧ i = .int .i64 k ∧ Hid (ys.map FV.f = fewF ((xs.map FV.f).take k)) ∧ Hid (Rows wr w.heap.size v ys) ∧ Hid (∀ y ∈ ys, FV.In wr y ∧ w.heap.size ≤ y.b) ∧ Hid (∀ y ∈ ys, y.f.b ≠ [] → v.ownBlock ≠ some y.b) ∧ Below w.heap.size w wr) (fun _ i _ => n - (intOf i).toNat)
  case atStart => exact ⟨0, [], Nat.zero_le _, rfl, Lib.hid rfl, Lib.hid (World.ownsRow_nil _ _ _ _), Lib.hid (by simp), Lib.hid (by simp), Below.refl _ _⟩
  case round =>
    obtain ⟨k, ys, hk, rfl, hys, hown, hin, hfar, hb⟩ := hrel
    by_cases hlt : k < n
    · have hkl : k < xs.length := by rw [HN.out]; exact hlt
      obtain ⟨oa, rfl, c0, c1, c2, c3⟩ := (hs.ext hb).at_ hkl
      obtain ⟨x, hx⟩ : ∃ x, x = xs[k] := ⟨_, rfl⟩
      rw [← hx] at c0 c1 c2 c3
      have hxin : FV.In wr x := (hs.2 x (by rw [hx]; exact List.getElem_mem hkl)).ext hb
      have HX := Lib.hid (show (xs.map FV.f)[k]'(by simpa using hkl) = x.f by rw [hx]; simp)
      clear hx
      have hbs := hb.size
      have hy := Lib.hid (few_step (xs.map FV.f) k (by simpa using hkl))
      have hyl : ys.length ≤ 12 := by have h2 := congrArg List.length hys.out; have h3 := few_len ((xs.map FV.f).take k); simp only [List.length_map] at h2; omega
      by_cases h12 : (k : Int) < 12
      · obtain ⟨⟨fk, fn, fb, fm⟩, xA, xc, xb⟩ := x
        obtain ⟨hxs, ⟨hfk, hfn, hfm⟩, hfl⟩ := hxin
        simp only at c0 c1 c2 c3 hxs hfk hfn hfm hfl
        have hxa : Below wr.heap.size wr (wr.alloc (.cells #[.int .u8 (fk : Int), .int .u64 (fn : Int), .slice xA fb.length xc, .int .u64 (fm : Int)] 30)) := (Below.refl _ _).alloc (Nat.le_refl _) _
        go_wp2_with fail
        refine (Cut_calls xA fb fb.length xc xb 40 _ (Sl.ext hxs hxa) rfl hfl (by simp; omega)).mono ?_
        rintro e w1 ⟨v1, rfl, r1, hb1⟩
        have e40 : (40 : Int).toNat = 40 := rfl
        rw [e40] at r1
        obtain ⟨l4, hl4⟩ : ∃ l4, l4 = fb.take 40 := ⟨_, rfl⟩
        rw [← hl4] at r1
        have hl4n : l4.length ≤ 40 := by rw [hl4]; simp; omega
        have HL4 := Lib.hid hl4
        clear hl4
        have hg1 : w1.heap[wr.heap.size]? = some (.cells #[.int .u8 (fk : Int), .int .u64 (fn : Int), .slice xA fb.length xc, .int .u64 (fm : Int)] 30 (0, 0)) := (hb1.block _ (by simp)).trans (heap_alloc_new wr _)
        obtain ⟨A1, c1', b1, rfl, _, h1m, _, hb1', s1, _⟩ := r1.sl
        have d0 := cell_of_row w1 wr.heap.size 0 _ _ _ hg1
        have d1 := cell_of_row w1 wr.heap.size 1 _ _ _ hg1
        have d2 := cell_of_row w1 wr.heap.size 2 _ _ _ hg1
        have d3 := cell_of_row w1 wr.heap.size 3 _ _ _ hg1
        have f2 := frozen_of_row w1 wr.heap.size 2 _ _ hg1
        have f3 := frozen_of_row w1 wr.heap.size 3 _ _ hg1
        simp only [List.getElem?_toArray, List.getElem?_cons_zero, List.getElem?_cons_succ] at d0 d1 d2 d3
        have hb2 : Below wr.heap.size wr w1 := hxa.trans (hb1.mono (by simp))
        have hown1 := Lib.hid (hown.out.ext hb2)
        have hlt1 : wr.heap.size < w1.heap.size := (Array.getElem?_eq_some_iff.1 hg1).1
        have hb1'' : wr.heap.size + 1 ≤ b1 := by simpa using hb1'
        clear c0 c1 c2 c3 hg1 hxs hxa hb1' hb1 r1
        by_cases hk4 : fk % 5 = 4
        · have hmW : Mod (fun i => i = wr.heap.size) w1 ((w1.setCell ⟨wr.heap.size, 2, none⟩ (.slice A1 l4.length c1')).setCell ⟨wr.heap.size, 3, none⟩ (.int .u64 ((fm : Int) % 1000))) := ((Mod.setCell w1 ⟨wr.heap.size, 2, none⟩ _).trans (Mod.setCell _ ⟨wr.heap.size, 3, none⟩ _) (fun i _ h => h) (fun i _ h => h))
          have hownT := Lib.hid (hown1.out.mod hmW (fun k hk h => by have := (World.ownsRow.lt hown.out k hk).2; omega))
          have hszW : ((w1.setCell ⟨wr.heap.size, 2, none⟩ (.slice A1 l4.length c1')).setCell ⟨wr.heap.size, 3, none⟩ (.int .u64 ((fm : Int) % 1000))).heap.size = w1.heap.size := by simp
          have hcel := Lib.hid (show [.int .u8 (fk : Int), .int .u64 (fn : Int), .slice A1 l4.length c1', .int .u64 ((fm : Int) % 1000)] = FV.cells ⟨⟨fk, fn, l4, fm % 1000⟩, A1, c1', b1⟩ by simp [FV.cells, Fld.cells])
          have hfo := Lib.hid (show fewOne ⟨fk, fn, fb, fm⟩ = ⟨fk, fn, l4, fm % 1000⟩ by rw [HL4.out]; unfold fewOne; simp only; rw [if_pos hk4])
          have hbW : w.heap.size ≤ ((w1.setCell ⟨wr.heap.size, 2, none⟩ (.slice A1 l4.length c1')).setCell ⟨wr.heap.size, 3, none⟩ (.int .u64 ((fm : Int) % 1000))).heap.size := by rw [hszW]; omega
          have HM := Lib.hid hmW
          have HS := Lib.hid hszW
          have HBW := Lib.hid hbW
          clear hmW hszW hbW hown1
          have hq : ((fk : Int) % 5 == 4) = true := by simp; omega
          clear hk4
          go_wp2_with (at_builtin; go_loud (refine wpList_appF _ rfl (.tmp 27) (.tmp 29) rfl w.heap.size _ ys rfl hownT.out ⟨⟨fk, fn, l4, fm % 1000⟩, A1, c1', b1⟩ hcel.out _ HS.out rfl (by omega) HBW.out ?_); intro v' w2 hown2 hmod2 hat2)
          go_roundw
          case rel =>
            have hMT := fewMT hb2 HM.out hmod2
            have hvlt := World.ownsRow.lt hown.out
            refine ⟨k + 1, ys ++ [⟨⟨fk, fn, l4, fm % 1000⟩, A1, c1', b1⟩], by omega, by go_num, Lib.hid ?_, Lib.hid hown2, Lib.hid ?_, Lib.hid ?_, hb.trans (hMT.below hbs (fun i hi h => by rcases h with h | h; have := (hvlt i h).1; omega; omega))⟩
            · rw [List.map_append, hys.out, hy.out (by omega), HX.out, hfo.out]; rfl
            · intro y hy
              rw [List.mem_append] at hy
              rcases hy with hy | hy
              · have hyin := hin.out y hy
                refine ⟨⟨Bs.modne hyin.1.1 hMT (fun hne h => ?_), hyin.1.2⟩, hyin.2⟩
                have hlt := Bs.lt hyin.1.1 hne
                rcases h with h | h
                · exact hfar.out y hy hne h
                · omega
              · simp only [List.mem_singleton] at hy
                subst hy
                refine ⟨⟨?_, ⟨hfk, hfn, by simp only; omega⟩, by simp only [maxLen]; omega⟩, by simp only; omega⟩
                exact Bs.modne (Bs.modne s1 HM.out (fun _ h => by have h2 : b1 = wr.heap.size := h; omega)) hmod2 (fun _ h => by have h2 : b1 < wr.heap.size := (hvlt _ h).2; omega)
            · intro y hy hne
              rw [List.mem_append] at hy
              rcases hy with hy | hy
              · have hlt := Bs.lt (hin.out y hy).1.1 hne
                rcases hat2 with h | ⟨q, h, hq⟩
                · rw [h]; exact hfar.out y hy hne
                · rw [h]; intro he; injection he with he; rw [HS.out] at hq; omega
              · simp only [List.mem_singleton] at hy
                subst hy
                have hlt := Bs.lt s1 hne
                rcases hat2 with h | ⟨q, h, hq⟩
                · rw [h]; intro he; have h2 : b1 < wr.heap.size := (hvlt _ he).2; omega
                · rw [h]; intro he; injection he with he; rw [HS.out] at hq; have h2 : q = b1 := he; have h3 : b1 < w1.heap.size := hlt; omega
          case measure => simp [intOf]; omega
        · have hmW : Mod (fun i => i = wr.heap.size) w1 (w1.setCell ⟨wr.heap.size, 2, none⟩ (.slice A1 l4.length c1')) := (Mod.setCell w1 ⟨wr.heap.size, 2, none⟩ _)
          have hownT := Lib.hid (hown1.out.mod hmW (fun k hk h => by have := (World.ownsRow.lt hown.out k hk).2; omega))
          have hszW : (w1.setCell ⟨wr.heap.size, 2, none⟩ (.slice A1 l4.length c1')).heap.size = w1.heap.size := by simp
          have hfo := Lib.hid (show fewOne ⟨fk, fn, fb, fm⟩ = ⟨fk, fn, l4, fm⟩ by rw [HL4.out]; unfold fewOne; simp only; rw [if_neg hk4])
          have hbW : w.heap.size ≤ (w1.setCell ⟨wr.heap.size, 2, none⟩ (.slice A1 l4.length c1')).heap.size := by rw [hszW]; omega
          have HM := Lib.hid hmW
          have HS := Lib.hid hszW
          have HBW := Lib.hid hbW
          clear hmW hszW hbW hown1
          have hq : ((fk : Int) % 5 == 4) = false := by simp; omega
          clear hk4
          go_wp2_with (at_builtin; go_loud (refine wpList_appF _ rfl (.tmp 27) (.tmp 29) rfl w.heap.size _ ys rfl hownT.out ⟨⟨fk, fn, l4, fm⟩, A1, c1', b1⟩ rfl _ HS.out rfl (by omega) HBW.out ?_); intro v' w2 hown2 hmod2 hat2)
          go_roundw
          case rel =>
            have hMT := fewMT hb2 HM.out hmod2
            have hvlt := World.ownsRow.lt hown.out
            refine ⟨k + 1, ys ++ [⟨⟨fk, fn, l4, fm⟩, A1, c1', b1⟩], by omega, by go_num, Lib.hid ?_, Lib.hid hown2, Lib.hid ?_, Lib.hid ?_, hb.trans (hMT.below hbs (fun i hi h => by rcases h with h | h; have := (hvlt i h).1; omega; omega))⟩
            · rw [List.map_append, hys.out, hy.out (by omega), HX.out, hfo.out]; rfl
            · intro y hy
              rw [List.mem_append] at hy
              rcases hy with hy | hy
              · have hyin := hin.out y hy
                refine ⟨⟨Bs.modne hyin.1.1 hMT (fun hne h => ?_), hyin.1.2⟩, hyin.2⟩
                have hlt := Bs.lt hyin.1.1 hne
                rcases h with h | h
                · exact hfar.out y hy hne h
                · omega
              · simp only [List.mem_singleton] at hy
                subst hy
                refine ⟨⟨?_, ⟨hfk, hfn, by simp only; omega⟩, by simp only [maxLen]; omega⟩, by simp only; omega⟩
                exact Bs.modne (Bs.modne s1 HM.out (fun _ h => by have h2 : b1 = wr.heap.size := h; omega)) hmod2 (fun _ h => by have h2 : b1 < wr.heap.size := (hvlt _ h).2; omega)
            · intro y hy hne
              rw [List.mem_append] at hy
              rcases hy with hy | hy
              · have hlt := Bs.lt (hin.out y hy).1.1 hne
                rcases hat2 with h | ⟨q, h, hq⟩
                · rw [h]; exact hfar.out y hy hne
                · rw [h]; intro he; injection he with he; rw [HS.out] at hq; omega
              · simp only [List.mem_singleton] at hy
                subst hy
                have hlt := Bs.lt s1 hne
                rcases hat2 with h | ⟨q, h, hq⟩
                · rw [h]; intro he; have h2 : b1 < wr.heap.size := (hvlt _ he).2; omega
                · rw [h]; intro he; injection he with he; rw [HS.out] at hq; have h2 : q = b1 := he; have h3 : b1 < w1.heap.size := hlt; omega
          case measure => simp [intOf]; omega
      · go_wp2_with fail
        go_roundw
        have hx : Below wr.heap.size wr (wr.alloc (.cells #[.int .u8 (x.f.kind : Int), .int .u64 (x.f.n : Int), .slice x.A x.f.b.length x.c, .int .u64 (x.f.most : Int)] 30)) := (Below.refl _ _).alloc (Nat.le_refl _) _
        case rel => exact ⟨k + 1, ys, by omega, by go_num, Lib.hid (by rw [few_stop _ _ (by omega)]; exact hys.out), Lib.hid (hown.out.ext hx), Lib.hid (fun y hy => ⟨(hin.out y hy).1.ext hx, (hin.out y hy).2⟩), hfar, hb.trans (hx.mono hbs)⟩
        case measure => simp [intOf]; omega
    · go_wp2_with fail
      go_ret
      refine ⟨_, ys, rfl, ?_, hown.out, hin.out, hb⟩
      rw [hys.out, List.take_of_length_le (by have := HN.out; simp; omega)]
end Go.Proofs.Ytokjkbbijfiloaa
