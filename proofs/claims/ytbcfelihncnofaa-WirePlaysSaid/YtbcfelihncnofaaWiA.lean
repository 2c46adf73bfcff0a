/- add: one more frame on its way, a copy. put: what becomes of a frame. Conditions: those said. -/
import Derived.Test.YtbcfelihncnofaaWiK
import Derived.Test.YtbcfelihncnofaaWiS2
namespace Go.Proofs.Ytbcfelihncnofaa
open Go.RowKit
set_option linter.unusedVariables false

theorem Row.pl {w : World} {B : Nat} {v : Value} {l : List UInt8} (h : Row w B v l) (t : Int) : ∃ A c b, v = (Pl.mk l t A c b).sv := by
  obtain ⟨A, c, b, rfl, _⟩ := h.sl
  exact ⟨A, c, b, rfl⟩
/-- What a wire has more of: frames, each a copy of its own. -/
structure WStep (B g : Nat) (v : Value) (ps xs : List Pl) (w w' : World) (v' : Value) : Prop where
  box : Box w' g v' 26
  row : RowW 68 w' B v' (ps ++ xs)
  new : ∀ x ∈ xs, Row w' w.heap.size x.sv x.l
  apart : xs.Pairwise (fun x y => ∀ k, x.sv.ownBlock = some k → y.sv.ownBlock ≠ some k)
  mod : Mod (fun i => i = g ∨ v.ownBlock = some i) w w'
  at_ : v'.ownBlock = v.ownBlock ∨ ∃ k, v'.ownBlock = some k ∧ w.heap.size ≤ k
theorem WStep.refl {B g : Nat} {v : Value} {ps : List Pl} {w : World} (q : Box w g v 26) (hr : RowW 68 w B v ps) : WStep B g v ps [] w w v :=
  ⟨q, by rw [List.append_nil]; exact hr, by simp, by simp, Mod.refl _ _, .inl rfl⟩
/-- What a wire's step leaves: a row of bytes. -/
theorem WStep.keep {B g : Nat} {v v' : Value} {ps xs : List Pl} {w w' : World} (h : WStep B g v ps xs w w' v') (q : Box w g v 26) (hr : RowW 68 w B v ps) {B2 : Nat} {u : Value} {l : List UInt8} (hu : Row w B2 u l) : Row w' B2 u l :=
  hu.mod h.mod (fun k hk hh => by
    rcases hh with rfl | hh
    · exact row_apart hu q (by decide) hk
    · exact own_apart hr hu (by decide) hh hk)
theorem WStep.trans {B g : Nat} {v v1 v2 : Value} {ps xs ys : List Pl} {w w1 w2 : World} (h : WStep B g v ps xs w w1 v1) (k : WStep B g v1 (ps ++ xs) ys w1 w2 v2) : WStep B g v ps (xs ++ ys) w w2 v2 where
  box := k.box
  row := by rw [← List.append_assoc]; exact k.row
  new := fun x hx => by
    rcases List.mem_append.1 hx with hx | hx
    · exact k.keep h.box h.row (h.new x hx)
    · exact (k.new x hx).low h.mod.size
  apart := List.pairwise_append.2 ⟨h.apart, k.apart, fun x hx y hy i hi hj => by
    have h1 := ((h.new x hx).lt i hi).2
    have h2 := ((k.new y hy).lt i hj).1
    omega⟩
  mod := h.mod.trans k.mod (fun i hi h => h) (fun i hi hh => by
    rcases hh with rfl | hh
    · exact .inl rfl
    · rcases h.at_ with h2 | ⟨j, h2, h3⟩
      · exact .inr (by rw [← h2]; exact hh)
      · rw [h2] at hh
        injection hh with hh
        omega)
  at_ := by
    rcases k.at_ with h2 | ⟨j, h2, h3⟩
    · rcases h.at_ with h4 | ⟨j, h4, h5⟩
      · exact .inl (h2.trans h4)
      · exact .inr ⟨j, h2.trans h4, h5⟩
    · exact .inr ⟨j, h2, Nat.le_trans h.mod.size h3⟩
/-- Behind new blocks alone. -/
theorem WStep.after {B g : Nat} {v v2 : Value} {ps ys : List Pl} {w w1 w2 : World} (h : Below w.heap.size w w1) (k : WStep B g v ps ys w1 w2 v2) : WStep B g v ps ys w w2 v2 where
  box := k.box
  row := k.row
  new := fun x hx => (k.new x hx).low h.size
  apart := k.apart
  mod := (Mod.of_below h).trans k.mod (fun i hi h => absurd hi (by omega)) (fun i hi h => h)
  at_ := k.at_.imp id (fun ⟨j, h2, h3⟩ => ⟨j, h2, Nat.le_trans h.size h3⟩)
def keyP (x : Pl) : List UInt8 × Int := (x.l, x.t)
structure WPut (B g : Nat) (v : Value) (ps : List Pl) (K : List (List UInt8 × Int)) (w w' : World) : Prop where
  out : ∃ v' xs, WStep B g v ps xs w w' v' ∧ xs.map keyP = K
set_option maxHeartbeats 8000000 in
set_option maxRecDepth 20000 in
theorem add_calls (B g : Nat) (v : Value) (ps : List Pl) (A : Option Addr) (l : List UInt8) (n c b : Nat) (t : Int) (w : World) (q : Box w g v 26) (hr : RowW 68 w B v ps) (hs : Bs w b A l) (hl : l.length = n) (hm : n ≤ 1000000) (hps : ps.length ≤ 100000) (hB : B ≤ w.heap.size) :
    Calls Try.prog 34 #[.pointer (some ⟨g, 0, none⟩), .slice A n c, .int .i64 t] w fun e w' => e = .returned (.tuple #[]) ∧ WPut B g v ps [(l, t)] w w' := by
  have hC := fun W hb => Clone_calls A l n c b W hb hl (by omega)
  have hap : v.ownBlock ≠ some g := row_apart hr q (by decide)
  have hlt := fun k hk => World.ownsRow.lt hr k hk
  obtain ⟨A0, c0, b0, hv0, -⟩ := own_sl hr
  obtain ⟨N0, hN0⟩ : ∃ N0, N0 = ps.length := ⟨_, rfl⟩
  rw [← hN0] at hv0
  subst hv0
  have HPS := Lib.hid hps
  obtain ⟨wB, hwB⟩ : ∃ wB, wB = w.heap.size := ⟨_, rfl⟩
  have hg := q.lt
  rw [← hwB] at hg
  clear hl hm hps hN0
  go_enter Try.func34, Try.ntmps34
  refine wp_region_E (fun j => j == 13) (fun w9 => Box w9 g (.slice A0 N0 c0) 26) (by kernel_rfl) ?_ (fun hHeld => ?_)
  · exact (by first | exact q | exact q.drew)
  obtain ⟨wd1', hwd⟩ : ∃ wd1', wd1' = World.drew w := ⟨_, rfl⟩
  have h9 : Below w.heap.size w wd1' := by rw [hwd]; exact below_drew (Below.refl _ _)
  rw [← hwd] at hHeld ⊢
  clear hwd
  have hbg := h9
  replace q := q.ext h9
  replace hr := own_ext hr h9
  replace hs := Sl.ext hs h9
  clear h9
  refine wpAnyE_take (i := 0) (by simp only [List.getElem?_toArray]; rfl) (by kernel_rfl) (by kernel_rfl) (by kernel_rfl) (by kernel_rfl) (by kernel_rfl) (by exact fun _ _ _ h => h) (by exact yk (.pointer (some ⟨g, 0, none⟩)) (by kernel_rfl) (fun _ => by kernel_rfl)) hHeld ?_
  refine wpAnyE_take (i := 1) (by simp only [List.getElem?_toArray]; rfl) (by kernel_rfl) (by kernel_rfl) (by kernel_rfl) (by kernel_rfl) (by kernel_rfl) (by exact fun _ _ _ h => h) (by exact yk (.pointer (some ⟨g, 0, none⟩)) (by kernel_rfl) (fun _ => by kernel_rfl)) hHeld ?_
  refine wpAnyE_take (i := 2) (by simp only [List.getElem?_toArray]; rfl) (by kernel_rfl) (by kernel_rfl) (by kernel_rfl) (by kernel_rfl) (by kernel_rfl) (by exact fun _ _ _ h => h) (by exact yk (.pointer (some ⟨g, 0, none⟩)) (by kernel_rfl) (fun _ => by kernel_rfl)) hHeld ?_
  refine wpAnyE_take (i := 3) (by simp only [List.getElem?_toArray]; rfl) (by kernel_rfl) (by kernel_rfl) (by kernel_rfl) (by kernel_rfl) (by kernel_rfl) (by exact fun _ _ _ h => h) (by exact yk (.pointer (some ⟨g, 0, none⟩)) (by kernel_rfl) (fun _ => by kernel_rfl)) hHeld ?_
  refine wpAnyE_take (i := 4) (by simp only [List.getElem?_toArray]; rfl) (by kernel_rfl) (by kernel_rfl) (by kernel_rfl) (by kernel_rfl) (by kernel_rfl) (by exact fun _ _ _ h => h) (by exact yk_ldW (by kernel_rfl) (.tmp 9) rfl ⟨g, 0, none⟩ (.slice A0 N0 c0) (by kernel_rfl) (fun w hh => hh.cell)) hHeld ?_
  refine wpAnyE_take (i := 5) (by simp only [List.getElem?_toArray]; rfl) (by kernel_rfl) (by kernel_rfl) (by kernel_rfl) (by kernel_rfl) (by kernel_rfl) (by exact fun _ _ _ h => h) (by exact yk (.slice A n c) (by kernel_rfl) (fun _ => by kernel_rfl)) hHeld ?_
  refine wpAnyE_take (i := 7) (by simp only [List.getElem?_toArray]; rfl) (by kernel_rfl) (by kernel_rfl) (by kernel_rfl) (by kernel_rfl) (by kernel_rfl) (by exact fun _ _ _ h => h) (by exact yk (.int .i64 t) (by kernel_rfl) (fun _ => by kernel_rfl)) hHeld ?_
  refine wpAnyE_ready (rs := [6]) (by kernel_rfl) (by simp) ?_
  refine EachE.cons (by rfl) (by simp only [List.getElem?_toArray]; rfl) (fun KK hKK => ?_) EachE.nil
  rw [if_pos (by kernel_rfl)]
  refine wp_callF 29 #[.slice A n c] (by kernel_rfl) ?_
  refine (hC _ hs).mono ?_
  rintro e w2' ⟨v5, rfl, hrow, h9⟩
  obtain ⟨A5, c5, b5, rfl⟩ := Row.pl hrow t
  refine ⟨_, rfl, ?_⟩
  replace hrow := hrow.low hbg.size
  replace q := q.ext h9
  replace hr := own_ext hr h9
  replace hbg := hbg.trans (h9.mono hbg.size)
  replace hs := Sl.ext hs h9
  clear h9
  refine hKK.out _ _ ?_ (fun hHeld => ?_)
  · exact (by first | exact q | exact q.drew)
  clear hKK KK
  refine wpAnyE_take (i := 8) (by simp only [List.getElem?_toArray]; rfl) (by kernel_rfl) (by kernel_rfl) (by kernel_rfl) (by kernel_rfl) (by kernel_rfl) (by exact fun _ _ _ h => h) (by exact yk (.agg (Pl.mk l t A5 c5 b5).cells.toArray) (by kernel_rfl) (fun _ => by kernel_rfl)) hHeld ?_
  refine wpAnyE_ready (rs := [9]) (by kernel_rfl) (by simp) ?_
  refine EachE.cons (by rfl) (by simp only [List.getElem?_toArray]; rfl) (fun KK hKK => ?_) EachE.nil
  rw [if_pos (by kernel_rfl)]
  refine wp_bsW (.tmp 14) rfl ⟨l, t, A5, c5, b5⟩ (by kernel_rfl) ?_
  have hsn := Sl.cells_new w2' (Pl.mk l t A5 c5 b5).cells.toArray 68
  have h9 := below_alloc1 w2' (.cells (Pl.mk l t A5 c5 b5).cells.toArray 68)
  obtain ⟨b6, hb6⟩ : ∃ b6, b6 = w2'.heap.size := ⟨_, rfl⟩
  have hb6B : w.heap.size ≤ b6 := by rw [hb6]; exact hbg.size
  obtain ⟨w3', e⟩ : ∃ w3', w3' = World.alloc w2' (.cells (Pl.mk l t A5 c5 b5).cells.toArray 68) := ⟨_, rfl⟩
  rw [← e] at hsn h9 ⊢
  rw [← hb6] at hsn ⊢
  replace q := q.ext h9
  replace hr := own_ext hr h9
  replace hbg := hbg.trans (h9.mono hbg.size)
  replace hrow := Row.ext hrow h9
  clear h9
  clear e hb6
  refine hKK.out _ _ ?_ (fun hHeld => ?_)
  · exact (by first | exact q | exact q.drew)
  clear hKK KK
  refine wpAnyE_ready (rs := [10]) (by kernel_rfl) (by simp) ?_
  refine EachE.cons (by rfl) (by simp only [List.getElem?_toArray]; rfl) (fun KK hKK => ?_) EachE.nil
  rw [if_pos (by kernel_rfl)]
  have hmod : Mod (fun i => (Value.slice A0 N0 c0).ownBlock = some i) w w3' := (Mod.of_below hbg).mono (fun i hi h => absurd hi (by omega))
  refine wp_appW (.tmp 10) (.tmp 15) rfl B _ ps (by kernel_rfl) hr b6 _ 1 1 [⟨l, t, A5, c5, b5⟩] (by kernel_rfl) hsn rfl (by have := HPS.out; omega) (Nat.le_trans hB hbg.size) ?_
  intro v7 w4' hr7 hm7 hat7
  obtain ⟨A7, c7, b7, hv7, -⟩ := own_sl hr7
  obtain ⟨N7, hN7⟩ : ∃ N7, N7 = (ps ++ [(⟨l, t, A5, c5, b5⟩ : Pl)]).length := ⟨_, rfl⟩
  rw [← hN7] at hv7
  subst hv7
  replace hat7 : (Value.slice A7 N7 c7).ownBlock = (Value.slice A0 N0 c0).ownBlock ∨ ∃ k, (Value.slice A7 N7 c7).ownBlock = some k ∧ w.heap.size ≤ k := hat7.imp id (fun h => ⟨_, h, hbg.size⟩)
  replace hrow := Row.mod hrow hm7 (fun k hk h => own_apart hr hrow (by decide) h hk)
  replace q := q.mod hm7 hap
  replace hmod := hmod.trans hm7 (fun i hi h => h) (fun i hi h => h)
  clear hm7 hr hsn hN7
  refine hKK.out _ _ ?_ (fun hHeld => ?_)
  · exact (by first | exact q | exact q.drew)
  clear hKK KK
  refine wpAnyE_take (i := 11) (by simp only [List.getElem?_toArray]; rfl) (by kernel_rfl) (by kernel_rfl) (by kernel_rfl) (by kernel_rfl) (by kernel_rfl) (by exact fun _ _ _ h => h) (by exact yk (.pointer (some ⟨g, 0, none⟩)) (by kernel_rfl) (fun _ => by kernel_rfl)) hHeld ?_
  refine wpAnyE_take (i := 12) (by simp only [List.getElem?_toArray]; rfl) (by kernel_rfl) (by kernel_rfl) (by kernel_rfl) (by kernel_rfl) (by kernel_rfl) (by exact fun _ _ _ h => h) (by exact yk (.pointer (some ⟨g, 0, none⟩)) (by kernel_rfl) (fun _ => by kernel_rfl)) hHeld ?_
  try simp only [Act.put, List.setIfInBounds_toArray, List.set_cons_zero, List.set_cons_succ]
  refine wpAnyE_ready (rs := [13]) (by kernel_rfl) (by simp) ?_
  refine EachE.last (by rfl) (by simp only [List.getElem?_toArray]; rfl) (fun KK hKK => ?_)
  rw [if_pos (by kernel_rfl)]
  refine wp_stW (.tmp 18) (.tmp 16) rfl ⟨g, 0, none⟩ A7 N7 c7 (by kernel_rfl) (by kernel_rfl) _ q.cell q.frozen ?_
  have hm := Mod.setCell w4' ⟨g, 0, none⟩ (.slice A7 N7 c7)
  have hap7 : (Value.slice A7 N7 c7).ownBlock ≠ some g := row_apart hr7 q (by decide)
  have hapr : ∀ k, (Pl.mk l t A5 c5 b5).sv.ownBlock = some k → k ≠ g := fun k hk h => row_apart hrow q (by decide) (by rw [← h]; exact hk)
  replace q := q.set_ (.slice A7 N7 c7)
  replace hr7 := own_mod hr7 hm (fun k hk h => hap7 (by rw [hk]; exact congrArg some h))
  replace hrow := Row.mod hrow hm (fun k hk h => hapr k hk h)
  replace hmod := hmod.trans hm (S := fun i => i = g ∨ (Value.slice A0 N0 c0).ownBlock = some i) (fun i hi h => .inr h) (fun i hi h => .inl h)
  refine hKK.out _ _ ?_
  clear hKK KK
  refine wpAnyE_done (by kernel_rfl) ?_ _
  go_wp2_with fail
  go_end0
  exact ⟨rfl, ⟨_, [⟨l, t, A5, c5, b5⟩], ⟨q, hr7, by simpa using hrow, by simp, hmod, hat7⟩, rfl⟩⟩
/-- A fault, plainly. -/
structure Ft where
  how : Nat
  pos : Nat
  mask : Nat
abbrev Ft.ok (f : Ft) : Prop := f.how ≤ 255 ∧ f.pos ≤ 65535 ∧ f.mask ≤ 4294967295
abbrev Ft.cells (f : Ft) : List Value := [.int .u8 (f.how : Int), .int .u16 (f.pos : Int), .int .u32 (f.mask : Int)]
/-- What becomes of a frame: which come, and behind how many Takes. -/
def putN (l : List UInt8) (f : Ft) : List (List UInt8 × Int) :=
  if f.how = 1 then [] else if f.how = 2 then [(l, 1), (l, 1)] else if f.how = 3 then [(l, 2)] else if f.how = 5 then [(l, 3)] else if f.how = 4 then [(spoilN l f.pos f.mask, 1)] else [(l, 1)]
set_option maxHeartbeats 8000000 in
set_option maxRecDepth 20000 in
theorem put_calls (B g : Nat) (v : Value) (ps : List Pl) (A : Option Addr) (l : List UInt8) (n c b : Nat) (f : Ft) (w : World) (q : Box w g v 26) (hr : RowW 68 w B v ps) (hs : Bs w b A l) (hne : l ≠ [] → b ≠ g ∧ v.ownBlock ≠ some b) (hl : l.length = n) (hm : n ≤ 1000000) (hps : ps.length ≤ 99990) (hB : B ≤ w.heap.size) (hf : f.ok) :
    Calls Try.prog 26 #[.pointer (some ⟨g, 0, none⟩), .slice A n c, .agg f.cells.toArray] w fun e w' => e = .returned (.tuple #[]) ∧ WPut B g v ps (putN l f) w w' := by
  obtain ⟨h, pos, mask⟩ := f
  obtain ⟨hf1, hf2, hf3⟩ := hf
  simp only at hf1 hf2 hf3
  have hA := fun t W h1 h2 h3 h4 => add_calls B g v ps A l n c b t W h1 h2 h3 hl hm (by omega) h4
  have hx := below_alloc1 w (.cells #[.int .u8 (h : Int), .int .u16 (pos : Int), .int .u32 (mask : Int)] 50)
  have hg := heap_alloc_new w (.cells #[.int .u8 (h : Int), .int .u16 (pos : Int), .int .u32 (mask : Int)] 50)
  have hgw := q.lt
  replace q := q.ext hx
  replace hr := own_ext hr hx
  have hs1 := Sl.ext hs hx
  have hB1 := Nat.le_trans hB hx.size
  obtain ⟨w1, hw1⟩ : ∃ w1, w1 = w.alloc (.cells #[.int .u8 (h : Int), .int .u16 (pos : Int), .int .u32 (mask : Int)] 50) := ⟨_, rfl⟩
  rw [← hw1] at hx hg q hr hs1 hB1
  obtain ⟨G, hG⟩ : ∃ G, G = w.heap.size := ⟨_, rfl⟩
  rw [← hG] at hg
  have c0 : w1.cell? ⟨G, 0, none⟩ = some (.int .u8 (h : Int)) := by rw [cell_of_row w1 _ _ _ _ _ hg]; rfl
  have c1 : w1.cell? ⟨G, 1, none⟩ = some (.int .u16 (pos : Int)) := by rw [cell_of_row w1 _ _ _ _ _ hg]; rfl
  have c2 : w1.cell? ⟨G, 2, none⟩ = some (.int .u32 (mask : Int)) := by rw [cell_of_row w1 _ _ _ _ _ hg]; rfl
  have HX := Lib.hid hx
  have HPS := Lib.hid hps
  have HL := Lib.hid hl
  have HM := Lib.hid hm
  clear hx hs hps hl hm
  by_cases h1 : h = 1
  · subst h1
    go_enter Try.func26, Try.ntmps26
    go_wp2_with fail
    rw [← hw1, ← hG]
    clear hw1 hG
    go_wp2_with fail
    go_end0
    exact ⟨rfl, ⟨v, [], (WStep.refl q hr).after HX.out, by simp [putN]⟩⟩
  by_cases h2 : h = 2
  · subst h2
    go_enter Try.func26, Try.ntmps26
    go_wp2_with fail
    rw [← hw1, ← hG]
    clear hw1 hG
    go_wp2_with fail
    refine (hA 1 w1 q hr hs1 hB1).mono ?_
    rintro e w2 ⟨rfl, ⟨v2, xs, hst, hk⟩⟩
    have hs2 : Bs w2 b A l := Bs.modne hs1 hst.mod (fun hl hh => by
      rcases hh with hh | hh
      · exact (hne hl).1 hh
      · exact (hne hl).2 hh)
    have hxl : xs.length = 1 := by have := congrArg List.length hk; simpa using this
    have HK := Lib.hid hk
    have HST := Lib.hid hst
    have hA2 := add_calls B g v2 (ps ++ xs) A l n c b 1 w2 hst.box hst.row hs2 HL.out HM.out (by have := HPS.out; simp [hxl]; omega) (Nat.le_trans hB1 hst.mod.size)
    clear hk hst hxl
    go_wp2_with fail
    refine hA2.mono ?_
    rintro e w3 ⟨rfl, ⟨v3, ys, hst3, hk3⟩⟩
    go_wp2_with fail
    go_end0
    exact ⟨rfl, ⟨v3, xs ++ ys, (HST.out.trans hst3).after HX.out, by rw [List.map_append, HK.out, hk3]; simp [putN]⟩⟩
  by_cases h3 : h = 3
  · subst h3
    go_enter Try.func26, Try.ntmps26
    go_wp2_with fail
    rw [← hw1, ← hG]
    clear hw1 hG
    go_wp2_with fail
    refine (hA 2 w1 q hr hs1 hB1).mono ?_
    rintro e w2 ⟨rfl, ⟨v2, xs, hst, hk⟩⟩
    go_wp2_with fail
    go_end0
    exact ⟨rfl, ⟨v2, xs, hst.after HX.out, by rw [hk]; simp [putN]⟩⟩
  by_cases h5 : h = 5
  · subst h5
    go_enter Try.func26, Try.ntmps26
    go_wp2_with fail
    rw [← hw1, ← hG]
    clear hw1 hG
    go_wp2_with fail
    refine (hA 3 w1 q hr hs1 hB1).mono ?_
    rintro e w2 ⟨rfl, ⟨v2, xs, hst, hk⟩⟩
    go_wp2_with fail
    go_end0
    exact ⟨rfl, ⟨v2, xs, hst.after HX.out, by rw [hk]; simp [putN]⟩⟩
  by_cases h4 : h = 4
  · subst h4
    have hSp := Spoil_calls A l n c b 4 pos mask w1 hs1 HL.out HM.out hf2 hf3
    rw [show ((4 : Nat) : Int) = 4 from rfl] at hSp
    go_enter Try.func26, Try.ntmps26
    go_wp2_with fail
    rw [← hw1, ← hG]
    clear hw1 hG
    go_wp2_with fail
    refine hSp.mono ?_
    rintro e w2 ⟨v2, rfl, hrow2, hb2⟩
    obtain ⟨A2, c2', b2, rfl, -, -, -, -, hs2, -⟩ := hrow2.sl
    obtain ⟨sp, hsp⟩ : ∃ sp, sp = spoilN l pos mask := ⟨_, rfl⟩
    have hspl : sp.length = n := by rw [hsp, spoilN_length]; exact HL.out
    rw [← hsp] at hs2 ⊢
    rw [hspl]
    have HSP := Lib.hid hsp
    have hA2 := add_calls B g v ps A2 sp n c2' b2 1 w2 (q.ext hb2) (own_ext hr hb2) hs2 hspl HM.out (by have := HPS.out; omega) (Nat.le_trans hB1 hb2.size)
    have HX2 := Lib.hid (HX.out.trans (hb2.mono HX.out.size))
    clear hb2 hrow2 hs2 q hr hs1 hsp hspl
    go_wp2_with fail
    refine hA2.mono ?_
    rintro e w3 ⟨rfl, ⟨v3, ys, hst3, hk3⟩⟩
    go_wp2_with fail
    go_end0
    exact ⟨rfl, ⟨v3, ys, hst3.after HX2.out, by rw [hk3, HSP.out]; simp [putN]⟩⟩
  · have e1 : ((h : Int) == 1) = false := by simp; omega
    have e2 : ((h : Int) == 2) = false := by simp; omega
    have e3 : ((h : Int) == 3) = false := by simp; omega
    have e5 : ((h : Int) == 5) = false := by simp; omega
    have e4 : ((h : Int) == 4) = false := by simp; omega
    go_enter Try.func26, Try.ntmps26
    go_wp2_with fail
    rw [← hw1, ← hG]
    clear hw1 hG
    go_wp2_with fail
    refine (hA 1 w1 q hr hs1 hB1).mono ?_
    rintro e w2 ⟨rfl, ⟨v2, xs, hst, hk⟩⟩
    go_wp2_with fail
    go_end0
    exact ⟨rfl, ⟨v2, xs, hst.after HX.out, by rw [hk, putN, if_neg h1, if_neg h2, if_neg h3, if_neg h5, if_neg h4]⟩⟩
end Go.Proofs.Ytbcfelihncnofaa
