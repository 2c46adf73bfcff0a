/- The reference's Note: the plain word. Conditions: the numbers fit. -/
import Derived.Test.YtdkfmgadipfipaaDoorRefOf
namespace Go.Proofs.YtdkfmgadipfipaaDoor
open Go.RowKit

theorem wpList_load_ra {ops : Array Oper} {rest : List Oper} {o : Oper} {a : Act} {w : World} {Q : Exit → Act → World → Prop} (hw : Region.wanted o (yielded ops a.tmps) = true) (s : Operand) (ho : o.op = .load 37 s)
    (g : Nat) (hx : a.eval s = .pointer (some ⟨g, 0, none⟩)) (x : Nat) (f : Nat → Bool) (q : BoxR w g x f) (h : wpList Tryd.prog ops Q rest (a.put o.dst (.agg (raF x f))) w) : wpList Tryd.prog ops Q (o :: rest) a w :=
  BigFrame.wpList_want hw fun _ hK => wp_load_row 37 s ho g hx _ _ _ _ q Tryd.underlying37 rfl (ra_size _ _) (hK _ _ h)
set_option maxHeartbeats 4000000 in
set_option maxRecDepth 20000 in
theorem RefNote_none (x y s : Nat) (w : World) (hx : x < 65536) (hs : s < 65536) (h : noteN x y s = none) :
    Calls Tryd.prog 17 #[.agg (raF x y.testBit), .int .u16 s] w fun e w' => e = .returned (.tuple #[.agg (raF x y.testBit), .bool false]) ∧ Below w.heap.size w w' := by
  have q0 := (BoxR.new_ w x y.testBit).alloc (.cells (raF 0 (fun _ => false)) 37)
  have q1 := BoxR.new_ (w.alloc (.cells (raF x y.testBit) 37)) 0 (fun _ => false)
  rw [show (w.alloc (.cells (raF x y.testBit) 37)).heap.size = w.heap.size + 1 by simp] at q1
  have hb := below_alloc2 w (.cells (raF x y.testBit) 37) (.cells (raF 0 (fun _ => false)) 37)
  rw [raF_lit0] at q0 q1 hb
  have hT := fun W => RefTo_calls x s W hx hs
  have hH := fun W => RefHas_calls x y s W hx hs
  have hcase : hasN x y s = true ∨ 32 < toI x s := by
    unfold noteN at h
    split at h
    · assumption
    · split at h <;> cases h
  obtain ⟨lo, hi⟩ := toI_bounds x s
  have hneg : toI x s < 0 → hasN x y s = true := has_neg
  obtain ⟨d, hd⟩ : ∃ d, d = toI x s := ⟨_, rfl⟩
  rw [← hd] at hT lo hi hcase hneg
  have c0 := q0.c0
  clear hd hx hs h
  by_cases h1 : d < 0
  · clear hcase hneg hH lo hi
    go_enter Tryd.func17, Tryd.ntmps17
    go_wp2_with fail
    refine (hT _).mono ?_
    rintro e w1 ⟨rfl, rfl⟩
    go_wp2_with (refine wpList_load_row rfl 37 (.tmp 2) rfl w.heap.size rfl _ _ _ _ q0 Tryd.underlying37 rfl (ra_size _ _) ?_)
    rw [q1.store]
    simp only [Result.andThen_ok]
    have r2 := q1.row_ x y.testBit
    have hb2 := below_setRow hb (w.heap.size + 1) (raF x y.testBit) (by omega)
    go_wp2_with fail
    refine bodyPost_ret (results_ct (P := Tryd.prog) rfl _ _ (w.heap.size + 1) _ _ (0, 0) _ rfl r2 Tryd.underlying37 rfl (ra_size _ _)) rfl ?_
    exact ⟨rfl, hb2⟩
  · by_cases h2 : 32 < d
    · clear hcase hneg hH lo hi
      have h3 : 0 ≤ d := by omega
      go_enter Tryd.func17, Tryd.ntmps17
      go_wp2_with fail
      refine (hT _).mono ?_
      rintro e w1 ⟨rfl, rfl⟩
      go_wp2_with (refine wpList_load_row rfl 37 (.tmp 2) rfl w.heap.size rfl _ _ _ _ q0 Tryd.underlying37 rfl (ra_size _ _) ?_)
      rw [q1.store]
      simp only [Result.andThen_ok]
      have r2 := q1.row_ x y.testBit
      have hb2 := below_setRow hb (w.heap.size + 1) (raF x y.testBit) (by omega)
      go_wp2_with fail
      refine bodyPost_ret (results_ct (P := Tryd.prog) rfl _ _ (w.heap.size + 1) _ _ (0, 0) _ rfl r2 Tryd.underlying37 rfl (ra_size _ _)) rfl ?_
      exact ⟨rfl, hb2⟩
    · have hh : hasN x y s = true := hcase.resolve_right h2
      rw [hh] at hH
      have e1 : decide (d < 0) = false := by simpa using h1
      have e2 : decide (32 < d) = false := by simpa using h2
      clear hcase hneg hh lo hi h1 h2
      go_enter Tryd.func17, Tryd.ntmps17
      go_wp2_with fail
      refine (hT _).mono ?_
      rintro e w1 ⟨rfl, rfl⟩
      go_wp2_with (refine wpList_load_ra ?hw (.tmp 2) rfl w.heap.size rfl _ _ q0 ?_; (case hw => (simp [Region.wanted, yielded])))
      refine (hH _).mono ?_
      rintro e w2 ⟨rfl, hb2⟩
      have q0 := q0.ext hb2
      have q1 := q1.ext hb2
      have hb := hb.trans (hb2.mono hb.size)
      clear hb2 hH hT
      go_wp2_with (refine wpList_load_ra rfl (.tmp 2) rfl w.heap.size rfl _ _ q0 ?_)
      rw [q1.store]
      simp only [Result.andThen_ok]
      have r2 := q1.row_ x y.testBit
      have hb2 := below_setRow hb (w.heap.size + 1) (raF x y.testBit) (by omega)
      go_wp2_with fail
      refine bodyPost_ret (results_ct (P := Tryd.prog) rfl _ _ (w.heap.size + 1) _ _ (0, 0) _ rfl r2 Tryd.underlying37 rfl (ra_size _ _)) rfl ?_
      exact ⟨rfl, hb2⟩
/-- It stands behind Next: one flag is set. -/
theorem flag_or {y k : Nat} (i : Nat) : (y ||| 2 ^ k).testBit i = if i = k then true else y.testBit i := by
  rw [Nat.testBit_or, Nat.testBit_two_pow]
  by_cases h : i = k
  · subst h; simp
  · rw [if_neg h]; simp; intro h2; exact absurd h2.symm h
set_option maxHeartbeats 4000000 in
set_option maxRecDepth 20000 in
theorem RefNote_bit (x y s x' y' : Nat) (w : World) (hx : x < 65536) (hs : s < 65536) (h : noteN x y s = some (x', y')) (h0 : toI x s ≠ 0) :
    Calls Tryd.prog 17 #[.agg (raF x y.testBit), .int .u16 s] w fun e w' => e = .returned (.tuple #[.agg (raF x' y'.testBit), .bool true]) ∧ Below w.heap.size w w' := by
  have q0 := (BoxR.new_ w x y.testBit).alloc (.cells (raF 0 (fun _ => false)) 37)
  have q1 := BoxR.new_ (w.alloc (.cells (raF x y.testBit) 37)) 0 (fun _ => false)
  rw [show (w.alloc (.cells (raF x y.testBit) 37)).heap.size = w.heap.size + 1 by simp] at q1
  have hb := below_alloc2 w (.cells (raF x y.testBit) 37) (.cells (raF 0 (fun _ => false)) 37)
  rw [raF_lit0] at q0 q1 hb
  have hT := fun W => RefTo_calls x s W hx hs
  have hH := fun W => RefHas_calls x y s W hx hs
  have hcase : hasN x y s = false ∧ toI x s ≤ 32 ∧ x' = x ∧ y' = y ||| 2 ^ (toI x s - 1).toNat := by
    unfold noteN at h
    split at h
    · cases h
    · rename_i hn
      injection h with h
      injection h with h1 h2
      exact ⟨by simpa using fun h => hn (.inl h), by have := fun h => hn (.inr h); omega, h1.symm, h2.symm⟩
  obtain ⟨hh, hle, rfl, rfl⟩ := hcase
  have hpos : 0 ≤ toI x' s := by
    rcases Int.lt_or_le (toI x' s) 0 with hl | hl
    · rw [has_neg hl] at hh; cases hh
    · exact hl
  rw [hh] at hH
  obtain ⟨k, hk⟩ : ∃ k : Nat, toI x' s = (k : Int) + 1 := ⟨(toI x' s - 1).toNat, by omega⟩
  rw [hk] at hT hle ⊢
  rw [show ((k : Int) + 1 - 1).toNat = k by omega]
  have hk32 : k < 32 := by omega
  have c0 := q0.c0
  have e4 : (k : Int) < 32 := by omega
  have e1 : decide ((k : Int) + 1 < 0) = false := by simp; omega
  have e2 : decide (32 < (k : Int) + 1) = false := by simp; omega
  clear hk hx hs h h0 hle hh hpos
  go_enter Tryd.func17, Tryd.ntmps17
  go_wp2_with fail
  refine (hT _).mono ?_
  rintro e w1 ⟨rfl, rfl⟩
  go_wp2_with (refine wpList_load_ra ?hw (.tmp 2) rfl w.heap.size rfl _ _ q0 ?_; (case hw => (simp [Region.wanted, yielded])))
  refine (hH _).mono ?_
  rintro e w2 ⟨rfl, hb2⟩
  have q0 := q0.ext hb2
  have q1 := q1.ext hb2
  have hb := hb.trans (hb2.mono hb.size)
  have hc := q0.ck hk32
  have hf := q0.fr (1 + k)
  have p0 := (q0.setk hk32 true).congr (f' := (y ||| 2 ^ k).testBit) (fun i _ => (flag_or i).symm)
  have p1 := q1.other (p := ⟨w.heap.size, 1 + k, none⟩) (by simp) (.bool true)
  have pb := hb.setCell (p := ⟨w.heap.size, 1 + k, none⟩) (Nat.le_refl _) (.bool true)
  clear hb2 hH hT c0
  go_wp2_with (refine wpList_load_ra rfl (.tmp 2) rfl w.heap.size rfl _ _ p0 ?_)
  rw [p1.store]
  simp only [Result.andThen_ok]
  have r2 := p1.row_ x' (y ||| 2 ^ k).testBit
  have hb2 := below_setRow pb (w.heap.size + 1) (raF x' (y ||| 2 ^ k).testBit) (by omega)
  go_wp2_with fail
  refine bodyPost_ret (results_ct (P := Tryd.prog) rfl _ _ (w.heap.size + 1) _ _ (0, 0) _ rfl r2 Tryd.underlying37 rfl (ra_size _ _)) rfl ?_
  exact ⟨rfl, hb2⟩
/-- The flags behind r rounds. -/
theorem shift_get {y : Nat} (hy : y < 4294967296) (r i : Nat) (hi : 32 ≤ r + i) : y.testBit (r + i) = false :=
  Nat.testBit_lt_two_pow (Nat.lt_of_lt_of_le hy (by rw [show (4294967296 : Nat) = 2 ^ 32 from rfl]; exact Nat.pow_le_pow_right (by omega) hi))
set_option maxHeartbeats 4000000 in
set_option maxRecDepth 20000 in
theorem RefNote_next (x y x' y' : Nat) (w : World) (hx : x < 65536) (hy : y < 4294967296) (h : noteN x y x = some (x', y')) :
    Calls Tryd.prog 17 #[.agg (raF x y.testBit), .int .u16 x] w fun e w' => e = .returned (.tuple #[.agg (raF x' y'.testBit), .bool true]) ∧ Below w.heap.size w w' := by
  have q0 := (BoxR.new_ w x y.testBit).alloc (.cells (raF 0 (fun _ => false)) 37)
  have q1 := BoxR.new_ (w.alloc (.cells (raF x y.testBit) 37)) 0 (fun _ => false)
  rw [show (w.alloc (.cells (raF x y.testBit) 37)).heap.size = w.heap.size + 1 by simp] at q1
  have hb := below_alloc2 w (.cells (raF x y.testBit) 37) (.cells (raF 0 (fun _ => false)) 37)
  rw [raF_lit0] at q0 q1 hb
  have hT := fun W => RefTo_calls x x W hx hx
  have hH := fun W => RefHas_calls x y x W hx hx
  have e0 := toI_self x hx
  rw [hasN_next x y hx] at hH
  rw [e0] at hT
  have hxy : x' = (x + 1 + come y) % 65536 ∧ y' = y / 2 ^ (1 + come y) := by
    unfold noteN at h
    rw [if_neg (by rw [hasN_next x y hx, e0]; rintro (h | h); cases h; omega), if_pos e0] at h
    injection h with h
    injection h with h1 h2
    exact ⟨h1.symm, h2.symm⟩
  obtain ⟨rfl, rfl⟩ := hxy
  obtain ⟨cm1, cm2, cm3⟩ := come_spec hy
  obtain ⟨C, hC⟩ : ∃ C, C = come y := ⟨_, rfl⟩
  rw [← hC] at cm1 cm2 cm3 ⊢
  have HC2 := Lib.hid cm2
  have HC3 := Lib.hid cm3
  have c0 := q0.c0
  have hxx := hx
  clear h e0 hx hC cm2 cm3
  go_enter Tryd.func17, Tryd.ntmps17
  go_wp2_with fail
  refine (hT _).mono ?_
  rintro e w1 ⟨rfl, rfl⟩
  go_wp2_with (refine wpList_load_ra ?hw (.tmp 2) rfl w.heap.size rfl _ _ q0 ?_; (case hw => (simp [Region.wanted, yielded])))
  refine (hH _).mono ?_
  rintro e w2 ⟨rfl, hb2⟩
  have q0 := q0.ext hb2
  have q1 := q1.ext hb2
  have hb := hb.trans (hb2.mono hb.size)
  clear hb2 hH hT c0
  go_wp2_with fail
  go_loopw [7] (fun _ wr => ∃ r : Nat, r ≤ C ∧ BoxR wr w.heap.size ((x + r) % 65536) (fun i => y.testBit (r + i)) ∧ BoxR wr (w.heap.size + 1) 0 (fun _ => false) ∧ Below w.heap.size w wr)
    (fun _ wr => C - ((intOf ((wr.cell? ⟨w.heap.size, 0, none⟩).getD undef) + 65536 - x) % 65536).toNat)
  case atStart => exact ⟨0, Nat.zero_le _, by rw [Nat.add_zero, Nat.mod_eq_of_lt hxx]; exact q0.congr (fun i _ => by rw [Nat.zero_add]), q1, hb⟩
  case round =>
    obtain ⟨r, hr, r0, r1, hb⟩ := hrel
    clear q0 q1
    have hm0 := r0.c0
    have hc0 : wr.cell? ⟨w.heap.size, 1, none⟩ = some (.bool (y.testBit r)) := r0.ck (k := 0) (by omega)
    go_wp2_with fail
    go_loopw [8] (fun k wx => ∃ j : Nat, j ≤ 31 ∧ k = .int .i64 j ∧ BoxR wx w.heap.size ((x + r) % 65536) (fun i => if i < j then y.testBit (r + 1 + i) else y.testBit (r + i)) ∧ BoxR wx (w.heap.size + 1) 0 (fun _ => false) ∧ Below w.heap.size w wx)
      (fun k _ => 31 - (intOf k).toNat)
    case atStart => exact ⟨0, Nat.zero_le _, rfl, r0.congr (fun i _ => by simp), r1, hb⟩
    case round =>
      obtain ⟨j, hj, rfl, s0, s1, hb⟩ := hrel
      clear hc0 r0 r1
      by_cases hlt : j < 31
      · have hc := s0.ck (k := j + 1) (by omega)
        rw [if_neg (by omega)] at hc
        have hcj := s0.ck (k := j) (by omega)
        have hf := s0.fr (1 + j)
        have e1 : (j : Int) < 31 := by omega
        go_wp2_with fail
        go_roundw
        case rel =>
          refine ⟨j + 1, by omega, by go_num, ?_, s1.other (by simp) _, hb.setCell (Nat.le_refl w.heap.size) _⟩
          refine (s0.setk (by omega) _).congr fun i hi => ?_
          by_cases e : i = j
          · subst e; rw [if_pos rfl, if_pos (by omega), show r + (i + 1) = r + 1 + i by omega]
          · rw [if_neg e]
            by_cases e2 : i < j
            · rw [if_pos e2, if_pos (by omega)]
            · rw [if_neg e2, if_neg (by omega)]
        case measure => simp [intOf]; omega
      · obtain rfl : j = 31 := by omega
        have hc : wr.cell? ⟨w.heap.size, 32, none⟩ = _ := s0.ck (k := 31) (by omega)
        have hf : wr.frozen? ⟨w.heap.size, 32, none⟩ = false := s0.fr 32
        have t0 : BoxR (wr.setCell ⟨w.heap.size, 32, none⟩ (.bool false)) w.heap.size ((x + r) % 65536) (fun i => y.testBit (r + 1 + i)) := (s0.setk (k := 31) (by omega) false).congr (fun i hi => by
          by_cases e : i = 31
          · subst e; rw [if_pos rfl, shift_get hy (r + 1) 31 (by omega)]
          · rw [if_neg e, if_pos (by omega)])
        have t1 : BoxR (wr.setCell ⟨w.heap.size, 32, none⟩ (.bool false)) (w.heap.size + 1) 0 (fun _ => false) := s1.other (by simp) _
        have tb : Below w.heap.size w (wr.setCell ⟨w.heap.size, 32, none⟩ (.bool false)) := hb.setCell (Nat.le_refl w.heap.size) _
        obtain ⟨N, hN⟩ : ∃ N, N = (x + r) % 65536 := ⟨_, rfl⟩
        obtain ⟨N', hN'⟩ : ∃ N', N' = (x + (r + 1)) % 65536 := ⟨_, rfl⟩
        have hNl : N < 65536 := by omega
        have hNt : ((N : Int) + 1).tmod 65536 = (N' : Int) := by rw [Int.tmod_eq_emod_of_nonneg (by omega)]; omega
        have hNl' : N' < 65536 := by omega
        rw [← hN] at t0
        have n0 := t0.c0
        have nf := t0.fr 0
        have u0 := t0.set0 N'
        have u1 := t1.other (p := ⟨w.heap.size, 0, none⟩) (by simp) (.int .u16 (N' : Int))
        have ub := tb.setCell (p := ⟨w.heap.size, 0, none⟩) (Nat.le_refl w.heap.size) (.int .u16 (N' : Int))
        have HN := Lib.hid hN'
        clear s0 s1 hb t0 t1 tb hN hN'
        cases hbit : y.testBit r with
        | true =>
          have hlt : r < C := by
            rcases Nat.lt_or_ge r C with h | h
            · exact h
            · have hrc : r = C := by omega
              rcases Nat.lt_or_ge C 32 with h2 | h2
              · rw [hrc, HC3.out h2] at hbit; cases hbit
              · have := shift_get hy 0 r (by omega)
                rw [Nat.zero_add, hbit] at this; cases this
          go_wp2_with fail
          go_roundw
          case rel => exact ⟨r + 1, hlt, by rw [← HN.out]; exact u0, u1, ub⟩
          case measure =>
            have h1 := u0.c0
            rw [h1, hm0]
            simp only [Option.getD_some, intOf]
            have := HN.out
            omega
        | false =>
          have hrc : r = C := by
            rcases Nat.lt_or_ge r C with h | h
            · rw [HC2.out r h] at hbit; cases hbit
            · omega
          subst hrc
          have u0 := u0.congr (f' := (y / 2 ^ (1 + r)).testBit) (fun i _ => by rw [testBit_half, Nat.add_comm 1 r])
          have hNe : N' = (x + 1 + r) % 65536 := by rw [HN.out]; congr 1; omega
          have HNe := Lib.hid hNe
          clear hNe
          go_wp2_with (refine wpList_load_ra rfl (.tmp 2) rfl w.heap.size rfl _ _ u0 ?_)
          rw [u1.store]
          simp only [Result.andThen_ok]
          have r2 := u1.row_ N' (y / 2 ^ (1 + r)).testBit
          have hb2 := below_setRow ub (w.heap.size + 1) (raF N' (y / 2 ^ (1 + r)).testBit) (by omega)
          go_wp2_with fail
          refine bodyPost_ret (results_ct (P := Tryd.prog) rfl _ _ (w.heap.size + 1) _ _ (0, 0) _ rfl r2 Tryd.underlying37 rfl (ra_size _ _)) rfl ?_
          exact ⟨by rw [← HNe.out]; rfl, hb2⟩
/-- What the reference's Note answers. -/
def refNoteV (x y : Nat) : Option (Nat × Nat) → Value
  | none => .tuple #[.agg (raF x y.testBit), .bool false]
  | some (a, b) => .tuple #[.agg (raF a b.testBit), .bool true]
theorem RefNote_calls (x y s : Nat) (w : World) (hx : x < 65536) (hy : y < 4294967296) (hs : s < 65536) :
    Calls Tryd.prog 17 #[.agg (raF x y.testBit), .int .u16 s] w fun e w' => e = .returned (refNoteV x y (noteN x y s)) ∧ Below w.heap.size w w' := by
  cases h : noteN x y s with
  | none => exact RefNote_none x y s w hx hs h
  | some p =>
    obtain ⟨x', y'⟩ := p
    by_cases h0 : toI x s = 0
    · have he : x = s := (toI_zero hx hs).1 h0
      subst he
      exact RefNote_next x y x' y' w hx hy h
    · exact RefNote_bit x y s x' y' w hx hs h h0
end Go.Proofs.YtdkfmgadipfipaaDoor
