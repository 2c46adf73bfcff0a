/- Parts of one proof, in their order. -/
import Derived.Test.YtioahddobogpjaaZDeltaForms01
import Derived.Test.YtioahddobogpjaaRows
import Derived.BigGuardPart
import Derived.Great.Walk
import Derived.Deep.RegionHeld3
import Derived.BigRegion
/- alone, Has, Less, Within, With, Of: the plain numbers. Conditions: the numbers fit 32 bits, the lists are short. -/
namespace Go.Proofs.Ytioahddobogpjaa
open Go.RowKit

set_option maxHeartbeats 1000000 in
set_option maxRecDepth 20000 in
theorem alone_calls (o : Int) (w : World) :
    Calls Try.prog 56 #[.int .i64 o] w fun e w' => e = .returned (.int .u32 (aloneN o : Nat)) ∧ w' = w := by
  have hB := Lib.hid (show aloneN o = if 0 ≤ o ∧ o < 32 then 2 ^ o.toNat else 0 from rfl)
  obtain ⟨t, ht⟩ : ∃ t, t = aloneN o := ⟨_, rfl⟩
  rw [← ht] at hB ⊢
  clear ht
  by_cases h0 : o < 0
  · go_enter Try.func56, Try.ntmps56
    go_wp2_with fail
    go_ret
    exact ⟨by rw [hB.out, if_neg (by omega)]; rfl, rfl⟩
  · by_cases h1 : o < 32
    · obtain ⟨k, rfl⟩ : ∃ k : Nat, o = (k : Int) := ⟨o.toNat, by omega⟩
      obtain ⟨P, hP⟩ : ∃ P : Nat, P = 2 ^ k := ⟨_, rfl⟩
      have hPl : P < 4294967296 := by
        have : (2 : Nat) ^ k < 2 ^ 32 := Nat.pow_lt_pow_right (by omega) (by omega)
        omega
      have hPi : (2 : Int) ^ k = (P : Int) := by rw [hP]; simp
      have HP := Lib.hid hP
      have hw : IntKind.u32.wrap (P : Int) = (P : Int) := IntWalk.u32_in _ (by omega)
      have hk2 : (k : Int) < 32 := h1
      clear hP h0 h1
      go_enter Try.func56, Try.ntmps56
      go_wp2_with fail
      go_ret
      exact ⟨by rw [hB.out, if_pos (by omega), show (k : Int).toNat = k by omega, ← HP.out]; rfl, rfl⟩
    · go_enter Try.func56, Try.ntmps56
      go_wp2_with fail
      go_ret
      exact ⟨by rw [hB.out, if_neg (by omega)]; rfl, rfl⟩
set_option maxHeartbeats 1000000 in
set_option maxRecDepth 20000 in
theorem MHas_calls (m : Nat) (o : Int) (w : World) (hm : m < 4294967296) :
    Calls Try.prog 33 #[.int .u32 m, .int .i64 o] w fun e w' => e = .returned (.bool (decide (m &&& aloneN o ≠ 0))) ∧ w' = w := by
  have hA := alone_calls o
  have hl := aloneN_lt o
  have hand := u32_and_nat m (aloneN o) hm hl
  obtain ⟨t, ht⟩ : ∃ t, t = aloneN o := ⟨_, rfl⟩
  rw [← ht] at hA hand hl ⊢
  obtain ⟨z, hz⟩ : ∃ z, z = m &&& t := ⟨_, rfl⟩
  rw [← hz] at hand ⊢
  clear ht hz
  go_enter Try.func33, Try.ntmps33
  go_wp2_with fail
  refine (hA _).mono ?_
  rintro e w' ⟨rfl, rfl⟩
  go_wp2_with fail
  go_ret
  refine ⟨?_, rfl⟩
  show Ending.returned (.bool ((z : Int) != 0)) = _
  congr 2
  rw [Bool.eq_iff_iff]
  simp
theorem hasM_bit {m k : Nat} (hk : k < 32) : decide (m &&& aloneN (k : Int) ≠ 0) = m.testBit k := by
  rw [aloneN_nat hk]
  have : m &&& 2 ^ k = if m.testBit k = true then 2 ^ k else 0 := by
    apply Nat.eq_of_testBit_eq
    intro j
    rw [Nat.testBit_and, Nat.testBit_two_pow]
    by_cases h : m.testBit k = true
    · rw [if_pos h, Nat.testBit_two_pow]
      by_cases hij : k = j
      · subst hij; simp [h]
      · simp [hij]
    · rw [if_neg h, Nat.zero_testBit]
      by_cases hij : k = j
      · subst hij; simp [h]
      · simp [hij]
  rw [this]
  cases h : m.testBit k <;> simp
end Go.Proofs.Ytioahddobogpjaa
/- has, Len, At: what stands where. Conditions: a board has 48 cells at most. -/
namespace Go.Proofs.Ytioahddobogpjaa
open Go.RowKit

theorem results_ct {P : Program} {fn : Func} {p t : Tmp} {ty : TypeId} (h : fn.results = #[.cell p ty, .tmp t]) (tmps : Array Value) (w : World) (g : Nat) (tt : TypeId) (cs : Array Value) (fr : Nat × Nat) (d : TypeDesc)
    (hp : tmps.getD p undef = .pointer (some ⟨g, 0, none⟩)) (hg : w.heap[g]? = some (.cells cs tt fr))
    (hu : P.underlying ty = some d) (hd : (match d with | .struct _ | .array _ _ => true | _ => false) = true) (hi : (P.info? ty).map (·.size) = some cs.size) :
    (results fn tmps).run P w = .ok (.tuple #[.agg cs, tmps.getD t undef]) w := by
  have hp' : tmps[p]?.getD undef = .pointer (some ⟨g, 0, none⟩) := by simpa using hp
  simp [results, h, hp', asAddr, run_loadVar_row w g tt ty cs fr d hg hu hd hi]
set_option maxHeartbeats 1000000 in
set_option maxRecDepth 20000 in
theorem bHas_calls (f : Nat → Int) (g : Nat → Nat) (n : Nat) (i : Int) (w : World) :
    Calls Try.prog 55 #[.agg (bdA f g n), .int .i64 i] w fun e w' => e = .returned (.bool (decide (0 ≤ i ∧ i < (n : Int)))) ∧ Below w.heap.size w w' := by
  have q := BoxB.new_ w f g n
  have hb := below_alloc1 w (.cells (bdA f g n) 32)
  have hc := q.cn
  obtain ⟨r, hr⟩ : ∃ r, r = decide (0 ≤ i ∧ i < (n : Int)) := ⟨_, rfl⟩
  rw [← hr]
  have HR := Lib.hid hr
  clear hr
  by_cases h0 : 0 ≤ i
  · have h0d : decide (0 ≤ i) = true := by simpa using h0
    go_enter Try.func55, Try.ntmps55
    go_wp2_with fail
    go_ret
    exact ⟨by rw [HR.out]; simp [h0], hb⟩
  · have h0d : decide (0 ≤ i) = false := by simpa using h0
    go_enter Try.func55, Try.ntmps55
    go_wp2_with fail
    go_ret
    exact ⟨by rw [HR.out]; simp; omega, hb⟩
set_option maxHeartbeats 1000000 in
set_option maxRecDepth 20000 in
theorem bLen_calls (f : Nat → Int) (g : Nat → Nat) (n : Nat) (w : World) :
    Calls Try.prog 44 #[.agg (bdA f g n)] w fun e w' => e = .returned (.int .i64 (n : Int)) ∧ Below w.heap.size w w' := by
  have q := BoxB.new_ w f g n
  have hb := below_alloc1 w (.cells (bdA f g n) 32)
  have hc := q.cn
  go_enter Try.func44, Try.ntmps44
  go_wp2_with fail
  go_ret
  exact ⟨rfl, hb⟩
theorem cell_size2 (a b : Value) : (Try.prog.info? 29).map (·.size) = some (#[a, b] : Array Value).size := by kernel_rfl
/-- Block b is a cell of a board. -/
def BoxC (w : World) (b : Nat) (x : Int) (y : Nat) : Prop := w.heap[b]? = some (.cells #[.int .i32 x, .int .u32 (y : Int)] 29 (0, 0))
namespace BoxC
variable {w w' : World} {b y : Nat} {x : Int}
theorem new_ (w : World) (x : Int) (y : Nat) : BoxC (w.alloc (.cells #[.int .i32 x, .int .u32 (y : Int)] 29)) w.heap.size x y := heap_alloc_new w _
theorem lt (h : BoxC w b x y) : b < w.heap.size := (Array.getElem?_eq_some_iff.1 h).1
theorem c0 (h : BoxC w b x y) : w.cell? ⟨b, 0, none⟩ = some (.int .i32 x) := by rw [cell_of_row w b 0 _ _ _ h]; rfl
theorem c1 (h : BoxC w b x y) : w.cell? ⟨b, 1, none⟩ = some (.int .u32 (y : Int)) := by rw [cell_of_row w b 1 _ _ _ h]; rfl
theorem fr (h : BoxC w b x y) (j : Nat) : w.frozen? ⟨b, j, none⟩ = false := frozen_of_row w b j _ _ h
theorem ext (h : BoxC w b x y) (hb : Below w.heap.size w w') : BoxC w' b x y := (hb.block b h.lt).trans h
theorem alloc (h : BoxC w b x y) (o : Obj) : BoxC (w.alloc o) b x y := (Below.heap_alloc w o b h.lt).trans h
theorem set0 (h : BoxC w b x y) (u : Int) : BoxC (w.setCell ⟨b, 0, none⟩ (.int .i32 u)) b u y := heap_setCell_same w b 0 _ _ _ h
theorem set1 (h : BoxC w b x y) (u : Nat) : BoxC (w.setCell ⟨b, 1, none⟩ (.int .u32 (u : Int))) b x u := heap_setCell_same w b 1 _ _ _ h
theorem other (h : BoxC w b x y) {p : Addr} (hp : b ≠ p.block) (u : Value) : BoxC (w.setCell p u) b x y := (heap_setCell_other w p b u hp).trans h
end BoxC
set_option maxHeartbeats 2000000 in
set_option maxRecDepth 20000 in
theorem bAt_in (f : Nat → Int) (g : Nat → Nat) (n i : Nat) (w : World) (hi : i < n) (hn : n ≤ 48) :
    Calls Try.prog 31 #[.agg (bdA f g n), .int .i64 i] w fun e w' => e = .returned (.tuple #[.agg #[.int .i32 (f i), .int .u32 ((g i : Nat) : Int)], .bool true]) ∧ Below w.heap.size w w' := by
  have q0 := (BoxB.new_ w f g n).alloc (.cells #[.int .i32 0, .int .u32 (0 : Nat)] 29)
  have q1 := BoxC.new_ (w.alloc (.cells (bdA f g n) 32)) 0 0
  rw [show (w.alloc (.cells (bdA f g n) 32)).heap.size = w.heap.size + 1 by simp] at q1
  have hb := below_alloc2 w (.cells (bdA f g n) 32) (.cells #[.int .i32 0, .int .u32 (0 : Nat)] 29)
  have hH := fun W => bHas_calls f g n (i : Int) W
  rw [show decide (0 ≤ (i : Int) ∧ (i : Int) < (n : Int)) = true by simp; omega] at hH
  have ei : (i : Int) < 48 := by omega
  go_enter Try.func31, Try.ntmps31
  go_wp2_with (refine wpList_load_bd rfl (.tmp 2) rfl w.heap.size rfl _ _ _ q0 ?_)
  refine (hH _).mono ?_
  rintro e w1 ⟨rfl, hb2⟩
  have q0 := q0.ext hb2
  have q1 := q1.ext hb2
  have hb := hb.trans (hb2.mono hb.size)
  have a0 := q0.cv (i := i) (by omega)
  have a1 := q0.cl (i := i) (by omega)
  have b0 := q1.c0
  have b1 := q1.c1
  have f0 := q1.fr 0
  have f1 := q1.fr 1
  clear hb2 hH
  go_wp2_with fail
  have hE := (q1.set0 (f i)).set1 (g i)
  refine bodyPost_ret (results_ct (P := Try.prog) rfl _ _ (w.heap.size + 1) _ _ (0, 0) _ rfl hE Try.underlying29 rfl (cell_size2 _ _)) rfl ⟨rfl, (hb.setCell (by simp) _).setCell (by simp) _⟩
set_option maxHeartbeats 2000000 in
set_option maxRecDepth 20000 in
theorem bAt_out (f : Nat → Int) (g : Nat → Nat) (n : Nat) (i : Int) (w : World) (hi : ¬(0 ≤ i ∧ i < (n : Int))) :
    Calls Try.prog 31 #[.agg (bdA f g n), .int .i64 i] w fun e w' => e = .returned (.tuple #[.agg #[.int .i32 0, .int .u32 0], .bool false]) ∧ Below w.heap.size w w' := by
  have q0 := (BoxB.new_ w f g n).alloc (.cells #[.int .i32 0, .int .u32 (0 : Nat)] 29)
  have q1 := BoxC.new_ (w.alloc (.cells (bdA f g n) 32)) 0 0
  rw [show (w.alloc (.cells (bdA f g n) 32)).heap.size = w.heap.size + 1 by simp] at q1
  have hb := below_alloc2 w (.cells (bdA f g n) 32) (.cells #[.int .i32 0, .int .u32 (0 : Nat)] 29)
  have hH := fun W => bHas_calls f g n i W
  rw [show decide (0 ≤ i ∧ i < (n : Int)) = false by simpa using hi] at hH
  go_enter Try.func31, Try.ntmps31
  go_wp2_with (refine wpList_load_bd rfl (.tmp 2) rfl w.heap.size rfl _ _ _ q0 ?_)
  refine (hH _).mono ?_
  rintro e w1 ⟨rfl, hb2⟩
  have q0 := q0.ext hb2
  have q1 := q1.ext hb2
  have hb := hb.trans (hb2.mono hb.size)
  have b0 := q1.c0
  have b1 := q1.c1
  have f0 := q1.fr 0
  have f1 := q1.fr 1
  clear hb2 hH
  go_wp2_with fail
  have hE := (q1.set0 0).set1 0
  refine bodyPost_ret (results_ct (P := Try.prog) rfl _ _ (w.heap.size + 1) _ _ (0, 0) _ rfl hE Try.underlying29 rfl (cell_size2 _ _)) rfl ⟨rfl, (hb.setCell (by simp) _).setCell (by simp) _⟩
end Go.Proofs.Ytioahddobogpjaa
/- Put: another board with a cell set. Conditions: a board has 48 cells at most. -/
namespace Go.Proofs.Ytioahddobogpjaa
open Go.RowKit

theorem wpList_alloc_bd {ops : Array Oper} {rest : List Oper} {o : Oper} {a : Act} {w : World} {Q : Exit → Act → World → Prop} (hg : o.guard = none) (ho : o.op = .alloc 32)
    (dst : Option Tmp) (hdst : o.dst = dst) (N : Nat) (hN : w.heap.size = N)
    (h : wpList Try.prog ops Q rest (a.put dst (.pointer (some ⟨N, 0, none⟩))) (w.alloc (.cells (bdA (fun _ => 0) (fun _ => 0) 0) 32))) : wpList Try.prog ops Q (o :: rest) a w := by
  subst hN
  refine Great.wpList_allocTo hg dst hdst _ _ ?_ h
  unfold execOp
  simp only [ho, Instr.alloc, newVar, newRow, run_newObj_alloc, Sem.run_bind, Sem.run_pure, Result.andThen_ok, bd_zero, Value.cells]
theorem wpList_store_bd {ops : Array Oper} {rest : List Oper} {o : Oper} {a : Act} {w : World} {Q : Exit → Act → World → Prop} (hg : o.guard = none) (x y : Operand) (ho : o.op = .store 32 x y)
    (b : Nat) (f' : Nat → Int) (g' : Nat → Nat) (n' : Nat) (hx : a.eval x = .pointer (some ⟨b, 0, none⟩)) (hy : a.eval y = .agg (bdA f' g' n')) (f : Nat → Int) (g : Nat → Nat) (n : Nat) (q : BoxB w b f g n)
    (h : wpList Try.prog ops Q rest (a.put o.dst undef) (w.setRow b (bdA f' g' n'))) : wpList Try.prog ops Q (o :: rest) a w :=
  wpList_plain hg fun _ hK => wp_store_row 32 x y ho b _ hx hy _ _ q (bd_size _ _ _) (by rw [bdA_size, bdA_size]) (bdA_all _ _ _) (hK _ _ h)
theorem wp_result_bd (fn : Func) (p t : Tmp) (h : fn.results = #[.cell p 32, .tmp t]) (tmps : Array Value) (w : World) (b : Nat) (f : Nat → Int) (g : Nat → Nat) (n : Nat) (hp : tmps.getD p undef = .pointer (some ⟨b, 0, none⟩)) (q : BoxB w b f g n) :
    (results fn tmps).run Try.prog w = .ok (.tuple #[.agg (bdA f g n), tmps.getD t undef]) w :=
  results_ct (P := Try.prog) h tmps w b _ _ (0, 0) _ hp q Try.underlying32 rfl (bd_size _ _ _)
set_option maxHeartbeats 2000000 in
set_option maxRecDepth 20000 in
theorem bPut_out (f : Nat → Int) (g : Nat → Nat) (n : Nat) (i : Int) (x : Int) (y : Nat) (w : World) (hi : ¬(0 ≤ i ∧ i < (n : Int))) :
    Calls Try.prog 32 #[.agg (bdA f g n), .int .i64 i, .agg #[.int .i32 x, .int .u32 (y : Int)]] w fun e w' => e = .returned (.tuple #[.agg (bdA f g n), .int .i64 7]) ∧ Below w.heap.size w w' := by
  have q0 := ((BoxB.new_ w f g n).alloc (.cells #[.int .i32 x, .int .u32 (y : Int)] 29)).alloc (.cells (bdA (fun _ => 0) (fun _ => 0) 0) 32)
  have q2 := BoxB.new_ ((w.alloc (.cells (bdA f g n) 32)).alloc (.cells #[.int .i32 x, .int .u32 (y : Int)] 29)) (fun _ => 0) (fun _ => 0) 0
  rw [show ((w.alloc (.cells (bdA f g n) 32)).alloc (.cells #[.int .i32 x, .int .u32 (y : Int)] 29)).heap.size = w.heap.size + 2 by simp] at q2
  have hb := below_alloc3 w (.cells (bdA f g n) 32) (.cells #[.int .i32 x, .int .u32 (y : Int)] 29) (.cells (bdA (fun _ => 0) (fun _ => 0) 0) 32)
  have hH := fun W => bHas_calls f g n i W
  rw [show decide (0 ≤ i ∧ i < (n : Int)) = false by simpa using hi] at hH
  go_enter Try.func32, Try.ntmps32
  go_wp2_with (first | refine wpList_alloc_bd rfl rfl _ rfl (w.heap.size + 2) (by simp) ?_ | refine wpList_load_bd rfl (.tmp 3) rfl w.heap.size rfl _ _ _ q0 ?_)
  refine (hH _).mono ?_
  rintro e w1 ⟨rfl, hb2⟩
  have q0 := q0.ext hb2
  have q2 := q2.ext hb2
  have hb := hb.trans (hb2.mono hb.size)
  clear hb2 hH
  go_wp2_with (first | refine wpList_load_bd rfl (.tmp 3) rfl w.heap.size rfl _ _ _ q0 ?_ | refine wpList_store_bd rfl (.tmp 6) (.tmp 12) rfl (w.heap.size + 2) _ _ _ rfl rfl _ _ _ q2 ?_)
  exact bodyPost_ret (wp_result_bd _ _ _ rfl _ _ (w.heap.size + 2) _ _ _ rfl (q2.row_ f g n)) rfl ⟨rfl, below_setRow hb _ _ (by omega)⟩
set_option maxHeartbeats 2000000 in
set_option maxRecDepth 20000 in
theorem bPut_in (f : Nat → Int) (g : Nat → Nat) (n i : Nat) (x : Int) (y : Nat) (w : World) (hi : i < n) (hn : n ≤ 48) :
    Calls Try.prog 32 #[.agg (bdA f g n), .int .i64 i, .agg #[.int .i32 x, .int .u32 (y : Int)]] w fun e w' => e = .returned (.tuple #[.agg (bdA (fun j => if j = i then x else f j) (fun j => if j = i then y else g j) n), .int .i64 0]) ∧ Below w.heap.size w w' := by
  have q0 := ((BoxB.new_ w f g n).alloc (.cells #[.int .i32 x, .int .u32 (y : Int)] 29)).alloc (.cells (bdA (fun _ => 0) (fun _ => 0) 0) 32)
  have q1 := (BoxC.new_ (w.alloc (.cells (bdA f g n) 32)) x y).alloc (.cells (bdA (fun _ => 0) (fun _ => 0) 0) 32)
  rw [show (w.alloc (.cells (bdA f g n) 32)).heap.size = w.heap.size + 1 by simp] at q1
  have q2 := BoxB.new_ ((w.alloc (.cells (bdA f g n) 32)).alloc (.cells #[.int .i32 x, .int .u32 (y : Int)] 29)) (fun _ => 0) (fun _ => 0) 0
  rw [show ((w.alloc (.cells (bdA f g n) 32)).alloc (.cells #[.int .i32 x, .int .u32 (y : Int)] 29)).heap.size = w.heap.size + 2 by simp] at q2
  have hb := below_alloc3 w (.cells (bdA f g n) 32) (.cells #[.int .i32 x, .int .u32 (y : Int)] 29) (.cells (bdA (fun _ => 0) (fun _ => 0) 0) 32)
  have hH := fun W => bHas_calls f g n (i : Int) W
  rw [show decide (0 ≤ (i : Int) ∧ (i : Int) < (n : Int)) = true by simp; omega] at hH
  have ei : (i : Int) < 48 := by omega
  go_enter Try.func32, Try.ntmps32
  go_wp2_with (first | refine wpList_alloc_bd rfl rfl _ rfl (w.heap.size + 2) (by simp) ?_ | refine wpList_load_bd rfl (.tmp 3) rfl w.heap.size rfl _ _ _ q0 ?_)
  refine (hH _).mono ?_
  rintro e w1 ⟨rfl, hb2⟩
  have q0 := q0.ext hb2
  have q1 := q1.ext hb2
  have q2 := q2.ext hb2
  have hb := hb.trans (hb2.mono hb.size)
  have a0 := q0.cv (i := i) (by omega)
  have a1 := q0.cl (i := i) (by omega)
  have b0 := q1.c0
  have b1 := q1.c1
  have f0 := q0.fr (i * 2)
  have f1 := q0.fr (i * 2 + 1)
  have p0 := (q0.setVal (k := i) (by omega) x).setLab (k := i) (by omega) y
  have p2 := (q2.other (p := ⟨w.heap.size, i * 2, none⟩) (by simp) (.int .i32 x)).other (p := ⟨w.heap.size, i * 2 + 1, none⟩) (by simp) (.int .u32 (y : Int))
  clear hb2 hH
  go_wp2_with (first | refine wpList_load_bd rfl (.tmp 3) rfl w.heap.size rfl _ _ _ p0 ?_ | refine wpList_store_bd rfl (.tmp 6) (.tmp 17) rfl (w.heap.size + 2) _ _ _ rfl rfl _ _ _ p2 ?_)
  exact bodyPost_ret (wp_result_bd _ _ _ rfl _ _ (w.heap.size + 2) _ _ _ rfl (p2.row_ _ _ n)) rfl ⟨rfl, below_setRow ((hb.setCell (by simp) _).setCell (by simp) _) _ _ (by omega)⟩
end Go.Proofs.Ytioahddobogpjaa
/- Show of a cell that is there; View. Conditions: a board has 48 cells at most; the labels fit 32 bits. -/
namespace Go.Proofs.Ytioahddobogpjaa
open Go.RowKit

theorem yieldsIf_load_bd {ops : Array Oper} {S : World → Prop} {op : Oper} {a : Act} (hw : Region.wanted op (yielded ops a.tmps) = true) (x : Operand) (ho : op.op = .load 32 x)
    (b : Nat) (hx : a.eval x = .pointer (some ⟨b, 0, none⟩)) (f : Nat → Int) (g : Nat → Nat) (n : Nat) (hS : ∀ w, S w → BoxB w b f g n) : YieldsIf Try.prog ops S op (.agg (bdA f g n)) a :=
  .inl ⟨hw, fun w hw' => by
    unfold execOp
    simp only [ho, hx, Sem.run_bind, (hS w hw').load, Sem.run_pure, Result.andThen_ok]⟩
theorem BoxB.set1 {w : World} {b : Nat} {f : Nat → Int} {g : Nat → Nat} {n : Nat} (h : BoxB w b f g n) {p : Addr} (hp : b ≠ p.block) (u : Value) : BoxB (w.setCell p u) b f g n := h.other hp u
set_option maxHeartbeats 4000000 in
set_option maxRecDepth 20000 in
theorem bView_calls (f : Nat → Int) (g : Nat → Nat) (n : Nat) (o : Int) (w : World) (hn : n ≤ 48) (hg : ∀ i, i < n → g i < 4294967296) :
    Calls Try.prog 18 #[.agg (bdA f g n), .int .i64 o] w fun e w' => e = .returned (.agg (bdA (fun j => if j < n ∧ sees (g j) o = false then 0 else f j) g n)) ∧ Below w.heap.size w w' := by
  have q0 := (BoxB.new_ w f g n).alloc (.cells (bdA (fun _ => 0) (fun _ => 0) 0) 32)
  have q2 := BoxB.new_ (w.alloc (.cells (bdA f g n) 32)) (fun _ => 0) (fun _ => 0) 0
  rw [show (w.alloc (.cells (bdA f g n) 32)).heap.size = w.heap.size + 1 by simp] at q2
  have hb := below_alloc2 w (.cells (bdA f g n) 32) (.cells (bdA (fun _ => 0) (fun _ => 0) 0) 32)
  have c0 := q0.cn
  have HG := Lib.hid hg
  clear hg
  go_enter Try.func18, Try.ntmps18
  go_wp2_with (refine wpList_alloc_bd rfl rfl _ rfl (w.heap.size + 1) (by simp) ?_)
  go_loopw [5, 8] (fun v i wr => ∃ k : Nat, k ≤ n ∧ i = .int .i64 k ∧ BoxB wr w.heap.size (fun j => if j < k ∧ sees (g j) o = false then 0 else f j) g n ∧ BoxB wr (w.heap.size + 1) (fun _ => 0) (fun _ => 0) 0 ∧ Below w.heap.size w wr) (fun _ i _ => n - (intOf i).toNat)
  case atStart => exact ⟨0, Nat.zero_le _, rfl, q0.congr (fun j _ => by simp) (fun _ _ => rfl), q2, hb⟩
  case round =>
    obtain ⟨k, hk, rfl, r0, r2, hb1⟩ := hrel
    clear q0 q2 hb c0
    by_cases hlt : k < n
    · have a1 := r0.cl (i := k) (by omega)
      have f0 := r0.fr (k * 2)
      obtain ⟨x0, a0⟩ : ∃ x0, wr.cell? ⟨w.heap.size, k * 2, none⟩ = some (.int .i32 x0) := ⟨_, r0.cv (i := k) (by omega)⟩
      have hH := fun W => MHas_calls (g k) o W (HG.out k hlt)
      have hS := Lib.hid (show sees (g k) o = decide (g k &&& aloneN o ≠ 0) from rfl)
      obtain ⟨d, hd⟩ : ∃ d, d = decide (g k &&& aloneN o ≠ 0) := ⟨_, rfl⟩
      rw [← hd] at hH hS
      obtain ⟨G, hG⟩ : ∃ G, G = g k := ⟨_, rfl⟩
      rw [← hG] at hH hS a1
      have HGk := Lib.hid hG
      have ek : (k : Int) < 48 := by omega
      have ej : (k : Int) < (n : Int) := by omega
      clear hd hG
      cases d with
      | true =>
        go_wp2_with fail
        refine (hH _).mono ?_
        rintro e w2 ⟨rfl, rfl⟩
        go_wp2_with fail
        go_roundw
        case rel =>
          refine ⟨k + 1, by omega, by go_num, r0.congr (fun j _ => ?_) (fun _ _ => rfl), r2, hb1⟩
          have h1 := hS.out
          rw [HGk.out] at h1
          by_cases e : j = k
          · subst e; simp [h1]
          · have h2 : j < k + 1 ↔ j < k := by omega
            simp only [h2]
        case measure => simp [intOf]; omega
      | false =>
        go_wp2_with fail
        refine (hH _).mono ?_
        rintro e w2 ⟨rfl, rfl⟩
        go_wp2_with fail
        go_roundw
        case rel =>
          refine ⟨k + 1, by omega, by go_num, (r0.setVal (k := k) (by omega) 0).congr (fun j _ => ?_) (fun _ _ => rfl), r2.other (by simp) _, hb1.setCell (by simp) _⟩
          have h1 := hS.out
          rw [HGk.out] at h1
          by_cases e : j = k
          · subst e; simp [h1]
          · have h2 : j < k + 1 ↔ j < k := by omega
            simp only [h2, if_neg e]
        case measure => simp [intOf]; omega
    · obtain rfl : n = k := by omega
      go_wp2_with (first | refine wpList_load_bd rfl (.tmp 2) rfl w.heap.size rfl _ _ _ r0 ?_ | refine wpList_store_bd rfl (.tmp 4) (.tmp 24) rfl (w.heap.size + 1) _ _ _ rfl rfl _ _ _ r2 ?_)
      have hE := r2.row_ (fun j => if j < n ∧ sees (g j) o = false then 0 else f j) g n
      exact bodyPost_ret (results_cell_row (P := Try.prog) rfl _ _ (w.heap.size + 1) _ _ (0, 0) _ rfl hE Try.underlying32 rfl (bd_size _ _ _)) rfl ⟨rfl, below_setRow hb1 _ _ (by omega)⟩
end Go.Proofs.Ytioahddobogpjaa
/- New, Cells; when two boards are the same to Go. Conditions: those said. -/
namespace Go.Proofs.Ytioahddobogpjaa
open Go.RowKit

theorem bd_info : (Try.prog.info? 32).map (fun i => (i.zero, i.size, i.bytes)) = some (some (.agg (bdA (fun _ => 0) (fun _ => 0) 0)), 97, 392) := by kernel_rfl
theorem foldl_one (A : Array Value) (v : Value) (k : Nat) : Array.foldl (fun (cs : Array Value) (x : Value × Nat) => cs.setIfInBounds x.snd x.fst) A #[(v, k)] 0 1 = A.setIfInBounds k v := by simp
theorem bd_built0 : Try.prog.built 32 [] = some (bdA (fun _ => 0) (fun _ => 0) 0) := by
  unfold Program.built
  obtain ⟨i, hi, hz, _, _⟩ := info_parts bd_info
  rw [hi, Try.underlying32]
  simp only []
  rw [hz]
  rw [show (List.mapM (fun f => Option.map (fun (i : TypeInfo) => (Field.offset f, i.size)) (Try.prog.info? f.type)) _ : Option (List (Nat × Nat))) = some [(0, 96), (96, 1)] by kernel_rfl]
  simp [Instr.fill]
  rfl
theorem bd_built1 (n : Nat) : Try.prog.built 32 [(1, .int .i64 (n : Int))] = some (bdA (fun _ => 0) (fun _ => 0) n) := by
  unfold Program.built
  obtain ⟨i, hi, hz, _, _⟩ := info_parts bd_info
  rw [hi, Try.underlying32]
  simp only []
  rw [hz]
  rw [show (List.mapM (fun f => Option.map (fun (i : TypeInfo) => (Field.offset f, i.size)) (Try.prog.info? f.type)) _ : Option (List (Nat × Nat))) = some [(0, 96), (96, 1)] by kernel_rfl]
  simp [Instr.fill]
  refine ⟨⟨rfl, by show 97 ≤ (bdA _ _ 0).size; rw [bdA_size]; omega⟩, ?_⟩
  show Array.foldl (fun cs x => cs.setIfInBounds x.snd x.fst) (bdA (fun _ => 0) (fun _ => 0) 0) #[(Value.int .i64 (n : Int), 96)] 0 1 = _
  rw [foldl_one]
  refine bdA_ext (by simp [bdA_size]) (fun i hi => ?_) (fun i hi => ?_) ?_
  · rw [Array.getElem?_setIfInBounds, if_neg (by omega), bdA_val hi]
  · rw [Array.getElem?_setIfInBounds, if_neg (by omega), bdA_lab hi]
  · rw [Array.getElem?_setIfInBounds, if_pos rfl, if_pos (by rw [bdA_size]; omega)]
theorem wpList_build_bd0 {ops : Array Oper} {rest : List Oper} {o : Oper} {a : Act} {w : World} {Q : Exit → Act → World → Prop} (hgd : o.guard = none)
    (ho : o.op = .build 32 #[]) (h : wpList Try.prog ops Q rest (a.put o.dst (.agg (bdA (fun _ => 0) (fun _ => 0) 0))) w) : wpList Try.prog ops Q (o :: rest) a w := by
  have e : Try.prog.built 32 ((#[] : Array (Nat × Operand)).map fun (i, x) => (i, a.eval x)).toList = some (bdA (fun _ => 0) (fun _ => 0) 0) := by
    rw [← bd_built0]
    simp
  exact wpList_build hgd _ _ ho (by rw [e]; rfl) (by rw [e]; exact h)
theorem wpList_build_bd1 {ops : Array Oper} {rest : List Oper} {o : Oper} {a : Act} {w : World} {Q : Exit → Act → World → Prop} (hgd : o.guard = none) (s : Operand) (n : Nat)
    (ho : o.op = .build 32 #[(1, s)]) (hs : a.eval s = .int .i64 (n : Int)) (h : wpList Try.prog ops Q rest (a.put o.dst (.agg (bdA (fun _ => 0) (fun _ => 0) n))) w) : wpList Try.prog ops Q (o :: rest) a w := by
  have e : Try.prog.built 32 ((#[(1, s)] : Array (Nat × Operand)).map fun (i, x) => (i, a.eval x)).toList = some (bdA (fun _ => 0) (fun _ => 0) n) := by
    rw [← bd_built1 n]
    simp [hs]
  exact wpList_build hgd _ _ ho (by rw [e]; rfl) (by rw [e]; exact h)
/-- The builtin copy of cells into a new board's. -/
theorem cells_size : (Try.prog.info? 29).map (·.size) = some 2 := by kernel_rfl
theorem bd_filled {L : List (Int × Nat)} (hL : L.length ≤ 48) : ((bdA (fun _ => 0) (fun _ => 0) L.length).toList.take 0 ++ cv L ++ (bdA (fun _ => 0) (fun _ => 0) L.length).toList.drop (0 + (cv L).length)).toArray = bdL L := by
  have hs := bdA_size (fun _ => 0) (fun _ => 0) L.length
  refine bdA_ext ?_ (fun i hi => ?_) (fun i hi => ?_) ?_
  · simp [hs]; omega
  · simp only [List.take_zero, List.nil_append, Nat.zero_add, List.getElem?_toArray, cv_length]
    by_cases h : i < L.length
    · rw [List.getElem?_append_left (by simp; omega), cv_val h, bdF_in h]
    · rw [List.getElem?_append_right (by simp; omega), List.getElem?_drop, cv_length, show L.length * 2 + (i * 2 - L.length * 2) = i * 2 by omega, Array.getElem?_toList, bdA_val hi, bdF_out (by omega)]
  · simp only [List.take_zero, List.nil_append, Nat.zero_add, List.getElem?_toArray, cv_length]
    by_cases h : i < L.length
    · rw [List.getElem?_append_left (by simp; omega), cv_lab h, bdG_in h]
    · rw [List.getElem?_append_right (by simp; omega), List.getElem?_drop, cv_length, show L.length * 2 + (i * 2 + 1 - L.length * 2) = i * 2 + 1 by omega, Array.getElem?_toList, bdA_lab hi, bdG_out (by omega)]
  · simp only [List.take_zero, List.nil_append, Nat.zero_add, List.getElem?_toArray, cv_length]
    rw [List.getElem?_append_right (by simp; omega), List.getElem?_drop, cv_length, show L.length * 2 + (96 - L.length * 2) = 96 by omega, Array.getElem?_toList, bdA_len]
theorem wpList_copy_bd {ops : Array Oper} {rest : List Oper} {o : Oper} {a : Act} {w : World} {Q : Exit → Act → World → Prop} (hgd : o.guard = none) (d s : Operand)
    (ho : o.op = .call { callee := .builtin .copy, args := #[d, s], argTypes := #[22, 22] }) (g : Nat) (hd : a.eval d = .slice (some ⟨g, 0, none⟩) 48 48)
    (A : Option Addr) (L : List (Int × Nat)) (n c b : Nat) (hs : a.eval s = .slice A n c) (hn : L.length = n) (h48 : n ≤ 48) (hS : Sl w b A (cv L)) (q : BoxB w g (fun _ => 0) (fun _ => 0) n)
    (h : wpList Try.prog ops Q rest (a.put o.dst (.int .i64 (n : Int))) (w.setRow g (bdL L))) : wpList Try.prog ops Q (o :: rest) a w := by
  subst hn
  refine wpList_plain hgd fun K hK => ?_
  have hfc : (Builtin.firstCells 2 L.length (.slice A L.length c)).run Try.prog w = .ok (cv L).toArray w := by
    rcases A with _ | ad
    · have h0 := Sl.none_len hS rfl rfl
      rw [cv_length] at h0
      have hL : L = [] := List.eq_nil_of_length_eq_zero (by omega)
      subst hL
      rfl
    · refine run_firstCells_some w 2 L.length ad L.length c (cv L) (by simp) fun j v hv => ?_
      obtain ⟨off, e, hc⟩ := hS (by rintro h0; rw [h0] at hv; simp at hv)
      injection e with e
      subst e
      rw [Addr.add_lit]
      exact hc j v hv
  have hst := run_storeCells_at Try.prog g 0 _ (cv L) 0 _ w q (by rw [bdA_size]; simp; omega) (cv_one L)
  rw [show 0 + 0 = 0 from rfl, bd_filled h48] at hst
  cases hq : Try.prog.info? 29 with
  | none => have := cells_size; rw [hq] at this; cases this
  | some i =>
    have hi : i.size = 2 := by have := cells_size; rw [hq] at this; simpa using this
    have hrun : (Builtin.copy_ #[22, 22] o.type #[.slice (some ⟨g, 0, none⟩) 48 48, .slice A L.length c]).run Try.prog w = .ok (goInt L.length) (w.setRow g (bdL L)) := by
      simp [Builtin.copy_, run_underlying Try.underlying22, Builtin.lenOf, sizeOf, typeInfo, hq, hi, show Nat.min L.length 48 = L.length from Nat.min_eq_left h48, hfc, hst]
    unfold Oper.wp
    simp [execOp, ho, resolve, invoke, builtin, hd, hs, hrun, Result.andThen]
    exact hK _ _ h
set_option maxHeartbeats 4000000 in
set_option maxRecDepth 20000 in
theorem New_in (A : Option Addr) (L : List (Int × Nat)) (n c b : Nat) (w : World) (hs : Sl w b A (cv L)) (hn : L.length = n) (h48 : n ≤ 48) :
    Calls Try.prog 10 #[.slice A n c] w fun e w' => e = .returned (.tuple #[.agg (bdL L), .int .i64 0]) ∧ Below w.heap.size w w' := by
  subst hn
  have q0 := (BoxB.new_ w (fun _ => 0) (fun _ => 0) 0).alloc (.cells (bdA (fun _ => 0) (fun _ => 0) 0) 32)
  have q1 := BoxB.new_ (w.alloc (.cells (bdA (fun _ => 0) (fun _ => 0) 0) 32)) (fun _ => 0) (fun _ => 0) 0
  rw [show (w.alloc (.cells (bdA (fun _ => 0) (fun _ => 0) 0) 32)).heap.size = w.heap.size + 1 by simp] at q1
  have hb := below_alloc2 w (.cells (bdA (fun _ => 0) (fun _ => 0) 0) 32) (.cells (bdA (fun _ => 0) (fun _ => 0) 0) 32)
  have r0 := q0.orow (b' := w.heap.size + 1) (by omega) (bdA (fun _ => 0) (fun _ => 0) L.length)
  have r1 := q1.row_ (fun _ => 0) (fun _ => 0) L.length
  have hb1 := below_setRow hb (w.heap.size + 1) (bdA (fun _ => 0) (fun _ => 0) L.length) (by omega)
  have hs1 := Sl.ext hs hb1
  have s0 := r0.orow (b' := w.heap.size + 1) (by omega) (bdL L)
  have s1 := r1.row_ (bdF L) (bdG L) L.length
  have hb2 := below_setRow hb1 (w.heap.size + 1) (bdL L) (by omega)
  have ei : decide ((48 : Int) < (L.length : Int)) = false := by simp; omega
  go_enter Try.func10, Try.ntmps10
  go_wp2_with (first | ((with_reducible refine at_al 32 2 ?_); refine wpList_alloc_bd rfl rfl (some 2) rfl w.heap.size (by simp) ?_) | ((with_reducible refine at_al 32 4 ?_); refine wpList_alloc_bd rfl rfl (some 4) rfl (w.heap.size + 1) (by simp) ?_) | ((with_reducible refine at_bd 32 11 _ ?_); refine wpList_build_bd1 rfl (.tmp 10) L.length rfl rfl ?_) | ((with_reducible refine at_st 32 4 11 ?_); refine wpList_store_bd rfl (.tmp 4) (.tmp 11) rfl (w.heap.size + 1) _ _ _ rfl rfl _ _ _ q1 ?_) | ((with_reducible refine at_ca 15 _ ?_); refine wpList_copy_bd rfl (.tmp 13) (.tmp 14) rfl (w.heap.size + 1) rfl A L L.length c b rfl rfl h48 hs1 r1 ?_) | ((with_reducible refine at_ld 32 4 ?_); refine wpList_load_bd rfl (.tmp 4) rfl (w.heap.size + 1) rfl _ _ _ s1 ?_) | ((with_reducible refine at_st 32 2 16 ?_); refine wpList_store_bd rfl (.tmp 2) (.tmp 16) rfl w.heap.size _ _ _ rfl rfl _ _ _ s0 ?_))
  exact bodyPost_ret (wp_result_bd _ _ _ rfl _ _ w.heap.size _ _ _ rfl (s0.row_ _ _ _)) rfl ⟨rfl, below_setRow hb2 _ _ (by omega)⟩
end Go.Proofs.Ytioahddobogpjaa
/- When two boards, or two cells, are the same to Go's own test. No condition. -/
namespace Go.Proofs.Ytioahddobogpjaa
open Go.RowKit

theorem cell_under : ∃ f0 f1 : Field, Try.prog.underlying 29 = some (.struct #[f0, f1]) ∧ f0.name ≠ "_" ∧ f1.name ≠ "_" ∧ f0.type = 21 ∧ f1.type = 27 ∧ f0.offset = 0 ∧ f1.offset = 1 :=
  ⟨_, _, Try.underlying29, by decide, by decide, rfl, rfl, rfl, rfl⟩
theorem board_under : ∃ f0 f1 : Field, Try.prog.underlying 32 = some (.struct #[f0, f1]) ∧ f0.name ≠ "_" ∧ f1.name ≠ "_" ∧ f0.type = 30 ∧ f1.type = 3 ∧ f0.offset = 0 ∧ f1.offset = 96 :=
  ⟨_, _, Try.underlying32, by decide, by decide, rfl, rfl, rfl, rfl⟩
theorem cell_held : Try.prog.stoodInHeld 29 = false := by kernel_rfl
theorem board_held : Try.prog.stoodInHeld 32 = false := by kernel_rfl
/-- The flat cells alone. -/
def cellsA (f : Nat → Int) (g : Nat → Nat) : Array Value := ((List.range 96).map (bdC f g)).toArray
theorem cellsA_at (f : Nat → Int) (g : Nat → Nat) {i : Nat} (hi : i < 48) : (cellsA f g).extract (i * 2) (i * 2 + 2) = #[.int .i32 (f i), .int .u32 ((g i : Nat) : Int)] := by
  apply Array.ext'
  have h : ((List.range 96).map (bdC f g)).drop (i * 2) = bdC f g (i * 2) :: bdC f g (i * 2 + 1) :: ((List.range 96).map (bdC f g)).drop (i * 2 + 2) := by
    rw [List.drop_eq_getElem_cons (by simp; omega), List.drop_eq_getElem_cons (by simp; omega)]
    simp
  simp only [cellsA, List.extract_toArray, List.extract_eq_take_drop]
  rw [show i * 2 + 2 - i * 2 = 2 by omega, h]
  simp [bdC_val, bdC_lab]
theorem bdA_cells (f : Nat → Int) (g : Nat → Nat) (n : Nat) : (bdA f g n).extract 0 96 = cellsA f g := by
  apply Array.ext'
  simp only [bdA, cellsA, List.extract_toArray, List.extract_eq_take_drop]
  simp
section
variable (w : World)
theorem part_at (f : Nat → Int) (g : Nat → Nat) {i : Nat} (hi : i < 48) : (part 29 (cellsA f g) (i * 2)).run Try.prog w = .ok (.agg #[.int .i32 (f i), .int .u32 ((g i : Nat) : Int)]) w := by
  obtain ⟨i0, hi0, _, hz1, _⟩ := info_parts cellB_info
  simp [part, isAgg, run_underlying Try.underlying29, sizeOf, typeInfo, hi0, hz1, cellsA_at f g hi]
theorem run_equal_cell (d : Nat) (x x' : Int) (y y' : Nat) : (Op.equalIn (d + 2) 29 (.agg #[.int .i32 x, .int .u32 (y : Int)]) (.agg #[.int .i32 x', .int .u32 (y' : Int)])).run Try.prog w = .ok (x == x' && y == y') w := by
  obtain ⟨f0, f1, hu, h0, h1, t0, t1, o0, o1⟩ := cell_under
  have hf : Try.prog.fieldsOf 29 = #[f0, f1] := by simp [Program.fieldsOf, hu]
  rw [run_equalIn_struct w (d + 1) _ _ _ (by rw [hf]; exact hu) cell_held, hf]
  simp [Op.eqFields, h0, h1, t0, t1, o0, o1, part, isAgg, run_underlying Try.underlying21, run_underlying Try.underlying27, run_equalIn_int w d _ .i32 .i32 _ _ Try.underlying21, run_equalIn_int w d _ .u32 .u32 _ _ Try.underlying27]
  by_cases e : x = x' <;> by_cases e2 : y = y' <;> simp [e, e2, Int.natCast_inj]
theorem run_equal_cells (d : Nat) (f f' : Nat → Int) (g g' : Nat → Nat) : (Op.equalIn (d + 3) 30 (.agg (cellsA f g)) (.agg (cellsA f' g'))).run Try.prog w = .ok ((List.range 48).all fun i => f i == f' i && g i == g' i) w := by
  obtain ⟨i0, hi0, _, hz1, _⟩ := info_parts cellB_info
  have hsz : ∀ w, (sizeOf 29).run Try.prog w = .ok 2 w := fun w => by simp [sizeOf, typeInfo, hi0, hz1]
  rw [List.range_eq_range', Op.equalIn]
  simp only [Sem.run_bind, run_underlying Try.underlying30, Result.andThen_ok, hsz, Std.Legacy.Range.forIn_eq_forIn_range', Std.Legacy.Range.size, Nat.sub_zero, Nat.add_sub_cancel, Nat.div_one]
  have hl : ∀ i ∈ List.range' 0 48 1, i < 48 := fun i hi => by simpa using (List.mem_range'_1.1 hi).2
  generalize List.range' 0 48 1 = l at hl ⊢
  induction l with
  | nil => simp
  | cons i l ih =>
    have hi : i < 48 := hl i (by simp)
    simp only [List.forIn_cons, Sem.run_bind, part_at w f g hi, part_at w f' g' hi, run_equal_cell w d, Result.andThen_ok, List.all_cons]
    cases hb : (f i == f' i && g i == g' i)
    · simp
    · simp only [Bool.not_true, Bool.false_eq_true, if_false, Sem.run_pure, Result.andThen_ok, Bool.true_and]
      exact ih fun j hj => hl j (by simp [hj])
theorem cells_info : ∃ i : TypeInfo, Try.prog.info? 30 = some i ∧ i.size = 96 := by
  have hz : (Try.prog.info? 30).map (·.size) = some 96 := by kernel_rfl
  cases hi : Try.prog.info? 30 with
  | none => rw [hi] at hz; cases hz
  | some i => exact ⟨i, rfl, by rw [hi] at hz; simpa using hz⟩
theorem part_cells (f : Nat → Int) (g : Nat → Nat) (n : Nat) : (part 30 (bdA f g n) 0).run Try.prog w = .ok (.agg (cellsA f g)) w := by
  obtain ⟨i, hi, hs⟩ := cells_info
  have e := bdA_cells f g n
  obtain ⟨X, hX⟩ : ∃ X, X = bdA f g n := ⟨_, rfl⟩
  obtain ⟨Y, hY⟩ : ∃ Y, Y = cellsA f g := ⟨_, rfl⟩
  rw [← hX, ← hY] at e
  rw [← hX, ← hY]
  clear hX hY
  simp [part, isAgg, run_underlying Try.underlying30, sizeOf, typeInfo, hi, hs, e]
theorem part_len (f : Nat → Int) (g : Nat → Nat) (n : Nat) : (part 3 (bdA f g n) 96).run Try.prog w = .ok (.int .i64 (n : Int)) w := by
  have e := bdA_len f g n
  obtain ⟨X, hX⟩ : ∃ X, X = bdA f g n := ⟨_, rfl⟩
  rw [← hX] at e
  rw [← hX]
  clear hX
  simp [part, isAgg, run_underlying Try.underlying3, e]
theorem run_equal_bd (d : Nat) (f f' : Nat → Int) (g g' : Nat → Nat) (n n' : Nat) (q : Bool) (hq : q = true ↔ bdA f g n = bdA f' g' n') : (Op.equalIn (d + 3 + 1) 32 (.agg (bdA f g n)) (.agg (bdA f' g' n'))).run Try.prog w = .ok q w := by
  obtain ⟨f0, f1, hu, h0, h1, t0, t1, o0, o1⟩ := board_under
  have hf : Try.prog.fieldsOf 32 = #[f0, f1] := by simp [Program.fieldsOf, hu]
  rw [run_equalIn_struct w (d + 3) _ _ _ (by rw [hf]; exact hu) board_held, hf]
  have hc := run_equal_cells w d f f' g g'
  obtain ⟨r, hr⟩ : ∃ r, r = (List.range 48).all (fun i => f i == f' i && g i == g' i) := ⟨_, rfl⟩
  rw [← hr] at hc
  have key : q = true ↔ (r = true ∧ n = n') := by
    rw [hr]
    constructor
    · intro h
      obtain ⟨h1, h2⟩ := bdA_inj (hq.1 h)
      refine ⟨?_, h1⟩
      simp only [List.all_eq_true, List.mem_range, Bool.and_eq_true, beq_iff_eq]
      exact h2
    · rintro ⟨h1, rfl⟩
      simp only [List.all_eq_true, List.mem_range, Bool.and_eq_true, beq_iff_eq] at h1
      exact hq.2 (bdA_congr (fun i hi => (h1 i hi).1) (fun i hi => (h1 i hi).2))
  have hint : (Op.equalIn (d + 3) 3 (.int .i64 (n : Int)) (.int .i64 (n' : Int))).run Try.prog w = .ok ((n : Int) == (n' : Int)) w := run_equalIn_int w (d + 2) _ .i64 .i64 _ _ Try.underlying3
  have q1 := part_cells w f g n
  have q2 := part_cells w f' g' n'
  have q3 := part_len w f g n
  have q4 := part_len w f' g' n'
  clear hr hq hf hu
  obtain ⟨X, hX⟩ : ∃ X, X = bdA f g n := ⟨_, rfl⟩
  obtain ⟨Y, hY⟩ : ∃ Y, Y = bdA f' g' n' := ⟨_, rfl⟩
  obtain ⟨CX, hCX⟩ : ∃ X, X = cellsA f g := ⟨_, rfl⟩
  obtain ⟨CY, hCY⟩ : ∃ Y, Y = cellsA f' g' := ⟨_, rfl⟩
  rw [← hX] at q1 q3 ⊢
  rw [← hY] at q2 q4 ⊢
  rw [← hCX] at q1 hc
  rw [← hCY] at q2 hc
  clear hX hY hCX hCY
  have e1 : (Op.eqFields (d + 3) X Y [f1]).run Try.prog w = .ok ((n : Int) == (n' : Int)) w := by
    simp only [Op.eqFields, h1, t1, o1, ne_eq, not_false_eq_true, if_true, Sem.run_bind, q3, q4, hint, Result.andThen_ok]
    cases ((n : Int) == (n' : Int)) <;> rfl
  show (Op.eqFields (d + 3) X Y [f0, f1]).run Try.prog w = _
  rw [Op.eqFields, if_pos h0, t0, o0]
  rw [Sem.run_bind, q1, Result.andThen_ok, Sem.run_bind, q2, Result.andThen_ok, Sem.run_bind, hc, Result.andThen_ok]
  cases r
  · have : q = false := by rw [Bool.eq_false_iff]; intro h; have := (key.1 h).1; cases this
    rw [this]
    simp only [Bool.not_false, if_true, Sem.run_pure]
  · have : q = ((n : Int) == (n' : Int)) := by
      rw [Bool.eq_iff_iff, key]
      simp only [true_and, beq_iff_eq]
      omega
    rw [this]
    simp only [Bool.not_true, Bool.false_eq_true, if_false]
    exact e1
theorem run_eql_bd (f f' : Nat → Int) (g g' : Nat → Nat) (n n' : Nat) (q : Bool) (hq : q = true ↔ bdA f g n = bdA f' g' n') : (binOp .eql 32 (.agg (bdA f g n)) (.agg (bdA f' g' n'))).run Try.prog w = .ok (.bool q) w := by
  rw [run_eql_struct, run_equal_bd w 9996 _ _ _ _ _ _ q hq]
  rfl
theorem run_neq_bd (f f' : Nat → Int) (g g' : Nat → Nat) (n n' : Nat) (q : Bool) (hq : q = true ↔ bdA f g n = bdA f' g' n') : (binOp .neq 32 (.agg (bdA f g n)) (.agg (bdA f' g' n'))).run Try.prog w = .ok (.bool (!q)) w := by
  rw [run_neq_struct, run_equal_bd w 9996 _ _ _ _ _ _ q hq]
  rfl
end
theorem eq_guard (b : BinOp) (x y : Operand) (xs ys : Array Value) (w : World) : (eqGuard b 32 x y (.agg xs) (.agg ys)).run Try.prog w = .ok () w := run_eqGuard_agg w b _ x y xs ys (by kernel_rfl)
theorem wpList_eql_bd {ops : Array Oper} {rest : List Oper} {o : Oper} {a : Act} {w : World} {Q : Exit → Act → World → Prop} (hw : Region.wanted o (yielded ops a.tmps) = true) (x y : Operand) (ho : o.op = .binOp .eql 32 x y 32)
    (L M : List (Int × Nat)) (hx : a.eval x = .agg (bdL L)) (hy : a.eval y = .agg (bdL M)) (hL : L.length ≤ 48) (d : Bool) (hd : d = decide (L = M))
    (h : wpList Try.prog ops Q rest (a.put o.dst (.bool d)) w) : wpList Try.prog ops Q (o :: rest) a w :=
  BigFrame.wpList_want hw fun K hK => by
    have e : d = true ↔ bdA (bdF L) (bdG L) L.length = bdA (bdF M) (bdG M) M.length := by
      rw [hd, decide_eq_true_iff]
      exact (bdL_inj hL).symm
    unfold Oper.wp
    simp only [execOp, ho, hx, hy, bdL, Sem.run_bind, eq_guard, Result.andThen_ok, run_eql_bd w _ _ _ _ _ _ d e, Sem.run_pure]
    exact hK _ _ h
end Go.Proofs.Ytioahddobogpjaa
/- New of too many; Cells; Shown. Conditions: those said. -/
namespace Go.Proofs.Ytioahddobogpjaa
open Go.RowKit

theorem bd_sl {w : World} {g : Nat} {L : List (Int × Nat)} (h : BoxB w g (bdF L) (bdG L) L.length) (hL : L.length ≤ 48) : Sl w g (some ⟨g, 0, none⟩) (cv L) := fun _ =>
  ⟨0, rfl, fun j u hu => by
    rw [Nat.zero_add, cell_of_row w g j _ _ _ h]
    have h1 := bdL_cells hL
    rw [← h1, List.getElem?_take] at hu
    split at hu
    · simpa [bdL] using hu
    · cases hu⟩
set_option maxHeartbeats 4000000 in
set_option maxRecDepth 20000 in
theorem New_out (A : Option Addr) (n c : Nat) (w : World) (h48 : 48 < n) (hm : n ≤ 1000000000000) :
    Calls Try.prog 10 #[.slice A n c] w fun e w' => e = .returned (.tuple #[.agg (bdL []), .int .i64 6]) ∧ Below w.heap.size w w' := by
  have q0 := BoxB.new_ w (fun _ => 0) (fun _ => 0) 0
  have hb := below_alloc1 w (.cells (bdA (fun _ => 0) (fun _ => 0) 0) 32)
  have ei : decide ((48 : Int) < (n : Int)) = true := by simp; omega
  go_enter Try.func10, Try.ntmps10
  go_wp2_with (first | ((with_reducible refine at_al 32 2 ?_); refine wpList_alloc_bd rfl rfl (some 2) rfl w.heap.size (by simp) ?_) | ((with_reducible refine at_bd 32 8 _ ?_); refine wpList_build_bd0 rfl rfl ?_) | ((with_reducible refine at_st 32 2 8 ?_); refine wpList_store_bd rfl (.tmp 2) (.tmp 8) rfl w.heap.size _ _ _ rfl rfl _ _ _ q0 ?_))
  exact bodyPost_ret (wp_result_bd _ _ _ rfl _ _ w.heap.size _ _ _ rfl (q0.row_ _ _ _)) rfl ⟨rfl, below_setRow hb _ _ (by omega)⟩
set_option maxHeartbeats 4000000 in
set_option maxRecDepth 20000 in
theorem Cells_calls (L : List (Int × Nat)) (w : World) (hL : L.length ≤ 48) :
    Calls Try.prog 35 #[.agg (bdL L)] w fun e w' => ∃ v, e = .returned v ∧ RowC 29 w' w.heap.size v L ∧ Below w.heap.size w w' := by
  have q0 := BoxB.new_ w (bdF L) (bdG L) L.length
  have hb := below_alloc1 w (.cells (bdA (bdF L) (bdG L) L.length) 32)
  have hs := bd_sl q0 hL
  have c0 := q0.cn
  have ei : (L.length : Int) ≤ 48 := by omega
  obtain ⟨n, hn⟩ : ∃ n, n = L.length := ⟨_, rfl⟩
  unfold bdL
  rw [← hn] at c0 ei q0 hb ⊢
  rw [← hn] at hs
  have HN := Lib.hid hn
  clear hn
  go_enter Try.func35, Try.ntmps35
  go_wp2_with ((with_reducible refine at_ca 7 _ ?_); refine wpList_appC _ Try.underlying22 cellB_info rfl (.const (.slice none 0 0)) (.tmp 6) rfl w.heap.size (.slice none 0 0) [] rfl (RowC.nil_ _ _ _) w.heap.size _ n 48 L rfl hs HN.out.symm (by simp; omega) (by simp) ?_; intro v' w1 hrow hmod hat; obtain ⟨A', c', b', hv', _⟩ := hrow.sl; subst hv')
  go_ret
  exact ⟨_, rfl, hrow, hb.trans (hmod.below_own (by simp) (fun k hk => by simp [Value.ownBlock] at hk))⟩
end Go.Proofs.Ytioahddobogpjaa
/- The board's calls, over lists of cells; the arms of a walk that meets whole boards. Conditions: a board has 48 cells at most; the cells fit. -/
namespace Go.Proofs.Ytioahddobogpjaa
open Go.RowKit

theorem made_row (w : World) (c cs : Array Value) (t : TypeId) : (w.alloc (.cells c t)).setRow w.heap.size cs = w.alloc (.cells cs t) := by
  unfold World.setRow World.alloc
  congr 1
  apply Array.ext
  · simp
  · intro k h1 h2
    simp only [Array.getElem_modify, Array.getElem_push]
    by_cases h : k < w.heap.size
    · rw [if_neg (by omega), dif_pos h, dif_pos h]
    · have hk : w.heap.size = k := by simp at h2; omega
      rw [if_pos hk, dif_neg h, dif_neg h]
/-- Block b holds the board of these cells. -/
def BoxL (w : World) (b : Nat) (L : List (Int × Nat)) : Prop := w.heap[b]? = some (.cells (bdL L) 32 (0, 0))
namespace BoxL
variable {w w' : World} {b : Nat} {L : List (Int × Nat)}
theorem new_ (w : World) (L : List (Int × Nat)) : BoxL (w.alloc (.cells (bdL L) 32)) w.heap.size L := heap_alloc_new w _
theorem lt (h : BoxL w b L) : b < w.heap.size := (Array.getElem?_eq_some_iff.1 h).1
theorem ext (h : BoxL w b L) (hb : Below w.heap.size w w') : BoxL w' b L := (hb.block b h.lt).trans h
theorem below {B : Nat} (h : BoxL w b L) (hb : Below B w w') (hB : b < B) : BoxL w' b L := (hb.block b hB).trans h
theorem alloc (h : BoxL w b L) (o : Obj) : BoxL (w.alloc o) b L := (Below.heap_alloc w o b h.lt).trans h
theorem other (h : BoxL w b L) {p : Addr} (hp : b ≠ p.block) (u : Value) : BoxL (w.setCell p u) b L := (heap_setCell_other w p b u hp).trans h
theorem row_ (h : BoxL w b L) (M : List (Int × Nat)) : BoxL (w.setRow b (bdL M)) b M := setRow_heap w b _ _ _ _ h
theorem orow (h : BoxL w b L) {b' : Nat} (hp : b ≠ b') (cs : Array Value) : BoxL (w.setRow b' cs) b L := (setRow_other w b' b cs hp).trans h
theorem mod {S : Nat → Prop} (h : BoxL w b L) (hm : Mod S w w') (hs : ¬ S b) : BoxL w' b L := (hm.block b h.lt hs).trans h
end BoxL
section
variable {ops : Array Oper} {rest : List Oper} {o : Oper} {a : Act} {w : World} {Q : Exit → Act → World → Prop}
theorem wpList_ld (hw : Region.wanted o (yielded ops a.tmps) = true) (s : Operand) (ho : o.op = .load 32 s)
    (b : Nat) (hx : a.eval s = .pointer (some ⟨b, 0, none⟩)) (L : List (Int × Nat)) (q : BoxL w b L) (h : wpList Try.prog ops Q rest (a.put o.dst (.agg (bdL L))) w) : wpList Try.prog ops Q (o :: rest) a w :=
  wpList_load_bd hw s ho b hx _ _ _ q h
theorem wpList_al (hg : o.guard = none) (ho : o.op = .alloc 32) (dst : Option Tmp) (hdst : o.dst = dst) (N : Nat) (hN : w.heap.size = N)
    (h : wpList Try.prog ops Q rest (a.put dst (.pointer (some ⟨N, 0, none⟩))) (w.alloc (.cells (bdL []) 32))) : wpList Try.prog ops Q (o :: rest) a w :=
  wpList_alloc_bd hg ho dst hdst N hN h
theorem wpList_st (hg : o.guard = none) (x y : Operand) (ho : o.op = .store 32 x y)
    (b : Nat) (L M : List (Int × Nat)) (hx : a.eval x = .pointer (some ⟨b, 0, none⟩)) (hy : a.eval y = .agg (bdL M)) (q : BoxL w b L)
    (h : wpList Try.prog ops Q rest (a.put o.dst undef) (w.setRow b (bdL M))) : wpList Try.prog ops Q (o :: rest) a w :=
  wpList_store_bd hg x y ho b _ _ _ hx hy _ _ _ q h
/-- The first store into a board's variable that was just made. -/
theorem wpList_put {N : Nat} (hg : o.guard = none) (x y : Operand) (ho : o.op = .store 32 x y) (hN : w.heap.size = N)
    (M : List (Int × Nat)) (hx : a.eval x = .pointer (some ⟨N, 0, none⟩)) (hy : a.eval y = .agg (bdL M))
    (h : wpList Try.prog ops Q rest (a.put o.dst undef) (w.alloc (.cells (bdL M) 32))) : wpList Try.prog ops Q (o :: rest) a (w.alloc (.cells (bdL []) 32)) := by
  subst hN
  refine wpList_st hg x y ho _ [] M hx hy (BoxL.new_ w []) ?_
  rw [made_row]
  exact h
end
theorem View_calls (L : List (Int × Nat)) (o : Int) (w : World) (hL : L.length ≤ 48) (hok : okC L) :
    Calls Try.prog 18 #[.agg (bdL L), .int .i64 o] w fun e w' => e = .returned (.agg (bdL (viewL o L))) ∧ Below w.heap.size w w' := by
  have h := bView_calls (bdF L) (bdG L) L.length o w hL (fun i hi => by rw [bdG_in hi]; exact (okC_get hok hi).2)
  have e : bdA (fun j => if j < L.length ∧ sees (bdG L j) o = false then 0 else bdF L j) (bdG L) L.length = bdL (viewL o L) := by
    unfold bdL
    rw [viewL_length]
    refine bdA_congr (fun j _ => ?_) (fun j _ => ?_)
    · by_cases hj : j < L.length
      · rw [bdF_in (L := viewL o L) (by simpa using hj), bdG_in hj, bdF_in hj]
        simp only [viewL, List.getElem_map, seeC]
        cases h : sees L[j].2 o <;> simp [hj]
      · rw [if_neg (by omega), bdF_out (L := L) (by omega), bdF_out (L := viewL o L) (by simp; omega)]
    · by_cases hj : j < L.length
      · rw [bdG_in (L := viewL o L) (by simpa using hj), bdG_in hj]
        simp [viewL, seeC_lab]
      · rw [bdG_out (L := L) (by omega), bdG_out (L := viewL o L) (by simp; omega)]
  rw [e] at h
  exact h
theorem At_in (L : List (Int × Nat)) (i : Nat) (w : World) (hL : L.length ≤ 48) (hi : i < L.length) :
    Calls Try.prog 31 #[.agg (bdL L), .int .i64 i] w fun e w' => e = .returned (.tuple #[.agg #[.int .i32 L[i].1, .int .u32 ((L[i].2 : Nat) : Int)], .bool true]) ∧ Below w.heap.size w w' := by
  have h := bAt_in (bdF L) (bdG L) L.length i w hi hL
  rw [bdF_in hi, bdG_in hi] at h
  exact h
theorem At_out (L : List (Int × Nat)) (i : Int) (w : World) (hi : ¬(0 ≤ i ∧ i < (L.length : Int))) :
    Calls Try.prog 31 #[.agg (bdL L), .int .i64 i] w fun e w' => e = .returned (.tuple #[.agg #[.int .i32 0, .int .u32 0], .bool false]) ∧ Below w.heap.size w w' :=
  bAt_out _ _ _ i w hi
theorem Put_in (L : List (Int × Nat)) (i : Nat) (x : Int) (y : Nat) (w : World) (hL : L.length ≤ 48) (hi : i < L.length) :
    Calls Try.prog 32 #[.agg (bdL L), .int .i64 i, .agg #[.int .i32 x, .int .u32 (y : Int)]] w fun e w' => e = .returned (.tuple #[.agg (bdL (L.set i (x, y))), .int .i64 0]) ∧ Below w.heap.size w w' := by
  have h := bPut_in (bdF L) (bdG L) L.length i x y w hi hL
  rw [bdL_set (x, y) hi] at h
  exact h
theorem Put_out (L : List (Int × Nat)) (i : Int) (x : Int) (y : Nat) (w : World) (hi : ¬(0 ≤ i ∧ i < (L.length : Int))) :
    Calls Try.prog 32 #[.agg (bdL L), .int .i64 i, .agg #[.int .i32 x, .int .u32 (y : Int)]] w fun e w' => e = .returned (.tuple #[.agg (bdL L), .int .i64 7]) ∧ Below w.heap.size w w' :=
  bPut_out _ _ _ i x y w hi
theorem Len_calls (L : List (Int × Nat)) (w : World) :
    Calls Try.prog 44 #[.agg (bdL L)] w fun e w' => e = .returned (.int .i64 (L.length : Int)) ∧ Below w.heap.size w w' := bLen_calls _ _ _ w
end Go.Proofs.Ytioahddobogpjaa
/- The law on append at slices of bytes, in this program's numbers. Condition: the sum of the lengths fits. -/
namespace Go.Proofs.Ytioahddobogpjaa
open Go.RowKit

theorem byte_info : (Try.prog.info? 5).map (fun i => (i.zero, i.size, i.bytes)) = some (some (.int .u8 0), 1, 1) := by kernel_rfl

/-- The slice value v is the call's own (its block not below B), and holds the bytes l. -/
abbrev Row (w : World) (B : Nat) (v : Value) (l : List UInt8) : Prop := w.ownsRow B 5 1 v l.length (bv l)

theorem Row.nil_ (w : World) (B : Nat) : Row w B (.slice none 0 0) [] := World.ownsRow_nil _ _ _ _
theorem Row.cast {w : World} {B : Nat} {v : Value} {l l' : List UInt8} (h : Row w B v l) (e : l = l') : Row w B v l' := e ▸ h
theorem Row.lt {w : World} {B : Nat} {v : Value} {l : List UInt8} (h : Row w B v l) : ∀ k, v.ownBlock = some k → B ≤ k ∧ k < w.heap.size := World.ownsRow.lt h
theorem Row.mod {w w' : World} {B : Nat} {v : Value} {l : List UInt8} (h : Row w B v l) {S : Nat → Prop} (hm : Mod S w w') (hs : ∀ k, v.ownBlock = some k → ¬ S k) : Row w' B v l := by
  refine ⟨h.1, ?_⟩
  rcases h.2 with h2 | ⟨g, cap, cur, rfl, hg, hh, r⟩
  · exact .inl h2
  · exact .inr ⟨g, cap, cur, rfl, hg, by rw [hm.block g (Array.getElem?_eq_some_iff.1 hh).1 (hs g rfl)]; exact hh, r⟩
theorem Row.ext {w w' : World} {B : Nat} {v : Value} {l : List UInt8} (h : Row w B v l) (hm : Below w.heap.size w w') : Row w' B v l :=
  h.mod (Mod.of_below hm) fun k hk => by have := (h.lt k hk).2; omega
theorem Row.low {w : World} {B B' : Nat} {v : Value} {l : List UInt8} (h : Row w B v l) (hB : B' ≤ B) : Row w B' v l := by
  refine ⟨h.1, ?_⟩
  rcases h.2 with h2 | ⟨g, cap, cur, rfl, hg, r⟩
  · exact .inl h2
  · exact .inr ⟨g, cap, cur, rfl, by omega, r⟩
/-- What it reads as. -/
theorem Row.sl {w : World} {B : Nat} {v : Value} {l : List UInt8} (h : Row w B v l) : ∃ A c b, v = .slice A l.length c ∧ l.length ≤ c ∧ c ≤ maxLen ∧ (A = none → c = 0) ∧ B ≤ b ∧ Bs w b A l ∧ (∀ k, v.ownBlock = some k → k = b) := by
  rcases h.2 with ⟨rfl, hn⟩ | ⟨g, cap, cur, rfl, hb, _, hnc, hcm, _⟩
  · have hl : l = [] := List.eq_nil_of_length_eq_zero hn
    subst hl
    exact ⟨none, 0, B, rfl, Nat.le_refl _, by simp [maxLen], fun _ => rfl, Nat.le_refl _, Sl.nil_ _ _ _, by simp [Value.ownBlock]⟩
  · refine ⟨_, cap, g, rfl, hnc, hcm, by simp, hb, fun _ => ⟨0, rfl, fun j u hu => ?_⟩, by simp [Value.ownBlock]⟩
    have := h.cells (g := g) rfl j u hu
    simpa [Addr.add_lit] using this

theorem Row.blk_sl {w : World} {B n c b : Nat} {v : Value} {A : Option Addr} {l : List UInt8} (h : Row w B v l) (hv : v = .slice A n c) (hs : Bs w b A l) (hl : l ≠ []) : ∃ cur, w.heap[b]? = some (.cells cur 5 (0, 0)) := by
  obtain ⟨off, hA, _⟩ := hs (by rw [ne_eq, bv_nil_iff]; exact hl)
  rcases h.2 with ⟨_, hn⟩ | ⟨g, cap, cur, hg, _, hh, _⟩
  · exact absurd (List.eq_nil_of_length_eq_zero hn) hl
  · rw [hv] at hg
    injection hg with h1 _ _
    rw [hA] at h1
    injection h1 with h1
    injection h1 with h1 _ _
    subst h1
    exact ⟨cur, hh⟩
theorem Bs.modne {w w' : World} {b : Nat} {A : Option Addr} {l : List UInt8} (h : Bs w b A l) {S : Nat → Prop} (hm : Mod S w w') (hs : l ≠ [] → ¬ S b) : Bs w' b A l := by
  by_cases hl : l = []
  · subst hl; exact Sl.nil_ _ _ _
  · exact Sl.mod h hm (hs hl)
theorem Bs.lt {w : World} {b : Nat} {A : Option Addr} {l : List UInt8} (h : Bs w b A l) (hl : l ≠ []) : b < w.heap.size := Sl.lt h (by rw [ne_eq, bv_nil_iff]; exact hl)
/-- One of its bytes, written. -/
theorem Bs.set_ {w : World} {b off k : Nat} {l : List UInt8} {cur : Array Value} {t : TypeId} {q : UInt8} (hg : w.heap[b]? = some (.cells cur t (0, 0))) (h : Bs w b (some ⟨b, off, none⟩) l) (hk : k < l.length) :
    Bs (w.setCell ⟨b, off + k, none⟩ (.int .u8 (q.toNat : Int))) b (some ⟨b, off, none⟩) (l.set k q) ∧ (w.setCell ⟨b, off + k, none⟩ (.int .u8 (q.toNat : Int))).heap[b]? = some (.cells (cur.setIfInBounds (off + k) (.int .u8 (q.toNat : Int))) t (0, 0)) := by
  have h2 := heap_setCell_same w b (off + k) cur t (.int .u8 (q.toNat : Int)) hg
  refine ⟨fun _ => ⟨off, rfl, fun j u hu => ?_⟩, h2⟩
  rw [cell_of_row _ _ _ _ _ _ h2]
  have hj : j < l.length := by
    have := (List.getElem?_eq_some_iff.1 hu).1
    simpa using this
  obtain ⟨off', hA, hc⟩ := Bs.at_ h hj
  injection hA with hA
  injection hA with _ hA _
  subst hA
  have h3 := hc j hj
  rw [cell_of_row _ _ _ _ _ _ hg] at h3
  have hsz : off + j < cur.size := (Array.getElem?_eq_some_iff.1 h3).1
  have hsz2 : off + k < cur.size := by
    have h4 := hc k hk
    rw [cell_of_row _ _ _ _ _ _ hg] at h4
    exact (Array.getElem?_eq_some_iff.1 h4).1
  have hu2 : u = .int .u8 (((l.set k q)[j]'(by simpa using hj)).toNat : Int) := by
    have h5 : (bv (l.set k q))[j]? = some ((bv (l.set k q))[j]'(by simpa using hj)) := List.getElem?_eq_getElem _
    rw [h5, bv_get] at hu
    injection hu with hu
    exact hu.symm
  rw [hu2, Array.getElem?_setIfInBounds]
  by_cases e : j = k
  · subst e
    simp [hsz2]
  · rw [if_neg (by omega), h3, List.getElem_set_ne (by omega)]

section
variable (w : World)
theorem wpList_app {ops : Array Oper} {rest : List Oper} {o : Oper} {a : Act} {Q : Exit → Act → World → Prop} (hgd : o.guard = none) (s x : Operand)
    (ho : o.op = .call { callee := .builtin .append, args := #[s, x], argTypes := #[36, 36] })
    (B : Nat) (v : Value) (l : List UInt8) (hs : a.eval s = v) (hown : Row w B v l)
    (b : Nat) (A : Option Addr) (m c : Nat) (news : List UInt8) (hx : a.eval x = .slice A m c) (hr : Bs w b A news) (hm : news.length = m)
    (hlen : l.length + m ≤ 140737488355328) (hbase : B ≤ w.heap.size)
    (h : ∀ v' w', Row w' B v' (l ++ news) → Mod (fun i => v.ownBlock = some i) w w' → (v'.ownBlock = v.ownBlock ∨ v'.ownBlock = some w.heap.size) → wpList Try.prog ops Q rest (a.put o.dst v') w') : wpList Try.prog ops Q (o :: rest) a w := by
  obtain ⟨i0, hi0, hz0, hz1, hz2⟩ := info_parts byte_info
  refine wpList_append_sl (P := Try.prog) w hgd s x _ ho B 5 i0 _ 1 1 Try.underlying36 hi0 hz0 hz1 hz2 rfl (by omega) v l.length (bv l) hs hown b A m c (bv news) hx hr (by simp [hm]) (Sl.none_len hr (by simp [hm])) (bv_one _)
    (by simp only [maxLen]; omega) (by omega) hbase ?_
  intro v' w' h1 h2 h3
  exact h v' w' (by unfold Row; rw [List.length_append, hm, bv_append]; exact h1) (Mod.of_grown h2) h3

/-- append(out, x) of one byte, which lies in a new block of its own. -/
theorem wpList_app1 {u : Value} {ops : Array Oper} {rest : List Oper} {o : Oper} {a : Act} {Q : Exit → Act → World → Prop} (hgd : o.guard = none) (s x : Operand)
    (ho : o.op = .call { callee := .builtin .append, args := #[s, x], argTypes := #[36, 36] })
    (B : Nat) (v : Value) (l : List UInt8) (hs : a.eval s = v) (hown : Row w B v l)
    (q : UInt8) (hu : u = .int .u8 (q.toNat : Int)) (hx : a.eval x = .slice (some ⟨w.heap.size, 0, none⟩) 1 1)
    (hlen : l.length + 1 ≤ 140737488355328) (hbase : B ≤ w.heap.size)
    (h : ∀ v' w', Row w' B v' (l ++ [q]) → Mod (fun i => v.ownBlock = some i) w w' → (v'.ownBlock = v.ownBlock ∨ ∃ k, v'.ownBlock = some k ∧ w.heap.size ≤ k) → wpList Try.prog ops Q rest (a.put o.dst v') w') : wpList Try.prog ops Q (o :: rest) a (w.alloc (.cells #[u] 5)) := by
  subst hu
  refine wpList_app (w.alloc (.cells #[.int .u8 (q.toNat : Int)] 5)) hgd s x ho B v l hs (World.ownsRow.alloc hown _) w.heap.size _ 1 1 [q] hx (Sl.one_new w _ _) rfl hlen (by simp; omega) ?_
  intro v' w' h1 h2 h3
  refine h v' w' h1 ((Mod.alloc (fun _ => False) w _).trans h2 (fun i _ h => h.elim) (fun i _ h => h)) (h3.imp id fun h => ⟨_, h, by simp⟩)
end
end Go.Proofs.Ytioahddobogpjaa
/- The reference's Join: lists of bytes behind one another, in new memory; nothing that was there turns. Condition: the sum of the lengths fits. -/
namespace Go.Proofs.Ytioahddobogpjaa
open Go.RowKit

/-- Values that are slices of bytes, and what they read as. -/
def Bss (w : World) (vs : List Value) (ls : List (List UInt8)) : Prop :=
  vs.length = ls.length ∧ ∀ (i : Nat) (l : List UInt8), ls[i]? = some l → ∃ A c b, vs[i]? = some (Value.slice A l.length c) ∧ Bs w b A l

theorem Bss.ext {w w' : World} {vs : List Value} {ls : List (List UInt8)} (h : Bss w vs ls) (hm : Below w.heap.size w w') : Bss w' vs ls :=
  ⟨h.1, fun i l hl => by
    obtain ⟨A, c, b, h1, h2⟩ := h.2 i l hl
    exact ⟨A, c, b, h1, Sl.ext h2 hm⟩⟩
theorem Bss.nil_ (w : World) : Bss w [] [] := ⟨rfl, fun i l h => by simp at h⟩
theorem Bss.cons {w : World} {vs : List Value} {ls : List (List UInt8)} {A : Option Addr} {l : List UInt8} {n c b : Nat} (h : Bs w b A l) (hn : l.length = n) (r : Bss w vs ls) : Bss w (Value.slice A n c :: vs) (l :: ls) :=
  ⟨by simp [r.1], fun i x hx => by
    cases i with
    | zero =>
      simp at hx
      subst hx
      exact ⟨A, c, b, by simp [hn], h⟩
    | succ i =>
      obtain ⟨A', c', b', h1, h2⟩ := r.2 i x (by simpa using hx)
      exact ⟨A', c', b', by simpa using h1, h2⟩⟩

theorem flatten_take_succ (ls : List (List UInt8)) (k : Nat) (h : k < ls.length) : (ls.take (k + 1)).flatten = (ls.take k).flatten ++ ls[k] := by
  rw [List.take_succ_eq_append_getElem h]
  simp only [List.flatten_append, List.flatten_cons, List.flatten_nil, List.append_nil]
theorem flatten_take_le (ls : List (List UInt8)) (k : Nat) : (ls.take k).flatten.length ≤ ls.flatten.length := by
  have : (ls.take k).flatten ++ (ls.drop k).flatten = ls.flatten := by rw [← List.flatten_append, List.take_append_drop]
  rw [← this]
  simp

set_option maxHeartbeats 400000 in
theorem Join_calls (A : Option Addr) (vs : List Value) (ls : List (List UInt8)) (n c b : Nat) (w : World) (hs : Sl w b A vs) (hv : Bss w vs ls) (hn : ls.length = n) (h1 : n ≤ maxLen) (h2 : ls.flatten.length ≤ 140737488355328) :
    Calls Try.prog 25 #[.slice A n c] w fun e w' => ∃ v, e = .returned v ∧ Row w' w.heap.size v ls.flatten ∧ Below w.heap.size w w' := by
  unfold maxLen at h1
  have HN := Lib.hid hn
  have HL := Lib.hid h2
  clear hn h2
  go_enter Try.func25, Try.ntmps25
  go_wp2
  go_loopw [3, 8] (fun v i wr => ∃ k : Nat, k ≤ n ∧ i = .int .i64 k ∧ Row wr w.heap.size v (ls.take k).flatten ∧ Below w.heap.size w wr) (fun _ i _ => n - (intOf i).toNat)
  case atStart => exact ⟨0, Nat.zero_le _, rfl, by simpa using Row.nil_ _ _, Below.refl _ _⟩
  case round =>
    obtain ⟨k, hk, rfl, hown, hb⟩ := hrel
    by_cases hlt : k < n
    · have hkl : k < ls.length := by rw [HN.out]; exact hlt
      obtain ⟨A1, c1, b1, hv1, hs1⟩ := (hv.ext hb).2 k ls[k] (List.getElem?_eq_getElem hkl)
      obtain ⟨oa, rfl, hca⟩ := (Sl.ext hs hb) (by rintro rfl; simp at hv1)
      have ca := hca k _ hv1
      have hbs : w.heap.size ≤ wr.heap.size := hb.size
      obtain ⟨q, hq⟩ : ∃ q, q = ls[k] := ⟨_, rfl⟩
      rw [← hq] at ca hs1
      have e1 := Lib.hid (flatten_take_succ ls k hkl)
      have hle : (ls.take k).flatten.length + q.length ≤ 140737488355328 := by
        have h3 := flatten_take_le ls (k + 1)
        have h4 := HL.out
        rw [e1.out, ← hq] at h3
        simp only [List.length_append] at h3
        omega
      have HQ := Lib.hid hq
      clear hca hv1 hq
      go_wp2_with (at_builtin; refine wpList_app wr rfl (.tmp 12) (.tmp 13) rfl w.heap.size _ _ rfl hown b1 A1 q.length c1 q rfl hs1 rfl hle hbs ?_; intro v' w1 hown' hmod _)
      go_roundw
      case rel => exact ⟨k + 1, by omega, by go_num, hown'.cast (by rw [e1.out, HQ.out]), hb.trans (hmod.below hbs (fun i hi hv => by have := (hown.lt i hv).1; omega))⟩
      case measure => simp [intOf]; omega
    · go_wp2
      go_ret
      refine ⟨_, rfl, hown.cast ?_, hb⟩
      have := HN.out
      rw [List.take_of_length_le (by omega)]
end Go.Proofs.Ytioahddobogpjaa
/- The reference's Low and Value: a number's bytes, the lowest first, and back. Conditions: the numbers fit 64 bits. -/
namespace Go.Proofs.Ytioahddobogpjaa
open Go.RowKit

def low (n k : Nat) : List UInt8 := (List.range k).map fun i => UInt8.ofNat (n / 256 ^ i)
theorem low_succ (n k : Nat) : low n (k + 1) = low n k ++ [UInt8.ofNat (n / 256 ^ k)] := by simp [low, List.range_succ]
@[simp] theorem low_length (n k : Nat) : (low n k).length = k := by simp [low]

set_option maxHeartbeats 400000 in
theorem Low_calls (n : Nat) (s : Int) (w : World) (hn : n ≤ 18446744073709551615) (h0 : 0 ≤ s) (h1 : s ≤ 1000) :
    Calls Try.prog 50 #[.int .u64 n, .int .i64 s] w fun e w' => ∃ v, e = .returned v ∧ Row w' w.heap.size v (low n s.toNat) ∧ Below w.heap.size w w' := by
  obtain ⟨t, rfl⟩ := Int.eq_ofNat_of_zero_le h0
  rw [Int.toNat_natCast]
  go_enter Try.func50, Try.ntmps50
  go_wp2
  go_loopw [0, 5, 6] (fun x v i wr => ∃ k m : Nat, k ≤ t ∧ i = .int .i64 k ∧ x = .int .u64 m ∧ Hid (m = n / 256 ^ k) ∧ m ≤ n ∧ Row wr w.heap.size v (low n k) ∧ Below w.heap.size w wr) (fun _ _ i _ => t - (intOf i).toNat)
  case atStart => exact ⟨0, n, Nat.zero_le _, rfl, rfl, Lib.hid (by simp), Nat.le_refl _, by simpa [low] using Row.nil_ _ _, Below.refl _ _⟩
  case round =>
    obtain ⟨k, m, hk, rfl, rfl, hm, hmn, hown, hb⟩ := hrel
    by_cases hlt : k < t
    · have hbs : w.heap.size ≤ wr.heap.size := hb.size
      have hle : (low n k).length + 1 ≤ 140737488355328 := by simp; omega
      have e2 := Lib.hid (u8_ofNat m)
      go_wp2_with (at_builtin; refine wpList_app1 wr rfl (.tmp 12) (.tmp 16) rfl w.heap.size _ _ rfl hown (UInt8.ofNat m) (by rw [e2.out]) rfl hle hbs ?_; intro v' w1 hown' hmod _)
      go_roundw
      case rel =>
        refine ⟨k + 1, m / 256, by omega, by go_num, by go_num, Lib.hid ?_, by omega, hown'.cast ?_, hb.trans (hmod.below hbs (fun i hi hv => by have := (hown.lt i hv).1; omega))⟩
        · rw [hm.out, Nat.div_div_eq_div_mul, Nat.pow_succ]
        · rw [low_succ, hm.out]
      case measure => simp [intOf]; omega
    · go_wp2
      go_ret
      refine ⟨_, rfl, hown.cast ?_, hb⟩
      rw [show k = t by omega]

def valN (l : List UInt8) : Nat := l.foldr (fun x acc => 256 * acc + x.toNat) 0
theorem valN_cons (x : UInt8) (l : List UInt8) : valN (x :: l) = 256 * valN l + x.toNat := rfl
theorem valN_lt (l : List UInt8) : valN l < 256 ^ l.length := by
  induction l with
  | nil => simp [valN]
  | cons x l ih =>
    rw [valN_cons, List.length_cons, Nat.pow_succ]
    have := x.toNat_lt
    omega
theorem valN_drop (l : List UInt8) (k : Nat) (h : k < l.length) : valN (l.drop k) = 256 * valN (l.drop (k + 1)) + l[k].toNat := by
  rw [List.drop_eq_getElem_cons h, valN_cons]
end Go.Proofs.Ytioahddobogpjaa
/- Sums, in plain numbers: a sum's step is linear, whole bytes go in at once, and what is not nought and of at most 32 bits leaves a trace. No condition beyond the widths said. -/
namespace Go.Proofs.Ytioahddobogpjaa

/-- One bit's step of a sum. -/
def bitStep (s : Nat) : Nat := s / 2 ^^^ (if s % 2 = 1 then 2197175160 else 0)
def crcBits : Nat → Nat → Nat
  | 0, s => s
  | k + 1, s => crcBits k (bitStep s)
theorem crcBits_add (j k s : Nat) : crcBits (j + k) s = crcBits k (crcBits j s) := by
  induction j generalizing s with
  | zero => simp [crcBits]
  | succ j ih => rw [Nat.succ_add]; exact ih _
theorem crcBits_succ (k s : Nat) : crcBits (k + 1) s = bitStep (crcBits k s) := by rw [crcBits_add k 1]; rfl
theorem xor_odd (a b : Nat) : (a ^^^ b) % 2 = (a + b) % 2 := by
  have h := Nat.xor_mod_two_pow (a := a) (b := b) (n := 1)
  rw [Nat.pow_one] at h
  rw [h]
  have ha : a % 2 = 0 ∨ a % 2 = 1 := by omega
  have hb : b % 2 = 0 ∨ b % 2 = 1 := by omega
  rcases ha with ha | ha <;> rcases hb with hb | hb <;> rw [ha, hb] <;> simp <;> omega
theorem bitStep_xor (a b : Nat) : bitStep (a ^^^ b) = bitStep a ^^^ bitStep b := by
  unfold bitStep
  rw [Nat.xor_div_two, xor_odd]
  have ha : a % 2 = 0 ∨ a % 2 = 1 := by omega
  have hb : b % 2 = 0 ∨ b % 2 = 1 := by omega
  have e : ∀ x y z : Nat, x ^^^ z ^^^ (y ^^^ z) = x ^^^ y := fun x y z => by
    rw [Nat.xor_assoc, ← Nat.xor_assoc z y z, Nat.xor_comm z y, Nat.xor_assoc y z z, Nat.xor_self, Nat.xor_zero]
  rcases ha with ha | ha <;> rcases hb with hb | hb
  · rw [if_neg (by omega), if_neg (by omega), if_neg (by omega)]; simp
  · rw [if_pos (by omega), if_neg (by omega), if_pos hb, Nat.xor_zero, Nat.xor_assoc]
  · rw [if_pos (by omega), if_pos ha, if_neg (by omega), Nat.xor_zero, Nat.xor_assoc, Nat.xor_assoc, Nat.xor_comm (b / 2)]
  · rw [if_neg (by omega), if_pos ha, if_pos hb, Nat.xor_zero, e]
theorem crcBits_xor (k a b : Nat) : crcBits k (a ^^^ b) = crcBits k a ^^^ crcBits k b := by
  induction k generalizing a b with
  | zero => rfl
  | succ k ih => show crcBits k (bitStep (a ^^^ b)) = crcBits k (bitStep a) ^^^ crcBits k (bitStep b); rw [bitStep_xor]; exact ih _ _
theorem crcBits_shift (k m : Nat) : crcBits k (2 ^ k * m) = m := by
  induction k with
  | zero => simp [crcBits]
  | succ k ih =>
    show crcBits k (bitStep (2 ^ (k + 1) * m)) = m
    have h : 2 ^ (k + 1) * m = 2 * (2 ^ k * m) := by rw [Nat.pow_succ, Nat.mul_comm (2 ^ k) 2, Nat.mul_assoc]
    have h2 : bitStep (2 ^ (k + 1) * m) = 2 ^ k * m := by
      unfold bitStep
      rw [h, if_neg (by omega), Nat.xor_zero, Nat.mul_div_cancel_left _ (by omega)]
    rw [h2, ih]
theorem bitStep_lt {s : Nat} (h : s < 2 ^ 32) : bitStep s < 2 ^ 32 := by
  unfold bitStep
  refine Nat.xor_lt_two_pow (by omega) ?_
  split <;> omega
theorem crcBits_lt {s : Nat} (k : Nat) (h : s < 2 ^ 32) : crcBits k s < 2 ^ 32 := by
  induction k generalizing s with
  | zero => exact h
  | succ k ih => exact ih (bitStep_lt h)
theorem bitStep_nought {s : Nat} (h : s < 2 ^ 32) (h0 : bitStep s = 0) : s = 0 := by
  unfold bitStep at h0
  by_cases ho : s % 2 = 1
  · exfalso
    rw [if_pos ho] at h0
    have h1 : (s / 2 ^^^ 2197175160).testBit 31 = true := by
      rw [Nat.testBit_xor, Nat.testBit_lt_two_pow (show s / 2 < 2 ^ 31 by omega)]
      decide
    rw [h0] at h1
    simp at h1
  · rw [if_neg ho, Nat.xor_zero] at h0
    omega
theorem crcBits_nought {s : Nat} (k : Nat) (h : s < 2 ^ 32) (h0 : crcBits k s = 0) : s = 0 := by
  induction k generalizing s with
  | zero => exact h0
  | succ k ih => exact bitStep_nought h (ih (bitStep_lt h) h0)
/-- What is not nought and of at most 32 bits leaves a trace. -/
theorem crcBits_burst {n j m : Nat} (hj : j ≤ n) (h : m < 2 ^ 32) (h0 : crcBits n (2 ^ j * m) = 0) : m = 0 := by
  obtain ⟨i, rfl⟩ : ∃ i, n = j + i := ⟨n - j, by omega⟩
  rw [crcBits_add, crcBits_shift] at h0
  exact crcBits_nought i h h0

/-- A sum's step by one byte, and by a text. -/
def step8 (s : Nat) (b : Nat) : Nat := crcBits 8 (s ^^^ b)
def crc (s : Nat) (l : List UInt8) : Nat := l.foldl (fun s b => step8 s b.toNat) s
theorem crc_append (s : Nat) (l m : List UInt8) : crc s (l ++ m) = crc (crc s l) m := by simp [crc, List.foldl_append]
theorem crc_cons (s : Nat) (b : UInt8) (l : List UInt8) : crc s (b :: l) = crc (step8 s b.toNat) l := rfl
theorem low_byte (a b : Nat) (h : b < 256) : 256 * a + b = (256 * a) ^^^ b := by
  apply Nat.eq_of_testBit_eq
  intro i
  have h1 := Nat.testBit_two_pow_mul_add a (b := b) (i := 8) h i
  have h2 := Nat.testBit_two_pow_mul (i := 8) (a := a) (j := i)
  rw [Nat.testBit_xor]
  rw [show (2 : Nat) ^ 8 = 256 by rfl] at h1 h2
  rw [h1, h2]
  by_cases hi : i < 8
  · rw [if_pos hi]; simp [show ¬ i ≥ 8 by omega]
  · rw [if_neg hi]
    have h3 : b.testBit i = false := Nat.testBit_lt_two_pow (Nat.lt_of_lt_of_le h (by have := Nat.pow_le_pow_right (n := 2) (by omega) (show 8 ≤ i by omega); simpa using this))
    simp [show i ≥ 8 by omega, h3]
/-- A text's sum is that of its number, as many bits on. -/
theorem crc_val (s : Nat) (l : List UInt8) : crc s l = crcBits (8 * l.length) (s ^^^ valN l) := by
  induction l generalizing s with
  | nil => simp [crc, valN, crcBits]
  | cons b l ih =>
    rw [crc_cons, ih, valN_cons, List.length_cons]
    rw [show 8 * (l.length + 1) = 8 + 8 * l.length by omega, crcBits_add]
    congr 1
    rw [low_byte _ _ (by have := b.toNat_lt; omega), step8, Nat.xor_comm (256 * valN l), ← Nat.xor_assoc, crcBits_xor 8 (s ^^^ b.toNat)]
    congr 1
    exact (crcBits_shift 8 (valN l)).symm
theorem step8_lt {s b : Nat} (h : s < 2 ^ 32) (hb : b < 256) : step8 s b < 2 ^ 32 := crcBits_lt 8 (Nat.xor_lt_two_pow h (by omega))
theorem crc_lt {s : Nat} (l : List UInt8) (h : s < 2 ^ 32) : crc s l < 2 ^ 32 := by
  induction l generalizing s with
  | nil => exact h
  | cons b l ih => exact ih (step8_lt h (by have := b.toNat_lt; omega))
/-- The step by a table. -/
theorem step8_table (s b : Nat) : step8 s b = s / 256 ^^^ step8 0 (s % 256 ^^^ b) := by
  have h1 : s = 256 * (s / 256) ^^^ s % 256 := by rw [← low_byte _ _ (by omega)]; omega
  unfold step8
  conv => lhs; rw [h1]
  rw [Nat.xor_assoc, crcBits_xor, Nat.zero_xor]
  congr 1
  exact crcBits_shift 8 _
theorem low_first (n k : Nat) : low n (k + 1) = UInt8.ofNat n :: low (n / 256) k := by
  simp only [low, List.range_succ_eq_map, List.map_cons, List.map_map, Nat.pow_zero, Nat.div_one]
  congr 1
  apply List.map_congr_left
  intro i _
  simp only [Function.comp, Nat.pow_succ]
  rw [Nat.mul_comm, Nat.div_div_eq_div_mul]
theorem valN_low (n k : Nat) : valN (low n k) = n % 256 ^ k := by
  induction k generalizing n with
  | zero => simp [low, valN, Nat.mod_one]
  | succ k ih =>
    rw [low_first, valN_cons, ih, Nat.pow_succ, Nat.mul_comm (256 ^ k), Nat.mod_mul]
    simp
    omega
/-- A number of four bytes, given in as a text, is given in at once. -/
theorem crc_low {s v : Nat} (hv : v < 2 ^ 32) : crc s (low v 4) = crcBits 32 (s ^^^ v) := by
  rw [crc_val, low_length, valN_low, Nat.mod_eq_of_lt (by simpa using hv)]
/-- Two texts of one length that differ by at most 32 bits in a row, from the bit j on, have unlike sums. -/
theorem crc_burst {s : Nat} {l m : List UInt8} {j d : Nat} (hl : l.length = m.length) (hj : j ≤ 8 * l.length) (hd : d < 2 ^ 32) (hx : valN l ^^^ valN m = 2 ^ j * d) (he : crc s l = crc s m) : d = 0 := by
  rw [crc_val, crc_val, ← hl, crcBits_xor, crcBits_xor _ _ (valN m)] at he
  refine crcBits_burst hj hd ?_
  rw [← hx, crcBits_xor]
  have h2 := congrArg (crcBits (8 * l.length) s ^^^ ·) he
  simp only [← Nat.xor_assoc, Nat.xor_self, Nat.zero_xor] at h2
  rw [h2, Nat.xor_self]
theorem xor_nought {a b : Nat} (h : a ^^^ b = 0) : a = b := by
  have h2 : a ^^^ b ^^^ b = 0 ^^^ b := by rw [h]
  rwa [Nat.xor_assoc, Nat.xor_self, Nat.xor_zero, Nat.zero_xor] at h2
theorem flip_xor {x : Nat} (h : x < 2 ^ 32) : 4294967295 - x = 4294967295 ^^^ x := by
  apply Nat.eq_of_testBit_eq
  intro i
  have h1 := Nat.testBit_two_pow_sub_succ h i
  have h2 : (4294967295 : Nat).testBit i = decide (i < 32) := Nat.testBit_two_pow_sub_one 32 i
  rw [Nat.testBit_xor, h2, show 4294967295 - x = 2 ^ 32 - (x + 1) by omega, h1]
  by_cases hi : i < 32
  · simp [hi]
  · have h3 : x.testBit i = false := Nat.testBit_lt_two_pow (Nat.lt_of_lt_of_le h (Nat.pow_le_pow_right (by omega) (by omega)))
    simp [hi, h3]
/-- A text's sum. -/
def sumN (l : List UInt8) : Nat := 4294967295 - crc 4294967295 l
theorem sumN_lt (l : List UInt8) : sumN l < 2 ^ 32 := by unfold sumN; omega
theorem sumN_inj {l m : List UInt8} : sumN l = sumN m ↔ crc 4294967295 l = crc 4294967295 m := by
  have h1 := crc_lt (s := 4294967295) l (by omega)
  have h2 := crc_lt (s := 4294967295) m (by omega)
  unfold sumN
  omega
/-- What ends in its sum: just what leaves the one rest. -/
theorem opens_iff {p t : List UInt8} (ht : t.length = 4) : valN t = sumN p ↔ crc 4294967295 (p ++ t) = crcBits 32 4294967295 := by
  have hc := crc_lt (s := 4294967295) p (by omega)
  have hv : valN t < 2 ^ 32 := by have := valN_lt t; rw [ht] at this; simpa using this
  rw [crc_append, crc_val _ t, ht]
  unfold sumN
  rw [flip_xor hc]
  obtain ⟨c, hcc⟩ : ∃ c, c = crc 4294967295 p := ⟨_, rfl⟩
  rw [← hcc] at hc ⊢
  constructor
  · intro h
    rw [h, Nat.xor_comm 4294967295 c, ← Nat.xor_assoc, Nat.xor_self, Nat.zero_xor]
  · intro h
    have h1 : crcBits 32 (c ^^^ valN t ^^^ 4294967295) = 0 := by rw [crcBits_xor, h, Nat.xor_self]
    have h2 := crcBits_nought 32 (Nat.xor_lt_two_pow (Nat.xor_lt_two_pow hc hv) (by omega)) h1
    have h3 := xor_nought h2
    rw [← h3, Nat.xor_comm c, Nat.xor_assoc, Nat.xor_self, Nat.xor_zero]
/-- What is sealed, with at most 32 bits in a row turned, opens just if none was. -/
theorem opens_burst {q m : List UInt8} {j d : Nat} (hq : crc 4294967295 q = crcBits 32 4294967295) (hl : q.length = m.length) (hj : j ≤ 8 * q.length) (hd : d < 2 ^ 32) (hx : valN q ^^^ valN m = 2 ^ j * d) : crc 4294967295 m = crcBits 32 4294967295 ↔ d = 0 := by
  constructor
  · intro h
    exact crc_burst hl hj hd hx (hq.trans h.symm)
  · intro h
    subst h
    have h1 := xor_nought (hx.trans (Nat.mul_zero _))
    rw [← hq, crc_val, crc_val, hl, h1]
end Go.Proofs.Ytioahddobogpjaa
/- Step: a sum behind one more byte is the plain step. Condition: the sum fits 32 bits. -/
namespace Go.Proofs.Ytioahddobogpjaa
open Go.RowKit

theorem bitStep_go (m : Nat) (h : m < 2 ^ 32) : bits .xor .u32 ((m : Int) / 2) (bits .and .u32 (m : Int) 1 * 2197175160 % 4294967296) = ((bitStep m : Nat) : Int) := by
  have h1 : bits .and .u32 (m : Int) 1 = ((m % 2 : Nat) : Int) := by
    rw [show (1 : Int) = ((1 : Nat) : Int) from rfl, u32_and_nat m 1 (by omega) (by omega), Nat.and_one_is_mod]
  have h2 : ((m % 2 : Nat) : Int) * 2197175160 % 4294967296 = ((if m % 2 = 1 then 2197175160 else 0 : Nat) : Int) := by
    split <;> omega
  rw [h1, h2, show ((m : Int) / 2) = ((m / 2 : Nat) : Int) by omega, u32_xor_nat _ _ (by omega) (by split <;> omega)]
  rfl
set_option maxHeartbeats 1000000 in
set_option maxRecDepth 20000 in
theorem Step_calls (s : Nat) (b : Nat) (w : World) (hs : s < 2 ^ 32) (hb : b < 256) :
    Calls Try.prog 67 #[.int .u32 s, .int .u8 b] w fun e w' => e = .returned (.int .u32 (step8 s b : Nat)) ∧ w = w' := by
  have e0 : bits .xor .u32 (s : Int) (b : Int) = ((s ^^^ b : Nat) : Int) := u32_xor_nat s b (by omega) (by omega)
  have l0 : s ^^^ b < 2 ^ 32 := Nat.xor_lt_two_pow hs (by omega)
  obtain ⟨x, hx⟩ : ∃ x, x = s ^^^ b := ⟨_, rfl⟩
  have HS := Lib.hid (show step8 s b = crcBits 8 x by rw [hx]; rfl)
  rw [← hx] at e0 l0
  clear hx hs
  go_enter Try.func67, Try.ntmps67
  go_wp2_with fail
  go_loop [0, 10] (fun v i => ∃ k m : Nat, k ≤ 8 ∧ i = .int .i64 k ∧ v = .int .u32 m ∧ Hid (m < 2 ^ 32) ∧ Hid (m = crcBits k x)) (fun _ i => 8 - (intOf i).toNat)
  case atStart => exact ⟨0, x, by omega, rfl, rfl, Lib.hid l0, Lib.hid rfl⟩
  case round =>
    obtain ⟨k, m, hk, rfl, rfl, hm, hv⟩ := hrel
    by_cases hlt : k < 8
    · have hb := bitStep_go m hm.out
      go_wp2_with fail
      go_round
      case rel => exact ⟨k + 1, bitStep m, by omega, by go_num, rfl, Lib.hid (bitStep_lt hm.out), Lib.hid (by rw [crcBits_succ, hv.out])⟩
      case measure => simp [intOf]; omega
    · have hk8 : k = 8 := by omega
      subst hk8
      go_wp2_with fail
      go_ret
      exact ⟨by rw [HS.out, hv.out]; rfl, rfl⟩
end Go.Proofs.Ytioahddobogpjaa
/- The reference's Sum, bit by bit, is the plain sum. Condition: the text is the slice's. -/
namespace Go.Proofs.Ytioahddobogpjaa
open Go.RowKit

theorem bitStep_ref (r c : Nat) : bitStep (r ^^^ c) = (r / 2 ^^^ (if (r % 2 + c) % 2 = 1 then 2197175160 else 0)) ^^^ c / 2 := by
  unfold bitStep
  rw [Nat.xor_div_two, xor_odd, show (r + c) % 2 = (r % 2 + c) % 2 by omega, Nat.xor_assoc, Nat.xor_comm (c / 2), Nat.xor_assoc]
theorem ref_next {y r x j : Nat} (h : crcBits j y = r ^^^ x / 2 ^ j) : crcBits (j + 1) y = (r / 2 ^^^ (if (r % 2 + x / 2 ^ j) % 2 = 1 then 2197175160 else 0)) ^^^ x / 2 ^ (j + 1) := by
  rw [crcBits_succ, h, bitStep_ref, Nat.div_div_eq_div_mul, Nat.pow_succ]
theorem crc_take {s : Nat} {l : List UInt8} {k : Nat} (h : k < l.length) : crc s (l.take (k + 1)) = crcBits 8 (crc s (l.take k) ^^^ l[k].toNat) := by
  rw [List.take_succ_eq_append_getElem h, crc_append]; rfl
set_option maxHeartbeats 1000000 in
set_option maxRecDepth 20000 in
theorem RefSum_calls (A : Option Addr) (l : List UInt8) (n c b : Nat) (w : World) (hs : Bs w b A l) (hl : l.length = n) (hm : n ≤ maxLen) :
    Calls Try.prog 60 #[.slice A n c] w fun e w' => e = .returned (.int .u32 (sumN l : Nat)) ∧ w = w' := by
  unfold maxLen at hm
  have HN := Lib.hid hl
  clear hl
  go_enter Try.func60, Try.ntmps60
  go_wp2_with fail
  go_loop [3, 10] (fun v i => ∃ k m : Nat, k ≤ n ∧ i = .int .i64 k ∧ v = .int .u64 m ∧ Hid (m < 2 ^ 32) ∧ Hid (m = crc 4294967295 (l.take k))) (fun _ i => n - (intOf i).toNat)
  case atStart => exact ⟨0, 4294967295, by omega, rfl, rfl, Lib.hid (by omega), Lib.hid rfl⟩
  case round =>
    obtain ⟨k, m, hk, rfl, rfl, hm32, hv⟩ := hrel
    by_cases hlt : k < n
    · obtain ⟨oa, rfl, hca⟩ := hs.at_ (k := k) (by rw [HN.out]; exact hlt)
      have ca := hca k (by rw [HN.out]; exact hlt)
      have kl : k < l.length := by rw [HN.out]; exact hlt
      have HT := Lib.hid (crc_take (s := 4294967295) kl)
      obtain ⟨x, hx⟩ : ∃ x : Nat, x = l[k].toNat := ⟨_, rfl⟩
      have x8 : x < 256 := by have := l[k].toNat_lt; omega
      rw [← hx] at ca HT

      clear hca hx
      go_wp2_with fail
      go_loop [3, 6] (fun v i => ∃ j r : Nat, j ≤ 8 ∧ i = .int .i64 j ∧ v = .int .u64 r ∧ Hid (r < 2 ^ 32) ∧ Hid (crcBits j (m ^^^ x) = r ^^^ x / 2 ^ j)) (fun _ i => 8 - (intOf i).toNat)
      case atStart => exact ⟨0, m, by omega, rfl, rfl, hm32, Lib.hid (by simp [crcBits])⟩
      case round =>
        obtain ⟨j, r, hj, rfl, rfl, hr32, hr⟩ := hrel
        by_cases hlt2 : j < 8
        · have hnx := Lib.hid (ref_next hr.out)
          obtain ⟨q, hq⟩ : ∃ q, q = x / 2 ^ j := ⟨_, rfl⟩
          have hqi : (x : Int) / 2 ^ j = (q : Int) := by rw [hq]; simp
          have q8 : q < 256 := by rw [hq]; exact Nat.lt_of_le_of_lt (Nat.div_le_self _ _) x8
          rw [← hq] at hnx
          have hrr := hr32.out
          have hr2 : r / 2 < 2 ^ 32 := by omega
          have hxo : bits .xor .u64 ((r : Int) / 2) 2197175160 = ((r / 2 ^^^ 2197175160 : Nat) : Int) := by
            rw [show ((r : Int) / 2) = ((r / 2 : Nat) : Int) by omega, show (2197175160 : Int) = ((2197175160 : Nat) : Int) from rfl, u64_xor_nat _ _ (by omega) (by omega)]
          clear hq
          by_cases ho : (r % 2 + q) % 2 = 1
          · have hb1 : (((r : Int) % 2 + (q : Int)) % 2 == 1) = true := by simp only [beq_iff_eq]; omega
            have hnx' := Lib.hid (hnx.out.trans (by rw [if_pos ho]))
            go_wp2_with fail
            go_round
            case rel => exact ⟨j + 1, r / 2 ^^^ 2197175160, by omega, by go_num, rfl, Lib.hid (Nat.xor_lt_two_pow hr2 (by omega)), hnx'⟩
            case measure => simp [intOf]; omega
          · have hb1 : (((r : Int) % 2 + (q : Int)) % 2 == 1) = false := by simp only [beq_eq_false_iff_ne, ne_eq]; omega
            have hnx' := Lib.hid (hnx.out.trans (by rw [if_neg ho, Nat.xor_zero]))
            go_wp2_with fail
            go_round
            case rel => exact ⟨j + 1, r / 2, by omega, by go_num, by go_num, Lib.hid hr2, hnx'⟩
            case measure => simp [intOf]; omega
        · have hj8 : j = 8 := by omega
          subst hj8
          have hr8 : r = crc 4294967295 (l.take (k + 1)) := by
            rw [HT.out, ← hv.out, hr.out, show x / 2 ^ 8 = 0 by omega, Nat.xor_zero]
          go_wp2_with fail
          go_round
          case rel => exact ⟨k + 1, r, by omega, by go_num, rfl, hr32, Lib.hid hr8⟩
          case measure => simp [intOf]; omega
    · have hkn : k = n := by omega
      subst hkn
      have hall : l.take l.length = l := List.take_length
      have hmv : m = crc 4294967295 l := by rw [hv.out, ← HN.out, hall]
      have hmm := hm32.out
      have hsum : (4294967295 : Int) - ((crc 4294967295 l : Nat) : Int) = ((sumN l : Nat) : Int) := by unfold sumN; omega
      go_wp2_with fail
      go_ret
      exact ⟨by rw [← hsum]; rfl, rfl⟩
end Go.Proofs.Ytioahddobogpjaa
/- Make: the table of the plain steps. No condition. -/
namespace Go.Proofs.Ytioahddobogpjaa
open Go.RowKit

/-- A table with its first k made. -/
def tabTo (k : Nat) : Array Value := ((List.range 256).map fun i => Value.int .u32 ((if i < k then step8 0 i else 0 : Nat) : Int)).toArray
theorem tabTo_size (k : Nat) : (tabTo k).size = 256 := by simp [tabTo]
theorem tabTo_get {k i : Nat} (h : i < 256) : (tabTo k)[i]? = some (Value.int .u32 ((if i < k then step8 0 i else 0 : Nat) : Int)) := by
  simp [tabTo, List.getElem?_range h]
theorem tabTo_set {k : Nat} : (tabTo k).set! k (Value.int .u32 ((step8 0 k : Nat) : Int)) = tabTo (k + 1) := by
  apply Array.ext_getElem?
  intro i
  rcases Nat.lt_or_ge i 256 with h | h
  · rw [Array.set!_eq_setIfInBounds, Array.getElem?_setIfInBounds, tabTo_get h, tabTo_get h, tabTo_size]
    by_cases hik : k = i
    · subst hik
      rw [if_pos rfl, if_pos h, if_pos (by omega)]
    · rw [if_neg hik]
      by_cases h1 : i < k
      · rw [if_pos h1, if_pos (by omega)]
      · rw [if_neg h1, if_neg (by omega)]
  · rw [Array.getElem?_eq_none (by rw [Array.set!_eq_setIfInBounds, Array.size_setIfInBounds, tabTo_size]; exact h), Array.getElem?_eq_none (by rw [tabTo_size]; exact h)]
theorem tabTo_all (k : Nat) : (tabTo k).all (·.oneCell') = true := by simp [tabTo, Value.oneCell']
theorem table_under : Try.prog.underlying 111 = some (.array 256 24) := by kernel_rfl
theorem table_size (k : Nat) : (Try.prog.info? 111).map (·.size) = some (tabTo k).size := by rw [tabTo_size]; kernel_rfl
theorem zeroTable (w : World) : (zeroValue 111).run Try.prog w = .ok (.agg (tabTo 0)) w := by kernel_rfl
set_option maxHeartbeats 1000000 in
set_option maxRecDepth 20000 in
theorem Make_calls (w : World) :
    Calls Try.prog 64 #[] w fun e w' => e = .returned (.agg (tabTo 256)) ∧ Below w.heap.size w w' := by
  go_enter Try.func64, Try.ntmps64
  go_wp2_with fail
  rw [show Try.zeroCells111 = tabTo 0 by kernel_rfl]
  have hg0 := heap_alloc2_new w (.cells (tabTo 0) 111) (.cells (tabTo 0) 111)
  have hr0 : ((w.alloc (.cells (tabTo 0) 111)).alloc (.cells (tabTo 0) 111)).heap[w.heap.size]? = some (.cells (tabTo 0) 111 (0, 0)) := (Below.heap_alloc _ _ _ (by simp)).trans (heap_alloc_new w _)
  have hb0 : Below w.heap.size w ((w.alloc (.cells (tabTo 0) 111)).alloc (.cells (tabTo 0) 111)) := ((Below.refl _ _).alloc (Nat.le_refl _) _).alloc (by simp) _
  go_wp2_with fail
  go_loopw [3] (fun i wr => ∃ k : Nat, k ≤ 256 ∧ i = .int .i64 k ∧ wr.heap[w.heap.size + 1]? = some (.cells (tabTo k) 111 (0, 0)) ∧ wr.heap[w.heap.size]? = some (.cells (tabTo 0) 111 (0, 0)) ∧ Below w.heap.size w wr) (fun i _ => 256 - (intOf i).toNat)
  case atStart => exact ⟨0, by omega, rfl, hg0, hr0, hb0⟩
  case round =>
    obtain ⟨k, hk, rfl, hg, hr, hb⟩ := hrel
    by_cases hlt : k < 256
    · have hc := cell_of_row wr (w.heap.size + 1) k _ _ _ hg
      rw [tabTo_get hlt] at hc
      have hfz := frozen_of_row wr (w.heap.size + 1) k _ _ hg
      go_wp2_with fail
      refine (Step_calls 0 k _ (by omega) hlt).mono ?_
      rintro e w1 ⟨rfl, rfl⟩
      go_wp2_with fail
      go_roundw
      case rel =>
        refine ⟨k + 1, by omega, by go_num, ?_, (heap_setCell_other _ _ _ _ (by simp)).trans hr, hb.setCell (by simp) _⟩
        have h1 := heap_setCell_same wr (w.heap.size + 1) k _ _ (.int .u32 (step8 0 k : Nat)) hg
        rwa [← Array.set!_eq_setIfInBounds, tabTo_set] at h1
      case measure => simp [intOf]; omega
    · have hk2 : k = 256 := by omega
      subst hk2
      go_wp2_with fail
      refine wp_load_row 111 _ rfl (w.heap.size + 1) rfl _ _ _ _ hg table_under rfl (table_size 256) ?_
      go_wp2_with fail
      have hst := run_storeCells_from (P := Try.prog) w.heap.size _ (tabTo 256).toList 0 _ wr hr (by simp [tabTo_size]) (fun v hv => (Array.all_eq_true_iff_forall_mem.1 (tabTo_all 256)) v (by simpa using hv))
      rw [List.take_zero, List.nil_append, Array.toArray_toList] at hst
      rw [hst]
      simp only [Result.andThen_ok]
      have hr2 := setRow_heap wr w.heap.size _ (tabTo 256) _ _ hr
      have hb2 := below_setRow hb w.heap.size (tabTo 256) (Nat.le_refl _)
      go_wp2_with fail
      refine bodyPost_ret (results_cell_row (P := Try.prog) rfl _ _ w.heap.size _ _ (0, 0) _ rfl hr2 table_under rfl (table_size 256)) rfl ?_
      exact ⟨rfl, hb2⟩
end Go.Proofs.Ytioahddobogpjaa
/- (Table).Sum: of any parts, the sum of them joined. Condition: the table is Make's. -/
namespace Go.Proofs.Ytioahddobogpjaa
open Go.RowKit

theorem crc_take' {s : Nat} {l : List UInt8} {k : Nat} (h : k < l.length) : crc s (l.take (k + 1)) = step8 (crc s (l.take k)) l[k].toNat := crc_take h
set_option maxHeartbeats 1000000 in
set_option maxRecDepth 20000 in
theorem TableSum_calls (A : Option Addr) (vs : List Value) (ls : List (List UInt8)) (n c b : Nat) (w : World) (hs : Sl w b A vs) (hv : Bss w vs ls) (hn : ls.length = n) (h1 : n ≤ maxLen) (h2 : ls.flatten.length ≤ 140737488355328) :
    Calls Try.prog 65 #[.agg (tabTo 256), .slice A n c] w fun e w' => e = .returned (.int .u32 (sumN ls.flatten : Nat)) ∧ Below w.heap.size w w' := by
  unfold maxLen at h1
  have HN := Lib.hid hn
  have HL := Lib.hid h2
  clear hn h2
  go_enter Try.func65, Try.ntmps65
  go_wp2_with fail
  have hb1 : Below w.heap.size w (w.alloc (.cells (tabTo 256) 111)) := (Below.refl _ _).alloc (Nat.le_refl _) _
  have hg := heap_alloc_new w (.cells (tabTo 256) 111)
  obtain ⟨W, hW⟩ : ∃ W, W = w.alloc (.cells (tabTo 256) 111) := ⟨_, rfl⟩
  rw [← hW] at hb1 hg ⊢
  have hs1 := Sl.ext hs hb1
  have hv1 := hv.ext hb1
  clear hW hs hv
  go_loop [5, 12] (fun v i => ∃ k m : Nat, k ≤ n ∧ i = .int .i64 k ∧ v = .int .u32 m ∧ Hid (m < 2 ^ 32) ∧ Hid (m = crc 4294967295 (ls.take k).flatten)) (fun _ i => n - (intOf i).toNat)
  case atStart => exact ⟨0, 4294967295, by omega, rfl, rfl, Lib.hid (by omega), Lib.hid rfl⟩
  case round =>
    obtain ⟨k, m0, hk, rfl, rfl, hm0, hc0⟩ := hrel
    by_cases hlt : k < n
    · have hkl : k < ls.length := by rw [HN.out]; exact hlt
      obtain ⟨A1, c1, b1, hv2, hs2⟩ := hv1.2 k ls[k] (List.getElem?_eq_getElem hkl)
      obtain ⟨oa, rfl, hca⟩ := hs1 (by rintro rfl; simp at hv2)
      have ca := hca k _ hv2
      obtain ⟨q, hq⟩ : ∃ q, q = ls[k] := ⟨_, rfl⟩
      rw [← hq] at ca hs2
      have e1 := Lib.hid (flatten_take_succ ls k hkl)
      have hql : q.length ≤ 140737488355328 := by
        have h3 := flatten_take_le ls (k + 1)
        have h4 := HL.out
        rw [e1.out, ← hq] at h3
        simp only [List.length_append] at h3
        omega
      have HQ := Lib.hid hq
      clear hca hv2 hq
      go_wp2_with fail
      go_loop [5, 18] (fun v i => ∃ j m : Nat, j ≤ q.length ∧ i = .int .i64 j ∧ v = .int .u32 m ∧ Hid (m < 2 ^ 32) ∧ Hid (m = crc m0 (q.take j))) (fun _ i => q.length - (intOf i).toNat)
      case atStart => exact ⟨0, m0, by omega, rfl, rfl, hm0, Lib.hid rfl⟩
      case round =>
        obtain ⟨j, m, hj, rfl, rfl, hm, hc⟩ := hrel
        by_cases hlt2 : j < q.length
        · obtain ⟨o2, rfl, hcb⟩ := hs2.at_ (k := j) hlt2
          have cb := hcb j hlt2
          have HT := Lib.hid (crc_take' (s := m0) hlt2)
          obtain ⟨x, hx⟩ : ∃ x : Nat, x = q[j].toNat := ⟨_, rfl⟩
          have x8 : x < 256 := by have := q[j].toNat_lt; omega
          rw [← hx] at cb HT
          have hmm := hm.out
          have hix : bits .xor .u8 ((m : Int) % 256) (x : Int) = ((m % 256 ^^^ x : Nat) : Int) := by
            rw [show ((m : Int) % 256) = ((m % 256 : Nat) : Int) by omega, u8_xor_nat _ _ (by omega) x8]
          have hil : m % 256 ^^^ x < 256 := Nat.xor_lt_two_pow (n := 8) (by omega) (by omega)
          have hst := step8_table m x
          have hsl := step8_lt hmm x8
          obtain ⟨t, ht⟩ : ∃ t, t = m % 256 ^^^ x := ⟨_, rfl⟩
          rw [← ht] at hix hil hst
          have htb := cell_of_row W w.heap.size t _ _ _ hg
          rw [tabTo_get hil, if_pos hil] at htb
          obtain ⟨z, hz⟩ : ∃ z, z = step8 0 t := ⟨_, rfl⟩
          have hzl : z < 2 ^ 32 := by rw [hz]; exact step8_lt (by omega) hil
          rw [← hz] at htb hst
          have hxo : bits .xor .u32 ((m : Int) / 256) (z : Int) = ((step8 m x : Nat) : Int) := by
            rw [hst, show ((m : Int) / 256) = ((m / 256 : Nat) : Int) by omega, u32_xor_nat _ _ (by omega) (by omega)]
          clear hcb hx hst ht hz hmm
          go_wp2_with fail
          go_round
          case rel => exact ⟨j + 1, step8 m x, by omega, by go_num, rfl, Lib.hid hsl, Lib.hid (by rw [HT.out, hc.out])⟩
          case measure => simp [intOf]; omega
        · have hjl : j = q.length := by omega
          subst hjl
          have hall : m = crc 4294967295 (ls.take (k + 1)).flatten := by rw [hc.out, List.take_length, e1.out, crc_append, ← hc0.out, HQ.out]
          go_wp2_with fail
          go_round
          case rel => exact ⟨k + 1, m, by omega, by go_num, rfl, hm, Lib.hid hall⟩
          case measure => simp [intOf]; omega
    · have hall : m0 = crc 4294967295 ls.flatten := by rw [hc0.out, List.take_of_length_le (by have := HN.out; omega)]
      have hmm := hm0.out
      rw [hall] at hmm
      have hno := Lib.hid (show bits .xor .u32 IntKind.u32.max ((crc 4294967295 ls.flatten : Nat) : Int) = ((sumN ls.flatten : Nat) : Int) by
        rw [show IntKind.u32.max = ((4294967295 : Nat) : Int) from rfl, u32_xor_nat _ _ (by omega) (by omega), sumN, flip_xor hmm])
      go_wp2_with fail
      go_ret
      exact ⟨by rw [← hno.out]; rfl, hb1⟩
end Go.Proofs.Ytioahddobogpjaa
/- The pen's methods: what each call appends, and that only the pen's own memory turns; of a nil pen: nil, nothing. Condition: the sum of the lengths fits. -/
namespace Go.Proofs.Ytioahddobogpjaa
open Go.RowKit

theorem Row.ne_blk {w : World} {B : Nat} {v : Value} {l : List UInt8} (h : Row w B v l) {g : Nat} {cs : Array Value} {t : TypeId} {fr : Nat × Nat} (hg : w.heap[g]? = some (.cells cs t fr)) (ht : t ≠ 5) : v.ownBlock ≠ some g := by
  intro hv
  rcases h.2 with ⟨rfl, _⟩ | ⟨g', cap, cur, rfl, _, hh, _⟩
  · simp [Value.ownBlock] at hv
  · have : g' = g := by simpa [Value.ownBlock] using hv
    subst this
    rw [hh] at hg
    injection hg with hg
    injection hg with _ h2 _
    exact ht h2.symm

/-- A pen in block g, its bytes l in the row r. -/
def PenAt (w : World) (g : Nat) (r : Option Nat) (l : List UInt8) : Prop :=
  ∃ v, w.heap[g]? = some (.cells #[v] 85 (0, 0)) ∧ Row w 0 v l ∧ v.ownBlock = r

/-- What a pen's write may turn: its block, its row; and where its row lies then. -/
def PenStep (g : Nat) (r r' : Option Nat) (w w' : World) : Prop :=
  (r' = r ∨ ∃ k, r' = some k ∧ w.heap.size ≤ k) ∧ Mod (fun i => i = g ∨ r = some i) w w'

theorem PenAt.lt {w : World} {g : Nat} {r : Option Nat} {l : List UInt8} (h : PenAt w g r l) : g < w.heap.size := by
  obtain ⟨v, hg, _⟩ := h
  exact (Array.getElem?_eq_some_iff.1 hg).1
theorem PenAt.mod {w w' : World} {g : Nat} {r : Option Nat} {l : List UInt8} (h : PenAt w g r l) {S : Nat → Prop} (hm : Mod S w w') (hg : ¬ S g) (hr : ∀ k, r = some k → ¬ S k) : PenAt w' g r l := by
  obtain ⟨v, h1, h2, h3⟩ := h
  exact ⟨v, by rw [hm.block g (Array.getElem?_eq_some_iff.1 h1).1 hg]; exact h1, h2.mod hm (fun k hk => hr k (h3 ▸ hk)), h3⟩
theorem PenAt.row_lt {w : World} {g : Nat} {r : Option Nat} {l : List UInt8} (h : PenAt w g r l) : ∀ k, r = some k → k < w.heap.size := by
  obtain ⟨v, _, h2, h3⟩ := h
  intro k hk
  exact (h2.lt k (h3.trans hk)).2
theorem PenAt.ext {w w' : World} {g : Nat} {r : Option Nat} {l : List UInt8} (h : PenAt w g r l) (hm : Below w.heap.size w w') : PenAt w' g r l :=
  h.mod (Mod.of_below hm) (by have := h.lt; omega) (fun k hk => by have := h.row_lt k hk; omega)
theorem PenAt.cast {w : World} {g : Nat} {r : Option Nat} {l l' : List UInt8} (h : PenAt w g r l) (e : l = l') : PenAt w g r l' := e ▸ h
theorem PenStep.refl (g : Nat) (r : Option Nat) (w : World) : PenStep g r r w w := ⟨.inl rfl, Mod.refl _ _⟩
theorem PenStep.trans {g : Nat} {r r1 r2 : Option Nat} {a b c : World} (h : PenStep g r r1 a b) (k : PenStep g r1 r2 b c) : PenStep g r r2 a c := by
  obtain ⟨h1, hm⟩ := h
  obtain ⟨k1, km⟩ := k
  refine ⟨?_, hm.trans km (fun i _ h => h) (fun i hi h => ?_)⟩
  · rcases k1 with rfl | ⟨q, rfl, hq⟩
    · exact h1
    · exact .inr ⟨q, rfl, Nat.le_trans hm.size hq⟩
  · rcases h with h | h
    · exact .inl h
    · rcases h1 with rfl | ⟨q, rfl, hq⟩
      · exact .inr h
      · injection h with h
        omega
theorem PenStep.below {g : Nat} {r r1 : Option Nat} {a b c : World} (h : Below a.heap.size a b) (k : PenStep g r r1 b c) : PenStep g r r1 a c :=
  ⟨k.1.imp id fun ⟨q, e, hq⟩ => ⟨q, e, Nat.le_trans h.size hq⟩, (Mod.of_below h).trans k.2 (fun i hi h => by omega) (fun i _ h => h)⟩
theorem PenStep.ext {g : Nat} {r r1 : Option Nat} {a b c : World} (h : PenStep g r r1 a b) (k : Below b.heap.size b c) : PenStep g r r1 a c :=
  ⟨h.1, h.2.trans (Mod.of_below k) (fun i _ h => h) (fun i hi hh => by have := h.2.size; omega)⟩

theorem pen_store {w : World} {g : Nat} {u v : Value} {l : List UInt8} {n : Nat} (hg : w.heap[g]? = some (.cells #[u] 85 (0, 0))) (hrow : w.ownsRow 0 5 1 v n (bv l)) : PenAt (w.setCell ⟨g, 0, none⟩ v) g v.ownBlock l := by
  have hn : n = l.length := by have := hrow.1; simpa using this.symm
  subst hn
  have hrow : Row w 0 v l := hrow
  exact ⟨v, by rw [heap_setCell_same w g 0 _ _ v hg]; rfl, hrow.mod (Mod.setCell w _ v) (fun k hk hkg => hrow.ne_blk hg (by decide) (by rw [hk, show k = g from hkg])), rfl⟩

set_option maxHeartbeats 400000 in
theorem add_calls (g : Nat) (r : Option Nat) (l : List UInt8) (A : Option Addr) (more : List UInt8) (n c b : Nat) (w : World) (hp : PenAt w g r l) (hs : Bs w b A more) (hn : more.length = n) (hlen : l.length + n ≤ 140737488355328) :
    Calls Try.prog 61 #[.pointer (some ⟨g, 0, none⟩), .slice A n c] w fun e w' => e = .returned (.pointer (some ⟨g, 0, none⟩)) ∧ ∃ r', PenAt w' g r' (l ++ more) ∧ PenStep g r r' w w' := by
  obtain ⟨v, hg, hrow, hr⟩ := hp
  have hc := cell_of_row w g 0 _ _ _ hg
  have hf := frozen_of_row w g 0 _ _ hg
  have hne := hrow.ne_blk hg (by decide)
  have hglt : g < w.heap.size := (Array.getElem?_eq_some_iff.1 hg).1
  simp only [List.getElem?_toArray, List.getElem?_cons_zero] at hc
  have HG := Lib.hid hg
  have HR := Lib.hid hr
  have HNE := Lib.hid hne
  clear hg hr hne
  go_enter Try.func61, Try.ntmps61
  go_wp2_with (at_builtin; refine wpList_app w rfl (.tmp 11) (.tmp 12) rfl 0 v l rfl hrow b A n c more rfl hs hn hlen (Nat.zero_le _) ?_; intro v' w1 hrow1 hmod hat; have hg1 := Lib.hid ((hmod.block g hglt HNE.out).trans HG.out); have hc1 : w1.cell? ⟨g, 0, none⟩ = some v := (cell_of_row w1 g 0 _ _ _ hg1.out).trans rfl; have hf1 := frozen_of_row w1 g 0 _ _ hg1.out; obtain ⟨A', c', b', hv', _⟩ := hrow1.sl; subst hv')
  go_ret
  have hmm : Mod (fun i => i = g ∨ r = some i) w w1 := hmod.mono fun i _ h => .inr (HR.out.symm.trans h)
  have el : (l ++ more).length = l.length + n := by simp [hn]
  rw [el] at hrow1 hat
  have hat' : (Value.slice A' (l.length + n) c').ownBlock = r ∨ ∃ k, (Value.slice A' (l.length + n) c').ownBlock = some k ∧ w.heap.size ≤ k := hat.imp (fun h => h.trans HR.out) (fun h => ⟨_, h, Nat.le_refl _⟩)
  exact ⟨rfl, _, pen_store hg1.out hrow1, hat', hmm.trans (Mod.setCell w1 _ _) (fun i _ h => h) (fun i _ h => .inl h)⟩

theorem add_nil (v : Value) (w : World) : Calls Try.prog 61 #[.pointer none, v] w fun e w' => e = .returned (.pointer none) ∧ w = w' := by
  go_enter Try.func61, Try.ntmps61
  go_wp2
  go_ret
  exact ⟨rfl, rfl⟩

/-- What each write's contract says. -/
def Wrote (g : Nat) (r : Option Nat) (l : List UInt8) (w : World) (e : Ending) (w' : World) : Prop :=
  e = .returned (.pointer (some ⟨g, 0, none⟩)) ∧ ∃ r', PenAt w' g r' l ∧ PenStep g r r' w w'

theorem low_one (n : Nat) : low n 1 = [UInt8.ofNat n] := by simp [low]
theorem bv_low_one (n : Nat) (h : n < 256) : bv (low n 1) = [.int .u8 (n : Int)] := by
  rw [low_one]
  simp only [bv, List.map_cons, List.map_nil, u8_ofNat]
  rw [Int.emod_eq_of_lt (by omega) (by omega)]
theorem bv_low_two (n : Nat) (h : n < 65536) : bv (low n 2) = [.int .u8 ((n : Int) % 256), .int .u8 ((n : Int) / 256)] := by
  simp only [low, List.range_succ, List.range_zero, List.nil_append, List.map_cons, List.map_nil, bv, u8_ofNat, List.cons_append]
  simp
  omega
theorem bv_low_four (n : Nat) (h : n < 4294967296) : bv (low n 4) = [.int .u8 ((n : Int) % 256), .int .u8 ((n : Int) / 256 % 256), .int .u8 ((n : Int) / 65536 % 256), .int .u8 ((n : Int) / 16777216)] := by
  simp only [low, List.range_succ, List.range_zero, List.nil_append, List.map_cons, List.map_nil, bv, u8_ofNat, List.cons_append]
  simp
  omega

set_option maxHeartbeats 400000 in
theorem PenWord_calls (g : Nat) (r : Option Nat) (l : List UInt8) (n : Nat) (w : World) (hp : PenAt w g r l) (hn : n < 4294967296) (hlen : l.length + 4 ≤ 140737488355328) :
    Calls Try.prog 41 #[.pointer (some ⟨g, 0, none⟩), .int .u32 n] w (Wrote g r (l ++ low n 4) w) := by
  have hb := Lib.hid (bv_low_four n hn)
  go_enter Try.func41, Try.ntmps41
  go_wp2_with fail
  have hx : Below w.heap.size w (w.alloc (.cells #[.int .u8 ((n : Int) % 256), .int .u8 ((n : Int) / 256 % 256), .int .u8 ((n : Int) / 65536 % 256), .int .u8 ((n : Int) / 16777216)] 5)) := (Below.refl _ _).alloc (Nat.le_refl _) _
  refine (add_calls g r l _ (low n 4) 4 4 w.heap.size _ (hp.ext hx) (by unfold Bs; rw [hb.out]; exact Sl.cells_new w _ _) (by simp) hlen).mono ?_
  rintro e w1 ⟨rfl, r', hp', hst⟩
  go_wp2
  go_ret
  exact ⟨rfl, r', hp', PenStep.below hx hst⟩

set_option maxHeartbeats 400000 in
theorem PenBytes_calls (g : Nat) (r : Option Nat) (l : List UInt8) (w : World) (hp : PenAt w g r l) (hlen : l.length ≤ 140737488355328) :
    Calls Try.prog 43 #[.pointer (some ⟨g, 0, none⟩)] w fun e w' => ∃ v, e = .returned v ∧ Row w' w.heap.size v l ∧ Below w.heap.size w w' := by
  obtain ⟨v, hg, hrow, hr⟩ := hp
  obtain ⟨A, c, b, rfl, _, _, _, _, hs, _⟩ := hrow.sl
  have hc := cell_of_row w g 0 _ _ _ hg
  simp only [List.getElem?_toArray, List.getElem?_cons_zero] at hc
  clear hr hrow hg
  go_enter Try.func43, Try.ntmps43
  go_wp2_with (at_builtin; refine wpList_app w rfl (.const (.slice none 0 0)) (.tmp 8) rfl w.heap.size (.slice none 0 0) [] rfl (Row.nil_ _ _) b A l.length c l rfl hs rfl (by simp; omega) (Nat.le_refl _) ?_; intro v' w1 hrow1 hmod hat; obtain ⟨A', c', b', hv', _⟩ := hrow1.sl; subst hv')
  go_ret
  exact ⟨_, rfl, hrow1, hmod.below (Nat.le_refl _) (fun i _ h => by simp [Value.ownBlock] at h)⟩
end Go.Proofs.Ytioahddobogpjaa
/- Hash and Labels of a board: the sums of what is written of each cell. Conditions: a board has 48 cells at most; the cells fit. -/
namespace Go.Proofs.Ytioahddobogpjaa
open Go.RowKit

def uN (x : Int) : Nat := (x % 4294967296).toNat
theorem uN_lt (x : Int) : uN x < 4294967296 := by unfold uN; omega
theorem uN_wrap (x : Int) : IntKind.u32.wrap x = ((uN x : Nat) : Int) := by rw [IntKind.wrap_u32]; unfold uN; omega
theorem uN_mod (x : Int) : x % 4294967296 = ((uN x : Nat) : Int) := by unfold uN; omega
/-- What is written of a cell. -/
def cellB (c : Int × Nat) : List UInt8 := low (uN c.1) 4 ++ low c.2 4
def labB (c : Int × Nat) : List UInt8 := low c.2 4
def cellsB (L : List (Int × Nat)) : List UInt8 := L.flatMap cellB
def labsB (L : List (Int × Nat)) : List UInt8 := L.flatMap labB
theorem cellsB_len (L : List (Int × Nat)) : (cellsB L).length = 8 * L.length := by
  induction L with
  | nil => rfl
  | cons c L ih => simp only [cellsB, List.flatMap_cons, List.length_append, List.length_cons] at ih ⊢; rw [ih]; simp [cellB]; omega
theorem labsB_len (L : List (Int × Nat)) : (labsB L).length = 4 * L.length := by
  induction L with
  | nil => rfl
  | cons c L ih => simp only [labsB, List.flatMap_cons, List.length_append, List.length_cons] at ih ⊢; rw [ih]; simp [labB]; omega
theorem cellsB_snoc (L : List (Int × Nat)) (c : Int × Nat) : cellsB (L ++ [c]) = cellsB L ++ cellB c := by simp [cellsB]
theorem labsB_snoc (L : List (Int × Nat)) (c : Int × Nat) : labsB (L ++ [c]) = labsB L ++ labB c := by simp [labsB]
/-- The sums. -/
def hashL (L : List (Int × Nat)) : Nat := sumN (cellsB L)
def labsL (L : List (Int × Nat)) : Nat := sumN (labsB L)
theorem take_snoc1 {α : Type} {L : List α} {k : Nat} (hk : k < L.length) : L.take (k + 1) = L.take k ++ [L[k]] := by rw [List.take_succ_eq_append_getElem hk]
theorem pen_far {w w' : World} {g B : Nat} {r : Option Nat} {cs : Array Value} {t : TypeId} {fr : Nat × Nat} (h : Mod (fun i => i = g ∨ r = some i) w w') (hB : B < w.heap.size) (hg : B ≠ g) (hr : ∀ k, r = some k → B ≠ k) (q : w.heap[B]? = some (.cells cs t fr)) : w'.heap[B]? = some (.cells cs t fr) :=
  (h.block B hB (fun hh => hh.elim hg (fun e => hr B e rfl))).trans q
theorem pen_ne {w : World} {g k : Nat} {r : Option Nat} {l : List UInt8} (hp : PenAt w g r l) (hk : w.heap.size ≤ k) : k ≠ g ∧ ∀ j, r = some j → k ≠ j :=
  ⟨by have := hp.lt; omega, fun j hj => by have := hp.row_lt j hj; omega⟩
set_option maxHeartbeats 4000000 in
set_option maxRecDepth 20000 in
theorem whole_calls (x : Int) (y g : Nat) (r : Option Nat) (l : List UInt8) (w : World) (hp : PenAt w g r l) (hy : y < 4294967296) (hlen : l.length ≤ 1000000) :
    Calls Try.prog 58 #[.agg #[.int .i32 x, .int .u32 (y : Int)], .pointer (some ⟨g, 0, none⟩)] w fun e w' => e = .returned (.tuple #[]) ∧ ∃ r', PenAt w' g r' (l ++ cellB (x, y)) ∧ PenStep g r r' w w' := by
  have hb := below_drew (below_alloc1 w (.cells #[.int .i32 x, .int .u32 (y : Int)] 29))
  have hp0 := PenAt.ext hp hb
  have q0 := BoxC.new_ w x y
  have hne := pen_ne hp (Nat.le_refl _)
  have hw := uN_wrap x
  have hw2 := uN_mod x
  have hul := uN_lt x
  obtain ⟨u, hu⟩ : ∃ u, u = uN x := ⟨_, rfl⟩
  have hB : low u 4 ++ low y 4 = cellB (x, y) := by rw [hu]; rfl
  rw [← hu] at hw hw2 hul
  have HB := Lib.hid hB
  clear hu hB
  go_enter Try.func58, Try.ntmps58
  go_wp2_with fail
  refine wp_region_held_drew (S := fun w' => BoxC w' w.heap.size x y) (by kernel_rfl) ?_ (fun hHeld => ?_)
  · exact q0
  refine wpAnyH_take (i := 0) (v := ?mv0) (by simp only [List.getElem?_toArray, List.getElem?_cons_zero]; rfl) (by kernel_rfl) (by kernel_rfl) (by kernel_rfl) (by exact fun _ _ _ h => h) (Or.inl ⟨by rfl, ?my0⟩) hHeld ?_
  case my0 => (intro w hSw; (try dsimp only at hSw); have hz0 := hSw.c0; have hz1 := hSw.c1; clear hSw; go_simp; try (with_reducible rfl))
  try simp only [Act.put, List.setIfInBounds_toArray, List.set_cons_zero, List.set_cons_succ]
  refine wpAnyH_take (i := 1) (v := ?mv1) (by simp only [List.getElem?_toArray, List.getElem?_cons_succ, List.getElem?_cons_zero]; rfl) (by kernel_rfl) (by kernel_rfl) (by kernel_rfl) (by exact fun _ _ _ h => h) (Or.inl ⟨by rfl, ?my1⟩) hHeld ?_
  case my1 => (intro w hSw; (try dsimp only at hSw); have hz0 := hSw.c0; have hz1 := hSw.c1; clear hSw; go_simp; try (with_reducible rfl))
  try simp only [Act.put, List.setIfInBounds_toArray, List.set_cons_zero, List.set_cons_succ]
  refine wpAnyH_take (i := 2) (v := ?mv2) (by simp only [List.getElem?_toArray, List.getElem?_cons_succ, List.getElem?_cons_zero]; rfl) (by kernel_rfl) (by kernel_rfl) (by kernel_rfl) (by exact fun _ _ _ h => h) (Or.inl ⟨by rfl, ?my2⟩) hHeld ?_
  case my2 => (intro w hSw; (try dsimp only at hSw); have hz0 := hSw.c0; have hz1 := hSw.c1; clear hSw; go_simp; try (with_reducible rfl))
  try simp only [Act.put, List.setIfInBounds_toArray, List.set_cons_zero, List.set_cons_succ]
  refine wpAnyH_take (i := 3) (v := ?mv3) (by simp only [List.getElem?_toArray, List.getElem?_cons_succ, List.getElem?_cons_zero]; rfl) (by kernel_rfl) (by kernel_rfl) (by kernel_rfl) (by exact fun _ _ _ h => h) (Or.inl ⟨by rfl, ?my3⟩) hHeld ?_
  case my3 => (intro w hSw; (try dsimp only at hSw); have hz0 := hSw.c0; have hz1 := hSw.c1; clear hSw; go_simp; try (with_reducible rfl))
  try simp only [Act.put, List.setIfInBounds_toArray, List.set_cons_zero, List.set_cons_succ]
  refine wpAnyH_take (i := 5) (v := ?mv5) (by simp only [List.getElem?_toArray, List.getElem?_cons_succ, List.getElem?_cons_zero]; rfl) (by kernel_rfl) (by kernel_rfl) (by kernel_rfl) (by exact fun _ _ _ h => h) (Or.inl ⟨by rfl, ?my5⟩) hHeld ?_
  case my5 => (intro w hSw; (try dsimp only at hSw); have hz0 := hSw.c0; have hz1 := hSw.c1; clear hSw; go_simp; try (with_reducible rfl))
  try simp only [Act.put, List.setIfInBounds_toArray, List.set_cons_zero, List.set_cons_succ]
  refine wpAnyH_take (i := 6) (v := ?mv6) (by simp only [List.getElem?_toArray, List.getElem?_cons_succ, List.getElem?_cons_zero]; rfl) (by kernel_rfl) (by kernel_rfl) (by kernel_rfl) (by exact fun _ _ _ h => h) (Or.inl ⟨by rfl, ?my6⟩) hHeld ?_
  case my6 => (intro w hSw; (try dsimp only at hSw); have hz0 := hSw.c0; have hz1 := hSw.c1; clear hSw; go_simp; try (with_reducible rfl))
  try simp only [Act.put, List.setIfInBounds_toArray, List.set_cons_zero, List.set_cons_succ]
  refine wpAnyH_ready (rs := [4]) (by kernel_rfl) (by simp) ?_
  refine AllReadyH.cons (by simp only [List.getElem?_toArray, List.getElem?_cons_succ, List.getElem?_cons_zero]; rfl) (fun KK hKK => ?_) AllReadyH.nil
  go_simp
  refine (PenWord_calls g r l u _ hp0 hul (by omega)).mono ?_
  rintro e w1 ⟨rfl, r1, hp1, hst1⟩
  have q1 : BoxC w1 w.heap.size x y := pen_far hst1.2 (by show w.heap.size < (w.alloc _).heap.size; simp) hne.1 hne.2 q0
  go_wp2_with fail
  refine hKK.out _ _ ?_ (fun hHeld => ?_)
  · exact q1
  clear hKK KK
  try simp only [Act.put, List.setIfInBounds_toArray, List.set_cons_zero, List.set_cons_succ]
  refine wpAnyH_ready (rs := [7]) (by kernel_rfl) (by simp) ?_
  refine AllReadyH.cons (by simp only [List.getElem?_toArray, List.getElem?_cons_succ, List.getElem?_cons_zero]; rfl) (fun KK hKK => ?_) AllReadyH.nil
  go_simp
  refine (PenWord_calls g r1 (l ++ low u 4) y _ hp1 hy (by simp; omega)).mono ?_
  rintro e w2 ⟨rfl, r2, hp2, hst2⟩
  have hne2 := hst1.1
  have q2 : BoxC w2 w.heap.size x y := pen_far hst2.2 q1.lt hne.1 (fun k hk => by rcases hst1.1 with h | ⟨q, h, hq⟩; exact hne.2 k (h ▸ hk); (have e := h.symm.trans hk; injection e with e; have hq : (w.alloc (.cells #[.int .i32 x, .int .u32 (y : Int)] 29)).heap.size ≤ q := hq; simp at hq; omega)) q1
  go_wp2_with fail
  refine hKK.out _ _ ?_ (fun hHeld => ?_)
  · exact q2
  clear hKK KK
  try simp only [Act.put, List.setIfInBounds_toArray, List.set_cons_zero, List.set_cons_succ]
  refine wpAnyH_done (by kernel_rfl) ?_ _
  go_wp2_with fail
  go_end0
  exact ⟨rfl, r2, hp2.cast (by rw [List.append_assoc, HB.out]), PenStep.below hb (hst1.trans hst2)⟩
set_option maxHeartbeats 8000000 in
set_option maxRecDepth 20000 in
theorem Hash_sum (L : List (Int × Nat)) (w : World) (hL : L.length ≤ 48) (hok : okC L) :
    Calls Try.prog 57 #[.agg (bdL L), .func (.func 58) #[] #[]] w fun e w' => e = .returned (.int .u32 (hashL L : Nat)) ∧ Below w.heap.size w w' := by
  have q0 := BoxL.new_ w L
  have HOK := Lib.hid hok
  have hpn : PenAt ((w.alloc (.cells (bdL L) 32)).alloc (.cells #[.slice none 0 0] 85)) (w.heap.size + 1) none [] := by
    refine ⟨.slice none 0 0, ?_, Row.nil_ _ _, rfl⟩
    have := heap_alloc_new (w.alloc (.cells (bdL L) 32)) (.cells #[.slice none 0 0] 85)
    rwa [show (w.alloc (.cells (bdL L) 32)).heap.size = w.heap.size + 1 by simp] at this
  have q0 := q0.alloc (.cells #[.slice none 0 0] 85)
  have hb := below_alloc2 w (.cells (bdL L) 32) (.cells #[.slice none 0 0] 85)
  have hc0 := BoxB.cn q0
  have ei : (L.length : Int) ≤ 48 := by omega
  have hlen := cellsB_len L
  clear hok
  obtain ⟨n, hn⟩ : ∃ n, n = L.length := ⟨_, rfl⟩
  rw [← hn] at hc0 ei hL hlen
  have hlen2 : (cellsB L).length ≤ 1000 := by omega
  have HN := Lib.hid hn
  clear hn hlen
  go_enter Try.func57, Try.ntmps57
  go_wp2_with fail
  go_loopw [7, 13] (fun p i wr => ∃ (k : Nat) (r : Option Nat), k ≤ n ∧ i = .int .i64 k ∧ BoxL wr w.heap.size L ∧ PenAt wr (w.heap.size + 1) r (cellsB (L.take k)) ∧ (∀ j, r = some j → w.heap.size + 1 < j) ∧ Below w.heap.size w wr) (fun _ i _ => n - (intOf i).toNat)
  case atStart => exact ⟨0, none, Nat.zero_le _, rfl, q0, hpn, fun j hj => (by cases hj), hb⟩
  case round =>
    obtain ⟨k, r, hk, rfl, r0, hp, hrn, hb1⟩ := hrel
    rename_i v0 _
    clear q0 hb hc0 hpn
    by_cases hlt : k < n
    · have hkL : k < L.length := by rw [← HN.out]; exact hlt
      have a0 := BoxB.cv r0 (i := k) (by omega)
      have a1 := BoxB.cl r0 (i := k) (by omega)
      rw [bdF_in hkL] at a0
      rw [bdG_in hkL] at a1
      have hy := (okC_get HOK.out hkL).2
      have hsn : cellsB (L.take (k + 1)) = cellsB (L.take k) ++ cellB L[k] := by rw [take_snoc1 hkL, cellsB_snoc]
      have hpl := cellsB_len (L.take k)
      obtain ⟨p, hp'⟩ : ∃ p, p = L[k] := ⟨_, rfl⟩
      rw [← hp'] at a0 a1 hy hsn
      obtain ⟨x, y⟩ := p
      have HS := Lib.hid hsn
      have ek : (k : Int) < 48 := by omega
      have ej : (k : Int) < (n : Int) := by omega
      simp only at a0 a1 hy
      have hz := r0.lt
      have hpl2 : (cellsB (L.take k)).length ≤ 1000 := by rw [hpl, List.length_take]; omega
      have h9 := below_alloc1 wr (.cells #[.int .i32 x, .int .u32 (y : Int)] 29)
      have hp2 := PenAt.ext hp h9
      have r1 := r0.ext h9
      have hb2 := hb1.trans (h9.mono hb1.size)
      clear hp' hsn hpl
      go_wp2_with fail
      refine (whole_calls x y (w.heap.size + 1) r _ _ hp2 hy (by omega)).mono ?_
      rintro e w2 ⟨rfl, r', hp3, hst⟩
      have r2 : BoxL w2 w.heap.size L := r1.mod hst.2 (fun h => by rcases h with h | h; omega; (have := hrn _ h; omega))
      have hz2 := hb2.size
      have hb3 : Below w.heap.size w w2 := hb2.trans (hst.2.below hb2.size (fun i hi h => by rcases h with h | h; omega; (have := hrn _ h; omega)))
      have hrn2 : ∀ j, r' = some j → w.heap.size + 1 < j := fun j hj => by
        rcases hst.1 with h | ⟨q, h, hq⟩
        · exact hrn j (h ▸ hj)
        · have e := h.symm.trans hj
          injection e with e
          have := hp2.lt
          omega
      go_wp2_with fail
      go_roundw
      case rel => exact ⟨k + 1, r', by omega, by go_num, r2, hp3.cast (by rw [HS.out]), hrn2, hb3⟩
      case measure => simp [intOf]; omega
    · obtain rfl : n = k := by omega
      rw [HN.out, List.take_length] at hp
      go_wp2_with fail
      refine (Make_calls _).mono ?_
      rintro e w3 ⟨rfl, h3⟩
      have hp := PenAt.ext hp h3
      have hb3 := hb1.trans (h3.mono hb1.size)
      clear h3
      go_wp2_with fail
      refine (PenBytes_calls (w.heap.size + 1) r _ _ hp (by omega)).mono ?_
      rintro e w4 ⟨v4, rfl, hrow, h4⟩
      obtain ⟨A4, c4, b4, rfl, _, _, _, _, hs4, _⟩ := hrow.sl
      have hb4 := hb3.trans (h4.mono hb3.size)
      clear h4 hrow
      have h5 := below_alloc1 w4 (.cells #[.slice A4 (cellsB L).length c4] 36)
      have hs5 := Sl.ext hs4 h5
      have hb5 := hb4.trans (h5.mono hb4.size)
      have hsl := Sl.one_new w4 (.slice A4 (cellsB L).length c4) 36
      go_wp2_with fail
      refine (TableSum_calls _ [.slice A4 (cellsB L).length c4] [cellsB L] 1 1 w4.heap.size _ hsl (Bss.cons hs5 rfl (Bss.nil_ _)) rfl (by simp [maxLen]) (by simp; omega)).mono ?_
      rintro e w6 ⟨rfl, h6⟩
      have hb6 := hb5.trans (h6.mono hb5.size)
      go_wp2_with fail
      go_ret
      exact ⟨rfl, hb6⟩
set_option maxHeartbeats 1000000 in
set_option maxRecDepth 20000 in
theorem Hash_calls (L : List (Int × Nat)) (w : World) (hL : L.length ≤ 48) (hok : okC L) :
    Calls Try.prog 34 #[.agg (bdL L)] w fun e w' => e = .returned (.int .u32 (hashL L : Nat)) ∧ Below w.heap.size w w' := by
  have q := BoxL.new_ w L
  have hb := below_alloc1 w (.cells (bdL L) 32)
  have hS := fun W => Hash_sum L W hL hok
  obtain ⟨z, hz⟩ : ∃ z, z = hashL L := ⟨_, rfl⟩
  rw [← hz] at hS ⊢
  clear hz
  go_enter Try.func34, Try.ntmps34
  go_wp2_with ((with_reducible refine at_ld 32 1 ?_); refine wpList_ld rfl (.tmp 1) rfl w.heap.size rfl L q ?_)
  refine (hS _).mono ?_
  rintro e w1 ⟨rfl, h1⟩
  go_wp2_with fail
  go_ret
  exact ⟨rfl, hb.trans (h1.mono hb.size)⟩
end Go.Proofs.Ytioahddobogpjaa
/- The reference's Put and Same over lists of cells. Conditions: those said. -/
namespace Go.Proofs.Ytioahddobogpjaa
open Go.RowKit

set_option maxHeartbeats 4000000 in
set_option maxRecDepth 20000 in
theorem RefSame_calls (A A' : Option Addr) (L M : List (Int × Nat)) (n c b n' c' b' : Nat) (w : World) (hs : Sl w b A (cv L)) (hs' : Sl w b' A' (cv M)) (hn : L.length = n) (hn' : M.length = n') (hm : n ≤ 1000000) (hm' : n' ≤ 1000000) :
    Calls Try.prog 36 #[.slice A n c, .slice A' n' c'] w fun e w' => e = .returned (.bool (decide (L = M))) ∧ Below w.heap.size w w' := by
  subst hn hn'
  obtain ⟨r, hr⟩ : ∃ r, r = decide (L = M) := ⟨_, rfl⟩
  rw [← hr]
  have HR := Lib.hid hr
  clear hr
  by_cases hl : L.length = M.length
  · have hne : ((L.length : Int) != (M.length : Int)) = false := by simp [hl]
    have HL := Lib.hid hl
    clear hl
    go_enter Try.func36, Try.ntmps36
    go_wp2_with fail
    clear hne
    go_loopw [5, 13] (fun v i wr => ∃ k : Nat, k ≤ L.length ∧ i = .int .i64 k ∧ Hid (L.take k = M.take k) ∧ Below w.heap.size w wr) (fun _ i _ => L.length - (intOf i).toNat)
    case atStart => exact ⟨0, Nat.zero_le _, rfl, Lib.hid rfl, Below.refl _ _⟩
    case round =>
      obtain ⟨k, hk, rfl, HT, hb⟩ := hrel
      rename_i v0 _
      by_cases hlt : k < L.length
      · have hlt' : k < M.length := by have := HL.out; omega
        obtain ⟨off, rfl, h0, h1⟩ := sl_off (Sl.ext hs hb) hlt
        obtain ⟨off', rfl, h0', h1'⟩ := sl_off (Sl.ext hs' hb) hlt'
        have hA := Lib.hid (take_next hlt)
        have hB := Lib.hid (take_next hlt')
        obtain ⟨p, hp⟩ : ∃ p, p = L[k] := ⟨_, rfl⟩
        obtain ⟨q, hq⟩ : ∃ q, q = M[k] := ⟨_, rfl⟩
        rw [← hp] at h0 h1 hA
        rw [← hq] at h0' h1' hB
        obtain ⟨x, y⟩ := p
        obtain ⟨x', y'⟩ := q
        have hp := Lib.hid hp
        have hq := Lib.hid hq
        have ej : (k : Int) < (L.length : Int) := by omega
        have ej' : (k : Int) < (M.length : Int) := by omega
        simp only at h0 h1 h0' h1'
        by_cases e1 : x = x'
        · subst e1
          by_cases e2 : y = y'
          · subst e2
            go_wp2_with fail
            go_quiet (fail)
            go_wp2_with fail
            go_roundw
            case rel => exact ⟨k + 1, by omega, by go_num, Lib.hid (by rw [hA.out, hB.out, HT.out]), below_drewN hb _⟩
            case measure => simp [intOf]; omega
          · have e3 : ((y : Int) == (y' : Int)) = false := by simp; omega
            have e4 : ((y : Int) = (y' : Int)) = False := by simp; omega
            go_wp2_with fail
            go_quiet (fail)
            go_wp2_with fail
            go_ret
            refine ⟨?_, below_drewN hb _⟩
            rw [HR.out, decide_eq_false (fun h => by subst h; have := hp.out.trans hq.out.symm; injection this with _ h2; exact e2 h2)]
            rfl
        · have e3 : (x == x') = false := by simp; omega
          go_wp2_with fail
          go_quiet (fail)
          go_wp2_with fail
          go_ret
          refine ⟨?_, below_drewN hb _⟩
          rw [HR.out, decide_eq_false (fun h => by subst h; have := hp.out.trans hq.out.symm; injection this with h2 _; exact e1 h2)]
          rfl
      · obtain rfl : k = L.length := by omega
        go_wp2_with fail
        go_ret
        refine ⟨?_, hb⟩
        have h1 := HT.out
        rw [List.take_length, HL.out, List.take_length] at h1
        rw [HR.out, decide_eq_true h1]
        rfl
  · have hne : ((L.length : Int) != (M.length : Int)) = true := by simp; omega
    go_enter Try.func36, Try.ntmps36
    go_wp2_with fail
    go_ret
    exact ⟨by rw [HR.out, decide_eq_false (fun h => hl (by rw [h]))]; rfl, Below.refl _ _⟩
end Go.Proofs.Ytioahddobogpjaa
