/- has, Len, At: what stands where. Conditions: a board has 48 cells at most. -/
import Derived.Test.YtpppjlcfhijdgaaBoardN
import Derived.Test.YtpppjlcfhijdgaaMaskD
namespace Go.Proofs.Ytpppjlcfhijdgaa
open Go.RowKit

theorem results_ct {P : Program} {fn : Func} {p t : Tmp} {ty : TypeId} (h : fn.results = #[.cell p ty, .tmp t]) (tmps : Array Value) (w : World) (g : Nat) (tt : TypeId) (cs : Array Value) (fr : Nat × Nat) (d : TypeDesc)
    (hp : tmps.getD p undef = .pointer (some ⟨g, 0, none⟩)) (hg : w.heap[g]? = some (.cells cs tt fr))
    (hu : P.underlying ty = some d) (hd : (match d with | .struct _ | .array _ _ => true | _ => false) = true) (hi : (P.info? ty).map (·.size) = some cs.size) :
    (results fn tmps).run P w = .ok (.tuple #[.agg cs, tmps.getD t undef]) w := by
  have hp' : tmps[p]?.getD undef = .pointer (some ⟨g, 0, none⟩) := by simpa using hp
  simp [results, h, hp', asAddr, run_loadVar_row w g tt ty cs fr d hg hu hd hi]
set_option maxHeartbeats 1000000 in
set_option maxRecDepth 20000 in
theorem bHas_calls (f : Nat → Int) (g : Nat → Nat) (n : Nat) (i : Int) (w : World) :
    Calls Try.prog 55 #[.agg (bdA f g n), .int .i64 i] w fun e w' => e = .returned (.bool (decide (0 ≤ i ∧ i < (n : Int)))) ∧ Below w.heap.size w w' := by
  have q := BoxB.new_ w f g n
  have hb := below_alloc1 w (.cells (bdA f g n) 32)
  have hc := q.cn
  obtain ⟨r, hr⟩ : ∃ r, r = decide (0 ≤ i ∧ i < (n : Int)) := ⟨_, rfl⟩
  rw [← hr]
  have HR := Lib.hid hr
  clear hr
  by_cases h0 : 0 ≤ i
  · have h0d : decide (0 ≤ i) = true := by simpa using h0
    go_enter Try.func55, Try.ntmps55
    go_wp2_with fail
    go_ret
    exact ⟨by rw [HR.out]; simp [h0], hb⟩
  · have h0d : decide (0 ≤ i) = false := by simpa using h0
    go_enter Try.func55, Try.ntmps55
    go_wp2_with fail
    go_ret
    exact ⟨by rw [HR.out]; simp; omega, hb⟩
set_option maxHeartbeats 1000000 in
set_option maxRecDepth 20000 in
theorem bLen_calls (f : Nat → Int) (g : Nat → Nat) (n : Nat) (w : World) :
    Calls Try.prog 44 #[.agg (bdA f g n)] w fun e w' => e = .returned (.int .i64 (n : Int)) ∧ Below w.heap.size w w' := by
  have q := BoxB.new_ w f g n
  have hb := below_alloc1 w (.cells (bdA f g n) 32)
  have hc := q.cn
  go_enter Try.func44, Try.ntmps44
  go_wp2_with fail
  go_ret
  exact ⟨rfl, hb⟩
theorem cell_size2 (a b : Value) : (Try.prog.info? 29).map (·.size) = some (#[a, b] : Array Value).size := by kernel_rfl
/-- Block b is a cell of a board. -/
def BoxC (w : World) (b : Nat) (x : Int) (y : Nat) : Prop := w.heap[b]? = some (.cells #[.int .i32 x, .int .u32 (y : Int)] 29 (0, 0))
namespace BoxC
variable {w w' : World} {b y : Nat} {x : Int}
theorem new_ (w : World) (x : Int) (y : Nat) : BoxC (w.alloc (.cells #[.int .i32 x, .int .u32 (y : Int)] 29)) w.heap.size x y := heap_alloc_new w _
theorem lt (h : BoxC w b x y) : b < w.heap.size := (Array.getElem?_eq_some_iff.1 h).1
theorem c0 (h : BoxC w b x y) : w.cell? ⟨b, 0, none⟩ = some (.int .i32 x) := by rw [cell_of_row w b 0 _ _ _ h]; rfl
theorem c1 (h : BoxC w b x y) : w.cell? ⟨b, 1, none⟩ = some (.int .u32 (y : Int)) := by rw [cell_of_row w b 1 _ _ _ h]; rfl
theorem fr (h : BoxC w b x y) (j : Nat) : w.frozen? ⟨b, j, none⟩ = false := frozen_of_row w b j _ _ h
theorem ext (h : BoxC w b x y) (hb : Below w.heap.size w w') : BoxC w' b x y := (hb.block b h.lt).trans h
theorem alloc (h : BoxC w b x y) (o : Obj) : BoxC (w.alloc o) b x y := (Below.heap_alloc w o b h.lt).trans h
theorem set0 (h : BoxC w b x y) (u : Int) : BoxC (w.setCell ⟨b, 0, none⟩ (.int .i32 u)) b u y := heap_setCell_same w b 0 _ _ _ h
theorem set1 (h : BoxC w b x y) (u : Nat) : BoxC (w.setCell ⟨b, 1, none⟩ (.int .u32 (u : Int))) b x u := heap_setCell_same w b 1 _ _ _ h
theorem other (h : BoxC w b x y) {p : Addr} (hp : b ≠ p.block) (u : Value) : BoxC (w.setCell p u) b x y := (heap_setCell_other w p b u hp).trans h
end BoxC
set_option maxHeartbeats 2000000 in
set_option maxRecDepth 20000 in
theorem bAt_in (f : Nat → Int) (g : Nat → Nat) (n i : Nat) (w : World) (hi : i < n) (hn : n ≤ 48) :
    Calls Try.prog 31 #[.agg (bdA f g n), .int .i64 i] w fun e w' => e = .returned (.tuple #[.agg #[.int .i32 (f i), .int .u32 ((g i : Nat) : Int)], .bool true]) ∧ Below w.heap.size w w' := by
  have q0 := (BoxB.new_ w f g n).alloc (.cells #[.int .i32 0, .int .u32 (0 : Nat)] 29)
  have q1 := BoxC.new_ (w.alloc (.cells (bdA f g n) 32)) 0 0
  rw [show (w.alloc (.cells (bdA f g n) 32)).heap.size = w.heap.size + 1 by simp] at q1
  have hb := below_alloc2 w (.cells (bdA f g n) 32) (.cells #[.int .i32 0, .int .u32 (0 : Nat)] 29)
  have hH := fun W => bHas_calls f g n (i : Int) W
  rw [show decide (0 ≤ (i : Int) ∧ (i : Int) < (n : Int)) = true by simp; omega] at hH
  have ei : (i : Int) < 48 := by omega
  go_enter Try.func31, Try.ntmps31
  go_wp2_with (refine wpList_load_bd rfl (.tmp 2) rfl w.heap.size rfl _ _ _ q0 ?_)
  refine (hH _).mono ?_
  rintro e w1 ⟨rfl, hb2⟩
  have q0 := q0.ext hb2
  have q1 := q1.ext hb2
  have hb := hb.trans (hb2.mono hb.size)
  have a0 := q0.cv (i := i) (by omega)
  have a1 := q0.cl (i := i) (by omega)
  have b0 := q1.c0
  have b1 := q1.c1
  have f0 := q1.fr 0
  have f1 := q1.fr 1
  clear hb2 hH
  go_wp2_with fail
  have hE := (q1.set0 (f i)).set1 (g i)
  refine bodyPost_ret (results_ct (P := Try.prog) rfl _ _ (w.heap.size + 1) _ _ (0, 0) _ rfl hE Try.underlying29 rfl (cell_size2 _ _)) rfl ⟨rfl, (hb.setCell (by simp) _).setCell (by simp) _⟩
set_option maxHeartbeats 2000000 in
set_option maxRecDepth 20000 in
theorem bAt_out (f : Nat → Int) (g : Nat → Nat) (n : Nat) (i : Int) (w : World) (hi : ¬(0 ≤ i ∧ i < (n : Int))) :
    Calls Try.prog 31 #[.agg (bdA f g n), .int .i64 i] w fun e w' => e = .returned (.tuple #[.agg #[.int .i32 0, .int .u32 0], .bool false]) ∧ Below w.heap.size w w' := by
  have q0 := (BoxB.new_ w f g n).alloc (.cells #[.int .i32 0, .int .u32 (0 : Nat)] 29)
  have q1 := BoxC.new_ (w.alloc (.cells (bdA f g n) 32)) 0 0
  rw [show (w.alloc (.cells (bdA f g n) 32)).heap.size = w.heap.size + 1 by simp] at q1
  have hb := below_alloc2 w (.cells (bdA f g n) 32) (.cells #[.int .i32 0, .int .u32 (0 : Nat)] 29)
  have hH := fun W => bHas_calls f g n i W
  rw [show decide (0 ≤ i ∧ i < (n : Int)) = false by simpa using hi] at hH
  go_enter Try.func31, Try.ntmps31
  go_wp2_with (refine wpList_load_bd rfl (.tmp 2) rfl w.heap.size rfl _ _ _ q0 ?_)
  refine (hH _).mono ?_
  rintro e w1 ⟨rfl, hb2⟩
  have q0 := q0.ext hb2
  have q1 := q1.ext hb2
  have hb := hb.trans (hb2.mono hb.size)
  have b0 := q1.c0
  have b1 := q1.c1
  have f0 := q1.fr 0
  have f1 := q1.fr 1
  clear hb2 hH
  go_wp2_with fail
  have hE := (q1.set0 0).set1 0
  refine bodyPost_ret (results_ct (P := Try.prog) rfl _ _ (w.heap.size + 1) _ _ (0, 0) _ rfl hE Try.underlying29 rfl (cell_size2 _ _)) rfl ⟨rfl, (hb.setCell (by simp) _).setCell (by simp) _⟩
end Go.Proofs.Ytpppjlcfhijdgaa
