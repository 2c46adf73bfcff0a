/- Show: another board whose cell more may see. Conditions: a board has 48 cells at most; the labels fit 32 bits. -/
import Derived.Test.YtemhglcdcpobpaaBoardPut
import Derived.Test.YtemhglcdcpobpaaJoinB
namespace Go.Proofs.Ytemhglcdcpobpaa
open Go.RowKit

theorem results_ctt {P : Program} {fn : Func} {p t u : Tmp} {ty : TypeId} (h : fn.results = #[.cell p ty, .tmp t, .tmp u]) (tmps : Array Value) (w : World) (g : Nat) (tt : TypeId) (cs : Array Value) (fr : Nat × Nat) (d : TypeDesc)
    (hp : tmps.getD p undef = .pointer (some ⟨g, 0, none⟩)) (hg : w.heap[g]? = some (.cells cs tt fr))
    (hu : P.underlying ty = some d) (hd : (match d with | .struct _ | .array _ _ => true | _ => false) = true) (hi : (P.info? ty).map (·.size) = some cs.size) :
    (results fn tmps).run P w = .ok (.tuple #[.agg cs, tmps.getD t undef, tmps.getD u undef]) w := by
  have hp' : tmps[p]?.getD undef = .pointer (some ⟨g, 0, none⟩) := by simpa using hp
  simp [results, h, hp', asAddr, run_loadVar_row w g tt ty cs fr d hg hu hd hi]
theorem wp_result_bdtt (fn : Func) (p t u : Tmp) (h : fn.results = #[.cell p 31, .tmp t, .tmp u]) (tmps : Array Value) (w : World) (b : Nat) (f : Nat → Int) (g : Nat → Nat) (n : Nat) (hp : tmps.getD p undef = .pointer (some ⟨b, 0, none⟩)) (q : BoxB w b f g n) :
    (results fn tmps).run Try.prog w = .ok (.tuple #[.agg (bdA f g n), tmps.getD t undef, tmps.getD u undef]) w :=
  results_ctt (P := Try.prog) h tmps w b _ _ (0, 0) _ hp q Try.underlying31 rfl (bd_size _ _ _)
set_option maxHeartbeats 2000000 in
set_option maxRecDepth 20000 in
theorem bShow_out (f : Nat → Int) (g : Nat → Nat) (n : Nat) (i : Int) (m : Nat) (w : World) (hi : ¬(0 ≤ i ∧ i < (n : Int))) :
    Calls Try.prog 27 #[.agg (bdA f g n), .int .i64 i, .int .u32 m] w fun e w' => e = .returned (.tuple #[.agg (bdA f g n), .bool false, .int .i64 7]) ∧ Below w.heap.size w w' := by
  have q0 := (BoxB.new_ w f g n).alloc (.cells (bdA (fun _ => 0) (fun _ => 0) 0) 31)
  have q2 := BoxB.new_ (w.alloc (.cells (bdA f g n) 31)) (fun _ => 0) (fun _ => 0) 0
  rw [show (w.alloc (.cells (bdA f g n) 31)).heap.size = w.heap.size + 1 by simp] at q2
  have hb := below_alloc2 w (.cells (bdA f g n) 31) (.cells (bdA (fun _ => 0) (fun _ => 0) 0) 31)
  have hH := fun W => bHas_calls f g n i W
  rw [show decide (0 ≤ i ∧ i < (n : Int)) = false by simpa using hi] at hH
  go_enter Try.func27, Try.ntmps27
  go_wp2_with (first | refine wpList_alloc_bd rfl rfl _ rfl (w.heap.size + 1) (by simp) ?_ | refine wpList_load_bd rfl (.tmp 3) rfl w.heap.size rfl _ _ _ q0 ?_)
  refine (hH _).mono ?_
  rintro e w1 ⟨rfl, hb2⟩
  have q0 := q0.ext hb2
  have q2 := q2.ext hb2
  have hb := hb.trans (hb2.mono hb.size)
  clear hb2 hH
  go_wp2_with (first | refine wpList_load_bd rfl (.tmp 3) rfl w.heap.size rfl _ _ _ q0 ?_ | refine wpList_store_bd rfl (.tmp 6) (.tmp 14) rfl (w.heap.size + 1) _ _ _ rfl rfl _ _ _ q2 ?_)
  exact bodyPost_ret (wp_result_bdtt _ _ _ _ rfl _ _ (w.heap.size + 1) _ _ _ rfl (q2.row_ f g n)) rfl ⟨rfl, below_setRow hb _ _ (by omega)⟩
end Go.Proofs.Ytemhglcdcpobpaa
