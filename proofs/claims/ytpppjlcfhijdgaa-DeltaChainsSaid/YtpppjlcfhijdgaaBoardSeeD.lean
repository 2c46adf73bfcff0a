/- Show of a cell that is there; View. Conditions: a board has 48 cells at most; the labels fit 32 bits. -/
import Derived.Test.YtpppjlcfhijdgaaBoardPutD
import Derived.Test.YtpppjlcfhijdgaaBoardL
import Derived.Deep.RegionHeld3
import Derived.BigRegion
namespace Go.Proofs.Ytpppjlcfhijdgaa
open Go.RowKit

theorem yieldsIf_load_bd {ops : Array Oper} {S : World → Prop} {op : Oper} {a : Act} (hw : Region.wanted op (yielded ops a.tmps) = true) (x : Operand) (ho : op.op = .load 32 x)
    (b : Nat) (hx : a.eval x = .pointer (some ⟨b, 0, none⟩)) (f : Nat → Int) (g : Nat → Nat) (n : Nat) (hS : ∀ w, S w → BoxB w b f g n) : YieldsIf Try.prog ops S op (.agg (bdA f g n)) a :=
  .inl ⟨hw, fun w hw' => by
    unfold execOp
    simp only [ho, hx, Sem.run_bind, (hS w hw').load, Sem.run_pure, Result.andThen_ok]⟩
theorem BoxB.set1 {w : World} {b : Nat} {f : Nat → Int} {g : Nat → Nat} {n : Nat} (h : BoxB w b f g n) {p : Addr} (hp : b ≠ p.block) (u : Value) : BoxB (w.setCell p u) b f g n := h.other hp u
set_option maxHeartbeats 4000000 in
set_option maxRecDepth 20000 in
theorem bView_calls (f : Nat → Int) (g : Nat → Nat) (n : Nat) (o : Int) (w : World) (hn : n ≤ 48) (hg : ∀ i, i < n → g i < 4294967296) :
    Calls Try.prog 18 #[.agg (bdA f g n), .int .i64 o] w fun e w' => e = .returned (.agg (bdA (fun j => if j < n ∧ sees (g j) o = false then 0 else f j) g n)) ∧ Below w.heap.size w w' := by
  have q0 := (BoxB.new_ w f g n).alloc (.cells (bdA (fun _ => 0) (fun _ => 0) 0) 32)
  have q2 := BoxB.new_ (w.alloc (.cells (bdA f g n) 32)) (fun _ => 0) (fun _ => 0) 0
  rw [show (w.alloc (.cells (bdA f g n) 32)).heap.size = w.heap.size + 1 by simp] at q2
  have hb := below_alloc2 w (.cells (bdA f g n) 32) (.cells (bdA (fun _ => 0) (fun _ => 0) 0) 32)
  have c0 := q0.cn
  have HG := Lib.hid hg
  clear hg
  go_enter Try.func18, Try.ntmps18
  go_wp2_with (refine wpList_alloc_bd rfl rfl _ rfl (w.heap.size + 1) (by simp) ?_)
  go_loopw [5, 8] (fun v i wr => ∃ k : Nat, k ≤ n ∧ i = .int .i64 k ∧ BoxB wr w.heap.size (fun j => if j < k ∧ sees (g j) o = false then 0 else f j) g n ∧ BoxB wr (w.heap.size + 1) (fun _ => 0) (fun _ => 0) 0 ∧ Below w.heap.size w wr) (fun _ i _ => n - (intOf i).toNat)
  case atStart => exact ⟨0, Nat.zero_le _, rfl, q0.congr (fun j _ => by simp) (fun _ _ => rfl), q2, hb⟩
  case round =>
    obtain ⟨k, hk, rfl, r0, r2, hb1⟩ := hrel
    clear q0 q2 hb c0
    by_cases hlt : k < n
    · have a1 := r0.cl (i := k) (by omega)
      have f0 := r0.fr (k * 2)
      obtain ⟨x0, a0⟩ : ∃ x0, wr.cell? ⟨w.heap.size, k * 2, none⟩ = some (.int .i32 x0) := ⟨_, r0.cv (i := k) (by omega)⟩
      have hH := fun W => MHas_calls (g k) o W (HG.out k hlt)
      have hS := Lib.hid (show sees (g k) o = decide (g k &&& aloneN o ≠ 0) from rfl)
      obtain ⟨d, hd⟩ : ∃ d, d = decide (g k &&& aloneN o ≠ 0) := ⟨_, rfl⟩
      rw [← hd] at hH hS
      obtain ⟨G, hG⟩ : ∃ G, G = g k := ⟨_, rfl⟩
      rw [← hG] at hH hS a1
      have HGk := Lib.hid hG
      have ek : (k : Int) < 48 := by omega
      have ej : (k : Int) < (n : Int) := by omega
      clear hd hG
      cases d with
      | true =>
        go_wp2_with fail
        refine (hH _).mono ?_
        rintro e w2 ⟨rfl, rfl⟩
        go_wp2_with fail
        go_roundw
        case rel =>
          refine ⟨k + 1, by omega, by go_num, r0.congr (fun j _ => ?_) (fun _ _ => rfl), r2, hb1⟩
          have h1 := hS.out
          rw [HGk.out] at h1
          by_cases e : j = k
          · subst e; simp [h1]
          · have h2 : j < k + 1 ↔ j < k := by omega
            simp only [h2]
        case measure => simp [intOf]; omega
      | false =>
        go_wp2_with fail
        refine (hH _).mono ?_
        rintro e w2 ⟨rfl, rfl⟩
        go_wp2_with fail
        go_roundw
        case rel =>
          refine ⟨k + 1, by omega, by go_num, (r0.setVal (k := k) (by omega) 0).congr (fun j _ => ?_) (fun _ _ => rfl), r2.other (by simp) _, hb1.setCell (by simp) _⟩
          have h1 := hS.out
          rw [HGk.out] at h1
          by_cases e : j = k
          · subst e; simp [h1]
          · have h2 : j < k + 1 ↔ j < k := by omega
            simp only [h2, if_neg e]
        case measure => simp [intOf]; omega
    · obtain rfl : n = k := by omega
      go_wp2_with (first | refine wpList_load_bd rfl (.tmp 2) rfl w.heap.size rfl _ _ _ r0 ?_ | refine wpList_store_bd rfl (.tmp 4) (.tmp 24) rfl (w.heap.size + 1) _ _ _ rfl rfl _ _ _ r2 ?_)
      have hE := r2.row_ (fun j => if j < n ∧ sees (g j) o = false then 0 else f j) g n
      exact bodyPost_ret (results_cell_row (P := Try.prog) rfl _ _ (w.heap.size + 1) _ _ (0, 0) _ rfl hE Try.underlying32 rfl (bd_size _ _ _)) rfl ⟨rfl, below_setRow hb1 _ _ (by omega)⟩
end Go.Proofs.Ytpppjlcfhijdgaa
