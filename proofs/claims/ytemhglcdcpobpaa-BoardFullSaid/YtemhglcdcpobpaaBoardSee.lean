/- Show of a cell that is there; View. Conditions: a board has 48 cells at most; the labels fit 32 bits. -/
import Derived.Test.YtemhglcdcpobpaaBoardShow
import Derived.Test.YtemhglcdcpobpaaBoardL
import Derived.Deep.RegionHeld3
import Derived.BigRegion
namespace Go.Proofs.Ytemhglcdcpobpaa
open Go.RowKit

theorem yieldsIf_load_bd {ops : Array Oper} {S : World → Prop} {op : Oper} {a : Act} (hw : Region.wanted op (yielded ops a.tmps) = true) (x : Operand) (ho : op.op = .load 31 x)
    (b : Nat) (hx : a.eval x = .pointer (some ⟨b, 0, none⟩)) (f : Nat → Int) (g : Nat → Nat) (n : Nat) (hS : ∀ w, S w → BoxB w b f g n) : YieldsIf Try.prog ops S op (.agg (bdA f g n)) a :=
  .inl ⟨hw, fun w hw' => by
    unfold execOp
    simp only [ho, hx, Sem.run_bind, (hS w hw').load, Sem.run_pure, Result.andThen_ok]⟩
theorem BoxB.set1 {w : World} {b : Nat} {f : Nat → Int} {g : Nat → Nat} {n : Nat} (h : BoxB w b f g n) {p : Addr} (hp : b ≠ p.block) (u : Value) : BoxB (w.setCell p u) b f g n := h.other hp u
set_option maxHeartbeats 4000000 in
set_option maxRecDepth 20000 in
theorem bShow_in (f : Nat → Int) (g : Nat → Nat) (n i : Nat) (m : Nat) (w : World) (hi : i < n) (hn : n ≤ 48) (hgi : g i < 4294967296) (hm : m < 4294967296) :
    Calls Try.prog 27 #[.agg (bdA f g n), .int .i64 i, .int .u32 m] w fun e w' => e = .returned (.tuple #[.agg (bdA f (fun j => if j = i then g i ||| m else g j) n), .bool (!decide (lessN m (g i) = 0)), .int .i64 0]) ∧ Below w.heap.size w w' := by
  have q0 := (BoxB.new_ w f g n).alloc (.cells (bdA (fun _ => 0) (fun _ => 0) 0) 31)
  have q2 := BoxB.new_ (w.alloc (.cells (bdA f g n) 31)) (fun _ => 0) (fun _ => 0) 0
  rw [show (w.alloc (.cells (bdA f g n) 31)).heap.size = w.heap.size + 1 by simp] at q2
  have hb := below_alloc2 w (.cells (bdA f g n) 31) (.cells (bdA (fun _ => 0) (fun _ => 0) 0) 31)
  have hH := fun W => bHas_calls f g n (i : Int) W
  rw [show decide (0 ≤ (i : Int) ∧ (i : Int) < (n : Int)) = true by simp; omega] at hH
  have ei : (i : Int) < 48 := by omega
  obtain ⟨G, hG⟩ : ∃ G, G = g i := ⟨_, rfl⟩
  have hGl : G < 4294967296 := by omega
  have hJ := fun W b h => MJoin_calls G (some ⟨b, 0, none⟩) [m] 1 1 b W hGl (by simpa using hm) h rfl (by omega)
  have hW := fun W => MWithin_calls m G W hm hGl
  have eJ : joinN G [m] = G ||| m := rfl
  rw [eJ] at hJ
  obtain ⟨J, hJe⟩ : ∃ J, J = G ||| m := ⟨_, rfl⟩
  obtain ⟨d, hd⟩ : ∃ d, d = decide (lessN m G = 0) := ⟨_, rfl⟩
  rw [← hJe] at hJ
  rw [← hd] at hW
  rw [← hG]
  rw [← hJe, ← hd]
  have HG := Lib.hid hG
  clear hG hJe hd eJ hgi hm
  go_enter Try.func27, Try.ntmps27
  go_wp2_with (first | refine wpList_alloc_bd rfl rfl _ rfl (w.heap.size + 1) (by simp) ?_ | refine wpList_load_bd rfl (.tmp 3) rfl w.heap.size rfl _ _ _ q0 ?_)
  refine (hH _).mono ?_
  rintro e w1 ⟨rfl, hb2⟩
  have q0 := q0.ext hb2
  have q2 := q2.ext hb2
  have hb := hb.trans (hb2.mono hb.size)
  have hz1 := q2.lt
  have a1 := q0.cl (i := i) (by omega)
  rw [← HG.out] at a1
  have f1 := q0.fr (i * 2 + 1)
  clear hb2 hH
  go_wp2_with fail
  have s3 := below_alloc1 w1 (.cells #[.int .u32 (m : Int)] 26)
  refine (hJ _ _ (Sl.one_new w1 (.int .u32 (m : Int)) 26)).mono ?_
  rintro e w2 ⟨rfl, rfl⟩
  have q0 := q0.ext s3
  have q2 := q2.ext s3
  have hb := hb.trans (s3.mono hb.size)
  have p0 := q0.setLab (k := i) (by omega) J
  have p2 := q2.other (p := ⟨w.heap.size, i * 2 + 1, none⟩) (by simp) (.int .u32 (J : Int))
  have hb := hb.setCell (p := ⟨w.heap.size, i * 2 + 1, none⟩) (by simp) (.int .u32 (J : Int))
  have f2 := q0.fr (i * 2 + 1)
  have a2 := q0.cl (i := i) (by omega)
  clear s3 hJ a1 f1
  go_wp2_with fail
  refine wp_region_held_drew (S := fun w' => BoxB w' w.heap.size f (fun j => if j = i then J else g j) n) (by kernel_rfl) ?_ (fun hHeld => ?_)
  · exact p0
  refine wpAnyH_take (i := 0) (by simp only [List.getElem?_toArray, List.getElem?_cons_zero]; rfl) (by kernel_rfl) (by kernel_rfl) (by kernel_rfl) (by exact fun _ _ _ h => h) (by exact yieldsIf_load_bd (by rfl) (.tmp 3) rfl w.heap.size rfl _ _ _ (fun w h => h)) hHeld ?_
  try simp only [Act.put, List.setIfInBounds_toArray, List.set_cons_zero, List.set_cons_succ]
  refine wpAnyH_take (i := 1) (v := ?sv1) (by simp only [List.getElem?_toArray, List.getElem?_cons_succ, List.getElem?_cons_zero]; rfl) (by kernel_rfl) (by kernel_rfl) (by kernel_rfl) (by exact fun _ _ _ h => h) (Or.inl ⟨by rfl, ?sy1⟩) hHeld ?_
  case sy1 => (intro w hSw; (try dsimp only at hSw); skip; go_simp; try (with_reducible rfl))
  try simp only [Act.put, List.setIfInBounds_toArray, List.set_cons_zero, List.set_cons_succ]
  refine wpAnyH_take (i := 2) (v := ?sv2) (by simp only [List.getElem?_toArray, List.getElem?_cons_succ, List.getElem?_cons_zero]; rfl) (by kernel_rfl) (by kernel_rfl) (by kernel_rfl) (by exact fun _ _ _ h => h) (Or.inl ⟨by rfl, ?sy2⟩) hHeld ?_
  case sy2 => (intro w hSw; (try dsimp only at hSw); skip; go_simp; try (with_reducible rfl))
  try simp only [Act.put, List.setIfInBounds_toArray, List.set_cons_zero, List.set_cons_succ]
  refine wpAnyH_ready (rs := [3]) (by kernel_rfl) (by simp) ?_
  refine AllReadyH.cons (by simp only [List.getElem?_toArray, List.getElem?_cons_succ, List.getElem?_cons_zero]; rfl) (fun KK hKK => ?_) AllReadyH.nil
  go_simp
  refine (hW _).mono ?_
  rintro e w3 ⟨rfl, rfl⟩
  go_wp2_with fail
  refine hKK.out _ _ ?_ (fun hHeld => ?_)
  · exact p0
  clear hKK KK
  try simp only [Act.put, List.setIfInBounds_toArray, List.set_cons_zero, List.set_cons_succ]
  refine wpAnyH_take (i := 4) (v := ?sv4) (by simp only [List.getElem?_toArray, List.getElem?_cons_succ, List.getElem?_cons_zero]; rfl) (by kernel_rfl) (by kernel_rfl) (by kernel_rfl) (by exact fun _ _ _ h => h) (Or.inl ⟨by rfl, ?sy4⟩) hHeld ?_
  case sy4 => (intro w hSw; (try dsimp only at hSw); skip; go_simp; try (with_reducible rfl))
  try simp only [Act.put, List.setIfInBounds_toArray, List.set_cons_zero, List.set_cons_succ]
  refine wpAnyH_ready (rs := [5]) (by kernel_rfl) (by simp) ?_
  refine AllReadyH.cons (by simp only [List.getElem?_toArray, List.getElem?_cons_succ, List.getElem?_cons_zero]; rfl) (fun KK hKK => ?_) AllReadyH.nil
  rw [if_pos (by rfl)]
  refine wp_store_row 31 (.tmp 6) (.tmp 28) rfl (w.heap.size + 1) (bdA f (fun j => if j = i then J else g j) n) rfl rfl _ _ p2 (bd_size _ _ _) (by rw [bdA_size, bdA_size]) (bdA_all _ _ _) ?_
  refine hKK.out _ _ ?_ (fun hHeld => ?_)
  · exact p0.orow (by omega) _
  clear hKK KK
  try simp only [Act.put]
  refine wpAnyH_take (i := 6) (v := ?sv6) (by simp only [List.getElem?_toArray, List.getElem?_cons_succ, List.getElem?_cons_zero]; rfl) (by kernel_rfl) (by kernel_rfl) (by kernel_rfl) (by exact fun _ _ _ h => h) (Or.inl ⟨by rfl, ?sy6⟩) hHeld ?_
  case sy6 => (intro w hSw; (try dsimp only at hSw); skip; go_simp; try (with_reducible rfl))
  try simp only [Act.put, List.setIfInBounds_toArray, List.set_cons_zero, List.set_cons_succ]
  refine wpAnyH_take (i := 7) (v := ?sv7) (by simp only [List.getElem?_toArray, List.getElem?_cons_succ, List.getElem?_cons_zero]; rfl) (by kernel_rfl) (by kernel_rfl) (by kernel_rfl) (by exact fun _ _ _ h => h) (Or.inl ⟨by rfl, ?sy7⟩) hHeld ?_
  case sy7 => (intro w hSw; (try dsimp only at hSw); skip; go_simp; try (with_reducible rfl))
  try simp only [Act.put, List.setIfInBounds_toArray, List.set_cons_zero, List.set_cons_succ]
  refine wpAnyH_done (by kernel_rfl) ?_ _
  go_wp2_with fail
  exact bodyPost_ret (wp_result_bdtt _ _ _ _ rfl _ _ (w.heap.size + 1) _ _ _ rfl (p2.row_ _ _ n)) rfl ⟨rfl, below_setRow (below_drew hb) _ _ (by omega)⟩
set_option maxHeartbeats 4000000 in
set_option maxRecDepth 20000 in
theorem bView_calls (f : Nat → Int) (g : Nat → Nat) (n : Nat) (o : Int) (w : World) (hn : n ≤ 48) (hg : ∀ i, i < n → g i < 4294967296) :
    Calls Try.prog 17 #[.agg (bdA f g n), .int .i64 o] w fun e w' => e = .returned (.agg (bdA (fun j => if j < n ∧ sees (g j) o = false then 0 else f j) g n)) ∧ Below w.heap.size w w' := by
  have q0 := (BoxB.new_ w f g n).alloc (.cells (bdA (fun _ => 0) (fun _ => 0) 0) 31)
  have q2 := BoxB.new_ (w.alloc (.cells (bdA f g n) 31)) (fun _ => 0) (fun _ => 0) 0
  rw [show (w.alloc (.cells (bdA f g n) 31)).heap.size = w.heap.size + 1 by simp] at q2
  have hb := below_alloc2 w (.cells (bdA f g n) 31) (.cells (bdA (fun _ => 0) (fun _ => 0) 0) 31)
  have c0 := q0.cn
  have HG := Lib.hid hg
  clear hg
  go_enter Try.func17, Try.ntmps17
  go_wp2_with (refine wpList_alloc_bd rfl rfl _ rfl (w.heap.size + 1) (by simp) ?_)
  go_loopw [5, 8] (fun v i wr => ∃ k : Nat, k ≤ n ∧ i = .int .i64 k ∧ BoxB wr w.heap.size (fun j => if j < k ∧ sees (g j) o = false then 0 else f j) g n ∧ BoxB wr (w.heap.size + 1) (fun _ => 0) (fun _ => 0) 0 ∧ Below w.heap.size w wr) (fun _ i _ => n - (intOf i).toNat)
  case atStart => exact ⟨0, Nat.zero_le _, rfl, q0.congr (fun j _ => by simp) (fun _ _ => rfl), q2, hb⟩
  case round =>
    obtain ⟨k, hk, rfl, r0, r2, hb1⟩ := hrel
    clear q0 q2 hb c0
    by_cases hlt : k < n
    · have a1 := r0.cl (i := k) (by omega)
      have f0 := r0.fr (k * 2)
      obtain ⟨x0, a0⟩ : ∃ x0, wr.cell? ⟨w.heap.size, k * 2, none⟩ = some (.int .i32 x0) := ⟨_, r0.cv (i := k) (by omega)⟩
      have hH := fun W => MHas_calls (g k) o W (HG.out k hlt)
      have hS := Lib.hid (show sees (g k) o = decide (g k &&& aloneN o ≠ 0) from rfl)
      obtain ⟨d, hd⟩ : ∃ d, d = decide (g k &&& aloneN o ≠ 0) := ⟨_, rfl⟩
      rw [← hd] at hH hS
      obtain ⟨G, hG⟩ : ∃ G, G = g k := ⟨_, rfl⟩
      rw [← hG] at hH hS a1
      have HGk := Lib.hid hG
      have ek : (k : Int) < 48 := by omega
      have ej : (k : Int) < (n : Int) := by omega
      clear hd hG
      cases d with
      | true =>
        go_wp2_with fail
        refine (hH _).mono ?_
        rintro e w2 ⟨rfl, rfl⟩
        go_wp2_with fail
        go_roundw
        case rel =>
          refine ⟨k + 1, by omega, by go_num, r0.congr (fun j _ => ?_) (fun _ _ => rfl), r2, hb1⟩
          have h1 := hS.out
          rw [HGk.out] at h1
          by_cases e : j = k
          · subst e; simp [h1]
          · have h2 : j < k + 1 ↔ j < k := by omega
            simp only [h2]
        case measure => simp [intOf]; omega
      | false =>
        go_wp2_with fail
        refine (hH _).mono ?_
        rintro e w2 ⟨rfl, rfl⟩
        go_wp2_with fail
        go_roundw
        case rel =>
          refine ⟨k + 1, by omega, by go_num, (r0.setVal (k := k) (by omega) 0).congr (fun j _ => ?_) (fun _ _ => rfl), r2.other (by simp) _, hb1.setCell (by simp) _⟩
          have h1 := hS.out
          rw [HGk.out] at h1
          by_cases e : j = k
          · subst e; simp [h1]
          · have h2 : j < k + 1 ↔ j < k := by omega
            simp only [h2, if_neg e]
        case measure => simp [intOf]; omega
    · obtain rfl : n = k := by omega
      go_wp2_with (first | refine wpList_load_bd rfl (.tmp 2) rfl w.heap.size rfl _ _ _ r0 ?_ | refine wpList_store_bd rfl (.tmp 4) (.tmp 24) rfl (w.heap.size + 1) _ _ _ rfl rfl _ _ _ r2 ?_)
      have hE := r2.row_ (fun j => if j < n ∧ sees (g j) o = false then 0 else f j) g n
      exact bodyPost_ret (results_cell_row (P := Try.prog) rfl _ _ (w.heap.size + 1) _ _ (0, 0) _ rfl hE Try.underlying31 rfl (bd_size _ _ _)) rfl ⟨rfl, below_setRow hb1 _ _ (by omega)⟩
end Go.Proofs.Ytemhglcdcpobpaa
