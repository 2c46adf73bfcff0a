/- frame of a link. Conditions: those said. -/
import Derived.Test.YtgpedkdebifooaaDoorLkT
import Derived.Test.YtgpedkdebifooaaDoorFrB
namespace Go.Proofs.YtgpedkdebifooaaDoor
open Go.RowKit
set_option linter.unusedVariables false

section
variable {ops : Array Oper} {S : World → Prop} {op : Oper} {a : Act}
theorem yk_ldU (hw : Region.wanted op (yielded ops a.tmps) = true) (x : Operand) (ho : op.op = .load 22 x) (p : Addr) (v : Value) (hx : a.eval x = .pointer (some p)) (hS : ∀ w, S w → w.cell? p = some v) : YieldsIf Tryd.prog ops S op v a :=
  .inl ⟨hw, fun w h => by
    have hc := hS w h
    unfold execOp
    simp only [ho, hx]
    go_simp⟩
theorem yk_ldBo (hw : Region.wanted op (yielded ops a.tmps) = true) (x : Operand) (ho : op.op = .load 4 x) (p : Addr) (v : Value) (hx : a.eval x = .pointer (some p)) (hS : ∀ w, S w → w.cell? p = some v) : YieldsIf Tryd.prog ops S op v a :=
  .inl ⟨hw, fun w h => by
    have hc := hS w h
    unfold execOp
    simp only [ho, hx]
    go_simp⟩
theorem yk_ldBy (hw : Region.wanted op (yielded ops a.tmps) = true) (x : Operand) (ho : op.op = .load 31 x) (p : Addr) (v : Value) (hx : a.eval x = .pointer (some p)) (hS : ∀ w, S w → w.cell? p = some v) : YieldsIf Tryd.prog ops S op v a :=
  .inl ⟨hw, fun w h => by
    have hc := hS w h
    unfold execOp
    simp only [ho, hx]
    go_simp⟩
theorem yk_ldA (hw : Region.wanted op (yielded ops a.tmps) = true) (x : Operand) (ho : op.op = .load 45 x) (b : Nat) (u v : Value) (hx : a.eval x = .pointer (some ⟨b, 4, none⟩)) (hS : ∀ w, S w → w.cell? ⟨b, 4, none⟩ = some u ∧ w.cell? ⟨b, 5, none⟩ = some v) : YieldsIf Tryd.prog ops S op (.agg #[u, v]) a :=
  .inl ⟨hw, fun w h => by
    obtain ⟨c0, c1⟩ := hS w h
    unfold execOp
    simp only [ho, hx]
    go_simp⟩
end
/-- What tells of a flight. -/
def frOf (L : Lk) (x : Fl) : Fr := ⟨L.ep, x.seq, L.cn, L.cb, x.p.p.first, x.p.p.last, false, x.p.p.data⟩
def fz0 : Fr := ⟨0, 0, 0, 0, false, false, false, []⟩
set_option maxHeartbeats 16000000 in
set_option maxRecDepth 40000 in
theorem frame_calls (g bm : Nat) (L : Lk) (vw vf vh : Value) (x : Fl) (w : World) (q : LkB w g bm L vw vf vh) :
    Calls Tryd.prog 36 #[.pointer (some ⟨g, 0, none⟩), .agg x.cells.toArray] w fun e w' => e = .returned (.agg ((frOf L x).cells x.p.A x.p.c)) ∧ Below w.heap.size w w' := by
  obtain ⟨g3, hg3⟩ : ∃ g3, g3 = w.heap.size := ⟨_, rfl⟩
  have hb := below_alloc2 w (.cells x.cells.toArray 98) (.cells #[.int .u16 0, .int .u16 0, .int .u16 0, .int .u32 0, .bool false, .bool false, .bool false, .slice none 0 0] 47)
  have z : ((w.alloc (.cells x.cells.toArray 98)).alloc (.cells #[.int .u16 0, .int .u16 0, .int .u16 0, .int .u32 0, .bool false, .bool false, .bool false, .slice none 0 0] 47)).heap[g3]? = some (.cells x.cells.toArray 98 (0, 0)) := by
    rw [(Below.heap_alloc (w.alloc (.cells x.cells.toArray 98)) (.cells #[.int .u16 0, .int .u16 0, .int .u16 0, .int .u32 0, .bool false, .bool false, .bool false, .slice none 0 0] 47) g3 (by simp [hg3])), hg3]
    exact heap_alloc_new w _
  have y : ((w.alloc (.cells x.cells.toArray 98)).alloc (.cells #[.int .u16 0, .int .u16 0, .int .u16 0, .int .u32 0, .bool false, .bool false, .bool false, .slice none 0 0] 47)).heap[g3 + 1]? = some (.cells #[.int .u16 0, .int .u16 0, .int .u16 0, .int .u32 0, .bool false, .bool false, .bool false, .slice none 0 0] 47 (0, 0)) := by
    have := heap_alloc_new (w.alloc (.cells x.cells.toArray 98)) (.cells #[.int .u16 0, .int .u16 0, .int .u16 0, .int .u32 0, .bool false, .bool false, .bool false, .slice none 0 0] 47)
    rwa [show (w.alloc (.cells x.cells.toArray 98)).heap.size = g3 + 1 by simp [hg3]] at this
  obtain ⟨wz, hwz⟩ : ∃ wz, wz = (w.alloc (.cells x.cells.toArray 98)).alloc (.cells #[.int .u16 0, .int .u16 0, .int .u16 0, .int .u32 0, .bool false, .bool false, .bool false, .slice none 0 0] 47) := ⟨_, rfl⟩
  have q0 := q.lt
  replace q := q.ext hb
  go_enter Tryd.func36, Tryd.ntmps36
  go_wp2_with fail
  rw [← hwz] at hb q z y ⊢
  rw [← hg3]
  have hgw : w.heap.size = g3 := hg3.symm
  have hg3z : g3 + 1 < wz.heap.size := (Array.getElem?_eq_some_iff.1 y).1
  have hqg : g < w.heap.size := q0
  clear hwz hg3
  refine wp_region_E (fun j => j == 20) (fun w9 => LkB w9 g bm L vw vf vh ∧ w9.heap[g3]? = some (.cells x.cells.toArray 98 (0, 0))) (by kernel_rfl) ?_ (fun hHeld => ?_)
  · exact (by exact ⟨q, z⟩)
  obtain ⟨wd5', hwd⟩ : ∃ wd5', wd5' = World.drew wz := ⟨_, rfl⟩
  have h9 : Below wz.heap.size wz wd5' := by rw [hwd]; exact below_drew (Below.refl _ _)
  rw [← hwd] at hHeld ⊢
  clear hwd
  replace q := q.ext h9
  replace z := (h9.block g3 (by omega)).trans z
  replace y := (h9.block (g3 + 1) hg3z).trans y
  replace hb := hb.trans (h9.mono hb.size)
  clear h9
  refine wpAnyE_take (i := 0) (by simp only [List.getElem?_toArray]; rfl) (by kernel_rfl) (by kernel_rfl) (by kernel_rfl) (by kernel_rfl) (by kernel_rfl) (by exact fun _ _ _ h => h) (by exact yk (.pointer (some ⟨g, 0, none⟩)) (by kernel_rfl) (fun _ => by kernel_rfl)) hHeld ?_
  refine wpAnyE_take (i := 1) (by simp only [List.getElem?_toArray]; rfl) (by kernel_rfl) (by kernel_rfl) (by kernel_rfl) (by kernel_rfl) (by kernel_rfl) (by exact fun _ _ _ h => h) (by exact yk (.pointer (some ⟨g, 0, none⟩)) (by kernel_rfl) (fun _ => by kernel_rfl)) hHeld ?_
  refine wpAnyE_take (i := 2) (by simp only [List.getElem?_toArray]; rfl) (by kernel_rfl) (by kernel_rfl) (by kernel_rfl) (by kernel_rfl) (by kernel_rfl) (by exact fun _ _ _ h => h) (by exact yk (.pointer (some ⟨g, 0, none⟩)) (by kernel_rfl) (fun _ => by kernel_rfl)) hHeld ?_
  refine wpAnyE_take (i := 3) (by simp only [List.getElem?_toArray]; rfl) (by kernel_rfl) (by kernel_rfl) (by kernel_rfl) (by kernel_rfl) (by kernel_rfl) (by exact fun _ _ _ h => h) (by exact yk_ldU (by kernel_rfl) (.tmp 7) rfl ⟨g, 0, none⟩ (.int .u16 (L.ep : Int)) (by kernel_rfl) (fun w hh => hh.1.c0)) hHeld ?_
  refine wpAnyE_take (i := 4) (by simp only [List.getElem?_toArray]; rfl) (by kernel_rfl) (by kernel_rfl) (by kernel_rfl) (by kernel_rfl) (by kernel_rfl) (by exact fun _ _ _ h => h) (by exact yk (.pointer (some ⟨g3, 3, none⟩)) (by kernel_rfl) (fun _ => by kernel_rfl)) hHeld ?_
  refine wpAnyE_take (i := 5) (by simp only [List.getElem?_toArray]; rfl) (by kernel_rfl) (by kernel_rfl) (by kernel_rfl) (by kernel_rfl) (by kernel_rfl) (by exact fun _ _ _ h => h) (by exact yk_ldQ (by kernel_rfl) (.tmp 9) rfl ⟨g3, 3, none⟩ (.int .u16 (x.seq : Int)) (by kernel_rfl) (fun w hh => by rw [cell_of_row w g3 3 _ _ _ hh.2]; rfl)) hHeld ?_
  refine wpAnyE_take (i := 6) (by simp only [List.getElem?_toArray]; rfl) (by kernel_rfl) (by kernel_rfl) (by kernel_rfl) (by kernel_rfl) (by kernel_rfl) (by exact fun _ _ _ h => h) (by exact yk (.pointer (some ⟨g, 0, none⟩)) (by kernel_rfl) (fun _ => by kernel_rfl)) hHeld ?_
  refine wpAnyE_take (i := 7) (by simp only [List.getElem?_toArray]; rfl) (by kernel_rfl) (by kernel_rfl) (by kernel_rfl) (by kernel_rfl) (by kernel_rfl) (by exact fun _ _ _ h => h) (by exact yk (.pointer (some ⟨g, 0, none⟩)) (by kernel_rfl) (fun _ => by kernel_rfl)) hHeld ?_
  refine wpAnyE_take (i := 8) (by simp only [List.getElem?_toArray]; rfl) (by kernel_rfl) (by kernel_rfl) (by kernel_rfl) (by kernel_rfl) (by kernel_rfl) (by exact fun _ _ _ h => h) (by exact yk (.pointer (some ⟨g, 4, none⟩)) (by kernel_rfl) (fun _ => by kernel_rfl)) hHeld ?_
  refine wpAnyE_take (i := 9) (by simp only [List.getElem?_toArray]; rfl) (by kernel_rfl) (by kernel_rfl) (by kernel_rfl) (by kernel_rfl) (by kernel_rfl) (by exact fun _ _ _ h => h) (by exact yk_ldA (by kernel_rfl) (.tmp 13) rfl g (.int .u16 (L.cn : Int)) (.int .u32 (L.cb : Int)) (by kernel_rfl) (fun w hh => ⟨hh.1.c4, hh.1.c5⟩)) hHeld ?_
  refine wpAnyE_take (i := 10) (by simp only [List.getElem?_toArray]; rfl) (by kernel_rfl) (by kernel_rfl) (by kernel_rfl) (by kernel_rfl) (by kernel_rfl) (by exact fun _ _ _ h => h) (by exact yk (.pointer (some ⟨g3, 0, none⟩)) (by kernel_rfl) (fun _ => by kernel_rfl)) hHeld ?_
  refine wpAnyE_take (i := 11) (by simp only [List.getElem?_toArray]; rfl) (by kernel_rfl) (by kernel_rfl) (by kernel_rfl) (by kernel_rfl) (by kernel_rfl) (by exact fun _ _ _ h => h) (by exact yk (.pointer (some ⟨g3, 0, none⟩)) (by kernel_rfl) (fun _ => by kernel_rfl)) hHeld ?_
  refine wpAnyE_take (i := 12) (by simp only [List.getElem?_toArray]; rfl) (by kernel_rfl) (by kernel_rfl) (by kernel_rfl) (by kernel_rfl) (by kernel_rfl) (by exact fun _ _ _ h => h) (by exact yk_ldBo (by kernel_rfl) (.tmp 16) rfl ⟨g3, 0, none⟩ (.bool x.p.p.first) (by kernel_rfl) (fun w hh => by rw [cell_of_row w g3 0 _ _ _ hh.2]; rfl)) hHeld ?_
  refine wpAnyE_take (i := 13) (by simp only [List.getElem?_toArray]; rfl) (by kernel_rfl) (by kernel_rfl) (by kernel_rfl) (by kernel_rfl) (by kernel_rfl) (by exact fun _ _ _ h => h) (by exact yk (.pointer (some ⟨g3, 0, none⟩)) (by kernel_rfl) (fun _ => by kernel_rfl)) hHeld ?_
  refine wpAnyE_take (i := 14) (by simp only [List.getElem?_toArray]; rfl) (by kernel_rfl) (by kernel_rfl) (by kernel_rfl) (by kernel_rfl) (by kernel_rfl) (by exact fun _ _ _ h => h) (by exact yk (.pointer (some ⟨g3, 1, none⟩)) (by kernel_rfl) (fun _ => by kernel_rfl)) hHeld ?_
  refine wpAnyE_take (i := 15) (by simp only [List.getElem?_toArray]; rfl) (by kernel_rfl) (by kernel_rfl) (by kernel_rfl) (by kernel_rfl) (by kernel_rfl) (by exact fun _ _ _ h => h) (by exact yk_ldBo (by kernel_rfl) (.tmp 19) rfl ⟨g3, 1, none⟩ (.bool x.p.p.last) (by kernel_rfl) (fun w hh => by rw [cell_of_row w g3 1 _ _ _ hh.2]; rfl)) hHeld ?_
  refine wpAnyE_take (i := 16) (by simp only [List.getElem?_toArray]; rfl) (by kernel_rfl) (by kernel_rfl) (by kernel_rfl) (by kernel_rfl) (by kernel_rfl) (by exact fun _ _ _ h => h) (by exact yk (.pointer (some ⟨g3, 0, none⟩)) (by kernel_rfl) (fun _ => by kernel_rfl)) hHeld ?_
  refine wpAnyE_take (i := 17) (by simp only [List.getElem?_toArray]; rfl) (by kernel_rfl) (by kernel_rfl) (by kernel_rfl) (by kernel_rfl) (by kernel_rfl) (by exact fun _ _ _ h => h) (by exact yk (.pointer (some ⟨g3, 2, none⟩)) (by kernel_rfl) (fun _ => by kernel_rfl)) hHeld ?_
  refine wpAnyE_take (i := 18) (by simp only [List.getElem?_toArray]; rfl) (by kernel_rfl) (by kernel_rfl) (by kernel_rfl) (by kernel_rfl) (by kernel_rfl) (by exact fun _ _ _ h => h) (by exact yk_ldBy (by kernel_rfl) (.tmp 22) rfl ⟨g3, 2, none⟩ (.slice x.p.A x.p.p.data.length x.p.c) (by kernel_rfl) (fun w hh => by rw [cell_of_row w g3 2 _ _ _ hh.2]; rfl)) hHeld ?_
  refine wpAnyE_take (i := 19) (by simp only [List.getElem?_toArray]; rfl) (by kernel_rfl) (by kernel_rfl) (by kernel_rfl) (by kernel_rfl) (by kernel_rfl) (by exact fun _ _ _ h => h) (by exact yk (.agg #[.int .u16 (L.ep : Int), .int .u16 (x.seq : Int), .int .u16 (L.cn : Int), .int .u32 (L.cb : Int), .bool x.p.p.first, .bool x.p.p.last, .bool false, .slice x.p.A x.p.p.data.length x.p.c]) (by kernel_rfl) (fun _ => by kernel_rfl)) hHeld ?_
  try simp only [Act.put, List.setIfInBounds_toArray, List.set_cons_zero, List.set_cons_succ]
  refine wpAnyE_ready (rs := [20]) (by kernel_rfl) (by simp) ?_
  refine EachE.last (by rfl) (by simp only [List.getElem?_toArray]; rfl) (fun KK hKK => ?_)
  rw [if_pos (by kernel_rfl)]
  refine wp_store_row 47 (.tmp 4) (.tmp 24) rfl (g3 + 1) ((frOf L x).cells x.p.A x.p.c) (by kernel_rfl) (by kernel_rfl) _ _ y (by kernel_rfl) rfl (by kernel_rfl) ?_
  have hy2 := setRow_heap wd5' (g3 + 1) _ ((frOf L x).cells x.p.A x.p.c) _ _ y
  have hb2 := below_setRow hb (g3 + 1) ((frOf L x).cells x.p.A x.p.c) (by omega)
  refine hKK.out _ _ ?_
  clear hKK KK
  refine wpAnyE_done (by kernel_rfl) ?_ _
  go_wp2_with fail
  refine bodyPost_ret (results_cell_row (P := Tryd.prog) rfl _ _ (g3 + 1) _ _ (0, 0) _ rfl hy2 Tryd.underlying47 rfl (by kernel_rfl)) rfl ⟨rfl, hb2⟩
end Go.Proofs.YtgpedkdebifooaaDoor
