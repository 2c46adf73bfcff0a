/- The reference's Spoil; Right; what is spoilt twice. Conditions: those said. -/
import Derived.Test.YtbcfelihncnofaaWiG
import Derived.Test.YtbcfelihncnofaaWaxPlain
namespace Go.Proofs.Ytbcfelihncnofaa
open Go.RowKit
set_option linter.unusedVariables false

section
variable {ops : Array Oper} {S : World → Prop} {op : Oper} {a : Act}
theorem yk_ld8 (hw : Region.wanted op (yielded ops a.tmps) = true) (x : Operand) (ho : op.op = .load 5 x) (p : Addr) (v : Int) (hx : a.eval x = .pointer (some p)) (hS : ∀ w, S w → w.cell? p = some (.int .u8 v)) : YieldsIf Try.prog ops S op (.int .u8 v) a :=
  .inl ⟨hw, fun w h => by
    have hc := hS w h
    unfold execOp
    simp only [ho, hx]
    go_simp⟩
theorem yk_ld16 (hw : Region.wanted op (yielded ops a.tmps) = true) (x : Operand) (ho : op.op = .load 47 x) (p : Addr) (v : Int) (hx : a.eval x = .pointer (some p)) (hS : ∀ w, S w → w.cell? p = some (.int .u16 v)) : YieldsIf Try.prog ops S op (.int .u16 v) a :=
  .inl ⟨hw, fun w h => by
    have hc := hS w h
    unfold execOp
    simp only [ho, hx]
    go_simp⟩
theorem yk_ld32 (hw : Region.wanted op (yielded ops a.tmps) = true) (x : Operand) (ho : op.op = .load 48 x) (p : Addr) (v : Int) (hx : a.eval x = .pointer (some p)) (hS : ∀ w, S w → w.cell? p = some (.int .u32 v)) : YieldsIf Try.prog ops S op (.int .u32 v) a :=
  .inl ⟨hw, fun w h => by
    have hc := hS w h
    unfold execOp
    simp only [ho, hx]
    go_simp⟩
end
theorem spoil_twice (l : List UInt8) (pos mask : Nat) : spoilN (spoilN l pos mask) pos mask = l := by
  by_cases h0 : l.length = 0
  · have : l = [] := List.eq_nil_of_length_eq_zero h0
    subst this
    exact List.eq_nil_of_length_eq_zero (by simp)
  · have hj : pos % (8 * l.length) ≤ 8 * l.length := Nat.le_of_lt (Nat.mod_lt _ (by omega))
    apply valN_inj (by simp)
    have h1 := valN_turned l (pos % (8 * l.length)) mask 32 hj
    have h2 := valN_turned (turned l (pos % (8 * l.length)) mask 32) (pos % (8 * l.length)) mask 32 (by rw [turned_length]; exact hj)
    rw [turned_length, h1] at h2
    unfold spoilN
    rw [turned_length, h2, Nat.xor_assoc, Nat.xor_self, Nat.xor_zero]
theorem spoil_nil (pos mask : Nat) : spoilN [] pos mask = [] := List.eq_nil_of_length_eq_zero (by simp)
set_option maxHeartbeats 8000000 in
set_option maxRecDepth 20000 in
theorem RSpoil_calls (A : Option Addr) (l : List UInt8) (n c b : Nat) (f : Ft) (w : World) (hs : Bs w b A l) (hl : l.length = n) (hm : n ≤ 1000000) (hf : f.ok) :
    Calls Try.prog 21 #[.slice A n c, .agg f.cells.toArray] w fun e w' => ∃ v, e = .returned v ∧ Row w' w.heap.size v (spoilN l f.pos f.mask) ∧ Below w.heap.size w w' := by
  obtain ⟨hf1, hf2, hf3⟩ := hf
  have hb := below_alloc1 w (.cells f.cells.toArray 55)
  have hz := heap_alloc_new w (.cells f.cells.toArray 55)
  have hs1 := Sl.ext hs hb
  have HN := Lib.hid hl
  by_cases h0 : n = 0
  · have hx : l = [] := List.eq_nil_of_length_eq_zero (by omega)
    subst hx h0
    clear hs hl hs1 hz
    go_enter Try.func21, Try.ntmps21
    go_wp2_with fail
    go_ret
    rw [spoil_nil]
    exact ⟨.slice none 0 0, rfl, Row.nil_ _ _, hb⟩
  · obtain ⟨D, hD⟩ : ∃ D, D = 8 * n := ⟨_, rfl⟩
    obtain ⟨J, hJ⟩ : ∃ J, J = f.pos % D := ⟨_, rfl⟩
    have hne : ((n : Int) == 0) = false := by simp; omega
    have e5 : spoilN l f.pos f.mask = turned l J f.mask 32 := by unfold spoilN; rw [hl, ← hD, ← hJ]
    have hJD : J < D := by rw [hJ]; exact Nat.mod_lt _ (by omega)
    have hT := fun W h => Turned_calls A l n c b J f.mask W h hl (by omega) (by omega) (by omega)
    rw [← e5] at hT
    have hD0 : ((D : Int) == 0) = false := by simp; omega
    have e1 : 8 * (n : Int) = (D : Int) := by omega
    have e2 : (f.pos : Int) % (D : Int) = (J : Int) := by rw [hJ]; simp
    have e2' : ((f.pos : Int)).tmod (D : Int) = (J : Int) := by rw [Int.tmod_eq_emod_of_nonneg (by omega), e2]
    have hDn : ¬ D = 0 := by omega
    have hD8 : D ≤ 8000000 := by omega
    have HD := Lib.hid hD
    clear hD hJ e5 hl hs
    go_enter Try.func21, Try.ntmps21
    go_wp2_with fail
    obtain ⟨g, hg⟩ : ∃ g, g = w.heap.size := ⟨_, rfl⟩
    obtain ⟨wz, hwz⟩ : ∃ wz, wz = w.alloc (.cells f.cells.toArray 55) := ⟨_, rfl⟩
    rw [← hwz] at hb hz hs1 ⊢
    rw [← hg] at hz ⊢
    have hwB : w.heap.size ≤ wz.heap.size := hb.size
    clear hwz hg
    refine wp_region_E (fun j => false) (fun w9 => w9.heap[g]? = some (.cells f.cells.toArray 55 (0, 0))) (by kernel_rfl) ?_ (fun hHeld => ?_)
    · exact (by first | exact hz | exact hz)
    obtain ⟨wd18', hwd⟩ : ∃ wd18', wd18' = World.drew wz := ⟨_, rfl⟩
    have h9 : Below wz.heap.size wz wd18' := by rw [hwd]; exact below_drew (Below.refl _ _)
    rw [← hwd] at hHeld ⊢
    clear hwd
    replace hz := (h9.block g (Array.getElem?_eq_some_iff.1 hz).1).trans hz
    replace hs1 := Sl.ext hs1 h9
    replace hb := hb.trans (h9.mono hb.size)
    clear h9
    refine wpAnyE_take (i := 0) (by simp only [List.getElem?_toArray]; rfl) (by kernel_rfl) (by kernel_rfl) (by kernel_rfl) (by kernel_rfl) (by kernel_rfl) (by exact fun _ _ _ h => h) (by exact yk (.slice A n c) (by kernel_rfl) (fun _ => by kernel_rfl)) hHeld ?_
    refine wpAnyE_take (i := 1) (by simp only [List.getElem?_toArray]; rfl) (by kernel_rfl) (by kernel_rfl) (by kernel_rfl) (by kernel_rfl) (by kernel_rfl) (by exact fun _ _ _ h => h) (by exact yk (.pointer (some ⟨g, 1, none⟩)) (by kernel_rfl) (fun _ => by kernel_rfl)) hHeld ?_
    refine wpAnyE_take (i := 2) (by simp only [List.getElem?_toArray]; rfl) (by kernel_rfl) (by kernel_rfl) (by kernel_rfl) (by kernel_rfl) (by kernel_rfl) (by exact fun _ _ _ h => h) (by exact yk_ld16 (by kernel_rfl) (.tmp 9) rfl ⟨g, 1, none⟩ (f.pos : Int) (by kernel_rfl) (fun w hh => by rw [cell_of_row w _ _ _ _ _ hh]; rfl)) hHeld ?_
    refine wpAnyE_take (i := 3) (v := .int .i64 (f.pos : Int)) (by simp only [List.getElem?_toArray]; rfl) (by kernel_rfl) (by kernel_rfl) (by kernel_rfl) (by kernel_rfl) (by kernel_rfl) (by exact fun _ _ _ h => h) (.inl ⟨by kernel_rfl, fun ww hSw => by clear hSw; go_simp; exact IntWalk.i64_in _ (by omega)⟩) hHeld ?_
    refine wpAnyE_take (i := 4) (by simp only [List.getElem?_toArray]; rfl) (by kernel_rfl) (by kernel_rfl) (by kernel_rfl) (by kernel_rfl) (by kernel_rfl) (by exact fun _ _ _ h => h) (by exact yk (.slice A n c) (by kernel_rfl) (fun _ => by kernel_rfl)) hHeld ?_
    refine wpAnyE_take (i := 5) (v := .int .i64 (n : Int)) (by simp only [List.getElem?_toArray]; rfl) (by kernel_rfl) (by kernel_rfl) (by kernel_rfl) (by kernel_rfl) (by kernel_rfl) (by exact fun _ _ _ h => h) (.inl ⟨by kernel_rfl, fun ww hSw => by clear hSw; go_simp⟩) hHeld ?_
    refine wpAnyE_take (i := 6) (v := .int .i64 (D : Int)) (by simp only [List.getElem?_toArray]; rfl) (by kernel_rfl) (by kernel_rfl) (by kernel_rfl) (by kernel_rfl) (by kernel_rfl) (by exact fun _ _ _ h => h) (.inl ⟨by kernel_rfl, fun ww hSw => by clear hSw; go_simp <;> exact IntWalk.i64_in _ (by omega)⟩) hHeld ?_
    refine wpAnyE_take (i := 7) (v := .int .i64 (J : Int)) (by simp only [List.getElem?_toArray]; rfl) (by kernel_rfl) (by kernel_rfl) (by kernel_rfl) (by kernel_rfl) (by kernel_rfl) (by exact fun _ _ _ h => h) (.inl ⟨by kernel_rfl, fun ww hSw => by clear hSw; go_simp⟩) hHeld ?_
    refine wpAnyE_take (i := 8) (by simp only [List.getElem?_toArray]; rfl) (by kernel_rfl) (by kernel_rfl) (by kernel_rfl) (by kernel_rfl) (by kernel_rfl) (by exact fun _ _ _ h => h) (by exact yk (.pointer (some ⟨g, 2, none⟩)) (by kernel_rfl) (fun _ => by kernel_rfl)) hHeld ?_
    refine wpAnyE_take (i := 9) (by simp only [List.getElem?_toArray]; rfl) (by kernel_rfl) (by kernel_rfl) (by kernel_rfl) (by kernel_rfl) (by kernel_rfl) (by exact fun _ _ _ h => h) (by exact yk_ld32 (by kernel_rfl) (.tmp 16) rfl ⟨g, 2, none⟩ (f.mask : Int) (by kernel_rfl) (fun w hh => by rw [cell_of_row w _ _ _ _ _ hh]; rfl)) hHeld ?_
    refine wpAnyE_ready (rs := [10]) (by kernel_rfl) (by simp) ?_
    refine EachE.cons (by rfl) (by simp only [List.getElem?_toArray]; rfl) (fun KK hKK => ?_) EachE.nil
    rw [if_pos (by kernel_rfl)]
    refine wp_callF 30 #[.slice A n c, .int .i64 (J : Int), .int .u32 (f.mask : Int)] (by kernel_rfl) ?_
    refine (hT _ hs1).mono ?_
    rintro e w19' ⟨v5, rfl, hrow, h9⟩
    replace hrow := hrow.low hb.size
    replace hz := (h9.block g (Array.getElem?_eq_some_iff.1 hz).1).trans hz
    replace hb := hb.trans (h9.mono hb.size)
    refine ⟨_, rfl, ?_⟩
    refine hKK.out _ _ ?_ (fun hHeld => ?_)
    · exact (by first | exact hz | exact hz)
    clear hKK KK
    refine wpAnyE_take (i := 11) (by simp only [List.getElem?_toArray]; rfl) (by kernel_rfl) (by kernel_rfl) (by kernel_rfl) (by kernel_rfl) (by kernel_rfl) (by exact fun _ _ _ h => h) (by exact yk (v5) (by kernel_rfl) (fun _ => by kernel_rfl)) hHeld ?_
    refine wpAnyE_done (by kernel_rfl) ?_ _
    clear hz
    go_wp2_with fail
    go_ret
    exact ⟨v5, by kernel_rfl, hrow, hb⟩
theorem Right_calls (f : Ft) (w : World) : Calls Try.prog 22 #[.agg f.cells.toArray] w fun e w' => e = .returned (.bool (decide ((f.how : Int) ≤ 5))) ∧ Below w.heap.size w w' := by
  have hb := below_alloc1 w (.cells f.cells.toArray 50)
  go_enter Try.func22, Try.ntmps22
  go_wp2_with fail
  go_ret
  exact ⟨rfl, hb⟩
end Go.Proofs.Ytbcfelihncnofaa
