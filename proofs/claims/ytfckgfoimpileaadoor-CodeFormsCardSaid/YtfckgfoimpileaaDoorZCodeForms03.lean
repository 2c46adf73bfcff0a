/- Parts of one proof, in their order. -/
import Derived.Test.YtfckgfoimpileaaDoorZCodeForms02
import Derived.Lib.ItoaLen
import Derived.Deep.RegionHeld3
import Derived.Deep.DeepCutAuto
import Derived.OrdersHeld
import Derived.Deep.RegionHeld
/- Text: an instruction as a line. Conditions: the numbers fit; the tables lie. -/
namespace Go.Proofs.YtfckgfoimpileaaDoor
open Go.RowKit

/-- All tables lie. -/
structure AllT (w : World) : Prop where
  c : CTab w
  z : Tab w
  p : Lib.TabIs Tryd.prog w "internal/strconv.uint64pow10" .u64 Lib.pow10Tab
theorem tabIs_ext {w w' : World} {name : String} {k : IntKind} {zs : List Int} (h : Lib.TabIs Tryd.prog w name k zs) (hb : Below w.heap.size w w') : Lib.TabIs Tryd.prog w' name k zs := by
  unfold Lib.TabIs World.var? at h ⊢
  cases hg : Tryd.prog.globalNamed name with
  | none => rw [hg] at h; simp at h
  | some g =>
    rw [hg] at h
    simp only [Option.bind_some] at h ⊢
    have hlt : g < w.heap.size := by
      rcases Nat.lt_or_ge g w.heap.size with h1 | h1
      · exact h1
      · rw [Array.getElem?_eq_none h1] at h
        simp at h
    rw [hb.block g hlt]
    exact h
theorem AllT.ext {w w' : World} (h : AllT w) (hb : Below w.heap.size w w') : AllT w' := ⟨h.c.ext hb, Tab.ext h.z hb, tabIs_ext h.p hb⟩
theorem below_undrew2 {w w' : World} (h : Below w.drew.heap.size w.drew w') : Below w.heap.size w w' := ⟨h.os, h.tape, h.output, h.size, h.block⟩
theorem AllT.drew {w : World} (h : AllT w) : AllT w.drew := ⟨h.c, h.z, h.p⟩
theorem Itoa_calls (n : Int) (h0 : -9223372036854775808 ≤ n) (h1 : n ≤ 9223372036854775807) (w : World) (hT : AllT w) :
    Calls Tryd.prog 46 #[.int .i64 n] w fun e w' => e = .returned (.string ⟨(Lib.itoa n).toArray⟩) ∧ Below w.heap.size w w' := by
  refine (Tryd.strconv_Itoa n h0 h1 w hT.p).mono ?_
  rintro e w' ⟨rfl, k, os, rfl⟩
  exact ⟨rfl, ⟨rfl, rfl, rfl, by simp [Sort.grow, World.drewN], fun i hi => by simp only [Sort.grow]; rw [Array.getElem?_append_left (by simpa [World.drewN] using hi)]; rfl⟩⟩
theorem words_len : ∀ j : Fin 26, (wordAt j.val).length ≤ 7 := by decide +kernel
theorem words_some : ∀ j : Fin 26, (wordAt j.val).isEmpty = false := by decide +kernel
theorem textN_len (m : Nat) : (textN m).length ≤ 96 := by
  unfold textN
  split
  · simp
  · have h1 := join_len ((obs m).map Lib.decDigits) (fun x hx => by
      obtain ⟨k, hk, rfl⟩ := List.mem_map.1 hx
      exact dec_len ⟨k, (obs_mem.1 hk).1⟩)
    rw [List.length_map] at h1
    have := obs_length m
    omega
/-- The line of an instruction. -/
def lineB (op a b cc : Nat) (n : Int) (m : Nat) : List UInt8 := Lib.join [wordAt op, Lib.itoa a, Lib.itoa b, Lib.itoa cc, Lib.itoa n, textN m] [32]
theorem CText_out (op a b cc : Nat) (n : Int) (m : Nat) (h26 : 26 ≤ op) (w : World) :
    Calls Tryd.prog 26 #[.agg #[.int .u8 (op : Int), .int .u8 (a : Int), .int .u8 (b : Int), .int .u8 (cc : Int), .int .i32 n, .int .u32 (m : Int)]] w fun e w' => e = .returned (.string ⟨#[]⟩) ∧ Below w.heap.size w w' := by
  have hW := fun W => Word_out op h26 W
  have hb := below_alloc1 w (.cells #[.int .u8 (op : Int), .int .u8 (a : Int), .int .u8 (b : Int), .int .u8 (cc : Int), .int .i32 n, .int .u32 (m : Int)] 33)
  go_enter Tryd.func26, Tryd.ntmps26
  go_wp2_with fail
  refine (hW _).mono ?_
  rintro e w' ⟨rfl, hw⟩
  have hw := hw.symm
  subst hw
  go_wp2
  go_ret
  exact ⟨rfl, hb⟩
set_option maxHeartbeats 4000000 in
set_option maxRecDepth 20000 in
theorem CText_in (op a b cc : Nat) (n : Int) (m : Nat) (hc : (Cd.mk op a b cc n m).Ok) (h26 : op < 26) (w : World) (hT : AllT w) :
    Calls Tryd.prog 26 #[.agg #[.int .u8 (op : Int), .int .u8 (a : Int), .int .u8 (b : Int), .int .u8 (cc : Int), .int .i32 n, .int .u32 (m : Int)]] w fun e w' => e = .returned (.string ⟨(lineB op a b cc n m).toArray⟩) ∧ Below w.heap.size w w' := by
  obtain ⟨-, ha, hb', hcc, n0, n1, hm⟩ := hc
  simp only at ha hb' hcc n0 n1 hm
  have hW := fun W h => Word_in op h26 W h
  have hI := fun (x : Int) W h0 h1 h => Itoa_calls x h0 h1 W h
  have hM := fun W h => Text_calls m (by omega) W h
  have hwl := words_len ⟨op, h26⟩
  simp only at hwl
  have hwn : (wordAt op).isEmpty = false := words_some ⟨op, h26⟩
  have la := Lib.itoa_length_le a (by omega) (by omega)
  have lb := Lib.itoa_length_le b (by omega) (by omega)
  have lc := Lib.itoa_length_le cc (by omega) (by omega)
  have ln := Lib.itoa_length_le n (by omega) (by omega)
  have lm := textN_len m
  obtain ⟨sw, hsw⟩ : ∃ sw, sw = wordAt op := ⟨_, rfl⟩
  obtain ⟨sa, hsa⟩ : ∃ sa, sa = Lib.itoa a := ⟨_, rfl⟩
  obtain ⟨sb, hsb⟩ : ∃ sb, sb = Lib.itoa b := ⟨_, rfl⟩
  obtain ⟨sc, hsc⟩ : ∃ sc, sc = Lib.itoa cc := ⟨_, rfl⟩
  obtain ⟨sn, hsn⟩ : ∃ sn, sn = Lib.itoa n := ⟨_, rfl⟩
  obtain ⟨sm, hsm⟩ : ∃ sm, sm = textN m := ⟨_, rfl⟩
  have hIa := fun W h => hI a W (by omega) (by omega) h
  have hIb := fun W h => hI b W (by omega) (by omega) h
  have hIc := fun W h => hI cc W (by omega) (by omega) h
  have hIn := fun W h => hI n W (by omega) (by omega) h
  have e3 := IntWalk.i64_in (a : Int) (by omega)
  have e4 := IntWalk.i64_in (b : Int) (by omega)
  have e5 := IntWalk.i64_in (cc : Int) (by omega)
  have e6 := IntWalk.i64_in n (by omega)
  have hl : lineB op a b cc n m = Lib.join [sw, sa, sb, sc, sn, sm] [32] := by rw [hsw, hsa, hsb, hsc, hsn, hsm]; rfl
  rw [hl]
  rw [← hsw] at hW hwl hwn
  rw [← hsa] at hIa la
  rw [← hsb] at hIb lb
  rw [← hsc] at hIc lc
  rw [← hsn] at hIn ln
  rw [← hsm] at hM lm
  have hJl : (Lib.join [sw, sa, sb, sc, sn, sm] [32]).length ≤ 140737488355328 := by
    simp only [Lib.join_cons, Lib.joinTail, List.map_cons, List.map_nil, List.flatten_cons, List.flatten_nil, List.length_append, List.length_cons, List.length_nil]
    omega
  obtain ⟨J, hJ⟩ : ∃ J, J = Lib.join [sw, sa, sb, sc, sn, sm] [32] := ⟨_, rfl⟩
  rw [← hJ] at hJl ⊢
  have hJo : ∀ (W : World) (g : Nat) (fr : Nat × Nat) (hk : W.heap[g]? = some (.cells #[.string ⟨sw.toArray⟩, .string ⟨sa.toArray⟩, .string ⟨sb.toArray⟩, .string ⟨sc.toArray⟩, .string ⟨sn.toArray⟩, .string ⟨sm.toArray⟩] 9 fr)), Calls Tryd.prog 45 #[.slice (some ⟨g, 0, none⟩) 6 6, .string ⟨#[32]⟩] W fun e w' => e = .returned (.string ⟨J.toArray⟩) ∧ Below W.heap.size W w' := by
    intro W g fr hk
    have h1 := Tryd.strings_Join g 0 6 [⟨sw.toArray⟩, ⟨sa.toArray⟩, ⟨sb.toArray⟩, ⟨sc.toArray⟩, ⟨sn.toArray⟩, ⟨sm.toArray⟩] ⟨#[32]⟩ W (fun j x hx => by
      rcases j with _ | _ | _ | _ | _ | _ | j
      · injection hx with hx; subst hx; exact (cell_of_row W g 0 _ _ _ hk).trans rfl
      · injection hx with hx; subst hx; exact (cell_of_row W g 1 _ _ _ hk).trans rfl
      · injection hx with hx; subst hx; exact (cell_of_row W g 2 _ _ _ hk).trans rfl
      · injection hx with hx; subst hx; exact (cell_of_row W g 3 _ _ _ hk).trans rfl
      · injection hx with hx; subst hx; exact (cell_of_row W g 4 _ _ _ hk).trans rfl
      · injection hx with hx; subst hx; exact (cell_of_row W g 5 _ _ _ hk).trans rfl
      · simp at hx) (Array.getElem?_eq_some_iff.1 hk).1 (by simp) (by simp) (by simp only [List.map_cons, List.map_nil]; rw [← hJ]; exact hJl)
    simp only [List.map_cons, List.map_nil, List.length_cons, List.length_nil] at h1
    rw [← hJ] at h1
    exact h1
  clear hI la lb lc ln lm hJl hJ hl hsw hsa hsb hsc hsn hsm hwl
  have hb := below_alloc1 w (.cells #[.int .u8 (op : Int), .int .u8 (a : Int), .int .u8 (b : Int), .int .u8 (cc : Int), .int .i32 n, .int .u32 (m : Int)] 33)
  have hTz := hT.ext hb
  have kA := heap_alloc_new w (.cells #[.int .u8 (op : Int), .int .u8 (a : Int), .int .u8 (b : Int), .int .u8 (cc : Int), .int .i32 n, .int .u32 (m : Int)] 33)
  clear hT
  obtain ⟨wz, hwz⟩ : ∃ wz, wz = w.alloc (.cells #[.int .u8 (op : Int), .int .u8 (a : Int), .int .u8 (b : Int), .int .u8 (cc : Int), .int .i32 n, .int .u32 (m : Int)] 33) := ⟨_, rfl⟩
  go_enter Tryd.func26, Tryd.ntmps26
  go_wp2_with fail
  rw [← hwz] at hb hTz kA ⊢
  clear hwz
  refine (hW _ hTz.c).mono ?_
  rintro e w' ⟨rfl, hw⟩
  have hw := hw.symm
  subst hw
  go_wp2_with fail
  refine wp_region_held_drew (S := fun w' => w'.heap[w.heap.size]? = some (.cells #[.int .u8 (op : Int), .int .u8 (a : Int), .int .u8 (b : Int), .int .u8 (cc : Int), .int .i32 n, .int .u32 (m : Int)] 33 (0, 0))) (by kernel_rfl) ?_ (fun hHeld => ?_)
  · exact kA
  refine wpAnyH_take (i := 0) (v := ?zv0) (by simp only [List.getElem?_toArray, List.getElem?_cons_zero]; rfl) (by kernel_rfl) (by kernel_rfl) (by kernel_rfl) (by exact fun _ _ _ h => h) (Or.inl ⟨by kernel_rfl, ?zy0⟩) hHeld ?_
  case zy0 => (intro w hSw; (try dsimp only at hSw); have hy1 := (cell_of_row _ _ 1 _ _ _ hSw).trans (show _ = some _ from rfl); have hy2 := (cell_of_row _ _ 2 _ _ _ hSw).trans (show _ = some _ from rfl); have hy3 := (cell_of_row _ _ 3 _ _ _ hSw).trans (show _ = some _ from rfl); have hy4 := (cell_of_row _ _ 4 _ _ _ hSw).trans (show _ = some _ from rfl); have hy5 := (cell_of_row _ _ 5 _ _ _ hSw).trans (show _ = some _ from rfl); clear hSw; go_simp; try (with_reducible rfl))
  try simp only [Act.put, List.setIfInBounds_toArray, List.set_cons_zero, List.set_cons_succ]
  refine wpAnyH_take (i := 1) (v := ?zv1) (by simp only [List.getElem?_toArray, List.getElem?_cons_succ, List.getElem?_cons_zero]; rfl) (by kernel_rfl) (by kernel_rfl) (by kernel_rfl) (by exact fun _ _ _ h => h) (Or.inl ⟨by kernel_rfl, ?zy1⟩) hHeld ?_
  case zy1 => (intro w hSw; (try dsimp only at hSw); have hy1 := (cell_of_row _ _ 1 _ _ _ hSw).trans (show _ = some _ from rfl); have hy2 := (cell_of_row _ _ 2 _ _ _ hSw).trans (show _ = some _ from rfl); have hy3 := (cell_of_row _ _ 3 _ _ _ hSw).trans (show _ = some _ from rfl); have hy4 := (cell_of_row _ _ 4 _ _ _ hSw).trans (show _ = some _ from rfl); have hy5 := (cell_of_row _ _ 5 _ _ _ hSw).trans (show _ = some _ from rfl); clear hSw; go_simp; try (with_reducible rfl))
  try simp only [Act.put, List.setIfInBounds_toArray, List.set_cons_zero, List.set_cons_succ]
  refine wpAnyH_take (i := 2) (v := ?zv2) (by simp only [List.getElem?_toArray, List.getElem?_cons_succ, List.getElem?_cons_zero]; rfl) (by kernel_rfl) (by kernel_rfl) (by kernel_rfl) (by exact fun _ _ _ h => h) (Or.inl ⟨by kernel_rfl, ?zy2⟩) hHeld ?_
  case zy2 => (intro w hSw; (try dsimp only at hSw); have hy1 := (cell_of_row _ _ 1 _ _ _ hSw).trans (show _ = some _ from rfl); have hy2 := (cell_of_row _ _ 2 _ _ _ hSw).trans (show _ = some _ from rfl); have hy3 := (cell_of_row _ _ 3 _ _ _ hSw).trans (show _ = some _ from rfl); have hy4 := (cell_of_row _ _ 4 _ _ _ hSw).trans (show _ = some _ from rfl); have hy5 := (cell_of_row _ _ 5 _ _ _ hSw).trans (show _ = some _ from rfl); clear hSw; go_simp; try (with_reducible rfl))
  try simp only [Act.put, List.setIfInBounds_toArray, List.set_cons_zero, List.set_cons_succ]
  refine wpAnyH_take (i := 3) (v := ?zv3) (by simp only [List.getElem?_toArray, List.getElem?_cons_succ, List.getElem?_cons_zero]; rfl) (by kernel_rfl) (by kernel_rfl) (by kernel_rfl) (by exact fun _ _ _ h => h) (Or.inl ⟨by kernel_rfl, ?zy3⟩) hHeld ?_
  case zy3 => (intro w hSw; (try dsimp only at hSw); have hy1 := (cell_of_row _ _ 1 _ _ _ hSw).trans (show _ = some _ from rfl); have hy2 := (cell_of_row _ _ 2 _ _ _ hSw).trans (show _ = some _ from rfl); have hy3 := (cell_of_row _ _ 3 _ _ _ hSw).trans (show _ = some _ from rfl); have hy4 := (cell_of_row _ _ 4 _ _ _ hSw).trans (show _ = some _ from rfl); have hy5 := (cell_of_row _ _ 5 _ _ _ hSw).trans (show _ = some _ from rfl); clear hSw; go_simp; try (with_reducible rfl))
  try simp only [Act.put, List.setIfInBounds_toArray, List.set_cons_zero, List.set_cons_succ]
  refine wpAnyH_take (i := 5) (v := ?zv5) (by simp only [List.getElem?_toArray, List.getElem?_cons_succ, List.getElem?_cons_zero]; rfl) (by kernel_rfl) (by kernel_rfl) (by kernel_rfl) (by exact fun _ _ _ h => h) (Or.inl ⟨by kernel_rfl, ?zy5⟩) hHeld ?_
  case zy5 => (intro w hSw; (try dsimp only at hSw); have hy1 := (cell_of_row _ _ 1 _ _ _ hSw).trans (show _ = some _ from rfl); have hy2 := (cell_of_row _ _ 2 _ _ _ hSw).trans (show _ = some _ from rfl); have hy3 := (cell_of_row _ _ 3 _ _ _ hSw).trans (show _ = some _ from rfl); have hy4 := (cell_of_row _ _ 4 _ _ _ hSw).trans (show _ = some _ from rfl); have hy5 := (cell_of_row _ _ 5 _ _ _ hSw).trans (show _ = some _ from rfl); clear hSw; go_simp; try (with_reducible rfl))
  try simp only [Act.put, List.setIfInBounds_toArray, List.set_cons_zero, List.set_cons_succ]
  refine wpAnyH_take (i := 6) (v := ?zv6) (by simp only [List.getElem?_toArray, List.getElem?_cons_succ, List.getElem?_cons_zero]; rfl) (by kernel_rfl) (by kernel_rfl) (by kernel_rfl) (by exact fun _ _ _ h => h) (Or.inl ⟨by kernel_rfl, ?zy6⟩) hHeld ?_
  case zy6 => (intro w hSw; (try dsimp only at hSw); have hy1 := (cell_of_row _ _ 1 _ _ _ hSw).trans (show _ = some _ from rfl); have hy2 := (cell_of_row _ _ 2 _ _ _ hSw).trans (show _ = some _ from rfl); have hy3 := (cell_of_row _ _ 3 _ _ _ hSw).trans (show _ = some _ from rfl); have hy4 := (cell_of_row _ _ 4 _ _ _ hSw).trans (show _ = some _ from rfl); have hy5 := (cell_of_row _ _ 5 _ _ _ hSw).trans (show _ = some _ from rfl); clear hSw; go_simp; try (with_reducible rfl))
  try simp only [Act.put, List.setIfInBounds_toArray, List.set_cons_zero, List.set_cons_succ]
  refine wpAnyH_take (i := 7) (v := ?zv7) (by simp only [List.getElem?_toArray, List.getElem?_cons_succ, List.getElem?_cons_zero]; rfl) (by kernel_rfl) (by kernel_rfl) (by kernel_rfl) (by exact fun _ _ _ h => h) (Or.inl ⟨by kernel_rfl, ?zy7⟩) hHeld ?_
  case zy7 => (intro w hSw; (try dsimp only at hSw); have hy1 := (cell_of_row _ _ 1 _ _ _ hSw).trans (show _ = some _ from rfl); have hy2 := (cell_of_row _ _ 2 _ _ _ hSw).trans (show _ = some _ from rfl); have hy3 := (cell_of_row _ _ 3 _ _ _ hSw).trans (show _ = some _ from rfl); have hy4 := (cell_of_row _ _ 4 _ _ _ hSw).trans (show _ = some _ from rfl); have hy5 := (cell_of_row _ _ 5 _ _ _ hSw).trans (show _ = some _ from rfl); clear hSw; go_simp; try (with_reducible rfl))
  try simp only [Act.put, List.setIfInBounds_toArray, List.set_cons_zero, List.set_cons_succ]
  refine wpAnyH_take (i := 9) (v := ?zv9) (by simp only [List.getElem?_toArray, List.getElem?_cons_succ, List.getElem?_cons_zero]; rfl) (by kernel_rfl) (by kernel_rfl) (by kernel_rfl) (by exact fun _ _ _ h => h) (Or.inl ⟨by kernel_rfl, ?zy9⟩) hHeld ?_
  case zy9 => (intro w hSw; (try dsimp only at hSw); have hy1 := (cell_of_row _ _ 1 _ _ _ hSw).trans (show _ = some _ from rfl); have hy2 := (cell_of_row _ _ 2 _ _ _ hSw).trans (show _ = some _ from rfl); have hy3 := (cell_of_row _ _ 3 _ _ _ hSw).trans (show _ = some _ from rfl); have hy4 := (cell_of_row _ _ 4 _ _ _ hSw).trans (show _ = some _ from rfl); have hy5 := (cell_of_row _ _ 5 _ _ _ hSw).trans (show _ = some _ from rfl); clear hSw; go_simp; try (with_reducible rfl))
  try simp only [Act.put, List.setIfInBounds_toArray, List.set_cons_zero, List.set_cons_succ]
  refine wpAnyH_take (i := 10) (v := ?zv10) (by simp only [List.getElem?_toArray, List.getElem?_cons_succ, List.getElem?_cons_zero]; rfl) (by kernel_rfl) (by kernel_rfl) (by kernel_rfl) (by exact fun _ _ _ h => h) (Or.inl ⟨by kernel_rfl, ?zy10⟩) hHeld ?_
  case zy10 => (intro w hSw; (try dsimp only at hSw); have hy1 := (cell_of_row _ _ 1 _ _ _ hSw).trans (show _ = some _ from rfl); have hy2 := (cell_of_row _ _ 2 _ _ _ hSw).trans (show _ = some _ from rfl); have hy3 := (cell_of_row _ _ 3 _ _ _ hSw).trans (show _ = some _ from rfl); have hy4 := (cell_of_row _ _ 4 _ _ _ hSw).trans (show _ = some _ from rfl); have hy5 := (cell_of_row _ _ 5 _ _ _ hSw).trans (show _ = some _ from rfl); clear hSw; go_simp; try (with_reducible rfl))
  try simp only [Act.put, List.setIfInBounds_toArray, List.set_cons_zero, List.set_cons_succ]
  refine wpAnyH_take (i := 11) (v := ?zv11) (by simp only [List.getElem?_toArray, List.getElem?_cons_succ, List.getElem?_cons_zero]; rfl) (by kernel_rfl) (by kernel_rfl) (by kernel_rfl) (by exact fun _ _ _ h => h) (Or.inl ⟨by kernel_rfl, ?zy11⟩) hHeld ?_
  case zy11 => (intro w hSw; (try dsimp only at hSw); have hy1 := (cell_of_row _ _ 1 _ _ _ hSw).trans (show _ = some _ from rfl); have hy2 := (cell_of_row _ _ 2 _ _ _ hSw).trans (show _ = some _ from rfl); have hy3 := (cell_of_row _ _ 3 _ _ _ hSw).trans (show _ = some _ from rfl); have hy4 := (cell_of_row _ _ 4 _ _ _ hSw).trans (show _ = some _ from rfl); have hy5 := (cell_of_row _ _ 5 _ _ _ hSw).trans (show _ = some _ from rfl); clear hSw; go_simp; try (with_reducible rfl))
  try simp only [Act.put, List.setIfInBounds_toArray, List.set_cons_zero, List.set_cons_succ]
  refine wpAnyH_take (i := 13) (v := ?zv13) (by simp only [List.getElem?_toArray, List.getElem?_cons_succ, List.getElem?_cons_zero]; rfl) (by kernel_rfl) (by kernel_rfl) (by kernel_rfl) (by exact fun _ _ _ h => h) (Or.inl ⟨by kernel_rfl, ?zy13⟩) hHeld ?_
  case zy13 => (intro w hSw; (try dsimp only at hSw); have hy1 := (cell_of_row _ _ 1 _ _ _ hSw).trans (show _ = some _ from rfl); have hy2 := (cell_of_row _ _ 2 _ _ _ hSw).trans (show _ = some _ from rfl); have hy3 := (cell_of_row _ _ 3 _ _ _ hSw).trans (show _ = some _ from rfl); have hy4 := (cell_of_row _ _ 4 _ _ _ hSw).trans (show _ = some _ from rfl); have hy5 := (cell_of_row _ _ 5 _ _ _ hSw).trans (show _ = some _ from rfl); clear hSw; go_simp; try (with_reducible rfl))
  try simp only [Act.put, List.setIfInBounds_toArray, List.set_cons_zero, List.set_cons_succ]
  refine wpAnyH_take (i := 14) (v := ?zv14) (by simp only [List.getElem?_toArray, List.getElem?_cons_succ, List.getElem?_cons_zero]; rfl) (by kernel_rfl) (by kernel_rfl) (by kernel_rfl) (by exact fun _ _ _ h => h) (Or.inl ⟨by kernel_rfl, ?zy14⟩) hHeld ?_
  case zy14 => (intro w hSw; (try dsimp only at hSw); have hy1 := (cell_of_row _ _ 1 _ _ _ hSw).trans (show _ = some _ from rfl); have hy2 := (cell_of_row _ _ 2 _ _ _ hSw).trans (show _ = some _ from rfl); have hy3 := (cell_of_row _ _ 3 _ _ _ hSw).trans (show _ = some _ from rfl); have hy4 := (cell_of_row _ _ 4 _ _ _ hSw).trans (show _ = some _ from rfl); have hy5 := (cell_of_row _ _ 5 _ _ _ hSw).trans (show _ = some _ from rfl); clear hSw; go_simp; try (with_reducible rfl))
  try simp only [Act.put, List.setIfInBounds_toArray, List.set_cons_zero, List.set_cons_succ]
  refine wpAnyH_take (i := 15) (v := ?zv15) (by simp only [List.getElem?_toArray, List.getElem?_cons_succ, List.getElem?_cons_zero]; rfl) (by kernel_rfl) (by kernel_rfl) (by kernel_rfl) (by exact fun _ _ _ h => h) (Or.inl ⟨by kernel_rfl, ?zy15⟩) hHeld ?_
  case zy15 => (intro w hSw; (try dsimp only at hSw); have hy1 := (cell_of_row _ _ 1 _ _ _ hSw).trans (show _ = some _ from rfl); have hy2 := (cell_of_row _ _ 2 _ _ _ hSw).trans (show _ = some _ from rfl); have hy3 := (cell_of_row _ _ 3 _ _ _ hSw).trans (show _ = some _ from rfl); have hy4 := (cell_of_row _ _ 4 _ _ _ hSw).trans (show _ = some _ from rfl); have hy5 := (cell_of_row _ _ 5 _ _ _ hSw).trans (show _ = some _ from rfl); clear hSw; go_simp; try (with_reducible rfl))
  try simp only [Act.put, List.setIfInBounds_toArray, List.set_cons_zero, List.set_cons_succ]
  refine wpAnyH_take (i := 17) (v := ?zv17) (by simp only [List.getElem?_toArray, List.getElem?_cons_succ, List.getElem?_cons_zero]; rfl) (by kernel_rfl) (by kernel_rfl) (by kernel_rfl) (by exact fun _ _ _ h => h) (Or.inl ⟨by kernel_rfl, ?zy17⟩) hHeld ?_
  case zy17 => (intro w hSw; (try dsimp only at hSw); have hy1 := (cell_of_row _ _ 1 _ _ _ hSw).trans (show _ = some _ from rfl); have hy2 := (cell_of_row _ _ 2 _ _ _ hSw).trans (show _ = some _ from rfl); have hy3 := (cell_of_row _ _ 3 _ _ _ hSw).trans (show _ = some _ from rfl); have hy4 := (cell_of_row _ _ 4 _ _ _ hSw).trans (show _ = some _ from rfl); have hy5 := (cell_of_row _ _ 5 _ _ _ hSw).trans (show _ = some _ from rfl); clear hSw; go_simp; try (with_reducible rfl))
  try simp only [Act.put, List.setIfInBounds_toArray, List.set_cons_zero, List.set_cons_succ]
  refine wpAnyH_take (i := 18) (v := ?zv18) (by simp only [List.getElem?_toArray, List.getElem?_cons_succ, List.getElem?_cons_zero]; rfl) (by kernel_rfl) (by kernel_rfl) (by kernel_rfl) (by exact fun _ _ _ h => h) (Or.inl ⟨by kernel_rfl, ?zy18⟩) hHeld ?_
  case zy18 => (intro w hSw; (try dsimp only at hSw); have hy1 := (cell_of_row _ _ 1 _ _ _ hSw).trans (show _ = some _ from rfl); have hy2 := (cell_of_row _ _ 2 _ _ _ hSw).trans (show _ = some _ from rfl); have hy3 := (cell_of_row _ _ 3 _ _ _ hSw).trans (show _ = some _ from rfl); have hy4 := (cell_of_row _ _ 4 _ _ _ hSw).trans (show _ = some _ from rfl); have hy5 := (cell_of_row _ _ 5 _ _ _ hSw).trans (show _ = some _ from rfl); clear hSw; go_simp; try (with_reducible rfl))
  try simp only [Act.put, List.setIfInBounds_toArray, List.set_cons_zero, List.set_cons_succ]
  refine wpAnyH_ready (rs := [4]) (by kernel_rfl) (by simp) ?_
  refine AllReadyH.cons (by simp only [List.getElem?_toArray, List.getElem?_cons_succ, List.getElem?_cons_zero]; rfl) (fun KK hKK => ?_) AllReadyH.nil
  rw [if_pos (by kernel_rfl)]
  go_simp
  (with_reducible refine (hIa _ hTz.drew).mono ?_)
  rintro e wc1 ⟨rfl, h9⟩
  have h9 := below_undrew2 h9
  have kA := (h9.block _ (Array.getElem?_eq_some_iff.1 kA).1).trans kA
  have hTz := hTz.ext h9
  have hb := hb.trans (h9.mono hb.size)
  clear h9
  go_wp2_with fail
  refine hKK.out _ _ ?_ (fun hHeld => ?_)
  · exact kA
  clear hKK KK
  try simp only [Act.put, List.setIfInBounds_toArray, List.set_cons_zero, List.set_cons_succ]
  refine wpAnyH_ready (rs := [8]) (by kernel_rfl) (by simp) ?_
  refine AllReadyH.cons (by simp only [List.getElem?_toArray, List.getElem?_cons_succ, List.getElem?_cons_zero]; rfl) (fun KK hKK => ?_) AllReadyH.nil
  rw [if_pos (by kernel_rfl)]
  go_simp
  (with_reducible refine (hIb _ hTz).mono ?_)
  rintro e wc2 ⟨rfl, h9⟩
  have kA := (h9.block _ (Array.getElem?_eq_some_iff.1 kA).1).trans kA
  have hTz := hTz.ext h9
  have hb := hb.trans (h9.mono hb.size)
  clear h9
  go_wp2_with fail
  refine hKK.out _ _ ?_ (fun hHeld => ?_)
  · exact kA
  clear hKK KK
  try simp only [Act.put, List.setIfInBounds_toArray, List.set_cons_zero, List.set_cons_succ]
  refine wpAnyH_ready (rs := [12]) (by kernel_rfl) (by simp) ?_
  refine AllReadyH.cons (by simp only [List.getElem?_toArray, List.getElem?_cons_succ, List.getElem?_cons_zero]; rfl) (fun KK hKK => ?_) AllReadyH.nil
  rw [if_pos (by kernel_rfl)]
  go_simp
  (with_reducible refine (hIc _ hTz).mono ?_)
  rintro e wc3 ⟨rfl, h9⟩
  have kA := (h9.block _ (Array.getElem?_eq_some_iff.1 kA).1).trans kA
  have hTz := hTz.ext h9
  have hb := hb.trans (h9.mono hb.size)
  clear h9
  go_wp2_with fail
  refine hKK.out _ _ ?_ (fun hHeld => ?_)
  · exact kA
  clear hKK KK
  try simp only [Act.put, List.setIfInBounds_toArray, List.set_cons_zero, List.set_cons_succ]
  refine wpAnyH_ready (rs := [16]) (by kernel_rfl) (by simp) ?_
  refine AllReadyH.cons (by simp only [List.getElem?_toArray, List.getElem?_cons_succ, List.getElem?_cons_zero]; rfl) (fun KK hKK => ?_) AllReadyH.nil
  rw [if_pos (by kernel_rfl)]
  go_simp
  (with_reducible refine (hIn _ hTz).mono ?_)
  rintro e wc4 ⟨rfl, h9⟩
  have kA := (h9.block _ (Array.getElem?_eq_some_iff.1 kA).1).trans kA
  have hTz := hTz.ext h9
  have hb := hb.trans (h9.mono hb.size)
  clear h9
  go_wp2_with fail
  refine hKK.out _ _ ?_ (fun hHeld => ?_)
  · exact kA
  clear hKK KK
  try simp only [Act.put, List.setIfInBounds_toArray, List.set_cons_zero, List.set_cons_succ]
  refine wpAnyH_ready (rs := [19]) (by kernel_rfl) (by simp) ?_
  refine AllReadyH.cons (by simp only [List.getElem?_toArray, List.getElem?_cons_succ, List.getElem?_cons_zero]; rfl) (fun KK hKK => ?_) AllReadyH.nil
  rw [if_pos (by kernel_rfl)]
  go_simp
  (with_reducible refine (hM _ hTz.z).mono ?_)
  rintro e wc5 ⟨rfl, h9⟩
  have kA := (h9.block _ (Array.getElem?_eq_some_iff.1 kA).1).trans kA
  have hTz := hTz.ext h9
  have hb := hb.trans (h9.mono hb.size)
  clear h9
  go_wp2_with fail
  refine hKK.out _ _ ?_ (fun hHeld => ?_)
  · exact kA
  clear hKK KK
  try simp only [Act.put, List.setIfInBounds_toArray, List.set_cons_zero, List.set_cons_succ]
  refine wpAnyH_ready (rs := [20]) (by kernel_rfl) (by simp) ?_
  refine AllReadyH.cons (by simp only [List.getElem?_toArray, List.getElem?_cons_succ, List.getElem?_cons_zero]; rfl) (fun KK hKK => ?_) AllReadyH.nil
  rw [if_pos (by kernel_rfl)]
  go_simp
  have kL := heap_alloc_new wc5 (.cells #[.string ⟨sw.toArray⟩, .string ⟨sa.toArray⟩, .string ⟨sb.toArray⟩, .string ⟨sc.toArray⟩, .string ⟨sn.toArray⟩, .string ⟨sm.toArray⟩] 9)
  have kA := (Below.heap_alloc wc5 (.cells #[.string ⟨sw.toArray⟩, .string ⟨sa.toArray⟩, .string ⟨sb.toArray⟩, .string ⟨sc.toArray⟩, .string ⟨sn.toArray⟩, .string ⟨sm.toArray⟩] 9) _ (Array.getElem?_eq_some_iff.1 kA).1).trans kA
  have hb := hb.alloc hb.size (.cells #[.string ⟨sw.toArray⟩, .string ⟨sa.toArray⟩, .string ⟨sb.toArray⟩, .string ⟨sc.toArray⟩, .string ⟨sn.toArray⟩, .string ⟨sm.toArray⟩] 9)
  refine hKK.out _ _ ?_ (fun hHeld => ?_)
  · exact kA
  clear hKK KK
  try simp only [Act.put, List.setIfInBounds_toArray, List.set_cons_zero, List.set_cons_succ]
  refine wpAnyH_ready (rs := [21]) (by kernel_rfl) (by simp) ?_
  refine AllReadyH.cons (by simp only [List.getElem?_toArray, List.getElem?_cons_succ, List.getElem?_cons_zero]; rfl) (fun KK hKK => ?_) AllReadyH.nil
  rw [if_pos (by kernel_rfl)]
  go_simp
  (with_reducible refine (hJo _ _ _ kL).mono ?_)
  rintro e wc9 ⟨rfl, h9⟩
  have kA := (h9.block _ (Array.getElem?_eq_some_iff.1 kA).1).trans kA
  have hb := hb.trans (h9.mono hb.size)
  clear h9
  go_wp2_with fail
  refine hKK.out _ _ ?_ (fun hHeld => ?_)
  · exact kA
  clear hKK KK
  try simp only [Act.put, List.setIfInBounds_toArray, List.set_cons_zero, List.set_cons_succ]
  refine wpAnyH_take (i := 22) (v := ?zv22) (by simp only [List.getElem?_toArray, List.getElem?_cons_succ, List.getElem?_cons_zero]; rfl) (by kernel_rfl) (by kernel_rfl) (by kernel_rfl) (by exact fun _ _ _ h => h) (Or.inl ⟨by kernel_rfl, ?zy22⟩) hHeld ?_
  case zy22 => (intro w hSw; (try dsimp only at hSw); have hy1 := (cell_of_row _ _ 1 _ _ _ hSw).trans (show _ = some _ from rfl); have hy2 := (cell_of_row _ _ 2 _ _ _ hSw).trans (show _ = some _ from rfl); have hy3 := (cell_of_row _ _ 3 _ _ _ hSw).trans (show _ = some _ from rfl); have hy4 := (cell_of_row _ _ 4 _ _ _ hSw).trans (show _ = some _ from rfl); have hy5 := (cell_of_row _ _ 5 _ _ _ hSw).trans (show _ = some _ from rfl); clear hSw; go_simp; try (with_reducible rfl))
  try simp only [Act.put, List.setIfInBounds_toArray, List.set_cons_zero, List.set_cons_succ]
  refine wpAnyH_done (by kernel_rfl) ?_ _
  go_wp2
  go_ret
  exact ⟨rfl, hb⟩
end Go.Proofs.YtfckgfoimpileaaDoor
/- Check, Right: what a list of instructions may be. Conditions: the numbers fit; the tables lie. -/
namespace Go.Proofs.YtfckgfoimpileaaDoor
open Go.RowKit

/-- Instructions as cells. -/
def kv (l : List Cd) : List Value := l.flatMap fun c => (cdA c).toList
theorem kv_cons (c : Cd) (l : List Cd) : kv (c :: l) = (cdA c).toList ++ kv l := rfl
@[simp] theorem kv_nil : kv [] = [] := rfl
theorem cdA_len (c : Cd) : (cdA c).toList.length = 6 := rfl
@[simp] theorem kv_length (l : List Cd) : (kv l).length = l.length * 6 := by
  induction l with
  | nil => rfl
  | cons c l ih => rw [kv_cons, List.length_append, ih, cdA_len, List.length_cons]; omega
theorem kv_get : ∀ {l : List Cd} {i : Nat} (hi : i < l.length) {r : Nat} (_ : r < 6), (kv l)[i * 6 + r]? = (cdA l[i]).toList[r]? := by
  intro l
  induction l with
  | nil => intro i hi; simp at hi
  | cons c l ih =>
    intro i hi r hr
    rw [kv_cons]
    cases i with
    | zero => rw [List.getElem?_append_left (by rw [cdA_len]; omega)]; simp
    | succ i =>
      rw [List.getElem?_append_right (by rw [cdA_len]; omega), cdA_len, show (i + 1) * 6 + r - 6 = i * 6 + r by omega, ih (by simpa using hi) hr]
      simp
theorem kv_append (a b : List Cd) : kv (a ++ b) = kv a ++ kv b := by simp [kv]
def okK (l : List Cd) : Prop := ∀ c ∈ l, c.Ok
theorem sl_code {w : World} {b : Nat} {A : Option Addr} {l : List Cd} (h : Sl w b A (kv l)) {i : Nat} (hi : i < l.length) :
    ∃ off, A = some ⟨b, off, none⟩ ∧ w.cell? ⟨b, off + i * 6, none⟩ = some (.int .u8 (l[i].op : Int)) ∧ w.cell? ⟨b, off + i * 6 + 1, none⟩ = some (.int .u8 (l[i].a : Int)) ∧ w.cell? ⟨b, off + i * 6 + 2, none⟩ = some (.int .u8 (l[i].b : Int)) ∧
      w.cell? ⟨b, off + i * 6 + 3, none⟩ = some (.int .u8 (l[i].c : Int)) ∧ w.cell? ⟨b, off + i * 6 + 4, none⟩ = some (.int .i32 l[i].n) ∧ w.cell? ⟨b, off + i * 6 + 5, none⟩ = some (.int .u32 (l[i].m : Int)) := by
  obtain ⟨off, e, hc⟩ := h (by intro h0; have h1 := congrArg List.length h0; rw [kv_length, List.length_nil] at h1; omega)
  have at_ : ∀ r v, r < 6 → (cdA l[i]).toList[r]? = some v → w.cell? ⟨b, off + i * 6 + r, none⟩ = some v := fun r v hr hv => by
    have := hc (i * 6 + r) v (by rw [kv_get hi hr, hv])
    rw [← Nat.add_assoc] at this
    exact this
  exact ⟨off, e, at_ 0 _ (by omega) rfl, at_ 1 _ (by omega) rfl, at_ 2 _ (by omega) rfl, at_ 3 _ (by omega) rfl, at_ 4 _ (by omega) rfl, at_ 5 _ (by omega) rfl⟩
theorem fits_out (op a b cc : Nat) (n : Int) (m : Nat) (h26 : 26 ≤ op) (cells places players : Int) (w : World) :
    Calls Tryd.prog 32 #[.agg #[.int .u8 (op : Int), .int .u8 (a : Int), .int .u8 (b : Int), .int .u8 (cc : Int), .int .i32 n, .int .u32 (m : Int)], .agg #[.int .i64 cells, .int .i64 places, .int .i64 players]] w fun e w' => e = .returned (.bool (fitsB ⟨op, a, b, cc, n, m⟩ cells places players)) ∧ Below w.heap.size w w' := by
  have e0 : decide ((op : Int) ≥ 26) = true := by simp; omega
  have hf : fitsB ⟨op, a, b, cc, n, m⟩ cells places players = false := by simp only [fitsB]; rw [decide_eq_false (by omega), Bool.false_and]
  rw [hf]
  have hb := below_alloc2 w (.cells #[.int .u8 (op : Int), .int .u8 (a : Int), .int .u8 (b : Int), .int .u8 (cc : Int), .int .i32 n, .int .u32 (m : Int)] 33) (.cells #[.int .i64 cells, .int .i64 places, .int .i64 players] 70)
  clear hf
  go_enter Tryd.func32, Tryd.ntmps32
  go_wp2
  go_ret
  exact ⟨rfl, hb⟩
theorem fits_calls (op a b cc : Nat) (n : Int) (m : Nat) (hc : (Cd.mk op a b cc n m).Ok) (cells places players : Int) (hl0 : -9223372036854775808 ≤ cells) (hl1 : cells ≤ 9223372036854775807) (w : World) (hT : CTab w) :
    Calls Tryd.prog 32 #[.agg #[.int .u8 (op : Int), .int .u8 (a : Int), .int .u8 (b : Int), .int .u8 (cc : Int), .int .i32 n, .int .u32 (m : Int)], .agg #[.int .i64 cells, .int .i64 places, .int .i64 players]] w fun e w' => e = .returned (.bool (fitsB ⟨op, a, b, cc, n, m⟩ cells places players)) ∧ Below w.heap.size w w' := by
  by_cases h : op < 26
  · exact fits_in op a b cc n m hc h cells places players hl0 hl1 w hT
  · exact fits_out op a b cc n m (by omega) cells places players w
/-- What Check answers. -/
def checkP (l : List Cd) (cells players : Int) (c : Cd) : Bool := !(fitsB c cells ((l.length : Int) + 1) players)
def checkV (l : List Cd) (cells players : Int) : Nat × Bool :=
  if 96 < l.length then (96, false) else if l.findIdx (checkP l cells players) < l.length then (l.findIdx (checkP l cells players), false) else (0, true)
theorem checkV_bad {l : List Cd} {cells players : Int} {k : Nat} (hl : l.length ≤ 96) (hk : k < l.length) (h : fitsB l[k] cells ((l.length : Int) + 1) players = false) (hp : ∀ j (hj : j < k), fitsB (l[j]'(by omega)) cells ((l.length : Int) + 1) players = true) : checkV l cells players = (k, false) := by
  have h1 : l.findIdx (checkP l cells players) = k := (List.findIdx_eq hk).2 ⟨by simp [checkP, h], fun j hj => by simp [checkP, hp j hj]⟩
  unfold checkV
  rw [if_neg (by omega), h1, if_pos hk]
theorem checkV_good {l : List Cd} {cells players : Int} (hl : l.length ≤ 96) (hp : ∀ j (hj : j < l.length), fitsB l[j] cells ((l.length : Int) + 1) players = true) : checkV l cells players = (0, true) := by
  have h1 : l.findIdx (checkP l cells players) = l.length := List.findIdx_eq_length.2 fun x hx => by
    obtain ⟨j, hj, rfl⟩ := List.getElem_of_mem hx
    simp [checkP, hp j hj]
  unfold checkV
  rw [if_neg (by omega), h1, if_neg (by omega)]
set_option maxHeartbeats 4000000 in
set_option maxRecDepth 20000 in
theorem Check_calls (A : Option Addr) (l : List Cd) (n c b : Nat) (cells players : Int) (w : World) (hs : Sl w b A (kv l)) (hn : l.length = n) (hm : n ≤ maxLen) (hok : okK l) (hl0 : -9223372036854775808 ≤ cells) (hl1 : cells ≤ 9223372036854775807) (hT : CTab w) :
    Calls Tryd.prog 12 #[.slice A n c, .int .i64 cells, .int .i64 players] w fun e w' => e = .returned (.tuple #[.int .i64 ((checkV l cells players).1 : Nat), .bool (checkV l cells players).2]) ∧ Below w.heap.size w w' := by
  subst hn
  by_cases hbig : 96 < l.length
  · have e0 : decide ((l.length : Int) > 96) = true := by simp; omega
    have hv : checkV l cells players = (96, false) := by unfold checkV; rw [if_pos hbig]
    rw [hv]
    clear hv
    go_enter Tryd.func12, Tryd.ntmps12
    go_wp2
    go_ret2
    exact ⟨rfl, Below.refl _ _⟩
  have e0 : decide ((l.length : Int) > 96) = false := by simp; omega
  have hL : l.length ≤ 96 := by omega
  have hw := IntWalk.i64_in ((l.length : Int) + 1) (by omega)
  have hbad := fun k => checkV_bad (l := l) (cells := cells) (players := players) (k := k) hL
  have hgood := checkV_good (l := l) (cells := cells) (players := players) hL
  obtain ⟨V, hV⟩ : ∃ V, V = checkV l cells players := ⟨_, rfl⟩
  rw [← hV] at hgood ⊢
  simp only [← hV] at hbad
  have hF := fun op a b cc n m h W hT => fits_calls op a b cc n m h cells ((l.length : Int) + 1) players hl0 hl1 W hT
  have HB := Lib.hid hbad
  have HG := Lib.hid hgood
  clear hV hbad hgood
  have hb := below_alloc1 w (.cells #[.int .i64 cells, .int .i64 ((l.length : Int) + 1), .int .i64 players] 70)
  have kR := heap_alloc_new w (.cells #[.int .i64 cells, .int .i64 ((l.length : Int) + 1), .int .i64 players] 70)
  have hTz := hT.ext hb
  have hsz := Sl.ext hs hb
  obtain ⟨wz, hwz⟩ : ∃ wz, wz = w.alloc (.cells #[.int .i64 cells, .int .i64 ((l.length : Int) + 1), .int .i64 players] 70) := ⟨_, rfl⟩
  go_enter Tryd.func12, Tryd.ntmps12
  go_wp2_with fail
  rw [← hwz] at hb kR hTz hsz ⊢
  clear hwz hT hs
  go_loopw [22] (fun i wr => ∃ k : Nat, k ≤ l.length ∧ i = .int .i64 k ∧ (∀ j (hj : j < k) (hj2 : j < l.length), fitsB l[j] cells ((l.length : Int) + 1) players = true) ∧ wr.heap[w.heap.size]? = some (.cells #[.int .i64 cells, .int .i64 ((l.length : Int) + 1), .int .i64 players] 70 (0, 0)) ∧ Sl wr b A (kv l) ∧ CTab wr ∧ Below w.heap.size w wr) (fun i _ => l.length - (intOf i).toNat)
  case atStart => exact ⟨0, Nat.zero_le _, rfl, fun j hj => by omega, kR, hsz, hTz, hb⟩
  case round =>
    clear kR hsz hTz hb
    obtain ⟨k, hk, rfl, hall, kR, hs, hT, hb⟩ := hrel
    have HA := Lib.hid hall
    clear hall
    by_cases hlt : k < l.length
    · have ej : (k : Int) < (l.length : Int) := by omega
      have hck := hok l[k] (List.getElem_mem hlt)
      obtain ⟨off, rfl, c0, c1, c2, c3, c4, c5⟩ := sl_code hs hlt
      have HBk := Lib.hid (HB.out k hlt)
      obtain ⟨x, hx⟩ : ∃ x, x = l[k] := ⟨_, rfl⟩
      have HX := Lib.hid hx
      rw [← hx] at hck c0 c1 c2 c3 c4 c5 HBk
      clear hx
      obtain ⟨op, a, b', cc, n, m⟩ := x
      simp only at c0 c1 c2 c3 c4 c5
      have hFk := fun W hT => hF op a b' cc n m hck W hT
      obtain ⟨d, hd⟩ : ∃ d, d = fitsB ⟨op, a, b', cc, n, m⟩ cells ((l.length : Int) + 1) players := ⟨_, rfl⟩
      rw [← hd] at hFk
      have HD := Lib.hid hd
      have r0 := (cell_of_row wr _ 0 _ _ _ kR).trans (show _ = some _ from rfl)
      have r1 := (cell_of_row wr _ 1 _ _ _ kR).trans (show _ = some _ from rfl)
      have r2 := (cell_of_row wr _ 2 _ _ _ kR).trans (show _ = some _ from rfl)
      have hba := below_alloc1 wr (.cells #[.int .u8 (op : Int), .int .u8 (a : Int), .int .u8 (b' : Int), .int .u8 (cc : Int), .int .i32 n, .int .u32 (m : Int)] 33)
      have kR2 := (hba.block _ (Array.getElem?_eq_some_iff.1 kR).1).trans kR
      have r0' := (cell_of_row _ _ 0 _ _ _ kR2).trans (show _ = some _ from rfl)
      have r1' := (cell_of_row _ _ 1 _ _ _ kR2).trans (show _ = some _ from rfl)
      have r2' := (cell_of_row _ _ 2 _ _ _ kR2).trans (show _ = some _ from rfl)
      have hs2 := Sl.ext hs hba
      have hT2 := hT.ext hba
      have hb2 := hb.trans (hba.mono hb.size)
      clear hd kR hs hT hb hba hF hck
      go_wp2_with fail
      refine (hFk _ hT2).mono ?_
      rintro e w6 ⟨rfl, h9⟩
      have kR := (h9.block _ (Array.getElem?_eq_some_iff.1 kR2).1).trans kR2
      have hs := Sl.ext hs2 h9
      have hT := hT2.ext h9
      have hb := hb2.trans (h9.mono hb2.size)
      clear h9 hFk r0 r1 r2 r0' r1' r2' c0 c1 c2 c3 c4 c5 kR2 hs2 hT2 hb2
      cases d with
      | true =>
        go_wp2_with fail
        go_roundw
        case rel =>
          refine ⟨k + 1, by omega, by go_num, fun j hj hj2 => ?_, kR, hs, hT, hb⟩
          rcases Nat.lt_or_ge j k with h1 | h1
          · exact HA.out j h1 hj2
          · obtain rfl : j = k := by omega
            rw [← HX.out]
            exact HD.out.symm
        case measure => simp [intOf]; omega
      | false =>
        go_wp2_with fail
        go_ret2
        have hv := HBk.out HD.out.symm (fun j hj => HA.out j hj (by omega))
        rw [hv]
        exact ⟨rfl, hb⟩
    · obtain rfl : k = l.length := by omega
      go_wp2_with fail
      go_ret2
      have hv := HG.out (fun j hj => HA.out j hj hj)
      rw [hv]
      exact ⟨rfl, hb⟩
theorem Right_calls (A : Option Addr) (l : List Cd) (n c b : Nat) (cells players : Int) (w : World) (hs : Sl w b A (kv l)) (hn : l.length = n) (hm : n ≤ maxLen) (hok : okK l) (hl0 : -9223372036854775808 ≤ cells) (hl1 : cells ≤ 9223372036854775807) (hT : CTab w) :
    Calls Tryd.prog 15 #[.slice A n c, .int .i64 cells, .int .i64 players] w fun e w' => e = .returned (.bool (checkV l cells players).2) ∧ Below w.heap.size w w' := by
  have hC := Check_calls A l n c b cells players w hs hn hm hok hl0 hl1 hT
  obtain ⟨V, hV⟩ : ∃ V, V = checkV l cells players := ⟨_, rfl⟩
  rw [← hV] at hC ⊢
  clear hV hs hT hok
  go_enter Tryd.func15, Tryd.ntmps15
  go_wp2_with fail
  refine hC.mono ?_
  rintro e w' ⟨rfl, hb⟩
  clear hC
  go_wp2
  go_ret
  exact ⟨rfl, hb⟩
end Go.Proofs.YtfckgfoimpileaaDoor
/- The document's example holds. Condition: the tables lie. -/
namespace Go.Proofs.YtfckgfoimpileaaDoor
open Go.RowKit

theorem line_set : lineB 1 1 0 0 (-5) 0 = [115, 101, 116, 32, 49, 32, 48, 32, 48, 32, 45, 53, 32, 45] := by
  have d5 : Lib.decDigits 5 = [53] := by rw [Lib.decDigits]; rfl
  have d1 : Lib.decDigits 1 = [49] := by rw [Lib.decDigits]; rfl
  have d0 : Lib.decDigits 0 = [48] := by rw [Lib.decDigits]; rfl
  have w1 : wordAt 1 = [115, 101, 116] := rfl
  have n5 : Int.natAbs (-5) = 5 := rfl
  unfold lineB textN Lib.itoa
  rw [w1]
  simp [n5, d5, d0, d1, Lib.join]
theorem stop_right : checkV [⟨0, 0, 0, 0, 0, 0⟩] 1 1 = (0, true) := by decide +kernel
theorem ok_stop : (Cd.mk 0 0 0 0 0 0).Ok := ⟨by decide, by decide, by decide, by decide, by decide, by decide, by decide⟩
theorem okK_one {c : Cd} (h : c.Ok) : okK [c] := fun x hx => by
  rw [List.mem_singleton] at hx
  subst hx
  exact h
theorem sl_new (w : World) (vs : List Value) (t : TypeId) : Sl (w.alloc (.cells vs.toArray t)) w.heap.size (some ⟨w.heap.size, 0, none⟩) vs := fun _ => ⟨0, rfl, fun j u hu => by
  rw [Nat.zero_add, cell_of_row _ _ j _ _ _ (heap_alloc_new w (.cells vs.toArray t))]
  simpa using hu⟩
set_option maxRecDepth 20000 in
theorem Awake_calls (w : World) (hT : AllT w) : Calls Tryd.prog 10 #[] w fun e w' => e = .returned (.bool true) ∧ Below w.heap.size w w' := by
  have hX := CText_in 1 1 0 0 (-5) 0 ⟨by decide, by decide, by decide, by decide, by decide, by decide, by decide⟩ (by omega) w hT
  rw [line_set] at hX
  go_enter Tryd.func10, Tryd.ntmps10
  go_wp2_with fail
  refine hX.mono ?_
  rintro e w1 ⟨rfl, hb⟩
  have hT1 := hT.ext hb
  clear hX hT
  have hR := Right_calls (some ⟨w1.heap.size, 0, none⟩) [⟨0, 0, 0, 0, 0, 0⟩] 1 1 w1.heap.size 1 1 (w1.alloc (.cells #[.int .u8 0, .int .u8 0, .int .u8 0, .int .u8 0, .int .i32 0, .int .u32 0] 33)) (sl_new w1 (kv [⟨0, 0, 0, 0, 0, 0⟩]) _) rfl (by decide) (okK_one ok_stop) (by decide) (by decide) (hT1.ext (below_alloc1 _ _)).c
  rw [stop_right] at hR
  have hb2 := hb.trans ((below_alloc1 w1 (.cells #[.int .u8 0, .int .u8 0, .int .u8 0, .int .u8 0, .int .i32 0, .int .u32 0] 33)).mono hb.size)
  clear hT1
  go_wp2_with fail
  refine hR.mono ?_
  rintro e w2 ⟨rfl, h9⟩
  have hb3 := hb2.trans (h9.mono hb2.size)
  clear h9 hb hb2 hR
  go_wp2
  go_ret
  exact ⟨rfl, hb3⟩
end Go.Proofs.YtfckgfoimpileaaDoor
/- The document's table of operations, its Parts, has, Right. Conditions: the numbers fit. -/
namespace Go.Proofs.YtfckgfoimpileaaDoor
open Go.RowKit

def rowT : List (List UInt8) := [[115, 116, 111, 112, 32], [115, 101, 116, 32, 65, 110], [108, 111, 97, 100, 32, 65, 99], [115, 116, 111, 114, 101, 32, 65, 99], [108, 111, 97, 100, 97, 116, 32, 65, 66, 99], [115, 116, 111, 114, 101, 97, 116, 32, 65, 66, 99], [97, 100, 100, 32, 65, 66, 67], [115, 117, 98, 32, 65, 66, 67], [109, 117, 108, 32, 65, 66, 67], [100, 105, 118, 32, 65, 66, 67], [109, 111, 100, 32, 65, 66, 67], [97, 110, 100, 32, 65, 66, 67], [111, 114, 32, 65, 66, 67], [120, 111, 114, 32, 65, 66, 67], [115, 104, 108, 32, 65, 66, 67], [115, 104, 114, 32, 65, 66, 67], [108, 101, 115, 115, 32, 65, 66, 67], [101, 113, 117, 97, 108, 32, 65, 66, 67], [115, 101, 108, 101, 99, 116, 32, 65, 66, 67], [98, 114, 97, 110, 99, 104, 32, 65, 112], [106, 117, 109, 112, 32, 112], [109, 111, 118, 101, 32, 65, 109], [114, 101, 118, 101, 97, 108, 32, 66, 99, 75], [114, 111, 108, 108, 32, 65, 115], [115, 104, 117, 102, 102, 108, 101, 32, 114], [99, 108, 111, 99, 107, 32, 65]]
def rowAt (j : Nat) : List UInt8 := rowT.getD j []
def letAt (j : Nat) : List UInt8 := (rowAt j).drop ((wordAt j).length + 1)
theorem row_parts : ∀ j : Fin 26, rowAt j.val = wordAt j.val ++ 32 :: letAt j.val ∧ (wordAt j.val).contains 32 = false := by decide +kernel
set_option maxRecDepth 20000 in
theorem Table_calls (w : World) : Calls Tryd.prog 51 #[] w fun e w' => e = .returned (.slice (some ⟨w.heap.size, 0, none⟩) 26 26) ∧ w'.heap[w.heap.size]? = some (.cells (rowT.map fun r => .string ⟨r.toArray⟩).toArray 9 (0, 0)) ∧ Below w.heap.size w w' := by
  have hk := heap_alloc_new w (.cells #[.string ⟨#[115, 116, 111, 112, 32]⟩, .string ⟨#[115, 101, 116, 32, 65, 110]⟩, .string ⟨#[108, 111, 97, 100, 32, 65, 99]⟩, .string ⟨#[115, 116, 111, 114, 101, 32, 65, 99]⟩, .string ⟨#[108, 111, 97, 100, 97, 116, 32, 65, 66, 99]⟩, .string ⟨#[115, 116, 111, 114, 101, 97, 116, 32, 65, 66, 99]⟩, .string ⟨#[97, 100, 100, 32, 65, 66, 67]⟩, .string ⟨#[115, 117, 98, 32, 65, 66, 67]⟩, .string ⟨#[109, 117, 108, 32, 65, 66, 67]⟩, .string ⟨#[100, 105, 118, 32, 65, 66, 67]⟩, .string ⟨#[109, 111, 100, 32, 65, 66, 67]⟩, .string ⟨#[97, 110, 100, 32, 65, 66, 67]⟩, .string ⟨#[111, 114, 32, 65, 66, 67]⟩, .string ⟨#[120, 111, 114, 32, 65, 66, 67]⟩, .string ⟨#[115, 104, 108, 32, 65, 66, 67]⟩, .string ⟨#[115, 104, 114, 32, 65, 66, 67]⟩, .string ⟨#[108, 101, 115, 115, 32, 65, 66, 67]⟩, .string ⟨#[101, 113, 117, 97, 108, 32, 65, 66, 67]⟩, .string ⟨#[115, 101, 108, 101, 99, 116, 32, 65, 66, 67]⟩, .string ⟨#[98, 114, 97, 110, 99, 104, 32, 65, 112]⟩, .string ⟨#[106, 117, 109, 112, 32, 112]⟩, .string ⟨#[109, 111, 118, 101, 32, 65, 109]⟩, .string ⟨#[114, 101, 118, 101, 97, 108, 32, 66, 99, 75]⟩, .string ⟨#[114, 111, 108, 108, 32, 65, 115]⟩, .string ⟨#[115, 104, 117, 102, 102, 108, 101, 32, 114]⟩, .string ⟨#[99, 108, 111, 99, 107, 32, 65]⟩] 9)
  have hb := below_alloc1 w (.cells #[.string ⟨#[115, 116, 111, 112, 32]⟩, .string ⟨#[115, 101, 116, 32, 65, 110]⟩, .string ⟨#[108, 111, 97, 100, 32, 65, 99]⟩, .string ⟨#[115, 116, 111, 114, 101, 32, 65, 99]⟩, .string ⟨#[108, 111, 97, 100, 97, 116, 32, 65, 66, 99]⟩, .string ⟨#[115, 116, 111, 114, 101, 97, 116, 32, 65, 66, 99]⟩, .string ⟨#[97, 100, 100, 32, 65, 66, 67]⟩, .string ⟨#[115, 117, 98, 32, 65, 66, 67]⟩, .string ⟨#[109, 117, 108, 32, 65, 66, 67]⟩, .string ⟨#[100, 105, 118, 32, 65, 66, 67]⟩, .string ⟨#[109, 111, 100, 32, 65, 66, 67]⟩, .string ⟨#[97, 110, 100, 32, 65, 66, 67]⟩, .string ⟨#[111, 114, 32, 65, 66, 67]⟩, .string ⟨#[120, 111, 114, 32, 65, 66, 67]⟩, .string ⟨#[115, 104, 108, 32, 65, 66, 67]⟩, .string ⟨#[115, 104, 114, 32, 65, 66, 67]⟩, .string ⟨#[108, 101, 115, 115, 32, 65, 66, 67]⟩, .string ⟨#[101, 113, 117, 97, 108, 32, 65, 66, 67]⟩, .string ⟨#[115, 101, 108, 101, 99, 116, 32, 65, 66, 67]⟩, .string ⟨#[98, 114, 97, 110, 99, 104, 32, 65, 112]⟩, .string ⟨#[106, 117, 109, 112, 32, 112]⟩, .string ⟨#[109, 111, 118, 101, 32, 65, 109]⟩, .string ⟨#[114, 101, 118, 101, 97, 108, 32, 66, 99, 75]⟩, .string ⟨#[114, 111, 108, 108, 32, 65, 115]⟩, .string ⟨#[115, 104, 117, 102, 102, 108, 101, 32, 114]⟩, .string ⟨#[99, 108, 111, 99, 107, 32, 65]⟩] 9)
  go_enter Tryd.func51, Tryd.ntmps51
  go_wp2
  go_ret
  exact ⟨rfl, hk, hb⟩
theorem contains_at {l : List UInt8} (h : l.contains 32 = false) {k : Nat} (hk : k < l.length) : l[k].toNat ≠ 32 := fun e => by
  have h1 : l[k] = 32 := by apply UInt8.toNat.inj; simpa using e
  rw [List.contains_eq_mem, decide_eq_false_iff_not] at h
  exact h (h1 ▸ List.getElem_mem hk)
set_option maxRecDepth 20000 in
theorem has_calls (s : List UInt8) (c : Nat) (hc : c ≤ 255) (hs : s.length ≤ 1000) (w : World) : Calls Tryd.prog 57 #[.string ⟨s.toArray⟩, .int .u8 (c : Int)] w fun e w' => e = .returned (.bool (s.contains (UInt8.ofNat c))) ∧ w' = w := by
  obtain ⟨d, hd⟩ : ∃ d, d = s.contains (UInt8.ofNat c) := ⟨_, rfl⟩
  rw [← hd]
  have HD := Lib.hid hd
  clear hd
  go_enter Tryd.func57, Tryd.ntmps57
  go_wp2_with fail
  go_loop [5] (fun i => ∃ k : Nat, k ≤ s.length ∧ i = .int .i64 k ∧ ∀ j (_ : j < k) (hj : j < s.length), s[j].toNat ≠ c) (fun i => s.length - (intOf i).toNat)
  case atStart => exact ⟨0, Nat.zero_le _, rfl, fun j hj => by omega⟩
  case round =>
    obtain ⟨k, hk, rfl, hall⟩ := hrel
    have HA := Lib.hid hall
    clear hall
    by_cases hlt : k < s.length
    · have ej : (k : Int) < (s.length : Int) := by omega
      have hlb : k < (⟨s.toArray⟩ : ByteArray).size := by simpa [ByteArray.size] using hlt
      obtain ⟨x, hx⟩ : ∃ x : Nat, x = s[k].toNat := ⟨_, rfl⟩
      by_cases hxc : x = c
      · have ex : (((((⟨s.toArray⟩ : ByteArray)[k]'hlb).toNat : Nat) : Int) == (c : Int)) = true := by rw [beq_iff_eq]; show ((s[k].toNat : Int)) = c; omega
        have hr : s.contains (UInt8.ofNat c) = true := by
          rw [List.contains_eq_mem, decide_eq_true_iff]
          have h1 : s[k] = UInt8.ofNat c := by rw [← hxc, hx]; simp
          exact h1 ▸ List.getElem_mem hlt
        rw [← HD.out] at hr
        subst hr
        clear hx
        go_wp2
        go_ret
        exact ⟨rfl, rfl⟩
      · have ex : (((((⟨s.toArray⟩ : ByteArray)[k]'hlb).toNat : Nat) : Int) == (c : Int)) = false := by rw [beq_eq_false_iff_ne]; show ((s[k].toNat : Int)) ≠ c; omega
        have hne : s[k].toNat ≠ c := by omega
        have HN := Lib.hid hne
        clear hx hne
        go_wp2
        go_round
        case rel =>
          refine ⟨k + 1, by omega, by go_num, fun j hj hj2 => ?_⟩
          rcases Nat.lt_or_ge j k with h1 | h1
          · exact HA.out j h1 hj2
          · obtain rfl : j = k := by omega
            exact HN.out
        case measure => simp [intOf]; omega
    · obtain rfl : k = s.length := by omega
      have hr : s.contains (UInt8.ofNat c) = false := by
        rw [List.contains_eq_mem, decide_eq_false_iff_not]
        intro hm
        obtain ⟨j, hj, he⟩ := List.getElem_of_mem hm
        have h1 := HA.out j hj hj
        rw [he] at h1
        apply h1
        simp [UInt8.toNat_ofNat']
        omega
      rw [← HD.out] at hr
      subst hr
      go_wp2
      go_ret
      exact ⟨rfl, rfl⟩
theorem ba_extract (l : List UInt8) (i j : Nat) : (⟨l.toArray⟩ : ByteArray).extract i j = ⟨((l.drop i).take (j - i)).toArray⟩ := by
  apply ByteArray.ext
  rw [ByteArray.data_extract]
  apply Array.ext'
  simp [List.extract]
theorem row_len : ∀ j : Fin 26, (rowAt j.val).length ≤ 14 ∧ (letAt j.val).length ≤ 5 ∧ (wordAt j.val).length ≤ 7 := by decide +kernel
set_option maxRecDepth 20000 in
theorem Parts_in (op : Nat) (h26 : op < 26) (w : World) : Calls Tryd.prog 28 #[.int .u8 (op : Int)] w fun e w' => e = .returned (.tuple #[.string ⟨(wordAt op).toArray⟩, .string ⟨(letAt op).toArray⟩]) ∧ Below w.heap.size w w' := by
  obtain ⟨hrow, hno⟩ := row_parts ⟨op, h26⟩
  obtain ⟨hl, -, -⟩ := row_len ⟨op, h26⟩
  simp only at hrow hno hl
  have hcell : ∀ W : World, W.heap[w.heap.size]? = some (.cells (rowT.map fun r => .string ⟨r.toArray⟩).toArray 9 (0, 0)) → W.cell? ⟨w.heap.size, op, none⟩ = some (.string ⟨(rowAt op).toArray⟩) := fun W h => by
    rw [cell_of_row W _ op _ _ _ h]
    have : op < rowT.length := h26
    simp [rowAt, List.getD, this]
  obtain ⟨r, hr⟩ : ∃ r, r = rowAt op := ⟨_, rfl⟩
  obtain ⟨sw, hsw⟩ : ∃ s, s = wordAt op := ⟨_, rfl⟩
  obtain ⟨su, hsu⟩ : ∃ s, s = letAt op := ⟨_, rfl⟩
  rw [← hr] at hcell hrow hl
  rw [← hsw] at hrow hno ⊢
  rw [← hsu] at hrow ⊢
  clear hr hsw hsu
  have hwr : sw.length < r.length := by rw [hrow]; simp
  have hbefore : ∀ j (h1 : j < sw.length) (h2 : j < r.length), r[j].toNat ≠ 32 := fun j h1 h2 => by
    have h3 : r[j] = sw[j] := by simp only [hrow]; rw [List.getElem_append_left h1]
    rw [h3]
    exact contains_at hno h1
  have hat : r[sw.length].toNat = 32 := by
    have h3 : r[sw.length] = 32 := by simp only [hrow]; rw [List.getElem_append_right (Nat.le_refl _)]; simp
    rw [h3]; rfl
  have htk : (⟨r.toArray⟩ : ByteArray).extract 0 sw.length = ⟨sw.toArray⟩ := by rw [ba_extract]; congr 2; rw [hrow]; simp
  have hdr : (⟨r.toArray⟩ : ByteArray).extract (sw.length + 1) r.length = ⟨su.toArray⟩ := by
    rw [ba_extract]
    congr 2
    rw [hrow, List.drop_append]
    simp
    rw [List.drop_eq_nil_of_le (by omega), List.nil_append, show sw.length + (su.length + 1) - (sw.length + 1) = su.length by omega, List.take_length]
  have HB := Lib.hid hbefore
  have HAT := Lib.hid hat
  have HTK := Lib.hid htk
  have HDR := Lib.hid hdr
  have HR := Lib.hid hrow
  have e0 : IntKind.i64.wrap (op : Int) = (op : Int) := IntWalk.i64_in _ (by omega)
  have e1 : decide ((op : Int) ≥ 26) = false := by simp; omega
  have e2 : (op : Int) < 26 := by omega
  clear hrow hno hbefore hat htk hdr
  go_enter Tryd.func28, Tryd.ntmps28
  go_wp2_with fail
  refine (Table_calls _).mono ?_
  rintro e w1 ⟨rfl, hk, hb⟩
  have hc := hcell w1 hk
  clear hk hcell
  go_wp2_with fail
  go_loop [6] (fun i => ∃ k : Nat, k ≤ sw.length ∧ i = .int .i64 k) (fun i => r.length - (intOf i).toNat)
  case atStart => exact ⟨0, Nat.zero_le _, rfl⟩
  case round =>
    obtain ⟨k, hk, rfl⟩ := hrel
    have hlt : k < r.length := by omega
    have ej : (k : Int) < (r.length : Int) := by omega
    have hlb : k < (⟨r.toArray⟩ : ByteArray).size := by simpa [ByteArray.size] using hlt
    by_cases hks : k = sw.length
    · have ex : (((((⟨r.toArray⟩ : ByteArray)[k]'hlb).toNat : Nat) : Int) == 32) = true := by
        rw [beq_iff_eq]
        show ((r[k].toNat : Int)) = 32
        subst hks
        rw [HAT.out]
        rfl
      have hle : (k : Int) ≤ (r.length : Int) := by omega
      have hle1 : (k : Int) + 1 ≤ (r.length : Int) := by omega
      have hwk := IntWalk.i64_in ((k : Int) + 1) (by omega)
      subst hks
      go_wp2_with fail
      go_quiet (fail)
      go_wp2
      go_ret2
      exact ⟨by rw [← HTK.out, ← HDR.out]; rfl, below_drewN hb _⟩
    · have ex : (((((⟨r.toArray⟩ : ByteArray)[k]'hlb).toNat : Nat) : Int) == 32) = false := by
        rw [beq_eq_false_iff_ne]
        show ((r[k].toNat : Int)) ≠ 32
        have := HB.out k (by omega) hlt
        omega
      go_wp2
      go_round
      case rel => exact ⟨k + 1, by omega, by go_num⟩
      case measure => simp [intOf]; omega
end Go.Proofs.YtfckgfoimpileaaDoor
/- The document's Right. Conditions: the numbers fit. -/
namespace Go.Proofs.YtfckgfoimpileaaDoor
open Go.RowKit

theorem let_use : ∀ j : Fin 26, (letAt j.val).contains 65 = uB j.val 0 ∧ (letAt j.val).contains 66 = uB j.val 1 ∧ (letAt j.val).contains 67 = uB j.val 2 ∧ (letAt j.val).contains 114 = uB j.val 3 ∧ (letAt j.val).contains 75 = uB j.val 4 := by decide +kernel
theorem let_num : ∀ j : Fin 26, (letAt j.val).contains 110 = decide (numAt j.val = 1) ∧ (letAt j.val).contains 115 = decide (numAt j.val = 2) ∧ (uB j.val 3 = true ∨ (letAt j.val).contains 99 = decide (numAt j.val = 3)) ∧ (letAt j.val).contains 112 = decide (numAt j.val = 4) ∧ (letAt j.val).contains 109 = decide (numAt j.val = 5) := by decide +kernel
set_option maxHeartbeats 16000000 in
set_option maxRecDepth 20000 in
theorem RRight_in (op a b cc : Nat) (n : Int) (m : Nat) (hc : (Cd.mk op a b cc n m).Ok) (h26 : op < 26) (size cells players : Int) (_hs0 : 0 ≤ size) (_hs1 : size ≤ 9223372036854775806) (_hl0 : -9223372036854775808 ≤ cells) (_hl1 : cells ≤ 9223372036854775807) (w : World) :
    Calls Tryd.prog 31 #[.agg #[.int .u8 (op : Int), .int .u8 (a : Int), .int .u8 (b : Int), .int .u8 (cc : Int), .int .i32 n, .int .u32 (m : Int)], .int .i64 size, .int .i64 cells, .int .i64 players] w fun e w' => e = .returned (.bool (fitsB ⟨op, a, b, cc, n, m⟩ cells (size + 1) players)) ∧ Below w.heap.size w w' := by
  obtain ⟨-, ha, hb', hcc, n0, n1, hm⟩ := hc
  simp only at ha hb' hcc n0 n1 hm
  obtain ⟨u0, u1, u2, u3, u4⟩ := let_use ⟨op, h26⟩
  obtain ⟨v1, v2, v3, v4, v5⟩ := let_num ⟨op, h26⟩
  have hrw := use_row ⟨op, h26⟩
  have hwn := words_some ⟨op, h26⟩
  obtain ⟨-, hll, -⟩ := row_len ⟨op, h26⟩
  simp only at u0 u1 u2 u3 u4 v1 v2 v3 v4 v5 hrw hwn hll
  have hP := fun W => Parts_in op h26 W
  obtain ⟨sw, hsw⟩ : ∃ s, s = wordAt op := ⟨_, rfl⟩
  obtain ⟨su, hsu⟩ : ∃ s, s = letAt op := ⟨_, rfl⟩
  rw [← hsw] at hP hwn
  rw [← hsu] at hP hll u0 u1 u2 u3 u4 v1 v2 v3 v4 v5
  have hA := fun W => has_calls su 65 (by omega) (by omega) W
  have hB := fun W => has_calls su 66 (by omega) (by omega) W
  have hC := fun W => has_calls su 67 (by omega) (by omega) W
  have hR := fun W => has_calls su 114 (by omega) (by omega) W
  have hK := fun W => has_calls su 75 (by omega) (by omega) W
  have hN1 := fun W => has_calls su 110 (by omega) (by omega) W
  have hN2 := fun W => has_calls su 115 (by omega) (by omega) W
  have hN3 := fun W => has_calls su 99 (by omega) (by omega) W
  have hN4 := fun W => has_calls su 112 (by omega) (by omega) W
  have hN5 := fun W => has_calls su 109 (by omega) (by omega) W
  rw [show ((65 : Nat) : Int) = 65 from rfl, show UInt8.ofNat 65 = 65 from rfl, u0] at hA
  rw [show ((66 : Nat) : Int) = 66 from rfl, show UInt8.ofNat 66 = 66 from rfl, u1] at hB
  rw [show ((67 : Nat) : Int) = 67 from rfl, show UInt8.ofNat 67 = 67 from rfl, u2] at hC
  rw [show ((114 : Nat) : Int) = 114 from rfl, show UInt8.ofNat 114 = 114 from rfl, u3] at hR
  rw [show ((75 : Nat) : Int) = 75 from rfl, show UInt8.ofNat 75 = 75 from rfl, u4] at hK
  rw [show ((110 : Nat) : Int) = 110 from rfl, show UInt8.ofNat 110 = 110 from rfl, v1] at hN1
  rw [show ((115 : Nat) : Int) = 115 from rfl, show UInt8.ofNat 115 = 115 from rfl, v2] at hN2
  rw [show ((112 : Nat) : Int) = 112 from rfl, show UInt8.ofNat 112 = 112 from rfl, v4] at hN4
  rw [show ((109 : Nat) : Int) = 109 from rfl, show UInt8.ofNat 109 = 109 from rfl, v5] at hN5
  rw [show ((99 : Nat) : Int) = 99 from rfl, show UInt8.ofNat 99 = 99 from rfl] at hN3
  have hfb : fitsB ⟨op, a, b, cc, n, m⟩ cells (size + 1) players = (regB a (uB op 0) && (regB b (uB op 1) && (holdsB cells (size + 1) players (numAt op) n && ((if uB op 3 = true then rowB cc cells n else regB cc (uB op 2)) && (m == 0 || uB op 4))))) := by
    simp only [fitsB]
    rw [decide_eq_true h26, Bool.true_and]
  rw [hfb]
  obtain ⟨q0, hq0⟩ : ∃ q, q = uB op 0 := ⟨_, rfl⟩
  obtain ⟨q1, hq1⟩ : ∃ q, q = uB op 1 := ⟨_, rfl⟩
  obtain ⟨q2, hq2⟩ : ∃ q, q = uB op 2 := ⟨_, rfl⟩
  obtain ⟨q3, hq3⟩ : ∃ q, q = uB op 3 := ⟨_, rfl⟩
  obtain ⟨q4, hq4⟩ : ∃ q, q = uB op 4 := ⟨_, rfl⟩
  obtain ⟨k, hk⟩ : ∃ k, k = numAt op := ⟨_, rfl⟩
  rw [← hq0] at hA ⊢
  rw [← hq1] at hB ⊢
  rw [← hq2] at hC ⊢
  rw [← hq3] at hR v3 hrw ⊢
  rw [← hq4] at hK ⊢
  rw [← hk] at hN1 hN2 hN4 hN5 v3 hrw ⊢
  obtain ⟨D, hD⟩ : ∃ D, D = !(regB a q0 && (regB b q1 && (m == 0 || q4))) := ⟨_, rfl⟩
  obtain ⟨E, hE⟩ : ∃ E, E = (holdsB cells (size + 1) players k n && (if q3 = true then rowB cc cells n else regB cc q2)) := ⟨_, rfl⟩
  have hV : (regB a q0 && (regB b q1 && (holdsB cells (size + 1) players k n && ((if q3 = true then rowB cc cells n else regB cc q2) && (m == 0 || q4))))) = (!D && E) := by
    rw [hD, hE]
    cases regB a q0 <;> cases regB b q1 <;> cases holdsB cells (size + 1) players k n <;> cases (if q3 = true then rowB cc cells n else regB cc q2) <;> cases (m == 0 || q4) <;> rfl
  rw [hV]
  have HD := Lib.hid hD
  have HE := Lib.hid hE
  have e6 := IntWalk.i64_in n (by omega)
  have e7 := IntWalk.i64_in (cc : Int) (by omega)
  clear hV hD hE hfb hq0 hq1 hq2 hq3 hq4 hk hsw hsu u0 u1 u2 u3 u4 v1 v2 v4 v5
  have hb := below_alloc1 w (.cells #[.int .u8 (op : Int), .int .u8 (a : Int), .int .u8 (b : Int), .int .u8 (cc : Int), .int .i32 n, .int .u32 (m : Int)] 55)
  have kA := heap_alloc_new w (.cells #[.int .u8 (op : Int), .int .u8 (a : Int), .int .u8 (b : Int), .int .u8 (cc : Int), .int .i32 n, .int .u32 (m : Int)] 55)
  go_enter Tryd.func31, Tryd.ntmps31
  go_wp2_with fail
  refine (hP _).mono ?_
  rintro e wz ⟨rfl, h9⟩
  replace kA := (h9.block _ (Array.getElem?_eq_some_iff.1 kA).1).trans kA
  replace hb := hb.trans (h9.mono hb.size)
  clear h9 hP
  have a1 := (cell_of_row _ _ 1 _ _ _ kA).trans (show _ = some _ from rfl)
  have a2 := (cell_of_row _ _ 2 _ _ _ kA).trans (show _ = some _ from rfl)
  have a3 := (cell_of_row _ _ 3 _ _ _ kA).trans (show _ = some _ from rfl)
  have a4 := (cell_of_row _ _ 4 _ _ _ kA).trans (show _ = some _ from rfl)
  have a5 := (cell_of_row _ _ 5 _ _ _ kA).trans (show _ = some _ from rfl)
  clear kA
  go_upto_region 4 with fail
  go_cut [57] (fun s57 wx => wx = wz ∧ s57 = .bool D)
  case first =>
    clear hC hR hN1 hN2 hN3 hN4 hN5 e6 e7 a3 a4 v3 hrw HE
    by_cases za : a ≤ 0
    · have ea : decide ((a : Int) > 0) = false := by simp; omega
      have ea2 : decide (0 < a) = false := by simp; omega
      by_cases zb : b ≤ 0
      · have eb : decide ((b : Int) > 0) = false := by simp; omega
        have eb2 : decide (0 < b) = false := by simp; omega
        by_cases zm : m ≤ 0
        · have em : decide ((m : Int) > 0) = false := by simp; omega
          have em2 : decide (0 < m) = false := by simp; omega
          go_wp2_with fail
          go_meet
          exact ⟨rfl, congrArg Value.bool (by rw [HD.out]; simp [regB]; try omega)⟩
        · have em : decide ((m : Int) > 0) = true := by simp; omega
          have em2 : decide (0 < m) = true := by simp; omega
          cases q4 with
          | false =>
            go_wp2_with fail
            refine (hK _).mono ?_
            rintro e wy ⟨rfl, hw⟩
            replace hw := hw.symm
            subst hw
            go_wp2_with fail
            go_meet
            exact ⟨rfl, congrArg Value.bool (by rw [HD.out]; simp [regB]; try omega)⟩
          | true =>
            go_wp2_with fail
            refine (hK _).mono ?_
            rintro e wy ⟨rfl, hw⟩
            replace hw := hw.symm
            subst hw
            go_wp2_with fail
            go_meet
            exact ⟨rfl, congrArg Value.bool (by rw [HD.out]; simp [regB]; try omega)⟩
      · have eb : decide ((b : Int) > 0) = true := by simp; omega
        have eb2 : decide (0 < b) = true := by simp; omega
        cases q1 with
        | false =>
          go_wp2_with fail
          refine (hB _).mono ?_
          rintro e wy ⟨rfl, hw⟩
          replace hw := hw.symm
          subst hw
          go_wp2_with fail
          go_meet
          exact ⟨rfl, congrArg Value.bool (by rw [HD.out]; simp [regB]; try omega)⟩
        | true =>
          by_cases yb : b ≤ 7
          · have fb : decide ((b : Int) > 7) = false := by simp; omega
            go_wp2_with fail
            refine (hB _).mono ?_
            rintro e wy ⟨rfl, hw⟩
            replace hw := hw.symm
            subst hw
            by_cases zm : m ≤ 0
            · have em : decide ((m : Int) > 0) = false := by simp; omega
              have em2 : decide (0 < m) = false := by simp; omega
              go_wp2_with fail
              go_meet
              exact ⟨rfl, congrArg Value.bool (by rw [HD.out]; simp [regB]; try omega)⟩
            · have em : decide ((m : Int) > 0) = true := by simp; omega
              have em2 : decide (0 < m) = true := by simp; omega
              cases q4 with
              | false =>
                go_wp2_with fail
                refine (hK _).mono ?_
                rintro e wy ⟨rfl, hw⟩
                replace hw := hw.symm
                subst hw
                go_wp2_with fail
                go_meet
                exact ⟨rfl, congrArg Value.bool (by rw [HD.out]; simp [regB]; try omega)⟩
              | true =>
                go_wp2_with fail
                refine (hK _).mono ?_
                rintro e wy ⟨rfl, hw⟩
                replace hw := hw.symm
                subst hw
                go_wp2_with fail
                go_meet
                exact ⟨rfl, congrArg Value.bool (by rw [HD.out]; simp [regB]; try omega)⟩
          · have fb : decide ((b : Int) > 7) = true := by simp; omega
            go_wp2_with fail
            refine (hB _).mono ?_
            rintro e wy ⟨rfl, hw⟩
            replace hw := hw.symm
            subst hw
            go_wp2_with fail
            go_meet
            exact ⟨rfl, congrArg Value.bool (by rw [HD.out]; simp [regB]; try omega)⟩
    · have ea : decide ((a : Int) > 0) = true := by simp; omega
      have ea2 : decide (0 < a) = true := by simp; omega
      cases q0 with
      | false =>
        go_wp2_with fail
        refine (hA _).mono ?_
        rintro e wy ⟨rfl, hw⟩
        replace hw := hw.symm
        subst hw
        go_wp2_with fail
        go_meet
        exact ⟨rfl, congrArg Value.bool (by rw [HD.out]; simp [regB]; try omega)⟩
      | true =>
        by_cases ya : a ≤ 7
        · have fa : decide ((a : Int) > 7) = false := by simp; omega
          go_wp2_with fail
          refine (hA _).mono ?_
          rintro e wy ⟨rfl, hw⟩
          replace hw := hw.symm
          subst hw
          by_cases zb : b ≤ 0
          · have eb : decide ((b : Int) > 0) = false := by simp; omega
            have eb2 : decide (0 < b) = false := by simp; omega
            by_cases zm : m ≤ 0
            · have em : decide ((m : Int) > 0) = false := by simp; omega
              have em2 : decide (0 < m) = false := by simp; omega
              go_wp2_with fail
              go_meet
              exact ⟨rfl, congrArg Value.bool (by rw [HD.out]; simp [regB]; try omega)⟩
            · have em : decide ((m : Int) > 0) = true := by simp; omega
              have em2 : decide (0 < m) = true := by simp; omega
              cases q4 with
              | false =>
                go_wp2_with fail
                refine (hK _).mono ?_
                rintro e wy ⟨rfl, hw⟩
                replace hw := hw.symm
                subst hw
                go_wp2_with fail
                go_meet
                exact ⟨rfl, congrArg Value.bool (by rw [HD.out]; simp [regB]; try omega)⟩
              | true =>
                go_wp2_with fail
                refine (hK _).mono ?_
                rintro e wy ⟨rfl, hw⟩
                replace hw := hw.symm
                subst hw
                go_wp2_with fail
                go_meet
                exact ⟨rfl, congrArg Value.bool (by rw [HD.out]; simp [regB]; try omega)⟩
          · have eb : decide ((b : Int) > 0) = true := by simp; omega
            have eb2 : decide (0 < b) = true := by simp; omega
            cases q1 with
            | false =>
              go_wp2_with fail
              refine (hB _).mono ?_
              rintro e wy ⟨rfl, hw⟩
              replace hw := hw.symm
              subst hw
              go_wp2_with fail
              go_meet
              exact ⟨rfl, congrArg Value.bool (by rw [HD.out]; simp [regB]; try omega)⟩
            | true =>
              by_cases yb : b ≤ 7
              · have fb : decide ((b : Int) > 7) = false := by simp; omega
                go_wp2_with fail
                refine (hB _).mono ?_
                rintro e wy ⟨rfl, hw⟩
                replace hw := hw.symm
                subst hw
                by_cases zm : m ≤ 0
                · have em : decide ((m : Int) > 0) = false := by simp; omega
                  have em2 : decide (0 < m) = false := by simp; omega
                  go_wp2_with fail
                  go_meet
                  exact ⟨rfl, congrArg Value.bool (by rw [HD.out]; simp [regB]; try omega)⟩
                · have em : decide ((m : Int) > 0) = true := by simp; omega
                  have em2 : decide (0 < m) = true := by simp; omega
                  cases q4 with
                  | false =>
                    go_wp2_with fail
                    refine (hK _).mono ?_
                    rintro e wy ⟨rfl, hw⟩
                    replace hw := hw.symm
                    subst hw
                    go_wp2_with fail
                    go_meet
                    exact ⟨rfl, congrArg Value.bool (by rw [HD.out]; simp [regB]; try omega)⟩
                  | true =>
                    go_wp2_with fail
                    refine (hK _).mono ?_
                    rintro e wy ⟨rfl, hw⟩
                    replace hw := hw.symm
                    subst hw
                    go_wp2_with fail
                    go_meet
                    exact ⟨rfl, congrArg Value.bool (by rw [HD.out]; simp [regB]; try omega)⟩
              · have fb : decide ((b : Int) > 7) = true := by simp; omega
                go_wp2_with fail
                refine (hB _).mono ?_
                rintro e wy ⟨rfl, hw⟩
                replace hw := hw.symm
                subst hw
                go_wp2_with fail
                go_meet
                exact ⟨rfl, congrArg Value.bool (by rw [HD.out]; simp [regB]; try omega)⟩
        · have fa : decide ((a : Int) > 7) = true := by simp; omega
          go_wp2_with fail
          refine (hA _).mono ?_
          rintro e wy ⟨rfl, hw⟩
          replace hw := hw.symm
          subst hw
          go_wp2_with fail
          go_meet
          exact ⟨rfl, congrArg Value.bool (by rw [HD.out]; simp [regB]; try omega)⟩
  case rest =>
    obtain ⟨rfl, rfl⟩ := hcut
    clear hA hB hK HD a1 a2 a5
    cases D with
    | true =>
      go_wp2_with fail
      go_ret
      exact ⟨rfl, hb⟩
    | false =>
      cases q3 with
      | true =>
        obtain rfl : k = 3 := hrw (by trivial)
        clear v3 hrw
        go_wp2_with fail
        refine (hR _).mono ?_
        rintro e wy ⟨rfl, hw⟩
        replace hw := hw.symm
        subst hw
        by_cases z1 : 0 < cc
        · have ez1 : decide ((cc : Int) > 0) = true := by simp; omega
          have ez12 : decide (0 < cc) = true := by simp; omega
          by_cases z2 : cc < 49
          · have ez2 : decide ((cc : Int) < 49) = true := by simp; omega
            by_cases z3 : 0 ≤ n
            · have ez3 : decide (n ≥ 0) = true := by simp; omega
              by_cases z4 : n < cells
              · have ez4 : decide (n < cells) = true := by simp; omega
                have ew := IntWalk.i64_in (n + (cc : Int)) (by omega)
                obtain ⟨d, hd⟩ : ∃ d, d = decide (n + (cc : Int) ≤ cells) := ⟨_, rfl⟩
                have ed := hd.symm
                have HDd := Lib.hid hd
                clear hd
                go_wp2_with fail
                go_ret
                refine ⟨?_, hb⟩
                rw [HE.out]
                simp only [HDd.out]
                simp [holdsB, rowB, belowB]
                rw [decide_eq_true z3, decide_eq_true z4, decide_eq_true (show 1 ≤ cc by omega), decide_eq_true (show cc ≤ 48 by omega)]
                simp only [Bool.true_and]
                rw [Bool.eq_iff_iff, decide_eq_true_iff, decide_eq_true_iff]
                omega
              · have ez4 : decide (n < cells) = false := by simp; omega
                go_wp2_with fail
                go_ret
                exact ⟨by rw [HE.out]; simp [holdsB, rowB, belowB]; try omega, hb⟩
            · have ez3 : decide (n ≥ 0) = false := by simp; omega
              go_wp2_with fail
              go_ret
              exact ⟨by rw [HE.out]; simp [holdsB, rowB, belowB]; try omega, hb⟩
          · have ez2 : decide ((cc : Int) < 49) = false := by simp; omega
            go_wp2_with fail
            go_ret
            exact ⟨by rw [HE.out]; simp [holdsB, rowB, belowB]; try omega, hb⟩
        · have ez1 : decide ((cc : Int) > 0) = false := by simp; omega
          have ez12 : decide (0 < cc) = false := by simp; omega
          go_wp2_with fail
          go_ret
          exact ⟨by rw [HE.out]; simp [holdsB, rowB, belowB]; try omega, hb⟩
      | false =>
        have v3 := v3.resolve_left (by simp)
        rw [v3] at hN3
        clear v3 hrw
        go_wp2_with fail
        refine (hR _).mono ?_
        rintro e wy ⟨rfl, hw⟩
        replace hw := hw.symm
        subst hw
        by_cases zc : cc ≤ 0
        · have ec : decide ((cc : Int) > 0) = false := by simp; omega
          have ec2 : decide (0 < cc) = false := by simp; omega
          skip
          by_cases k1 : k = 1
          · subst k1
            go_wp2_with fail
            refine (hN1 _).mono ?_
            rintro e wy ⟨rfl, hw⟩
            replace hw := hw.symm
            subst hw
            go_wp2_with fail
            go_ret
            exact ⟨by rw [HE.out]; simp [holdsB, regB]; try omega, hb⟩
          have g1 : decide (k = 1) = false := decide_eq_false k1
          rw [g1] at hN1
          by_cases k3 : k = 3
          · subst k3
            go_wp2_with fail
            refine (hN1 _).mono ?_
            rintro e wy ⟨rfl, hw⟩
            replace hw := hw.symm
            subst hw
            go_wp2_with fail
            refine (hN3 _).mono ?_
            rintro e wy ⟨rfl, hw⟩
            replace hw := hw.symm
            subst hw
            by_cases z3 : 0 ≤ n
            · have ez3 : decide (n ≥ 0) = true := by simp; omega
              by_cases z4 : n < cells
              · have ez4 : decide (n < cells) = true := by simp; omega
                go_wp2_with fail
                go_ret
                exact ⟨by rw [HE.out]; simp [holdsB, belowB, regB]; try omega, hb⟩
              · have ez4 : decide (n < cells) = false := by simp; omega
                go_wp2_with fail
                go_ret
                exact ⟨by rw [HE.out]; simp [holdsB, belowB, regB]; try omega, hb⟩
            · have ez3 : decide (n ≥ 0) = false := by simp; omega
              go_wp2_with fail
              go_ret
              exact ⟨by rw [HE.out]; simp [holdsB, belowB, regB]; try omega, hb⟩
          have g3 : decide (k = 3) = false := decide_eq_false k3
          rw [g3] at hN3
          by_cases k4 : k = 4
          · subst k4
            go_wp2_with fail
            refine (hN1 _).mono ?_
            rintro e wy ⟨rfl, hw⟩
            replace hw := hw.symm
            subst hw
            go_wp2_with fail
            refine (hN3 _).mono ?_
            rintro e wy ⟨rfl, hw⟩
            replace hw := hw.symm
            subst hw
            go_wp2_with fail
            refine (hN4 _).mono ?_
            rintro e wy ⟨rfl, hw⟩
            replace hw := hw.symm
            subst hw
            by_cases z3 : 0 ≤ n
            · have ez3 : decide (n ≥ 0) = true := by simp; omega
              by_cases z4 : n ≤ size
              · have ez4 : decide (n ≤ size) = true := by simp; omega
                go_wp2_with fail
                go_ret
                exact ⟨by rw [HE.out]; simp [holdsB, belowB, regB]; try omega, hb⟩
              · have ez4 : decide (n ≤ size) = false := by simp; omega
                go_wp2_with fail
                go_ret
                exact ⟨by rw [HE.out]; simp [holdsB, belowB, regB]; try omega, hb⟩
            · have ez3 : decide (n ≥ 0) = false := by simp; omega
              go_wp2_with fail
              go_ret
              exact ⟨by rw [HE.out]; simp [holdsB, belowB, regB]; try omega, hb⟩
          have g4 : decide (k = 4) = false := decide_eq_false k4
          rw [g4] at hN4
          by_cases k5 : k = 5
          · subst k5
            go_wp2_with fail
            refine (hN1 _).mono ?_
            rintro e wy ⟨rfl, hw⟩
            replace hw := hw.symm
            subst hw
            go_wp2_with fail
            refine (hN3 _).mono ?_
            rintro e wy ⟨rfl, hw⟩
            replace hw := hw.symm
            subst hw
            go_wp2_with fail
            refine (hN4 _).mono ?_
            rintro e wy ⟨rfl, hw⟩
            replace hw := hw.symm
            subst hw
            go_wp2_with fail
            refine (hN5 _).mono ?_
            rintro e wy ⟨rfl, hw⟩
            replace hw := hw.symm
            subst hw
            by_cases z3 : 0 ≤ n
            · have ez3 : decide (n ≥ 0) = true := by simp; omega
              by_cases z4 : n < players
              · have ez4 : decide (n < players) = true := by simp; omega
                go_wp2_with fail
                go_ret
                exact ⟨by rw [HE.out]; simp [holdsB, belowB, regB]; try omega, hb⟩
              · have ez4 : decide (n < players) = false := by simp; omega
                go_wp2_with fail
                go_ret
                exact ⟨by rw [HE.out]; simp [holdsB, belowB, regB]; try omega, hb⟩
            · have ez3 : decide (n ≥ 0) = false := by simp; omega
              go_wp2_with fail
              go_ret
              exact ⟨by rw [HE.out]; simp [holdsB, belowB, regB]; try omega, hb⟩
          have g5 : decide (k = 5) = false := decide_eq_false k5
          rw [g5] at hN5
          by_cases k2 : k = 2
          · subst k2
            go_wp2_with fail
            refine (hN1 _).mono ?_
            rintro e wy ⟨rfl, hw⟩
            replace hw := hw.symm
            subst hw
            go_wp2_with fail
            refine (hN3 _).mono ?_
            rintro e wy ⟨rfl, hw⟩
            replace hw := hw.symm
            subst hw
            go_wp2_with fail
            refine (hN4 _).mono ?_
            rintro e wy ⟨rfl, hw⟩
            replace hw := hw.symm
            subst hw
            go_wp2_with fail
            refine (hN5 _).mono ?_
            rintro e wy ⟨rfl, hw⟩
            replace hw := hw.symm
            subst hw
            go_wp2_with fail
            refine (hN2 _).mono ?_
            rintro e wy ⟨rfl, hw⟩
            replace hw := hw.symm
            subst hw
            by_cases z3 : 0 < n
            · have ez3 : decide (n > 0) = true := by simp; omega
              go_wp2_with fail
              go_ret
              exact ⟨by rw [HE.out]; simp [holdsB, regB]; try omega, hb⟩
            · have ez3 : decide (n > 0) = false := by simp; omega
              go_wp2_with fail
              go_ret
              exact ⟨by rw [HE.out]; simp [holdsB, regB]; try omega, hb⟩
          have g2 : decide (k = 2) = false := decide_eq_false k2
          rw [g2] at hN2
          go_wp2_with fail
          refine (hN1 _).mono ?_
          rintro e wy ⟨rfl, hw⟩
          replace hw := hw.symm
          subst hw
          go_wp2_with fail
          refine (hN3 _).mono ?_
          rintro e wy ⟨rfl, hw⟩
          replace hw := hw.symm
          subst hw
          go_wp2_with fail
          refine (hN4 _).mono ?_
          rintro e wy ⟨rfl, hw⟩
          replace hw := hw.symm
          subst hw
          go_wp2_with fail
          refine (hN5 _).mono ?_
          rintro e wy ⟨rfl, hw⟩
          replace hw := hw.symm
          subst hw
          go_wp2_with fail
          refine (hN2 _).mono ?_
          rintro e wy ⟨rfl, hw⟩
          replace hw := hw.symm
          subst hw
          obtain ⟨d, hd⟩ : ∃ d, d = (n == 0) := ⟨_, rfl⟩
          have ed := hd.symm
          have HDd := Lib.hid hd
          clear hd
          go_wp2_with fail
          go_ret
          refine ⟨?_, hb⟩
          rw [HE.out, HDd.out]
          simp [holdsB, regB, k1, k2, k3, k4, k5]
          try omega
        · have ec : decide ((cc : Int) > 0) = true := by simp; omega
          have ec2 : decide (0 < cc) = true := by simp; omega
          cases q2 with
          | false =>
            go_wp2_with fail
            refine (hC _).mono ?_
            rintro e wy ⟨rfl, hw⟩
            replace hw := hw.symm
            subst hw
            go_wp2_with fail
            go_ret
            exact ⟨by rw [HE.out]; simp [holdsB, belowB, regB]; try omega, hb⟩
          | true =>
            by_cases yc : cc ≤ 7
            · have fc : decide ((cc : Int) > 7) = false := by simp; omega
              go_wp2_with fail
              refine (hC _).mono ?_
              rintro e wy ⟨rfl, hw⟩
              replace hw := hw.symm
              subst hw
              by_cases k1 : k = 1
              · subst k1
                go_wp2_with fail
                refine (hN1 _).mono ?_
                rintro e wy ⟨rfl, hw⟩
                replace hw := hw.symm
                subst hw
                go_wp2_with fail
                go_ret
                exact ⟨by rw [HE.out]; simp [holdsB, regB]; try omega, hb⟩
              have g1 : decide (k = 1) = false := decide_eq_false k1
              rw [g1] at hN1
              by_cases k3 : k = 3
              · subst k3
                go_wp2_with fail
                refine (hN1 _).mono ?_
                rintro e wy ⟨rfl, hw⟩
                replace hw := hw.symm
                subst hw
                go_wp2_with fail
                refine (hN3 _).mono ?_
                rintro e wy ⟨rfl, hw⟩
                replace hw := hw.symm
                subst hw
                by_cases z3 : 0 ≤ n
                · have ez3 : decide (n ≥ 0) = true := by simp; omega
                  by_cases z4 : n < cells
                  · have ez4 : decide (n < cells) = true := by simp; omega
                    go_wp2_with fail
                    go_ret
                    exact ⟨by rw [HE.out]; simp [holdsB, belowB, regB]; try omega, hb⟩
                  · have ez4 : decide (n < cells) = false := by simp; omega
                    go_wp2_with fail
                    go_ret
                    exact ⟨by rw [HE.out]; simp [holdsB, belowB, regB]; try omega, hb⟩
                · have ez3 : decide (n ≥ 0) = false := by simp; omega
                  go_wp2_with fail
                  go_ret
                  exact ⟨by rw [HE.out]; simp [holdsB, belowB, regB]; try omega, hb⟩
              have g3 : decide (k = 3) = false := decide_eq_false k3
              rw [g3] at hN3
              by_cases k4 : k = 4
              · subst k4
                go_wp2_with fail
                refine (hN1 _).mono ?_
                rintro e wy ⟨rfl, hw⟩
                replace hw := hw.symm
                subst hw
                go_wp2_with fail
                refine (hN3 _).mono ?_
                rintro e wy ⟨rfl, hw⟩
                replace hw := hw.symm
                subst hw
                go_wp2_with fail
                refine (hN4 _).mono ?_
                rintro e wy ⟨rfl, hw⟩
                replace hw := hw.symm
                subst hw
                by_cases z3 : 0 ≤ n
                · have ez3 : decide (n ≥ 0) = true := by simp; omega
                  by_cases z4 : n ≤ size
                  · have ez4 : decide (n ≤ size) = true := by simp; omega
                    go_wp2_with fail
                    go_ret
                    exact ⟨by rw [HE.out]; simp [holdsB, belowB, regB]; try omega, hb⟩
                  · have ez4 : decide (n ≤ size) = false := by simp; omega
                    go_wp2_with fail
                    go_ret
                    exact ⟨by rw [HE.out]; simp [holdsB, belowB, regB]; try omega, hb⟩
                · have ez3 : decide (n ≥ 0) = false := by simp; omega
                  go_wp2_with fail
                  go_ret
                  exact ⟨by rw [HE.out]; simp [holdsB, belowB, regB]; try omega, hb⟩
              have g4 : decide (k = 4) = false := decide_eq_false k4
              rw [g4] at hN4
              by_cases k5 : k = 5
              · subst k5
                go_wp2_with fail
                refine (hN1 _).mono ?_
                rintro e wy ⟨rfl, hw⟩
                replace hw := hw.symm
                subst hw
                go_wp2_with fail
                refine (hN3 _).mono ?_
                rintro e wy ⟨rfl, hw⟩
                replace hw := hw.symm
                subst hw
                go_wp2_with fail
                refine (hN4 _).mono ?_
                rintro e wy ⟨rfl, hw⟩
                replace hw := hw.symm
                subst hw
                go_wp2_with fail
                refine (hN5 _).mono ?_
                rintro e wy ⟨rfl, hw⟩
                replace hw := hw.symm
                subst hw
                by_cases z3 : 0 ≤ n
                · have ez3 : decide (n ≥ 0) = true := by simp; omega
                  by_cases z4 : n < players
                  · have ez4 : decide (n < players) = true := by simp; omega
                    go_wp2_with fail
                    go_ret
                    exact ⟨by rw [HE.out]; simp [holdsB, belowB, regB]; try omega, hb⟩
                  · have ez4 : decide (n < players) = false := by simp; omega
                    go_wp2_with fail
                    go_ret
                    exact ⟨by rw [HE.out]; simp [holdsB, belowB, regB]; try omega, hb⟩
                · have ez3 : decide (n ≥ 0) = false := by simp; omega
                  go_wp2_with fail
                  go_ret
                  exact ⟨by rw [HE.out]; simp [holdsB, belowB, regB]; try omega, hb⟩
              have g5 : decide (k = 5) = false := decide_eq_false k5
              rw [g5] at hN5
              by_cases k2 : k = 2
              · subst k2
                go_wp2_with fail
                refine (hN1 _).mono ?_
                rintro e wy ⟨rfl, hw⟩
                replace hw := hw.symm
                subst hw
                go_wp2_with fail
                refine (hN3 _).mono ?_
                rintro e wy ⟨rfl, hw⟩
                replace hw := hw.symm
                subst hw
                go_wp2_with fail
                refine (hN4 _).mono ?_
                rintro e wy ⟨rfl, hw⟩
                replace hw := hw.symm
                subst hw
                go_wp2_with fail
                refine (hN5 _).mono ?_
                rintro e wy ⟨rfl, hw⟩
                replace hw := hw.symm
                subst hw
                go_wp2_with fail
                refine (hN2 _).mono ?_
                rintro e wy ⟨rfl, hw⟩
                replace hw := hw.symm
                subst hw
                by_cases z3 : 0 < n
                · have ez3 : decide (n > 0) = true := by simp; omega
                  go_wp2_with fail
                  go_ret
                  exact ⟨by rw [HE.out]; simp [holdsB, regB]; try omega, hb⟩
                · have ez3 : decide (n > 0) = false := by simp; omega
                  go_wp2_with fail
                  go_ret
                  exact ⟨by rw [HE.out]; simp [holdsB, regB]; try omega, hb⟩
              have g2 : decide (k = 2) = false := decide_eq_false k2
              rw [g2] at hN2
              go_wp2_with fail
              refine (hN1 _).mono ?_
              rintro e wy ⟨rfl, hw⟩
              replace hw := hw.symm
              subst hw
              go_wp2_with fail
              refine (hN3 _).mono ?_
              rintro e wy ⟨rfl, hw⟩
              replace hw := hw.symm
              subst hw
              go_wp2_with fail
              refine (hN4 _).mono ?_
              rintro e wy ⟨rfl, hw⟩
              replace hw := hw.symm
              subst hw
              go_wp2_with fail
              refine (hN5 _).mono ?_
              rintro e wy ⟨rfl, hw⟩
              replace hw := hw.symm
              subst hw
              go_wp2_with fail
              refine (hN2 _).mono ?_
              rintro e wy ⟨rfl, hw⟩
              replace hw := hw.symm
              subst hw
              obtain ⟨d, hd⟩ : ∃ d, d = (n == 0) := ⟨_, rfl⟩
              have ed := hd.symm
              have HDd := Lib.hid hd
              clear hd
              go_wp2_with fail
              go_ret
              refine ⟨?_, hb⟩
              rw [HE.out, HDd.out]
              simp [holdsB, regB, k1, k2, k3, k4, k5]
              try omega
            · have fc : decide ((cc : Int) > 7) = true := by simp; omega
              go_wp2_with fail
              refine (hC _).mono ?_
              rintro e wy ⟨rfl, hw⟩
              replace hw := hw.symm
              subst hw
              go_wp2_with fail
              go_ret
              exact ⟨by rw [HE.out]; simp [holdsB, belowB, regB]; try omega, hb⟩
end Go.Proofs.YtfckgfoimpileaaDoor
/- Gates: each lets an arm of a walk be tried at one operation alone (by 'with_reducible refine'); it says nothing by itself. No condition. -/
namespace Go.Proofs.YtfckgfoimpileaaDoor
open Go.RowKit

section
variable {P : Program} {ops : Array Oper} {rest : List Oper} {a : Act} {w : World} {Q : Exit → Act → World → Prop} {d : Option Tmp} {ty : TypeId} {pos : String} {af : Array Edge} {g : Option (Nat × Bool)}
theorem at_ld (T : TypeId) (s : Tmp) (h : wpList P ops Q (Oper.mk d (.load T (.tmp s)) ty pos af g :: rest) a w) : wpList P ops Q (Oper.mk d (.load T (.tmp s)) ty pos af g :: rest) a w := h
theorem at_st (T : TypeId) (x y : Tmp) (h : wpList P ops Q (Oper.mk d (.store T (.tmp x) (.tmp y)) ty pos af g :: rest) a w) : wpList P ops Q (Oper.mk d (.store T (.tmp x) (.tmp y)) ty pos af g :: rest) a w := h
theorem at_al (T : TypeId) (k : Tmp) (h : wpList P ops Q (Oper.mk (some k) (.alloc T) ty pos af g :: rest) a w) : wpList P ops Q (Oper.mk (some k) (.alloc T) ty pos af g :: rest) a w := h
theorem at_bd (T : TypeId) (k : Tmp) (ps : Array (Nat × Operand)) (h : wpList P ops Q (Oper.mk (some k) (.build T ps) ty pos af g :: rest) a w) : wpList P ops Q (Oper.mk (some k) (.build T ps) ty pos af g :: rest) a w := h
theorem at_ca (k : Tmp) (c : Call) (h : wpList P ops Q (Oper.mk (some k) (.call c) ty pos af g :: rest) a w) : wpList P ops Q (Oper.mk (some k) (.call c) ty pos af g :: rest) a w := h
theorem at_bi (k : Tmp) (b : BinOp) (T U : TypeId) (x y : Operand) (h : wpList P ops Q (Oper.mk (some k) (.binOp b T x y U) ty pos af g :: rest) a w) : wpList P ops Q (Oper.mk (some k) (.binOp b T x y U) ty pos af g :: rest) a w := h
end
end Go.Proofs.YtfckgfoimpileaaDoor
/- Rows of instructions of the call's own; the law's few and own; the document's Check; Reals. Conditions: those said. -/
namespace Go.Proofs.YtfckgfoimpileaaDoor
open Go.RowKit

abbrev RowK (e : TypeId) (w : World) (B : Nat) (v : Value) (L : List Cd) : Prop := w.ownsRow B e 6 v L.length (kv L)
theorem owns_modK {w w' : World} {B n sz : Nat} {e : TypeId} {v : Value} {xs : List Value} (h : w.ownsRow B e sz v n xs) {S : Nat → Prop} (hm : Mod S w w') (hs : ∀ k, v.ownBlock = some k → ¬ S k) : w'.ownsRow B e sz v n xs := by
  refine ⟨h.1, ?_⟩
  rcases h.2 with h2 | ⟨g, cap, cur, rfl, hg, hh, r⟩
  · exact .inl h2
  · exact .inr ⟨g, cap, cur, rfl, hg, by rw [hm.block g (Array.getElem?_eq_some_iff.1 hh).1 (hs g rfl)]; exact hh, r⟩
namespace RowK
variable {e : TypeId} {w w' : World} {B : Nat} {v : Value} {L : List Cd}
theorem nil_ (e : TypeId) (w : World) (B : Nat) : RowK e w B (.slice none 0 0) [] := World.ownsRow_nil _ _ _ _
theorem ext (h : RowK e w B v L) (hm : Below w.heap.size w w') : RowK e w' B v L :=
  owns_modK h (Mod.of_below hm) fun k hk => by have := (World.ownsRow.lt h k hk).2; omega
theorem sl (h : RowK e w B v L) : ∃ A c b, v = .slice A L.length c ∧ L.length ≤ c ∧ c ≤ maxLen ∧ (A = none → L.length = 0) ∧ B ≤ b ∧ Sl w b A (kv L) ∧ (∀ k, v.ownBlock = some k → k = b) := by
  rcases h.2 with ⟨rfl, hn⟩ | ⟨g, cap, cur, rfl, hb, _, hnc, hcm, _⟩
  · have hl : L = [] := List.eq_nil_of_length_eq_zero hn
    subst hl
    exact ⟨none, 0, B, rfl, Nat.le_refl _, by simp [maxLen], fun _ => rfl, Nat.le_refl _, Sl.nil_ _ _ _, by simp [Value.ownBlock]⟩
  · refine ⟨_, cap, g, rfl, hnc, hcm, by simp, hb, fun _ => ⟨0, rfl, fun j u hu => ?_⟩, by simp [Value.ownBlock]⟩
    have := h.cells (g := g) rfl j u hu
    simpa [Addr.add_lit] using this
end RowK
theorem kv_one (l : List Cd) : ∀ u ∈ kv l, u.oneCell' = true := by
  intro u hu
  obtain ⟨c, _, hu⟩ := List.mem_flatMap.1 hu
  simp only [cdA, List.mem_cons, List.not_mem_nil, or_false] at hu
  rcases hu with rfl | rfl | rfl | rfl | rfl | rfl <;> rfl
theorem kv_take : ∀ (l : List Cd) (k : Nat), (kv l).take (k * 6) = kv (l.take k) := by
  intro l
  induction l with
  | nil => intro k; simp
  | cons c l ih =>
    intro k
    cases k with
    | zero => simp
    | succ k =>
      rw [kv_cons, show (k + 1) * 6 = (cdA c).toList.length + k * 6 by rw [cdA_len]; omega, List.take_length_add_append, ih, List.take_succ_cons, kv_cons]
theorem codeB_info : (Tryd.prog.info? 33).map (fun i => (i.zero, i.size, i.bytes)) = some (some (.agg #[.int .u8 0, .int .u8 0, .int .u8 0, .int .u8 0, .int .i32 0, .int .u32 0]), 6, 12) := by kernel_rfl
theorem codeR_info : (Tryd.prog.info? 55).map (fun i => (i.zero, i.size, i.bytes)) = some (some (.agg #[.int .u8 0, .int .u8 0, .int .u8 0, .int .u8 0, .int .i32 0, .int .u32 0]), 6, 12) := by kernel_rfl
section
variable (w : World)
theorem wpList_appK {t e : TypeId} (ht : Tryd.prog.underlying t = some (.slice e)) (hinf : (Tryd.prog.info? e).map (fun i => (i.zero, i.size, i.bytes)) = some (some (.agg #[.int .u8 0, .int .u8 0, .int .u8 0, .int .u8 0, .int .i32 0, .int .u32 0]), 6, 12)) {ops : Array Oper} {rest : List Oper} {o : Oper} {a : Act} {Q : Exit → Act → World → Prop} (hgd : o.guard = none) (s x : Operand)
    (ho : o.op = .call { callee := .builtin .append, args := #[s, x], argTypes := #[t, t] })
    (B : Nat) (v : Value) (L : List Cd) (hs : a.eval s = v) (hown : RowK e w B v L)
    (b : Nat) (A : Option Addr) (m c : Nat) (M : List Cd) (hx : a.eval x = .slice A m c) (hr : Sl w b A (kv M)) (hm : M.length = m)
    (hlen : L.length + m ≤ 1000000000000) (hbase : B ≤ w.heap.size)
    (h : ∀ v' w', RowK e w' B v' (L ++ M) → Mod (fun i => v.ownBlock = some i) w w' → (v'.ownBlock = v.ownBlock ∨ v'.ownBlock = some w.heap.size) → wpList Tryd.prog ops Q rest (a.put o.dst v') w') : wpList Tryd.prog ops Q (o :: rest) a w := by
  obtain ⟨i0, hi0, hz0, hz1, hz2⟩ := info_parts hinf
  refine wpList_append_sl (P := Tryd.prog) w hgd s x _ ho B e i0 _ 6 12 ht hi0 hz0 hz1 hz2 rfl (by omega) v L.length (kv L) hs hown b A m c (kv M) hx hr (by simp [hm]) (fun hA => by have := Sl.none_len hr rfl hA; simp at this; omega) (kv_one _)
    (by simp only [maxLen]; omega) (by omega) hbase ?_
  intro v' w' h1 h2 h3
  exact h v' w' (by unfold RowK; rw [List.length_append, hm, kv_append]; exact h1) (Mod.of_grown h2) h3
end
theorem below_ownK {w w' : World} {v : Value} {B : Nat} (h : Mod (fun i => v.ownBlock = some i) w w') (hB : B ≤ w.heap.size) (hv : ∀ k, v.ownBlock = some k → B ≤ k) : Below B w w' :=
  h.below hB fun i hi hk => by have := hv i hk; omega
theorem take_nextK {l : List Cd} {k : Nat} (h : k < l.length) : l.take (k + 1) = l.take k ++ [l[k]] := by rw [List.take_add_one, List.getElem?_eq_getElem h]; rfl
set_option maxHeartbeats 4000000 in
set_option maxRecDepth 20000 in
theorem Few_calls (A : Option Addr) (L : List Cd) (n c b : Nat) (w : World) (hs : Sl w b A (kv L)) (hn : L.length = n) (hnc : n ≤ c) :
    Calls Tryd.prog 11 #[.slice A n c] w fun e w' => ∃ v, e = .returned v ∧ RowK 33 w' w.heap.size v (L.take 110) ∧ Below w.heap.size w w' := by
  obtain ⟨K, hK⟩ : ∃ K, K = min n 110 := ⟨_, rfl⟩
  have hmin : (if (110 : Int) < (n : Int) then (110 : Int) else (n : Int)) = (K : Int) := by split <;> omega
  have hmin2 : min (n : Int) 110 = (K : Int) := by omega
  have hKc : (K : Int) ≤ (c : Int) := by omega
  have hlt : L.take 110 = L.take K := by
    rw [hK, ← hn, ← List.take_take]
    exact (List.take_of_length_le (by rw [List.length_take]; omega)).symm
  have hpl : (L.take K).length = K := by rw [List.length_take, hn]; omega
  have hsK : Sl (w.alloc (.cells #[] 33)) b A (kv (L.take K)) := by
    have h1 := Sl.take (hs.alloc (.cells #[] 33)) (K * 6)
    rwa [kv_take] at h1
  have ho0 : RowK 33 (w.alloc (.cells #[] 33)) w.heap.size (.slice (some ⟨w.heap.size, 0, none⟩) 0 0) [] := World.ownsRow_made w #[] 0 (Nat.le_refl _) (by simp [maxLen]) rfl
  rw [hlt]
  have hK48 : K ≤ 110 := by omega
  clear hK hn hs hlt
  go_enter Tryd.func11, Tryd.ntmps11
  go_wp2_with ((with_reducible refine at_ca 9 _ ?_); refine wpList_appK _ Tryd.underlying22 codeB_info rfl (.tmp 3) (.tmp 8) rfl w.heap.size (.slice (some ⟨w.heap.size, 0, none⟩) 0 0) [] rfl ho0 b A K c (L.take K) rfl hsK hpl (by simp; omega) (by simp) ?_; intro v2 w2 hrow2 hmod2 hown2)
  go_ret
  exact ⟨_, rfl, by rw [List.nil_append] at hrow2; exact hrow2, (below_alloc1 w _).trans (below_ownK hmod2 (by simp) (fun i h => by simp [Value.ownBlock] at h; omega))⟩
set_option maxHeartbeats 4000000 in
set_option maxRecDepth 20000 in
theorem Own_calls (A : Option Addr) (L : List Cd) (n c b : Nat) (w : World) (hs : Sl w b A (kv L)) (hn : L.length = n) (hm : n ≤ 1000000) :
    Calls Tryd.prog 14 #[.slice A n c] w fun e w' => ∃ v, e = .returned v ∧ RowK 55 w' w.heap.size v L ∧ Below w.heap.size w w' := by
  subst hn
  go_enter Tryd.func14, Tryd.ntmps14
  go_wp2_with fail
  go_loopw [3, 5, 8] (fun out p i wr => ∃ k : Nat, k ≤ L.length ∧ i = .int .i64 k ∧ RowK 55 wr w.heap.size out (L.take k) ∧ Below w.heap.size w wr) (fun _ _ i _ => L.length - (intOf i).toNat)
  case atStart => exact ⟨0, Nat.zero_le _, rfl, RowK.nil_ _ _ _, Below.refl _ _⟩
  case round =>
    obtain ⟨k, hk, rfl, hr, hb⟩ := hrel
    rename_i v0 _ _
    by_cases hlt : k < L.length
    · obtain ⟨off, rfl, h0, h1, h2, h3, h4, h5⟩ := sl_code (Sl.ext hs hb) hlt
      have hlen : (L.take k).length = k := by simp; omega
      have HT := Lib.hid (take_nextK hlt)
      obtain ⟨p, hp⟩ : ∃ p, p = L[k] := ⟨_, rfl⟩
      rw [← hp] at h0 h1 h2 h3 h4 h5 HT
      obtain ⟨op, a, b', cc, n, m⟩ := p
      simp only at h0 h1 h2 h3 h4 h5
      have HL := Lib.hid hlen
      have ej : (k : Int) < (L.length : Int) := by omega
      have hzb := hb.size
      clear hp hlen
      have hb3 := hb.alloc hzb (.cells #[.int .u8 (op : Int), .int .u8 (a : Int), .int .u8 (b' : Int), .int .u8 (cc : Int), .int .i32 n, .int .u32 (m : Int)] 33)
      have hr2 := World.ownsRow.alloc hr (.cells #[.int .u8 (op : Int), .int .u8 (a : Int), .int .u8 (b' : Int), .int .u8 (cc : Int), .int .i32 n, .int .u32 (m : Int)] 33)
      have hz3 := hb3.size
      have hsn := sl_new (wr.alloc (.cells #[.int .u8 (op : Int), .int .u8 (a : Int), .int .u8 (b' : Int), .int .u8 (cc : Int), .int .i32 n, .int .u32 (m : Int)] 33)) (kv [⟨op, a, b', cc, n, m⟩]) 55
      rw [show (wr.alloc (.cells #[.int .u8 (op : Int), .int .u8 (a : Int), .int .u8 (b' : Int), .int .u8 (cc : Int), .int .i32 n, .int .u32 (m : Int)] 33)).heap.size = wr.heap.size + 1 by simp] at hsn
      go_wp2_with ((with_reducible refine at_ca 27 _ ?_); refine wpList_appK _ Tryd.underlying28 codeR_info rfl (.tmp 12) (.tmp 26) rfl w.heap.size _ (L.take k) rfl (World.ownsRow.alloc hr2 _) _ (some ⟨_, 0, none⟩) 1 1 [⟨op, a, b', cc, n, m⟩] rfl hsn rfl (by rw [HL.out]; omega) (hb3.alloc hz3 _).size ?_; intro v' w4 hrow hmod hat)
      have hb4 := (hb3.alloc hz3 _).trans (below_ownK hmod (B := w.heap.size) (hb3.alloc hz3 _).size (fun i h => (World.ownsRow.lt hr2 i h).1))
      go_roundw
      case rel => exact ⟨k + 1, by omega, by go_num, by rw [HT.out]; exact hrow, hb4⟩
      case measure => simp [intOf]; omega
    · obtain rfl : k = L.length := by omega
      rw [List.take_length] at hr
      go_wp2_with fail
      go_ret
      exact ⟨_, rfl, hr, hb⟩
theorem Parts_out (op : Nat) (h26 : 26 ≤ op) (hop : op ≤ 255) (w : World) : Calls Tryd.prog 28 #[.int .u8 (op : Int)] w fun e w' => e = .returned (.tuple #[.string ⟨#[]⟩, .string ⟨#[]⟩]) ∧ Below w.heap.size w w' := by
  have e0 : IntKind.i64.wrap (op : Int) = (op : Int) := IntWalk.i64_in _ (by omega)
  have e1 : decide ((op : Int) ≥ 26) = true := by simp; omega
  go_enter Tryd.func28, Tryd.ntmps28
  go_wp2_with fail
  refine (Table_calls _).mono ?_
  rintro e w1 ⟨rfl, hk, hb⟩
  clear hk
  go_wp2
  go_ret2
  exact ⟨rfl, hb⟩
theorem RRight_out (op a b' cc : Nat) (n : Int) (m : Nat) (h26 : 26 ≤ op) (hop : op ≤ 255) (size cells players : Int) (w : World) :
    Calls Tryd.prog 31 #[.agg #[.int .u8 (op : Int), .int .u8 (a : Int), .int .u8 (b' : Int), .int .u8 (cc : Int), .int .i32 n, .int .u32 (m : Int)], .int .i64 size, .int .i64 cells, .int .i64 players] w fun e w' => e = .returned (.bool (fitsB ⟨op, a, b', cc, n, m⟩ cells (size + 1) players)) ∧ Below w.heap.size w w' := by
  have hf : fitsB ⟨op, a, b', cc, n, m⟩ cells (size + 1) players = false := by simp only [fitsB]; rw [decide_eq_false (by omega), Bool.false_and]
  rw [hf]
  have hb := below_alloc1 w (.cells #[.int .u8 (op : Int), .int .u8 (a : Int), .int .u8 (b' : Int), .int .u8 (cc : Int), .int .i32 n, .int .u32 (m : Int)] 55)
  clear hf
  go_enter Tryd.func31, Tryd.ntmps31
  go_wp2_with fail
  refine (Parts_out op h26 hop _).mono ?_
  rintro e w1 ⟨rfl, h9⟩
  have hb := hb.trans (h9.mono hb.size)
  clear h9
  go_wp2
  go_ret
  exact ⟨rfl, hb⟩
theorem RRight_calls (op a b' cc : Nat) (n : Int) (m : Nat) (hc : (Cd.mk op a b' cc n m).Ok) (size cells players : Int) (hs0 : 0 ≤ size) (hs1 : size ≤ 9223372036854775806) (hl0 : -9223372036854775808 ≤ cells) (hl1 : cells ≤ 9223372036854775807) (w : World) :
    Calls Tryd.prog 31 #[.agg #[.int .u8 (op : Int), .int .u8 (a : Int), .int .u8 (b' : Int), .int .u8 (cc : Int), .int .i32 n, .int .u32 (m : Int)], .int .i64 size, .int .i64 cells, .int .i64 players] w fun e w' => e = .returned (.bool (fitsB ⟨op, a, b', cc, n, m⟩ cells (size + 1) players)) ∧ Below w.heap.size w w' := by
  by_cases h : op < 26
  · exact RRight_in op a b' cc n m hc h size cells players hs0 hs1 hl0 hl1 w
  · exact RRight_out op a b' cc n m (by omega) hc.ho size cells players w
end Go.Proofs.YtfckgfoimpileaaDoor
/- A region that draws its order, with operations (K) that come behind all others: what is asked of the world is asked up to these alone, so that a cell that they write may be read ahead of them in one step. Conditions: those said. -/
namespace Go.Proofs.YtfckgfoimpileaaDoor
open Go.RowKit

section
variable {P : Program} {ops : Array Oper} {Q : Exit → Act → World → Prop} {md : Region.Mode} {S : World → Prop} {K : Nat → Bool}

/-- Whatever comes up, all the way; S behind each that is none of K. -/
def wpAnyE (P : Program) (md : Region.Mode) (ops : Array Oper) (Q : Exit → Act → World → Prop) (S : World → Prop) (K : Nat → Bool) : Nat → Array Bool → Act → World → Prop
  | 0, done, a, w => Region.ready md ops done = [] ∧ Q .normal a w
  | n + 1, done, a, w =>
    (Region.ready md ops done = [] → Q .normal a w) ∧
    ∀ j ∈ Region.ready md ops done, wpOp P ops Q j (fun a' w' => (K j = false → S w') ∧ wpAnyE P md ops Q S K n (done.setIfInBounds j true) a' w') a w

theorem wpAny_of_E : ∀ (n : Nat) (done : Array Bool) (a : Act) (w : World), wpAnyE P md ops Q S K n done a w → wpAny P md ops Q n done a w
  | 0, _, _, _, h => h
  | n + 1, _, _, _, h => ⟨h.1, fun j hj => wpOp_mono (fun a' w' h' => wpAny_of_E n _ a' w' h'.2) (h.2 j hj)⟩

/-- Does j wait for i, be it by way of others? -/
def backTo (md : Region.Mode) (ops : Array Oper) (i : Nat) : Nat → Nat → Bool
  | 0, _ => false
  | n + 1, j => match ops[j]? with
    | some o => o.after.any fun e => Region.binds md e && (e.on == i || backTo md ops i n e.on)
    | none => false
/-- Do all of K wait for i? -/
def waitK (md : Region.Mode) (ops : Array Oper) (K : Nat → Bool) (i : Nat) : Bool := (List.range ops.size).all fun j => !K j || backTo md ops i 20 j
/-- What is done has what it waits for behind it. -/
def closedB (md : Region.Mode) (ops : Array Oper) (done : Array Bool) : Bool :=
  (List.range ops.size).all fun j => !done.getD j false || match ops[j]? with | some o => o.after.all fun e => !Region.binds md e || done.getD e.on false | none => true
def Closed (md : Region.Mode) (ops : Array Oper) (done : Array Bool) : Prop := ∀ j o, done.getD j false = true → ops[j]? = some o → ∀ e ∈ o.after, Region.binds md e = true → done.getD e.on false = true
theorem closed_of {done : Array Bool} (h : closedB md ops done = true) : Closed md ops done := fun j o hd ho e he hb => by
  simp only [closedB, List.all_eq_true, List.mem_range] at h
  have h1 := h j (Array.getElem?_eq_some_iff.1 ho).1
  simp only [hd, ho, Bool.not_true, Bool.false_or] at h1
  have h2 := Array.all_eq_true_iff_forall_mem.1 h1 e he
  simpa [hb] using h2
theorem Closed.set {done : Array Bool} (h : Closed md ops done) {j : Nat} (hj : j ∈ Region.ready md ops done) : Closed md ops (done.setIfInBounds j true) := fun k o hd ho e he hb => by
  by_cases hkj : j = k
  · subst hkj
    obtain ⟨_, o', ho', hall⟩ := mem_ready.1 hj
    rw [ho] at ho'
    injection ho' with ho'
    subst ho'
    exact getD_set_true (hall e he hb)
  · rw [getD_set_ne false hkj] at hd
    exact getD_set_true (h k o hd ho e he hb)
theorem back_done {done : Array Bool} (hc : Closed md ops done) {i : Nat} : ∀ (n j : Nat) (o : Oper), ops[j]? = some o → (∀ e ∈ o.after, Region.binds md e = true → done.getD e.on false = true) → backTo md ops i n j = true → done.getD i false = true
  | 0, _, _, _, _, h => by cases h
  | n + 1, j, o, ho, hall, h => by
    simp only [backTo, ho] at h
    obtain ⟨e, he, hb⟩ := Array.any_eq_true'.1 h
    simp only [Bool.and_eq_true, Bool.or_eq_true, beq_iff_eq] at hb
    obtain ⟨hb, h1 | h1⟩ := hb
    · rw [← h1]
      exact hall e he hb
    · cases n with
      | zero => cases h1
      | succ n =>
        cases ho2 : ops[e.on]? with
        | none => simp [backTo, ho2] at h1
        | some o2 => exact back_done hc (n + 1) e.on o2 ho2 (hc e.on o2 (hall e he hb) ho2) h1
theorem waitK_spec {i : Nat} (h : waitK md ops K i = true) : ∀ j, j < ops.size → K j = true → backTo md ops i 20 j = true := fun j hj hk => by
  simp only [waitK, List.all_eq_true, List.mem_range] at h
  simpa [hk] using h j hj

theorem wpAnyE_first {i : Nat} {oi : Oper} {v : Value} (hi : ops[i]? = some oi) (hsel : ∀ (j : Nat) (o : Oper) cs b, ops[j]? = some o → o.op ≠ .select cs b)
    (hQ : ∀ c a w, Q (.panic c) (a.put oi.dst v) w → Q (.panic c) a w) (hw : ∀ j, j < ops.size → K j = true → backTo md ops i 20 j = true) (n : Nat) :
    ∀ (done : Array Bool) (a : Act) (w : World), Closed md ops done →
      (∀ j oj, ops[j]? = some oj → j ≠ i → done.getD j true = false → (∀ e ∈ oj.after, Region.binds md e = true → e.on ≠ i) → oi.apart ops oj = true) →
      i ∈ Region.ready md ops done → YieldsIf P ops S oi v a → S w →
      wpAnyE P md ops Q S K n (done.setIfInBounds i true) (a.put oi.dst v) w → wpAnyE P md ops Q S K (n + 1) done a w := by
  induction n with
  | zero =>
    intro done a w _ _ hr hy hS H
    refine ⟨fun h => absurd hr (by rw [h]; simp), fun j hj => ?_⟩
    by_cases hji : j = i
    · subst hji
      exact hy.wpOp hi hS ⟨fun _ => hS, H⟩
    · have := ready_mono hj hji
      rw [H.1] at this
      cases this
  | succ n ih =>
    intro done a w hcl hfree hr hy hS H
    refine ⟨fun h => absurd hr (by rw [h]; simp), fun j hj => ?_⟩
    by_cases hji : j = i
    · subst hji
      exact hy.wpOp hi hS ⟨fun _ => hS, H⟩
    · obtain ⟨hun, oj, hoj, hall⟩ := mem_ready.1 hj
      have hnot : ∀ e ∈ oj.after, Region.binds md e = true → e.on ≠ i := fun e he hb heq => by
        have h1 := hall e he hb
        have h0 := (mem_ready.1 hr).1
        rw [heq] at h1
        rcases Nat.lt_or_ge i done.size with h' | h'
        · simp [h'] at h0 h1
          rw [h0] at h1
          cases h1
        · simp [Array.getElem?_eq_none h'] at h1
      have hkj : K j = false := by
        cases hk : K j with
        | false => rfl
        | true =>
          have h1 := back_done hcl 20 j oj hoj hall (hw j (Array.getElem?_eq_some_iff.1 hoj).1 hk)
          have h0 := (mem_ready.1 hr).1
          rcases Nat.lt_or_ge i done.size with h' | h'
          · simp [h'] at h0 h1
            rw [h0] at h1
            cases h1
          · simp [Array.getElem?_eq_none h'] at h1
      have h2 := wpOp_putIf hoj (hfree j oj hoj hji hun hnot) (fun cs b => hsel i oi cs b hi) (fun cs b => hsel j oj cs b hoj) hQ hy (H.2 j (ready_mono hj hji))
      refine wpOp_mono (fun a' w' h3 => ?_) h2
      have hS' := h3.2.1 hkj
      refine ⟨fun _ => hS', ih _ a' w' (hcl.set hj) (fun k ok hk hki' hun' hno => ?_) (ready_mono hr (Ne.symm hji)) h3.1 hS' ?_⟩
      · refine hfree k ok hk hki' ?_ hno
        by_cases hjk : j = k
        · subst hjk; exact hun
        · rw [getD_set_ne true hjk] at hun'; exact hun'
      · rw [Array.setIfInBounds_comm _ _ hji]
        exact h3.2.2

theorem wpAnyE_take {i : Nat} {oi : Oper} {v : Value} {n : Nat} {done : Array Bool} {a : Act} {w : World} (hi : ops[i]? = some oi)
    (hs : Region.noSelect ops = true) (hf : Region.free md ops done i = true) (hr : (Region.ready md ops done).contains i = true) (hc : closedB md ops done = true) (hk : waitK md ops K i = true)
    (hQ : ∀ c a w, Q (.panic c) (a.put oi.dst v) w → Q (.panic c) a w) (hy : YieldsIf P ops S oi v a) (hS : S w)
    (h : wpAnyE P md ops Q S K n (done.setIfInBounds i true) (a.put oi.dst v) w) : wpAnyE P md ops Q S K (n + 1) done a w :=
  wpAnyE_first hi (Region.noSelect_spec hs) hQ (waitK_spec hk) n done a w (closed_of hc) (Region.free_spec hi hf) (by simpa using hr) hy hS h

/-- What comes up of those that may. -/
def EachE (P : Program) (md : Region.Mode) (ops : Array Oper) (Q : Exit → Act → World → Prop) (S : World → Prop) (K : Nat → Bool) (n : Nat) (done : Array Bool) (a : Act) (w : World) (rs : List Nat) : Prop :=
  ∀ j ∈ rs, wpOp P ops Q j (fun a' w' => (K j = false → S w') ∧ wpAnyE P md ops Q S K n (done.setIfInBounds j true) a' w') a w
theorem EachE.nil {n : Nat} {done : Array Bool} {a : Act} {w : World} : EachE P md ops Q S K n done a w [] := fun _ h => by cases h
theorem EachE.cons {n : Nat} {done : Array Bool} {a : Act} {w : World} {j : Nat} {o : Oper} {rs : List Nat} (hk : K j = false) (ho : ops[j]? = some o)
    (h : ∀ K' : Act → World → Prop, Shut (∀ a w, S w → (S w → wpAnyE P md ops Q S K n (done.setIfInBounds j true) a w) → K' a w) → if Region.wanted o (yielded ops a.tmps) = true then Oper.wp P o a w K' Q else K' (a.put o.dst undef) w)
    (hs : EachE P md ops Q S K n done a w rs) : EachE P md ops Q S K n done a w (j :: rs) := fun i hi => by
  rcases List.mem_cons.1 hi with rfl | hi
  · exact wpOp_step ho (fun K' hK => h K' (fun a w hS hW => hK a w ⟨fun _ => hS, hW hS⟩))
  · exact hs i hi
/-- One of K: nothing is asked of the world behind it. -/
theorem EachE.last {n : Nat} {done : Array Bool} {a : Act} {w : World} {j : Nat} {o : Oper} (hk : K j = true) (ho : ops[j]? = some o)
    (h : ∀ K' : Act → World → Prop, Shut (∀ a w, wpAnyE P md ops Q S K n (done.setIfInBounds j true) a w → K' a w) → if Region.wanted o (yielded ops a.tmps) = true then Oper.wp P o a w K' Q else K' (a.put o.dst undef) w) : EachE P md ops Q S K n done a w [j] := fun i hi => by
  rw [List.mem_singleton] at hi
  subst hi
  exact wpOp_step ho (fun K' hK => h K' (fun a w hW => hK a w ⟨fun e => absurd (hk.symm.trans e) (by decide), hW⟩))
theorem wpAnyE_ready {rs : List Nat} {n : Nat} {done : Array Bool} {a : Act} {w : World} (hr : Region.ready md ops done = rs) (hne : rs ≠ [])
    (h : EachE P md ops Q S K n done a w rs) : wpAnyE P md ops Q S K (n + 1) done a w :=
  ⟨fun h0 => absurd (hr ▸ h0) hne, hr ▸ h⟩
theorem wpAnyE_done {done : Array Bool} {a : Act} {w : World} (hr : Region.ready md ops done = []) (h : Q .normal a w) :
    ∀ n, wpAnyE P md ops Q S K n done a w
  | 0 => ⟨hr, h⟩
  | _ + 1 => ⟨fun _ => h, by rw [hr]; simp⟩
theorem wp_pure {op : Oper} {a : Act} {w : World} {KK : Act → World → Prop} (v : Value) (h : ∀ w, (execOp a.eval op).run P w = .ok (.value v) w) (hk : KK (a.put op.dst v) w) : op.wp P a w KK Q := by
  unfold Oper.wp
  rw [h w]
  exact hk
/-- The beginning. -/
theorem wp_region_E {id : Nat} {a : Act} {w : World} (K : Nat → Bool) (S : World → Prop) (hm : P.follows .mixedOrders = true) (hS : S w.drew)
    (h : S w.drew → wpAnyE P .any ops Q S K ops.size (Array.replicate ops.size false) a w.drew) : (Code.region id ops true).wp P Q a w :=
  wp_region_any hm (wpAny_of_E _ _ _ _ (h hS))
end
end Go.Proofs.YtfckgfoimpileaaDoor
/- An eye's reads as functions of what is left. Conditions: as those of the reads. -/
namespace Go.Proofs.YtfckgfoimpileaaDoor
open Go.RowKit

/-- Off the front, k bytes: their value, what is left, and whether it is wrong. -/
def rdN (k : Nat) (l : List UInt8) (bad : Bool) : Nat × List UInt8 × Bool := if k ≤ l.length then (valN (l.take k), l.drop k, bad) else (0, [], true)
theorem rdN_lt (k : Nat) (l : List UInt8) (bad : Bool) : (rdN k l bad).1 < 256 ^ k := by
  unfold rdN
  split
  · rename_i h
    have := valN_lt (l.take k)
    rwa [List.length_take, Nat.min_eq_left h] at this
  · exact Nat.pow_pos (by decide)
theorem rdN_of {g b k : Nat} {l : List UInt8} {bad : Bool} {K : IntKind} {w w' : World} {e : Ending} (h : ReadN g b k l bad K w e w') :
    e = .returned (.int K ((rdN k l bad).1 : Int)) ∧ EyeAt w' g b (rdN k l bad).2.1 (rdN k l bad).2.2 ∧ Mod (fun i => i = g) w w' := by
  by_cases hk : k ≤ l.length
  · unfold rdN
    rw [if_pos hk]
    exact h.1 hk
  · unfold rdN
    rw [if_neg hk]
    exact h.2 (by omega)
theorem rdN_nil {k n : Nat} {l l' : List UInt8} {bad bad' : Bool} (h : rdN k l bad = (n, l', bad')) (hl : l = []) : l' = [] := by
  subst hl
  unfold rdN at h
  split at h
  · injection h with _ h; injection h with h _; rw [← h]; simp
  · injection h with _ h; injection h with h _; exact h.symm
theorem EyeByte_f (g b : Nat) (l : List UInt8) (bad : Bool) (w : World) (he : EyeAt w g b l bad) :
    Calls Tryd.prog 39 #[.pointer (some ⟨g, 0, none⟩)] w fun e w' => ∃ n l' bad', e = .returned (.int .u8 (n : Nat)) ∧ rdN 1 l bad = (n, l', bad') ∧ n < 256 ∧ EyeAt w' g b l' bad' ∧ Mod (fun i => i = g) w w' :=
  (EyeByte_calls g b l bad w he).mono fun e w' h => by
    obtain ⟨h1, h2, h3⟩ := rdN_of h
    exact ⟨_, _, _, h1, rfl, rdN_lt 1 l bad, h2, h3⟩
theorem EyeWord_f (g b : Nat) (l : List UInt8) (bad : Bool) (w : World) (he : EyeAt w g b l bad) :
    Calls Tryd.prog 40 #[.pointer (some ⟨g, 0, none⟩)] w fun e w' => ∃ n l' bad', e = .returned (.int .u32 (n : Nat)) ∧ rdN 4 l bad = (n, l', bad') ∧ n < 4294967296 ∧ EyeAt w' g b l' bad' ∧ Mod (fun i => i = g) w w' :=
  (EyeWord_calls g b l bad w he).mono fun e w' h => by
    obtain ⟨h1, h2, h3⟩ := rdN_of h
    exact ⟨_, _, _, h1, rfl, rdN_lt 4 l bad, h2, h3⟩
/-- A number, at most most. -/
def rdM (most : Nat) (l : List UInt8) (bad : Bool) : Nat × List UInt8 × Bool := match rd 0 l with | some (v, k) => if v ≤ most then (v, l.drop k, bad) else (0, [], true) | none => (0, [], true)
theorem EyeNum_f (g b : Nat) (l : List UInt8) (bad : Bool) (most : Nat) (w : World) (he : EyeAt w g b l bad) (hm : most ≤ 18446744073709551615) :
    Calls Tryd.prog 38 #[.pointer (some ⟨g, 0, none⟩), .int .u64 most] w fun e w' => ∃ n l' bad', e = .returned (.int .u64 (n : Nat)) ∧ rdM most l bad = (n, l', bad') ∧ n ≤ most ∧ EyeAt w' g b l' bad' ∧ Mod (fun i => i = g) w w' :=
  (EyeNum_calls g b l bad most w he hm).mono fun e w' h => by
    obtain ⟨h1, h2, h3⟩ := h
    unfold rdM
    cases hr : rd 0 l with
    | none =>
      obtain ⟨e1, e2⟩ := h2 (fun v k hk => by rw [hr] at hk; cases hk)
      exact ⟨0, [], true, e1, rfl, Nat.zero_le _, e2, h3⟩
    | some y =>
      obtain ⟨v, k⟩ := y
      by_cases hv : v ≤ most
      · obtain ⟨e1, e2⟩ := h1 v k hr hv
        exact ⟨v, l.drop k, bad, e1, by simp only [if_pos hv], hv, e2, h3⟩
      · obtain ⟨e1, e2⟩ := h2 (fun v' k' hk => by rw [hr] at hk; injection hk with hk; injection hk with hk _; rw [← hk]; exact hv)
        exact ⟨0, [], true, e1, by simp only [if_neg hv], Nat.zero_le _, e2, h3⟩
end Go.Proofs.YtfckgfoimpileaaDoor
