/- Text: an instruction as a line. Conditions: the numbers fit; the tables lie. -/
import Derived.Test.YtdmjkgafnnjkkaaDoorCodeG
import Derived.Test.YtdmjkgafnnjkkaaDoorTextK
import Derived.Lib.ItoaLen
import Derived.Deep.RegionHeld3
namespace Go.Proofs.YtdmjkgafnnjkkaaDoor
open Go.RowKit

/-- All tables lie. -/
structure AllT (w : World) : Prop where
  c : CTab w
  z : Tab w
  p : Lib.TabIs Tryd.prog w "internal/strconv.uint64pow10" .u64 Lib.pow10Tab
theorem tabIs_ext {w w' : World} {name : String} {k : IntKind} {zs : List Int} (h : Lib.TabIs Tryd.prog w name k zs) (hb : Below w.heap.size w w') : Lib.TabIs Tryd.prog w' name k zs := by
  unfold Lib.TabIs World.var? at h ⊢
  cases hg : Tryd.prog.globalNamed name with
  | none => rw [hg] at h; simp at h
  | some g =>
    rw [hg] at h
    simp only [Option.bind_some] at h ⊢
    have hlt : g < w.heap.size := by
      rcases Nat.lt_or_ge g w.heap.size with h1 | h1
      · exact h1
      · rw [Array.getElem?_eq_none h1] at h
        simp at h
    rw [hb.block g hlt]
    exact h
theorem AllT.ext {w w' : World} (h : AllT w) (hb : Below w.heap.size w w') : AllT w' := ⟨h.c.ext hb, Tab.ext h.z hb, tabIs_ext h.p hb⟩
theorem below_undrew2 {w w' : World} (h : Below w.drew.heap.size w.drew w') : Below w.heap.size w w' := ⟨h.os, h.tape, h.output, h.size, h.block⟩
theorem AllT.drew {w : World} (h : AllT w) : AllT w.drew := ⟨h.c, h.z, h.p⟩
theorem Itoa_calls (n : Int) (h0 : -9223372036854775808 ≤ n) (h1 : n ≤ 9223372036854775807) (w : World) (hT : AllT w) :
    Calls Tryd.prog 46 #[.int .i64 n] w fun e w' => e = .returned (.string ⟨(Lib.itoa n).toArray⟩) ∧ Below w.heap.size w w' := by
  refine (Tryd.strconv_Itoa n h0 h1 w hT.p).mono ?_
  rintro e w' ⟨rfl, k, os, rfl⟩
  exact ⟨rfl, ⟨rfl, rfl, rfl, by simp [Sort.grow, World.drewN], fun i hi => by simp only [Sort.grow]; rw [Array.getElem?_append_left (by simpa [World.drewN] using hi)]; rfl⟩⟩
theorem words_len : ∀ j : Fin 26, (wordAt j.val).length ≤ 7 := by decide +kernel
theorem words_some : ∀ j : Fin 26, (wordAt j.val).isEmpty = false := by decide +kernel
theorem textN_len (m : Nat) : (textN m).length ≤ 96 := by
  unfold textN
  split
  · simp
  · have h1 := join_len ((obs m).map Lib.decDigits) (fun x hx => by
      obtain ⟨k, hk, rfl⟩ := List.mem_map.1 hx
      exact dec_len ⟨k, (obs_mem.1 hk).1⟩)
    rw [List.length_map] at h1
    have := obs_length m
    omega
/-- The line of an instruction. -/
def lineB (op a b cc : Nat) (n : Int) (m : Nat) : List UInt8 := Lib.join [wordAt op, Lib.itoa a, Lib.itoa b, Lib.itoa cc, Lib.itoa n, textN m] [32]
theorem CText_out (op a b cc : Nat) (n : Int) (m : Nat) (h26 : 26 ≤ op) (w : World) :
    Calls Tryd.prog 26 #[.agg #[.int .u8 (op : Int), .int .u8 (a : Int), .int .u8 (b : Int), .int .u8 (cc : Int), .int .i32 n, .int .u32 (m : Int)]] w fun e w' => e = .returned (.string ⟨#[]⟩) ∧ Below w.heap.size w w' := by
  have hW := fun W => Word_out op h26 W
  have hb := below_alloc1 w (.cells #[.int .u8 (op : Int), .int .u8 (a : Int), .int .u8 (b : Int), .int .u8 (cc : Int), .int .i32 n, .int .u32 (m : Int)] 33)
  go_enter Tryd.func26, Tryd.ntmps26
  go_wp2_with fail
  refine (hW _).mono ?_
  rintro e w' ⟨rfl, hw⟩
  have hw := hw.symm
  subst hw
  go_wp2
  go_ret
  exact ⟨rfl, hb⟩
set_option maxHeartbeats 4000000 in
set_option maxRecDepth 20000 in
theorem CText_in (op a b cc : Nat) (n : Int) (m : Nat) (hc : (Cd.mk op a b cc n m).Ok) (h26 : op < 26) (w : World) (hT : AllT w) :
    Calls Tryd.prog 26 #[.agg #[.int .u8 (op : Int), .int .u8 (a : Int), .int .u8 (b : Int), .int .u8 (cc : Int), .int .i32 n, .int .u32 (m : Int)]] w fun e w' => e = .returned (.string ⟨(lineB op a b cc n m).toArray⟩) ∧ Below w.heap.size w w' := by
  obtain ⟨-, ha, hb', hcc, n0, n1, hm⟩ := hc
  simp only at ha hb' hcc n0 n1 hm
  have hW := fun W h => Word_in op h26 W h
  have hI := fun (x : Int) W h0 h1 h => Itoa_calls x h0 h1 W h
  have hM := fun W h => Text_calls m (by omega) W h
  have hwl := words_len ⟨op, h26⟩
  simp only at hwl
  have hwn : (wordAt op).isEmpty = false := words_some ⟨op, h26⟩
  have la := Lib.itoa_length_le a (by omega) (by omega)
  have lb := Lib.itoa_length_le b (by omega) (by omega)
  have lc := Lib.itoa_length_le cc (by omega) (by omega)
  have ln := Lib.itoa_length_le n (by omega) (by omega)
  have lm := textN_len m
  obtain ⟨sw, hsw⟩ : ∃ sw, sw = wordAt op := ⟨_, rfl⟩
  obtain ⟨sa, hsa⟩ : ∃ sa, sa = Lib.itoa a := ⟨_, rfl⟩
  obtain ⟨sb, hsb⟩ : ∃ sb, sb = Lib.itoa b := ⟨_, rfl⟩
  obtain ⟨sc, hsc⟩ : ∃ sc, sc = Lib.itoa cc := ⟨_, rfl⟩
  obtain ⟨sn, hsn⟩ : ∃ sn, sn = Lib.itoa n := ⟨_, rfl⟩
  obtain ⟨sm, hsm⟩ : ∃ sm, sm = textN m := ⟨_, rfl⟩
  have hIa := fun W h => hI a W (by omega) (by omega) h
  have hIb := fun W h => hI b W (by omega) (by omega) h
  have hIc := fun W h => hI cc W (by omega) (by omega) h
  have hIn := fun W h => hI n W (by omega) (by omega) h
  have e3 := IntWalk.i64_in (a : Int) (by omega)
  have e4 := IntWalk.i64_in (b : Int) (by omega)
  have e5 := IntWalk.i64_in (cc : Int) (by omega)
  have e6 := IntWalk.i64_in n (by omega)
  have hl : lineB op a b cc n m = Lib.join [sw, sa, sb, sc, sn, sm] [32] := by rw [hsw, hsa, hsb, hsc, hsn, hsm]; rfl
  rw [hl]
  rw [← hsw] at hW hwl hwn
  rw [← hsa] at hIa la
  rw [← hsb] at hIb lb
  rw [← hsc] at hIc lc
  rw [← hsn] at hIn ln
  rw [← hsm] at hM lm
  have hJl : (Lib.join [sw, sa, sb, sc, sn, sm] [32]).length ≤ 140737488355328 := by
    simp only [Lib.join_cons, Lib.joinTail, List.map_cons, List.map_nil, List.flatten_cons, List.flatten_nil, List.length_append, List.length_cons, List.length_nil]
    omega
  obtain ⟨J, hJ⟩ : ∃ J, J = Lib.join [sw, sa, sb, sc, sn, sm] [32] := ⟨_, rfl⟩
  rw [← hJ] at hJl ⊢
  have hJo : ∀ (W : World) (g : Nat) (fr : Nat × Nat) (hk : W.heap[g]? = some (.cells #[.string ⟨sw.toArray⟩, .string ⟨sa.toArray⟩, .string ⟨sb.toArray⟩, .string ⟨sc.toArray⟩, .string ⟨sn.toArray⟩, .string ⟨sm.toArray⟩] 9 fr)), Calls Tryd.prog 45 #[.slice (some ⟨g, 0, none⟩) 6 6, .string ⟨#[32]⟩] W fun e w' => e = .returned (.string ⟨J.toArray⟩) ∧ Below W.heap.size W w' := by
    intro W g fr hk
    have h1 := Tryd.strings_Join g 0 6 [⟨sw.toArray⟩, ⟨sa.toArray⟩, ⟨sb.toArray⟩, ⟨sc.toArray⟩, ⟨sn.toArray⟩, ⟨sm.toArray⟩] ⟨#[32]⟩ W (fun j x hx => by
      rcases j with _ | _ | _ | _ | _ | _ | j
      · injection hx with hx; subst hx; exact (cell_of_row W g 0 _ _ _ hk).trans rfl
      · injection hx with hx; subst hx; exact (cell_of_row W g 1 _ _ _ hk).trans rfl
      · injection hx with hx; subst hx; exact (cell_of_row W g 2 _ _ _ hk).trans rfl
      · injection hx with hx; subst hx; exact (cell_of_row W g 3 _ _ _ hk).trans rfl
      · injection hx with hx; subst hx; exact (cell_of_row W g 4 _ _ _ hk).trans rfl
      · injection hx with hx; subst hx; exact (cell_of_row W g 5 _ _ _ hk).trans rfl
      · simp at hx) (Array.getElem?_eq_some_iff.1 hk).1 (by simp) (by simp) (by simp only [List.map_cons, List.map_nil]; rw [← hJ]; exact hJl)
    simp only [List.map_cons, List.map_nil, List.length_cons, List.length_nil] at h1
    rw [← hJ] at h1
    exact h1
  clear hI la lb lc ln lm hJl hJ hl hsw hsa hsb hsc hsn hsm hwl
  have hb := below_alloc1 w (.cells #[.int .u8 (op : Int), .int .u8 (a : Int), .int .u8 (b : Int), .int .u8 (cc : Int), .int .i32 n, .int .u32 (m : Int)] 33)
  have hTz := hT.ext hb
  have kA := heap_alloc_new w (.cells #[.int .u8 (op : Int), .int .u8 (a : Int), .int .u8 (b : Int), .int .u8 (cc : Int), .int .i32 n, .int .u32 (m : Int)] 33)
  clear hT
  obtain ⟨wz, hwz⟩ : ∃ wz, wz = w.alloc (.cells #[.int .u8 (op : Int), .int .u8 (a : Int), .int .u8 (b : Int), .int .u8 (cc : Int), .int .i32 n, .int .u32 (m : Int)] 33) := ⟨_, rfl⟩
  go_enter Tryd.func26, Tryd.ntmps26
  go_wp2_with fail
  rw [← hwz] at hb hTz kA ⊢
  clear hwz
  refine (hW _ hTz.c).mono ?_
  rintro e w' ⟨rfl, hw⟩
  have hw := hw.symm
  subst hw
  go_wp2_with fail
  refine wp_region_held_drew (S := fun w' => w'.heap[w.heap.size]? = some (.cells #[.int .u8 (op : Int), .int .u8 (a : Int), .int .u8 (b : Int), .int .u8 (cc : Int), .int .i32 n, .int .u32 (m : Int)] 33 (0, 0))) (by kernel_rfl) ?_ (fun hHeld => ?_)
  · exact kA
  refine wpAnyH_take (i := 0) (v := ?zv0) (by simp only [List.getElem?_toArray, List.getElem?_cons_zero]; rfl) (by kernel_rfl) (by kernel_rfl) (by kernel_rfl) (by exact fun _ _ _ h => h) (Or.inl ⟨by kernel_rfl, ?zy0⟩) hHeld ?_
  case zy0 => (intro w hSw; (try dsimp only at hSw); have hy1 := (cell_of_row _ _ 1 _ _ _ hSw).trans (show _ = some _ from rfl); have hy2 := (cell_of_row _ _ 2 _ _ _ hSw).trans (show _ = some _ from rfl); have hy3 := (cell_of_row _ _ 3 _ _ _ hSw).trans (show _ = some _ from rfl); have hy4 := (cell_of_row _ _ 4 _ _ _ hSw).trans (show _ = some _ from rfl); have hy5 := (cell_of_row _ _ 5 _ _ _ hSw).trans (show _ = some _ from rfl); clear hSw; go_simp; try (with_reducible rfl))
  try simp only [Act.put, List.setIfInBounds_toArray, List.set_cons_zero, List.set_cons_succ]
  refine wpAnyH_take (i := 1) (v := ?zv1) (by simp only [List.getElem?_toArray, List.getElem?_cons_succ, List.getElem?_cons_zero]; rfl) (by kernel_rfl) (by kernel_rfl) (by kernel_rfl) (by exact fun _ _ _ h => h) (Or.inl ⟨by kernel_rfl, ?zy1⟩) hHeld ?_
  case zy1 => (intro w hSw; (try dsimp only at hSw); have hy1 := (cell_of_row _ _ 1 _ _ _ hSw).trans (show _ = some _ from rfl); have hy2 := (cell_of_row _ _ 2 _ _ _ hSw).trans (show _ = some _ from rfl); have hy3 := (cell_of_row _ _ 3 _ _ _ hSw).trans (show _ = some _ from rfl); have hy4 := (cell_of_row _ _ 4 _ _ _ hSw).trans (show _ = some _ from rfl); have hy5 := (cell_of_row _ _ 5 _ _ _ hSw).trans (show _ = some _ from rfl); clear hSw; go_simp; try (with_reducible rfl))
  try simp only [Act.put, List.setIfInBounds_toArray, List.set_cons_zero, List.set_cons_succ]
  refine wpAnyH_take (i := 2) (v := ?zv2) (by simp only [List.getElem?_toArray, List.getElem?_cons_succ, List.getElem?_cons_zero]; rfl) (by kernel_rfl) (by kernel_rfl) (by kernel_rfl) (by exact fun _ _ _ h => h) (Or.inl ⟨by kernel_rfl, ?zy2⟩) hHeld ?_
  case zy2 => (intro w hSw; (try dsimp only at hSw); have hy1 := (cell_of_row _ _ 1 _ _ _ hSw).trans (show _ = some _ from rfl); have hy2 := (cell_of_row _ _ 2 _ _ _ hSw).trans (show _ = some _ from rfl); have hy3 := (cell_of_row _ _ 3 _ _ _ hSw).trans (show _ = some _ from rfl); have hy4 := (cell_of_row _ _ 4 _ _ _ hSw).trans (show _ = some _ from rfl); have hy5 := (cell_of_row _ _ 5 _ _ _ hSw).trans (show _ = some _ from rfl); clear hSw; go_simp; try (with_reducible rfl))
  try simp only [Act.put, List.setIfInBounds_toArray, List.set_cons_zero, List.set_cons_succ]
  refine wpAnyH_take (i := 3) (v := ?zv3) (by simp only [List.getElem?_toArray, List.getElem?_cons_succ, List.getElem?_cons_zero]; rfl) (by kernel_rfl) (by kernel_rfl) (by kernel_rfl) (by exact fun _ _ _ h => h) (Or.inl ⟨by kernel_rfl, ?zy3⟩) hHeld ?_
  case zy3 => (intro w hSw; (try dsimp only at hSw); have hy1 := (cell_of_row _ _ 1 _ _ _ hSw).trans (show _ = some _ from rfl); have hy2 := (cell_of_row _ _ 2 _ _ _ hSw).trans (show _ = some _ from rfl); have hy3 := (cell_of_row _ _ 3 _ _ _ hSw).trans (show _ = some _ from rfl); have hy4 := (cell_of_row _ _ 4 _ _ _ hSw).trans (show _ = some _ from rfl); have hy5 := (cell_of_row _ _ 5 _ _ _ hSw).trans (show _ = some _ from rfl); clear hSw; go_simp; try (with_reducible rfl))
  try simp only [Act.put, List.setIfInBounds_toArray, List.set_cons_zero, List.set_cons_succ]
  refine wpAnyH_take (i := 5) (v := ?zv5) (by simp only [List.getElem?_toArray, List.getElem?_cons_succ, List.getElem?_cons_zero]; rfl) (by kernel_rfl) (by kernel_rfl) (by kernel_rfl) (by exact fun _ _ _ h => h) (Or.inl ⟨by kernel_rfl, ?zy5⟩) hHeld ?_
  case zy5 => (intro w hSw; (try dsimp only at hSw); have hy1 := (cell_of_row _ _ 1 _ _ _ hSw).trans (show _ = some _ from rfl); have hy2 := (cell_of_row _ _ 2 _ _ _ hSw).trans (show _ = some _ from rfl); have hy3 := (cell_of_row _ _ 3 _ _ _ hSw).trans (show _ = some _ from rfl); have hy4 := (cell_of_row _ _ 4 _ _ _ hSw).trans (show _ = some _ from rfl); have hy5 := (cell_of_row _ _ 5 _ _ _ hSw).trans (show _ = some _ from rfl); clear hSw; go_simp; try (with_reducible rfl))
  try simp only [Act.put, List.setIfInBounds_toArray, List.set_cons_zero, List.set_cons_succ]
  refine wpAnyH_take (i := 6) (v := ?zv6) (by simp only [List.getElem?_toArray, List.getElem?_cons_succ, List.getElem?_cons_zero]; rfl) (by kernel_rfl) (by kernel_rfl) (by kernel_rfl) (by exact fun _ _ _ h => h) (Or.inl ⟨by kernel_rfl, ?zy6⟩) hHeld ?_
  case zy6 => (intro w hSw; (try dsimp only at hSw); have hy1 := (cell_of_row _ _ 1 _ _ _ hSw).trans (show _ = some _ from rfl); have hy2 := (cell_of_row _ _ 2 _ _ _ hSw).trans (show _ = some _ from rfl); have hy3 := (cell_of_row _ _ 3 _ _ _ hSw).trans (show _ = some _ from rfl); have hy4 := (cell_of_row _ _ 4 _ _ _ hSw).trans (show _ = some _ from rfl); have hy5 := (cell_of_row _ _ 5 _ _ _ hSw).trans (show _ = some _ from rfl); clear hSw; go_simp; try (with_reducible rfl))
  try simp only [Act.put, List.setIfInBounds_toArray, List.set_cons_zero, List.set_cons_succ]
  refine wpAnyH_take (i := 7) (v := ?zv7) (by simp only [List.getElem?_toArray, List.getElem?_cons_succ, List.getElem?_cons_zero]; rfl) (by kernel_rfl) (by kernel_rfl) (by kernel_rfl) (by exact fun _ _ _ h => h) (Or.inl ⟨by kernel_rfl, ?zy7⟩) hHeld ?_
  case zy7 => (intro w hSw; (try dsimp only at hSw); have hy1 := (cell_of_row _ _ 1 _ _ _ hSw).trans (show _ = some _ from rfl); have hy2 := (cell_of_row _ _ 2 _ _ _ hSw).trans (show _ = some _ from rfl); have hy3 := (cell_of_row _ _ 3 _ _ _ hSw).trans (show _ = some _ from rfl); have hy4 := (cell_of_row _ _ 4 _ _ _ hSw).trans (show _ = some _ from rfl); have hy5 := (cell_of_row _ _ 5 _ _ _ hSw).trans (show _ = some _ from rfl); clear hSw; go_simp; try (with_reducible rfl))
  try simp only [Act.put, List.setIfInBounds_toArray, List.set_cons_zero, List.set_cons_succ]
  refine wpAnyH_take (i := 9) (v := ?zv9) (by simp only [List.getElem?_toArray, List.getElem?_cons_succ, List.getElem?_cons_zero]; rfl) (by kernel_rfl) (by kernel_rfl) (by kernel_rfl) (by exact fun _ _ _ h => h) (Or.inl ⟨by kernel_rfl, ?zy9⟩) hHeld ?_
  case zy9 => (intro w hSw; (try dsimp only at hSw); have hy1 := (cell_of_row _ _ 1 _ _ _ hSw).trans (show _ = some _ from rfl); have hy2 := (cell_of_row _ _ 2 _ _ _ hSw).trans (show _ = some _ from rfl); have hy3 := (cell_of_row _ _ 3 _ _ _ hSw).trans (show _ = some _ from rfl); have hy4 := (cell_of_row _ _ 4 _ _ _ hSw).trans (show _ = some _ from rfl); have hy5 := (cell_of_row _ _ 5 _ _ _ hSw).trans (show _ = some _ from rfl); clear hSw; go_simp; try (with_reducible rfl))
  try simp only [Act.put, List.setIfInBounds_toArray, List.set_cons_zero, List.set_cons_succ]
  refine wpAnyH_take (i := 10) (v := ?zv10) (by simp only [List.getElem?_toArray, List.getElem?_cons_succ, List.getElem?_cons_zero]; rfl) (by kernel_rfl) (by kernel_rfl) (by kernel_rfl) (by exact fun _ _ _ h => h) (Or.inl ⟨by kernel_rfl, ?zy10⟩) hHeld ?_
  case zy10 => (intro w hSw; (try dsimp only at hSw); have hy1 := (cell_of_row _ _ 1 _ _ _ hSw).trans (show _ = some _ from rfl); have hy2 := (cell_of_row _ _ 2 _ _ _ hSw).trans (show _ = some _ from rfl); have hy3 := (cell_of_row _ _ 3 _ _ _ hSw).trans (show _ = some _ from rfl); have hy4 := (cell_of_row _ _ 4 _ _ _ hSw).trans (show _ = some _ from rfl); have hy5 := (cell_of_row _ _ 5 _ _ _ hSw).trans (show _ = some _ from rfl); clear hSw; go_simp; try (with_reducible rfl))
  try simp only [Act.put, List.setIfInBounds_toArray, List.set_cons_zero, List.set_cons_succ]
  refine wpAnyH_take (i := 11) (v := ?zv11) (by simp only [List.getElem?_toArray, List.getElem?_cons_succ, List.getElem?_cons_zero]; rfl) (by kernel_rfl) (by kernel_rfl) (by kernel_rfl) (by exact fun _ _ _ h => h) (Or.inl ⟨by kernel_rfl, ?zy11⟩) hHeld ?_
  case zy11 => (intro w hSw; (try dsimp only at hSw); have hy1 := (cell_of_row _ _ 1 _ _ _ hSw).trans (show _ = some _ from rfl); have hy2 := (cell_of_row _ _ 2 _ _ _ hSw).trans (show _ = some _ from rfl); have hy3 := (cell_of_row _ _ 3 _ _ _ hSw).trans (show _ = some _ from rfl); have hy4 := (cell_of_row _ _ 4 _ _ _ hSw).trans (show _ = some _ from rfl); have hy5 := (cell_of_row _ _ 5 _ _ _ hSw).trans (show _ = some _ from rfl); clear hSw; go_simp; try (with_reducible rfl))
  try simp only [Act.put, List.setIfInBounds_toArray, List.set_cons_zero, List.set_cons_succ]
  refine wpAnyH_take (i := 13) (v := ?zv13) (by simp only [List.getElem?_toArray, List.getElem?_cons_succ, List.getElem?_cons_zero]; rfl) (by kernel_rfl) (by kernel_rfl) (by kernel_rfl) (by exact fun _ _ _ h => h) (Or.inl ⟨by kernel_rfl, ?zy13⟩) hHeld ?_
  case zy13 => (intro w hSw; (try dsimp only at hSw); have hy1 := (cell_of_row _ _ 1 _ _ _ hSw).trans (show _ = some _ from rfl); have hy2 := (cell_of_row _ _ 2 _ _ _ hSw).trans (show _ = some _ from rfl); have hy3 := (cell_of_row _ _ 3 _ _ _ hSw).trans (show _ = some _ from rfl); have hy4 := (cell_of_row _ _ 4 _ _ _ hSw).trans (show _ = some _ from rfl); have hy5 := (cell_of_row _ _ 5 _ _ _ hSw).trans (show _ = some _ from rfl); clear hSw; go_simp; try (with_reducible rfl))
  try simp only [Act.put, List.setIfInBounds_toArray, List.set_cons_zero, List.set_cons_succ]
  refine wpAnyH_take (i := 14) (v := ?zv14) (by simp only [List.getElem?_toArray, List.getElem?_cons_succ, List.getElem?_cons_zero]; rfl) (by kernel_rfl) (by kernel_rfl) (by kernel_rfl) (by exact fun _ _ _ h => h) (Or.inl ⟨by kernel_rfl, ?zy14⟩) hHeld ?_
  case zy14 => (intro w hSw; (try dsimp only at hSw); have hy1 := (cell_of_row _ _ 1 _ _ _ hSw).trans (show _ = some _ from rfl); have hy2 := (cell_of_row _ _ 2 _ _ _ hSw).trans (show _ = some _ from rfl); have hy3 := (cell_of_row _ _ 3 _ _ _ hSw).trans (show _ = some _ from rfl); have hy4 := (cell_of_row _ _ 4 _ _ _ hSw).trans (show _ = some _ from rfl); have hy5 := (cell_of_row _ _ 5 _ _ _ hSw).trans (show _ = some _ from rfl); clear hSw; go_simp; try (with_reducible rfl))
  try simp only [Act.put, List.setIfInBounds_toArray, List.set_cons_zero, List.set_cons_succ]
  refine wpAnyH_take (i := 15) (v := ?zv15) (by simp only [List.getElem?_toArray, List.getElem?_cons_succ, List.getElem?_cons_zero]; rfl) (by kernel_rfl) (by kernel_rfl) (by kernel_rfl) (by exact fun _ _ _ h => h) (Or.inl ⟨by kernel_rfl, ?zy15⟩) hHeld ?_
  case zy15 => (intro w hSw; (try dsimp only at hSw); have hy1 := (cell_of_row _ _ 1 _ _ _ hSw).trans (show _ = some _ from rfl); have hy2 := (cell_of_row _ _ 2 _ _ _ hSw).trans (show _ = some _ from rfl); have hy3 := (cell_of_row _ _ 3 _ _ _ hSw).trans (show _ = some _ from rfl); have hy4 := (cell_of_row _ _ 4 _ _ _ hSw).trans (show _ = some _ from rfl); have hy5 := (cell_of_row _ _ 5 _ _ _ hSw).trans (show _ = some _ from rfl); clear hSw; go_simp; try (with_reducible rfl))
  try simp only [Act.put, List.setIfInBounds_toArray, List.set_cons_zero, List.set_cons_succ]
  refine wpAnyH_take (i := 17) (v := ?zv17) (by simp only [List.getElem?_toArray, List.getElem?_cons_succ, List.getElem?_cons_zero]; rfl) (by kernel_rfl) (by kernel_rfl) (by kernel_rfl) (by exact fun _ _ _ h => h) (Or.inl ⟨by kernel_rfl, ?zy17⟩) hHeld ?_
  case zy17 => (intro w hSw; (try dsimp only at hSw); have hy1 := (cell_of_row _ _ 1 _ _ _ hSw).trans (show _ = some _ from rfl); have hy2 := (cell_of_row _ _ 2 _ _ _ hSw).trans (show _ = some _ from rfl); have hy3 := (cell_of_row _ _ 3 _ _ _ hSw).trans (show _ = some _ from rfl); have hy4 := (cell_of_row _ _ 4 _ _ _ hSw).trans (show _ = some _ from rfl); have hy5 := (cell_of_row _ _ 5 _ _ _ hSw).trans (show _ = some _ from rfl); clear hSw; go_simp; try (with_reducible rfl))
  try simp only [Act.put, List.setIfInBounds_toArray, List.set_cons_zero, List.set_cons_succ]
  refine wpAnyH_take (i := 18) (v := ?zv18) (by simp only [List.getElem?_toArray, List.getElem?_cons_succ, List.getElem?_cons_zero]; rfl) (by kernel_rfl) (by kernel_rfl) (by kernel_rfl) (by exact fun _ _ _ h => h) (Or.inl ⟨by kernel_rfl, ?zy18⟩) hHeld ?_
  case zy18 => (intro w hSw; (try dsimp only at hSw); have hy1 := (cell_of_row _ _ 1 _ _ _ hSw).trans (show _ = some _ from rfl); have hy2 := (cell_of_row _ _ 2 _ _ _ hSw).trans (show _ = some _ from rfl); have hy3 := (cell_of_row _ _ 3 _ _ _ hSw).trans (show _ = some _ from rfl); have hy4 := (cell_of_row _ _ 4 _ _ _ hSw).trans (show _ = some _ from rfl); have hy5 := (cell_of_row _ _ 5 _ _ _ hSw).trans (show _ = some _ from rfl); clear hSw; go_simp; try (with_reducible rfl))
  try simp only [Act.put, List.setIfInBounds_toArray, List.set_cons_zero, List.set_cons_succ]
  refine wpAnyH_ready (rs := [4]) (by kernel_rfl) (by simp) ?_
  refine AllReadyH.cons (by simp only [List.getElem?_toArray, List.getElem?_cons_succ, List.getElem?_cons_zero]; rfl) (fun KK hKK => ?_) AllReadyH.nil
  rw [if_pos (by kernel_rfl)]
  go_simp
  (with_reducible refine (hIa _ hTz.drew).mono ?_)
  rintro e wc1 ⟨rfl, h9⟩
  have h9 := below_undrew2 h9
  have kA := (h9.block _ (Array.getElem?_eq_some_iff.1 kA).1).trans kA
  have hTz := hTz.ext h9
  have hb := hb.trans (h9.mono hb.size)
  clear h9
  go_wp2_with fail
  refine hKK.out _ _ ?_ (fun hHeld => ?_)
  · exact kA
  clear hKK KK
  try simp only [Act.put, List.setIfInBounds_toArray, List.set_cons_zero, List.set_cons_succ]
  refine wpAnyH_ready (rs := [8]) (by kernel_rfl) (by simp) ?_
  refine AllReadyH.cons (by simp only [List.getElem?_toArray, List.getElem?_cons_succ, List.getElem?_cons_zero]; rfl) (fun KK hKK => ?_) AllReadyH.nil
  rw [if_pos (by kernel_rfl)]
  go_simp
  (with_reducible refine (hIb _ hTz).mono ?_)
  rintro e wc2 ⟨rfl, h9⟩
  have kA := (h9.block _ (Array.getElem?_eq_some_iff.1 kA).1).trans kA
  have hTz := hTz.ext h9
  have hb := hb.trans (h9.mono hb.size)
  clear h9
  go_wp2_with fail
  refine hKK.out _ _ ?_ (fun hHeld => ?_)
  · exact kA
  clear hKK KK
  try simp only [Act.put, List.setIfInBounds_toArray, List.set_cons_zero, List.set_cons_succ]
  refine wpAnyH_ready (rs := [12]) (by kernel_rfl) (by simp) ?_
  refine AllReadyH.cons (by simp only [List.getElem?_toArray, List.getElem?_cons_succ, List.getElem?_cons_zero]; rfl) (fun KK hKK => ?_) AllReadyH.nil
  rw [if_pos (by kernel_rfl)]
  go_simp
  (with_reducible refine (hIc _ hTz).mono ?_)
  rintro e wc3 ⟨rfl, h9⟩
  have kA := (h9.block _ (Array.getElem?_eq_some_iff.1 kA).1).trans kA
  have hTz := hTz.ext h9
  have hb := hb.trans (h9.mono hb.size)
  clear h9
  go_wp2_with fail
  refine hKK.out _ _ ?_ (fun hHeld => ?_)
  · exact kA
  clear hKK KK
  try simp only [Act.put, List.setIfInBounds_toArray, List.set_cons_zero, List.set_cons_succ]
  refine wpAnyH_ready (rs := [16]) (by kernel_rfl) (by simp) ?_
  refine AllReadyH.cons (by simp only [List.getElem?_toArray, List.getElem?_cons_succ, List.getElem?_cons_zero]; rfl) (fun KK hKK => ?_) AllReadyH.nil
  rw [if_pos (by kernel_rfl)]
  go_simp
  (with_reducible refine (hIn _ hTz).mono ?_)
  rintro e wc4 ⟨rfl, h9⟩
  have kA := (h9.block _ (Array.getElem?_eq_some_iff.1 kA).1).trans kA
  have hTz := hTz.ext h9
  have hb := hb.trans (h9.mono hb.size)
  clear h9
  go_wp2_with fail
  refine hKK.out _ _ ?_ (fun hHeld => ?_)
  · exact kA
  clear hKK KK
  try simp only [Act.put, List.setIfInBounds_toArray, List.set_cons_zero, List.set_cons_succ]
  refine wpAnyH_ready (rs := [19]) (by kernel_rfl) (by simp) ?_
  refine AllReadyH.cons (by simp only [List.getElem?_toArray, List.getElem?_cons_succ, List.getElem?_cons_zero]; rfl) (fun KK hKK => ?_) AllReadyH.nil
  rw [if_pos (by kernel_rfl)]
  go_simp
  (with_reducible refine (hM _ hTz.z).mono ?_)
  rintro e wc5 ⟨rfl, h9⟩
  have kA := (h9.block _ (Array.getElem?_eq_some_iff.1 kA).1).trans kA
  have hTz := hTz.ext h9
  have hb := hb.trans (h9.mono hb.size)
  clear h9
  go_wp2_with fail
  refine hKK.out _ _ ?_ (fun hHeld => ?_)
  · exact kA
  clear hKK KK
  try simp only [Act.put, List.setIfInBounds_toArray, List.set_cons_zero, List.set_cons_succ]
  refine wpAnyH_ready (rs := [20]) (by kernel_rfl) (by simp) ?_
  refine AllReadyH.cons (by simp only [List.getElem?_toArray, List.getElem?_cons_succ, List.getElem?_cons_zero]; rfl) (fun KK hKK => ?_) AllReadyH.nil
  rw [if_pos (by kernel_rfl)]
  go_simp
  have kL := heap_alloc_new wc5 (.cells #[.string ⟨sw.toArray⟩, .string ⟨sa.toArray⟩, .string ⟨sb.toArray⟩, .string ⟨sc.toArray⟩, .string ⟨sn.toArray⟩, .string ⟨sm.toArray⟩] 9)
  have kA := (Below.heap_alloc wc5 (.cells #[.string ⟨sw.toArray⟩, .string ⟨sa.toArray⟩, .string ⟨sb.toArray⟩, .string ⟨sc.toArray⟩, .string ⟨sn.toArray⟩, .string ⟨sm.toArray⟩] 9) _ (Array.getElem?_eq_some_iff.1 kA).1).trans kA
  have hb := hb.alloc hb.size (.cells #[.string ⟨sw.toArray⟩, .string ⟨sa.toArray⟩, .string ⟨sb.toArray⟩, .string ⟨sc.toArray⟩, .string ⟨sn.toArray⟩, .string ⟨sm.toArray⟩] 9)
  refine hKK.out _ _ ?_ (fun hHeld => ?_)
  · exact kA
  clear hKK KK
  try simp only [Act.put, List.setIfInBounds_toArray, List.set_cons_zero, List.set_cons_succ]
  refine wpAnyH_ready (rs := [21]) (by kernel_rfl) (by simp) ?_
  refine AllReadyH.cons (by simp only [List.getElem?_toArray, List.getElem?_cons_succ, List.getElem?_cons_zero]; rfl) (fun KK hKK => ?_) AllReadyH.nil
  rw [if_pos (by kernel_rfl)]
  go_simp
  (with_reducible refine (hJo _ _ _ kL).mono ?_)
  rintro e wc9 ⟨rfl, h9⟩
  have kA := (h9.block _ (Array.getElem?_eq_some_iff.1 kA).1).trans kA
  have hb := hb.trans (h9.mono hb.size)
  clear h9
  go_wp2_with fail
  refine hKK.out _ _ ?_ (fun hHeld => ?_)
  · exact kA
  clear hKK KK
  try simp only [Act.put, List.setIfInBounds_toArray, List.set_cons_zero, List.set_cons_succ]
  refine wpAnyH_take (i := 22) (v := ?zv22) (by simp only [List.getElem?_toArray, List.getElem?_cons_succ, List.getElem?_cons_zero]; rfl) (by kernel_rfl) (by kernel_rfl) (by kernel_rfl) (by exact fun _ _ _ h => h) (Or.inl ⟨by kernel_rfl, ?zy22⟩) hHeld ?_
  case zy22 => (intro w hSw; (try dsimp only at hSw); have hy1 := (cell_of_row _ _ 1 _ _ _ hSw).trans (show _ = some _ from rfl); have hy2 := (cell_of_row _ _ 2 _ _ _ hSw).trans (show _ = some _ from rfl); have hy3 := (cell_of_row _ _ 3 _ _ _ hSw).trans (show _ = some _ from rfl); have hy4 := (cell_of_row _ _ 4 _ _ _ hSw).trans (show _ = some _ from rfl); have hy5 := (cell_of_row _ _ 5 _ _ _ hSw).trans (show _ = some _ from rfl); clear hSw; go_simp; try (with_reducible rfl))
  try simp only [Act.put, List.setIfInBounds_toArray, List.set_cons_zero, List.set_cons_succ]
  refine wpAnyH_done (by kernel_rfl) ?_ _
  go_wp2
  go_ret
  exact ⟨rfl, hb⟩
end Go.Proofs.YtdmjkgafnnjkkaaDoor
