/- Parts of one proof, in their order. -/
import Derived.Test.YtfckgfoimpileaaDoorZCodeForms03
import Derived.Test.YtfckgfoimpileaaDoorRows
import Derived.Deep.DeepCutAuto
import Derived.Laws.BitsAllLaws
import Derived.ProofKit
import Derived.OpenShut
import Derived.ShutString
import Derived.ChangeOld
import Derived.Deep.Slices
import Derived.Deep.Fields
import Derived.Lib.SmallJoins
import Derived.LaidSub
/- Steps on instructions, each by one closed fact (code's seat). Conditions: those said. -/
namespace Go.Proofs.YtfckgfoimpileaaDoor
open Go.RowKit

section
variable {ops : Array Oper} {S : World → Prop} {op : Oper} {a : Act}
theorem yk (v : Value) (hw : Region.wanted op (yielded ops a.tmps) = true) (h : ∀ w, (execOp a.eval op).run Tryd.prog w = .ok (.value v) w) : YieldsIf Tryd.prog ops S op v a := .inl ⟨hw, fun w _ => h w⟩
theorem yk_no (hw : Region.wanted op (yielded ops a.tmps) = false) : YieldsIf Tryd.prog ops S op undef a := .inr ⟨hw, rfl⟩
theorem yk_ldU (hw : Region.wanted op (yielded ops a.tmps) = true) (x : Operand) (ho : op.op = .load 5 x) (p : Addr) (v : Int) (hx : a.eval x = .pointer (some p)) (hS : ∀ w, S w → w.cell? p = some (.int .u8 v)) : YieldsIf Tryd.prog ops S op (.int .u8 v) a :=
  .inl ⟨hw, fun w h => by
    have hc := hS w h
    unfold execOp
    simp only [ho, hx]
    go_simp⟩
theorem yk_ldI (hw : Region.wanted op (yielded ops a.tmps) = true) (x : Operand) (ho : op.op = .load 21 x) (p : Addr) (v : Int) (hx : a.eval x = .pointer (some p)) (hS : ∀ w, S w → w.cell? p = some (.int .i32 v)) : YieldsIf Tryd.prog ops S op (.int .i32 v) a :=
  .inl ⟨hw, fun w h => by
    have hc := hS w h
    unfold execOp
    simp only [ho, hx]
    go_simp⟩
theorem yk_ldW (hw : Region.wanted op (yielded ops a.tmps) = true) (x : Operand) (ho : op.op = .load 30 x) (p : Addr) (v : Int) (hx : a.eval x = .pointer (some p)) (hS : ∀ w, S w → w.cell? p = some (.int .u32 v)) : YieldsIf Tryd.prog ops S op (.int .u32 v) a :=
  .inl ⟨hw, fun w h => by
    have hc := hS w h
    unfold execOp
    simp only [ho, hx]
    go_simp⟩
theorem yk_cvW (hw : Region.wanted op (yielded ops a.tmps) = true) (x : Operand) (ho : op.op = .convert 76 30 x) (y : Int) (hx : a.eval x = .int .u64 y) (hy : IntKind.u32.wrap y = y) : YieldsIf Tryd.prog ops S op (.int .u32 y) a :=
  .inl ⟨hw, fun w _ => by
    unfold execOp
    simp only [ho, hx]
    go_simp⟩
theorem yk_cvL (hw : Region.wanted op (yielded ops a.tmps) = true) (x : Operand) (ho : op.op = .convert 30 76 x) (y : Int) (hx : a.eval x = .int .u32 y) (hy : IntKind.u64.wrap y = y) : YieldsIf Tryd.prog ops S op (.int .u64 y) a :=
  .inl ⟨hw, fun w _ => by
    unfold execOp
    simp only [ho, hx]
    go_simp⟩
theorem yk_cvU (hw : Region.wanted op (yielded ops a.tmps) = true) (x : Operand) (ho : op.op = .convert 21 30 x) (y u : Int) (hx : a.eval x = .int .i32 y) (hy : IntKind.u32.wrap y = u) : YieldsIf Tryd.prog ops S op (.int .u32 u) a :=
  .inl ⟨hw, fun w _ => by
    subst hy
    unfold execOp
    simp only [ho, hx]
    go_simp⟩
variable {w : World} {K : Act → World → Prop} {Q : Exit → Act → World → Prop}
theorem wp_callF (f : FuncId) (args : Array Value) (hrun : (execOp a.eval op).run Tryd.prog w = .ok (.enter f args) w)
    (hc : Calls Tryd.prog f args w fun e w' => ∃ v, e = .returned v ∧ K (a.put op.dst v) w') : op.wp Tryd.prog a w K Q := by
  unfold Oper.wp
  rw [hrun, Oper.upon_enter]
  refine hc.mono fun e w'' hh => ?_
  obtain ⟨v, rfl, hk⟩ := hh
  exact hk
theorem wp_bsK (x : Operand) (ho : op.op = .buildSlice 28 1 #[(0, x)]) (c : Cd) (hx : a.eval x = .agg (cdA c))
    (h : K (a.put op.dst (.slice (some ⟨w.heap.size, 0, none⟩) 1 1)) (w.alloc (.cells (cdA c) 55))) : op.wp Tryd.prog a w K Q := by
  have hr : (Instr.buildSlice 28 1 #[(0, .agg (cdA c))]).run Tryd.prog w = .ok (.slice (some ⟨w.heap.size, 0, none⟩) 1 1) (w.alloc (.cells (cdA c) 55)) := by kernel_rfl
  unfold Oper.wp execOp
  simp only [ho, List.map_toArray, List.map_cons, List.map_nil, hx, Sem.run_bind, hr, Result.andThen_ok, Sem.run_pure]
  exact h
theorem wp_appKr (s x : Operand) (ho : op.op = .call { callee := .builtin .append, args := #[s, x], argTypes := #[28, 28] })
    (B : Nat) (v : Value) (L : List Cd) (hs : a.eval s = v) (hown : RowK 55 w B v L)
    (b : Nat) (A : Option Addr) (m c : Nat) (M : List Cd) (hx : a.eval x = .slice A m c) (hr : Sl w b A (kv M)) (hm : M.length = m)
    (hlen : L.length + m ≤ 1000000) (hbase : B ≤ w.heap.size)
    (h : ∀ v' w', RowK 55 w' B v' (L ++ M) → Mod (fun i => v.ownBlock = some i) w w' → K (a.put op.dst v') w') : op.wp Tryd.prog a w K Q := by
  obtain ⟨i0, hi0, hz0, hz1, hz2⟩ := info_parts codeR_info
  refine wp_append_sl (P := Tryd.prog) w s x _ ho B 55 i0 _ 6 12 Tryd.underlying28 hi0 hz0 hz1 hz2 rfl (by omega) v L.length (kv L) hs hown b A m c (kv M) hx hr (by simp [hm]) (fun hA => by have := Sl.none_len hr rfl hA; simp at this; omega) (kv_one _)
    (by simp only [maxLen]; omega) (by omega) hbase ?_
  intro v' w' h1 h2 _
  exact h v' w' (by unfold RowK; rw [List.length_append, hm, kv_append]; exact h1) (Mod.of_grown h2)
theorem wp_bs4 (x y z t : Operand) (ho : op.op = .buildSlice 47 4 #[(0, x), (1, y), (2, z), (3, t)]) (A1 : Option Addr) (n1 c1 : Nat) (A2 : Option Addr) (n2 c2 : Nat) (A3 : Option Addr) (n3 c3 : Nat) (A4 : Option Addr) (n4 c4 : Nat) (hx : a.eval x = .slice A1 n1 c1) (hy : a.eval y = .slice A2 n2 c2) (hz : a.eval z = .slice A3 n3 c3) (ht : a.eval t = .slice A4 n4 c4)
    (h : K (a.put op.dst (.slice (some ⟨w.heap.size, 0, none⟩) 4 4)) (w.alloc (.cells #[.slice A1 n1 c1, .slice A2 n2 c2, .slice A3 n3 c3, .slice A4 n4 c4] 36))) : op.wp Tryd.prog a w K Q := by
  have hr : (Instr.buildSlice 47 4 #[(0, .slice A1 n1 c1), (1, .slice A2 n2 c2), (2, .slice A3 n3 c3), (3, .slice A4 n4 c4)]).run Tryd.prog w = .ok (.slice (some ⟨w.heap.size, 0, none⟩) 4 4) (w.alloc (.cells #[.slice A1 n1 c1, .slice A2 n2 c2, .slice A3 n3 c3, .slice A4 n4 c4] 36)) := by kernel_rfl
  unfold Oper.wp execOp
  simp only [ho, List.map_toArray, List.map_cons, List.map_nil, hx, hy, hz, ht, Sem.run_bind, hr, Result.andThen_ok, Sem.run_pure]
  exact h
theorem wp_bsB4 (x y z t : Operand) (ho : op.op = .buildSlice 36 4 #[(0, x), (1, y), (2, z), (3, t)]) (i j k l : Int) (hx : a.eval x = .int .u8 i) (hy : a.eval y = .int .u8 j) (hz : a.eval z = .int .u8 k) (ht : a.eval t = .int .u8 l)
    (h : K (a.put op.dst (.slice (some ⟨w.heap.size, 0, none⟩) 4 4)) (w.alloc (.cells #[.int .u8 i, .int .u8 j, .int .u8 k, .int .u8 l] 5))) : op.wp Tryd.prog a w K Q := by
  have hr : (Instr.buildSlice 36 4 #[(0, .int .u8 i), (1, .int .u8 j), (2, .int .u8 k), (3, .int .u8 l)]).run Tryd.prog w = .ok (.slice (some ⟨w.heap.size, 0, none⟩) 4 4) (w.alloc (.cells #[.int .u8 i, .int .u8 j, .int .u8 k, .int .u8 l] 5)) := by kernel_rfl
  unfold Oper.wp execOp
  simp only [ho, List.map_toArray, List.map_cons, List.map_nil, hx, hy, hz, ht, Sem.run_bind, hr, Result.andThen_ok, Sem.run_pure]
  exact h
end
theorem bs_atK {w : World} {b off : Nat} {l : List UInt8} (h : Bs w b (some ⟨b, off, none⟩) l) {k : Nat} (hk : k < l.length) : w.cell? ⟨b, off + k, none⟩ = some (.int .u8 (l[k].toNat : Int)) := by
  obtain ⟨off', e, h1⟩ := Bs.at_ h hk
  injection e with e
  injection e with _ e _
  subst e
  exact h1 k hk
theorem bs_sub {w : World} {b off : Nat} {l : List UInt8} (h : Bs w b (some ⟨b, off, none⟩) l) (i m : Nat) : Bs w b (some ⟨b, off + i, none⟩) ((l.drop i).take m) := fun hx => by
  have hl : bv l ≠ [] := by
    rintro h0
    rw [bv_nil_iff] at h0
    subst h0
    simp at hx
  obtain ⟨off', e, hc⟩ := h hl
  injection e with e
  injection e with _ e _
  subst e
  refine ⟨off + i, rfl, fun j u hu => ?_⟩
  rw [Nat.add_assoc]
  refine hc (i + j) u ?_
  rw [← bv_take, ← bv_drop, List.getElem?_take] at hu
  split at hu
  · rw [← hu, List.getElem?_drop]
  · cases hu
theorem bs_drop {w : World} {b off : Nat} {l : List UInt8} (h : Bs w b (some ⟨b, off, none⟩) l) (i : Nat) : Bs w b (some ⟨b, off + i, none⟩) (l.drop i) := by
  have := bs_sub h i (l.drop i).length
  rwa [List.take_length] at this
theorem rowsK_nil {l : List UInt8} (bad : Bool) (h : l = []) : ∀ k, (rowsK l bad k).l = []
  | 0 => h
  | k + 1 => by
    have h0 := rowsK_nil bad h k
    show (rowK (rowsK l bad k)).l = []
    obtain ⟨n0, l0, b0, y0⟩ : ∃ n l' b, rdN 1 (rowsK l bad k).l (rowsK l bad k).bad = (n, l', b) := ⟨_, _, _, rfl⟩
    obtain ⟨n1, l1, b1, y1⟩ : ∃ n l b, rdN 1 l0 b0 = (n, l, b) := ⟨_, _, _, rfl⟩
    obtain ⟨n2, l2, b2, y2⟩ : ∃ n l b, rdN 1 l1 b1 = (n, l, b) := ⟨_, _, _, rfl⟩
    obtain ⟨n3, l3, b3, y3⟩ : ∃ n l b, rdN 1 l2 b2 = (n, l, b) := ⟨_, _, _, rfl⟩
    obtain ⟨n4, l4, b4, y4⟩ : ∃ n l b, rdN 4 l3 b3 = (n, l, b) := ⟨_, _, _, rfl⟩
    obtain ⟨n5, l5, b5, y5⟩ : ∃ n l b, rdN 4 l4 b4 = (n, l, b) := ⟨_, _, _, rfl⟩
    rw [rowK_of y0 y1 y2 y3 y4 y5]
    exact rdN_nil y5 (rdN_nil y4 (rdN_nil y3 (rdN_nil y2 (rdN_nil y1 (rdN_nil y0 h0)))))
end Go.Proofs.YtfckgfoimpileaaDoor
/- code.Parse of any bytes. Conditions: those said. -/
namespace Go.Proofs.YtfckgfoimpileaaDoor
open Go.RowKit
set_option linter.unusedVariables false

/-- What holds in the loop. -/
structure FK (w : World) (g be wB : Nat) (l : List UInt8) (bad : Bool) (W : World) (v : Value) (cs : List Cd) : Prop where
  e : EyeAt W g be l bad
  r : RowK 33 W wB v cs
  bl : Below w.heap.size w W
  zB : wB ≤ W.heap.size
  n : g < wB ∧ w.heap.size ≤ g ∧ w.heap.size ≤ wB
namespace FK
variable {w W W' : World} {g be wB : Nat} {l l' : List UInt8} {bad bad' : Bool} {v v' : Value} {cs cs' : List Cd}
theorem ext (f : FK w g be wB l bad W v cs) (x : Below W.heap.size W W') : FK w g be wB l bad W' v cs := ⟨f.e.ext x, f.r.ext x, f.bl.trans (x.mono f.bl.size), Nat.le_trans f.zB x.size, f.n⟩
theorem eye (f : FK w g be wB l bad W v cs) (e : EyeAt W' g be l' bad') (hm : Mod (fun i => i = g) W W') : FK w g be wB l' bad' W' v cs :=
  have n := f.n
  ⟨e, owns_modK f.r hm (fun i hi h => by have := (World.ownsRow.lt f.r i hi).1; omega), f.bl.trans (hm.below (B := w.heap.size) f.bl.size (fun i hi h => by omega)), Nat.le_trans f.zB hm.size, n⟩
theorem app (f : FK w g be wB l bad W v cs) (r : RowK 33 W' wB v' cs') (hm : Mod (fun i => v.ownBlock = some i) W W') (hbe : l ≠ [] → be < wB) : FK w g be wB l bad W' v' cs' :=
  have n := f.n
  have hl := fun i h => (World.ownsRow.lt f.r i h).1
  ⟨f.e.modne hm (fun h => by have := hl _ h; omega) (fun hne h => by have := hl _ h; have := hbe hne; omega), r, f.bl.trans (hm.below (B := w.heap.size) f.bl.size (fun i hi h => by have := hl _ h; omega)), Nat.le_trans f.zB hm.size, n⟩
end FK
set_option maxHeartbeats 16000000 in
set_option maxRecDepth 40000 in
theorem KParse_any (A : Option Addr) (p : List UInt8) (n c b : Nat) (w : World) (hs : Bs w b A p) (hn : p.length = n) (hm : n ≤ 100000) (C0 : List Cd) (E0 : Nat)
    (hR : (C0, E0) = if (gotK p).ok then ((gotK p).g.cs, 0) else ([], 2)) :
    Calls Tryd.prog 19 #[.slice A n c] w fun e w' => ∃ v, e = .returned (.tuple #[v, .int .i64 (E0 : Int)]) ∧ RowK 33 w' w.heap.size v C0 ∧ Below w.heap.size w w' := by
  have HR := Lib.hid hR
  clear hR
  go_enter Tryd.func19, Tryd.ntmps19
  go_wp2_with fail
  refine (Read_calls A p n c b _ hs hn (by omega)).mono ?_
  rintro e w3 ⟨g, be, rfl, hE, hg, hbe, hb⟩
  have hbl : p ≠ [] → be < w3.heap.size := fun h0 => by
    obtain ⟨_, Ae, ce, _, _, _, k4⟩ := id hE
    exact Bs.lt k4 h0
  have hgl := hE.lt
  clear hs hn hbe
  go_wp2_with fail
  refine (EyeNum_f g be p false 96 _ hE (by omega)).mono ?_
  rintro e w4 ⟨N, l0, x0, rfl, y0, hN, hE, h1⟩
  have HG : Hid (gotK p = ⟨N, rowsK l0 x0 N⟩) := Lib.hid (by unfold gotK; rw [y0])
  have hln : p = [] → l0 = [] := fun h0 => by
    subst h0
    rw [rdM_nil] at y0
    injection y0 with _ y0
    injection y0 with y0 _
    exact y0.symm
  have hl0 : l0 ≠ [] → be < w3.heap.size := fun h0 => hbl fun h1 => h0 (hln h1)
  replace hb := hb.trans (h1.below hb.size (fun i hi e => by omega))
  have h34 := h1.size
  obtain ⟨wB, hwB⟩ : ∃ wB, wB = w4.heap.size := ⟨_, rfl⟩
  have hzB : wB ≤ w4.heap.size := by omega
  have hbe : ∀ k, (rowsK l0 x0 k).l ≠ [] → be < wB := fun k h0 => by
    have := hl0 fun h1 => h0 (rowsK_nil x0 h1 k)
    omega
  have f : FK w g be wB l0 x0 w4 (.slice none 0 0) [] := ⟨hE, RowK.nil_ _ _ _, hb, hzB, ⟨by omega, by omega, by have := hb.size; omega⟩⟩
  have HBE := Lib.hid hbe
  clear h1 y0 hE hb hwB hzB hbl hgl hg hln hl0 h34 hbe
  go_wp2_with fail
  go_loopw [5, 10] (fun v i wr => ∃ k : Nat, k ≤ N ∧ i = .int .u64 (k : Int) ∧ FK w g be wB (rowsK l0 x0 k).l (rowsK l0 x0 k).bad wr v (rowsK l0 x0 k).cs) (fun _ i _ => N - (intOf i).toNat)
  case atStart => exact ⟨0, Nat.zero_le _, rfl, f⟩
  case round =>
    clear f
    obtain ⟨k, hk, rfl, f⟩ := hrel
    rename_i v0 _
    have HL := Lib.hid (rowsK_len l0 x0 k)
    by_cases hlt : k < N
    · have HS : Hid (rowsK l0 x0 (k + 1) = rowK (rowsK l0 x0 k)) := Lib.hid rfl
      have HB1 := Lib.hid (HBE.out (k + 1))
      obtain ⟨R, hRk⟩ : ∃ R, R = rowsK l0 x0 k := ⟨_, rfl⟩
      rw [← hRk] at f HS HL
      clear hRk
      have ej : (k : Int) < (N : Int) := by omega
      go_wp2_with fail
      refine (EyeByte_f g be R.l R.bad _ f.e).mono ?_
      rintro e w10 ⟨n0, l6, x6, rfl, z0, hn0, hE, h1⟩
      replace f := f.eye hE h1
      clear hE h1
      go_wp2_with fail
      refine (EyeByte_f g be l6 x6 _ f.e).mono ?_
      rintro e w11 ⟨n1, l1, x1, rfl, z1, hn1, hE, h1⟩
      replace f := f.eye hE h1
      clear hE h1
      go_wp2_with fail
      refine (EyeByte_f g be l1 x1 _ f.e).mono ?_
      rintro e w12 ⟨n2, l2, x2, rfl, z2, hn2, hE, h1⟩
      replace f := f.eye hE h1
      clear hE h1
      go_wp2_with fail
      refine (EyeByte_f g be l2 x2 _ f.e).mono ?_
      rintro e w13 ⟨n3, l3, x3, rfl, z3, hn3, hE, h1⟩
      replace f := f.eye hE h1
      clear hE h1
      go_wp2_with fail
      refine (EyeWord_f g be l3 x3 _ f.e).mono ?_
      rintro e w14 ⟨n4, l4, x4, rfl, z4, hn4, hE, h1⟩
      replace f := f.eye hE h1
      clear hE h1
      go_wp2_with fail
      refine (EyeWord_f g be l4 x4 _ f.e).mono ?_
      rintro e w15 ⟨n5, l5, x5, rfl, z5, hn5, hE, h1⟩
      replace f := f.eye hE h1
      clear hE h1
      have HRK := Lib.hid (rowK_of z0 z1 z2 z3 z4 z5)
      have hbe5 : Hid (l5 ≠ [] → be < wB) := Lib.hid (by have := HB1.out; rw [HS.out, HRK.out] at this; exact this)
      have hcw : IntKind.i32.wrap (n4 : Int) = wrap32 (n4 : Int) := IntWalk.i32_left _
      have hsn := sl_new w15 (kv [⟨n0, n1, n2, n3, IntKind.i32.wrap (n4 : Int), n5⟩]) 33
      rw [show (kv [⟨n0, n1, n2, n3, IntKind.i32.wrap (n4 : Int), n5⟩]).toArray = #[.int .u8 (n0 : Int), .int .u8 (n1 : Int), .int .u8 (n2 : Int), .int .u8 (n3 : Int), .int .i32 (wrap32 (n4 : Int)), .int .u32 (n5 : Int)] by rw [← hcw]; rfl] at hsn
      have ha := below_alloc1 w15 (.cells #[.int .u8 (n0 : Int), .int .u8 (n1 : Int), .int .u8 (n2 : Int), .int .u8 (n3 : Int), .int .i32 (wrap32 (n4 : Int)), .int .u32 (n5 : Int)] 33)
      have f2 := f.ext ha
      have HLL := Lib.hid (show R.cs.length + 1 ≤ 1000000000000 by have := HL.out; omega)
      have hw64 : IntKind.u64.wrap ((k : Int) + 1) = ((k + 1 : Nat) : Int) := by rw [IntKind.wrap_u64]; omega
      clear hcw
      go_wp2_with ((with_reducible refine at_ca 28 _ ?_); refine wpList_appK _ Tryd.underlying22 codeB_info rfl (.tmp 12) (.tmp 27) rfl wB _ R.cs rfl f2.r _ (some ⟨_, 0, none⟩) 1 1 [⟨n0, n1, n2, n3, IntKind.i32.wrap (n4 : Int), n5⟩] rfl hsn rfl HLL.out f2.zB ?_; intro v' w16 hrow hmod hat; replace f2 := f2.app hrow hmod hbe5.out)
      go_roundw
      case rel => exact ⟨k + 1, by omega, by go_num, by rw [HS.out, HRK.out]; exact f2⟩
      case measure => simp [intOf]; omega
    · obtain rfl : k = N := by omega
      obtain ⟨R, hRk⟩ : ∃ R, R = rowsK l0 x0 k := ⟨_, rfl⟩
      rw [← hRk] at f HL HG
      obtain ⟨dn, hdn⟩ : ∃ dn, dn = doneErr R.l R.bad := ⟨_, rfl⟩
      have DC := Done_calls g be R.l R.bad wr f.e
      rw [← hdn] at DC
      obtain ⟨za, hza⟩ : ∃ z, z = (dn != 0) := ⟨_, rfl⟩
      have HOK : Hid ((gotK p).ok = !za) := Lib.hid (by
        rw [HG.out, PK.ok]
        simp only
        rw [hza, hdn, doneErr, Bool.eq_iff_iff]
        by_cases h : R.bad = true ∨ R.l ≠ []
        · rw [if_pos h]
          cases hbd : R.bad <;> simp [hbd] at h ⊢
          exact h
        · rw [if_neg h]
          cases hbd : R.bad <;> simp [hbd] at h ⊢
          exact h)
      have HCS : Hid ((gotK p).g.cs = R.cs) := Lib.hid (by rw [HG.out])
      have hza' := hza.symm
      clear hza hdn hRk HG
      go_wp2_with fail
      refine DC.mono ?_
      rintro e w15 ⟨rfl, rfl⟩
      clear DC
      have hr := HR.out
      rw [HOK.out, HCS.out] at hr
      have HR2 := Lib.hid hr
      clear hr HR
      cases za with
      | true =>
        go_wp2_with fail
        go_ret2
        have hr := HR2.out
        simp only [Bool.not_true, Bool.false_eq_true, if_false, Prod.mk.injEq] at hr
        obtain ⟨rfl, rfl⟩ := hr
        exact ⟨_, rfl, RowK.nil_ _ _ _, f.bl⟩
      | false =>
        go_wp2_with fail
        go_ret2
        have hr := HR2.out
        simp only [Bool.not_false, if_true, Prod.mk.injEq] at hr
        obtain ⟨rfl, rfl⟩ := hr
        exact ⟨_, rfl, own_lowK f.r f.n.2.2, f.bl⟩
end Go.Proofs.YtfckgfoimpileaaDoor
/- The document's Parse of any bytes. Conditions: those said. -/
namespace Go.Proofs.YtfckgfoimpileaaDoor
open Go.RowKit
set_option linter.unusedVariables false

set_option maxHeartbeats 4000000 in
set_option maxRecDepth 20000 in
theorem RKParse_nil (A : Option Addr) (c : Nat) (w : World) : Calls Tryd.prog 24 #[.slice A 0 c] w fun e w' => e = .returned (.tuple #[.slice none 0 0, .bool false]) ∧ Below w.heap.size w w' := by
  go_enter Tryd.func24, Tryd.ntmps24
  go_wp2_with fail
  go_ret2
  exact ⟨rfl, Below.refl _ _⟩
set_option maxHeartbeats 4000000 in
set_option maxRecDepth 20000 in
theorem RKParse_big (b off : Nat) (p : List UInt8) (n c : Nat) (w : World) (hs : Bs w b (some ⟨b, off, none⟩) p) (hn : p.length = n) (h0 : 0 < n) (hbig : 96 < (p[0]'(by omega)).toNat) : Calls Tryd.prog 24 #[.slice (some ⟨b, off, none⟩) n c] w fun e w' => e = .returned (.tuple #[.slice none 0 0, .bool false]) ∧ Below w.heap.size w w' := by
  have g0 := bs_atK hs (k := 0) (by omega)
  obtain ⟨P, hP⟩ : ∃ P, P = (p[0]'(by omega)).toNat := ⟨_, rfl⟩
  rw [← hP] at g0 hbig
  simp only [Nat.add_zero] at g0
  have e1 : ((n : Int) == 0) = false := by simp; omega
  have e2 : decide ((P : Int) > 96) = true := by simp; omega
  have e3 : (0 : Int) < (n : Int) := by omega
  have e4 : (96 : Int) < (P : Int) := by omega
  clear hs hn hP
  go_enter Tryd.func24, Tryd.ntmps24
  go_wp2_with fail
  go_ret2
  exact ⟨rfl, Below.refl _ _⟩
set_option maxHeartbeats 4000000 in
set_option maxRecDepth 20000 in
theorem RKParse_off (b off : Nat) (p : List UInt8) (n c : Nat) (w : World) (hs : Bs w b (some ⟨b, off, none⟩) p) (hn : p.length = n) (h0 : 0 < n) (h96 : (p[0]'(by omega)).toNat ≤ 96) (hoff : n ≠ 1 + 12 * (p[0]'(by omega)).toNat) : Calls Tryd.prog 24 #[.slice (some ⟨b, off, none⟩) n c] w fun e w' => e = .returned (.tuple #[.slice none 0 0, .bool false]) ∧ Below w.heap.size w w' := by
  have g0 := bs_atK hs (k := 0) (by omega)
  obtain ⟨P, hP⟩ : ∃ P, P = (p[0]'(by omega)).toNat := ⟨_, rfl⟩
  rw [← hP] at g0 h96 hoff
  simp only [Nat.add_zero] at g0
  have e1 : ((n : Int) == 0) = false := by simp; omega
  have e2 : decide ((P : Int) > 96) = false := by simp; omega
  have e3 : (0 : Int) < (n : Int) := by omega
  have e4 : ((n : Int) != 1 + 12 * (P : Int)) = true := by simp; omega
  clear hs hn hP
  go_enter Tryd.func24, Tryd.ntmps24
  go_wp2_with fail
  go_ret2
  exact ⟨rfl, Below.refl _ _⟩
set_option maxHeartbeats 16000000 in
set_option maxRecDepth 40000 in
theorem RKParse_on (b off : Nat) (p : List UInt8) (n c N : Nat) (w : World) (hs : Bs w b (some ⟨b, off, none⟩) p) (hn : p.length = n) (hnc : n ≤ c) (h0 : 0 < n) (hN : N = (p[0]'(by omega)).toNat) (h96 : N ≤ 96) (hon : n = 1 + 12 * N) (C0 : List Cd) (hC : C0 = (gotK p).g.cs) :
    Calls Tryd.prog 24 #[.slice (some ⟨b, off, none⟩) n c] w fun e w' => ∃ v, e = .returned (.tuple #[v, .bool true]) ∧ RowK 55 w' w.heap.size v C0 ∧ Below w.heap.size w w' := by
  have g0 := bs_atK hs (k := 0) (by omega)
  rw [← hN] at g0
  simp only [Nat.add_zero] at g0
  have hG := gotK_head (p := p) (by omega) (by omega)
  rw [← hN] at hG
  rw [hG] at hC
  simp only at hC
  have hbl : b < w.heap.size := Bs.lt hs (by rintro rfl; simp at hn; omega)
  have hlong := rowsK_long (l := p.drop 1) (n := N) (by rw [List.length_drop]; omega)
  have e1 : ((n : Int) == 0) = false := by simp; omega
  have e2 : decide ((N : Int) > 96) = false := by simp; omega
  have e3 : (0 : Int) < (n : Int) := by omega
  have e4 : ((n : Int) != 1 + 12 * (N : Int)) = false := by simp; omega
  have e5 : (1 : Int) ≤ (n : Int) := by omega
  have HC := Lib.hid hC
  have HLO := Lib.hid hlong
  have HPN := Lib.hid hn
  have HON := Lib.hid hon
  have hs1 := bs_drop hs 1
  have hb := Below.refl w.heap.size w
  by_cases h1c : c = 1
  · have hn1 : n = 1 := by omega
    obtain rfl : N = 0 := by omega
    subst h1c hn1
    clear hG hC hlong hN hn hon hs
    go_enter Tryd.func24, Tryd.ntmps24
    go_wp2_with fail
    go_loopw [4, 5] (fun v4 v5 wr => v4 = .slice none 0 0 ∧ v5 = .slice (some ⟨b, off, none⟩) 0 0 ∧ wr = w) (fun _ _ _ => 0)
    case atStart => exact ⟨rfl, rfl, rfl⟩
    case round =>
      obtain ⟨rfl, rfl, rfl⟩ := hrel
      go_wp2_with fail
      go_ret2
      exact ⟨_, rfl, by rw [HC.out]; exact RowK.nil_ _ _ _, Below.refl _ _⟩
  · clear hG hC hlong hN hn hon hs
    go_enter Tryd.func24, Tryd.ntmps24
    go_wp2_with fail
    clear g0 e1 e2 e3 e4 e5
    go_loopw [4, 5] (fun v4 v5 wr => ∃ (k m c5 : Nat) (A5 : Option Addr) (vo : Value), vo = v4 ∧ k ≤ N ∧ v5 = .slice A5 m c5 ∧ m = 12 * (N - k) ∧ m ≤ c5 ∧ Bs wr b A5 (rowsK (p.drop 1) false k).l ∧ RowK 55 wr w.heap.size vo (rowsK (p.drop 1) false k).cs ∧ Below w.heap.size w wr) (fun _ v5 _ => (match v5 with | .slice _ m _ => m | _ => 0))
    case atStart => exact ⟨0, n - 1, c - 1, _, _, rfl, Nat.zero_le _, rfl, by have := HON.out; omega, by omega, hs1, RowK.nil_ _ _ _, hb⟩
    case round =>
      clear hs1 hb
      obtain ⟨k, m, c5, A5, vo, rfl, hk, rfl, hm, hmc, hs5, hr, hb⟩ := hrel
      have hm1 := Nat.le_of_eq hm
      have hm2 := Nat.le_of_eq hm.symm
      clear hm
      have HL := Lib.hid (rowsK_len (p.drop 1) false k)
      have HLK := Lib.hid (HLO.out k hk)
      by_cases hlt : k < N
      · have HS : Hid (rowsK (p.drop 1) false (k + 1) = rowK (rowsK (p.drop 1) false k)) := Lib.hid rfl
        obtain ⟨R, hRk⟩ : ∃ R, R = rowsK (p.drop 1) false k := ⟨_, rfl⟩
        rw [← hRk] at hs5 hr HS HL HLK
        clear hRk
        have hRl : R.l.length = m := by rw [HLK.out.1, List.length_drop, List.length_drop, HPN.out]; have := HON.out; omega
        have hm12 : 12 ≤ m := by omega
        have HD := Lib.hid (rowK_long (r := R) HLK.out.2 (by omega))
        obtain ⟨off5, rfl, -⟩ := Bs.at_ hs5 (k := 0) (by omega)
        obtain ⟨n0, hn0⟩ : ∃ n, n = (R.l[0]'(by omega)).toNat := ⟨_, rfl⟩
        have HN0 := Lib.hid hn0
        rw [← hn0] at HD
        clear hn0
        obtain ⟨n1, hn1⟩ : ∃ n, n = (R.l[1]'(by omega)).toNat := ⟨_, rfl⟩
        have HN1 := Lib.hid hn1
        rw [← hn1] at HD
        clear hn1
        obtain ⟨n2, hn2⟩ : ∃ n, n = (R.l[2]'(by omega)).toNat := ⟨_, rfl⟩
        have HN2 := Lib.hid hn2
        rw [← hn2] at HD
        clear hn2
        obtain ⟨n3, hn3⟩ : ∃ n, n = (R.l[3]'(by omega)).toNat := ⟨_, rfl⟩
        have HN3 := Lib.hid hn3
        rw [← hn3] at HD
        clear hn3
        obtain ⟨n4, hn4⟩ : ∃ n4, n4 = valN ((R.l.drop 4).take 4) := ⟨_, rfl⟩
        obtain ⟨n5, hn5⟩ : ∃ n5, n5 = valN ((R.l.drop 8).take 4) := ⟨_, rfl⟩
        have hn4l : n4 < 4294967296 := by
          have := valN_lt ((R.l.drop 4).take 4)
          rwa [← hn4, List.length_take, List.length_drop, Nat.min_eq_left (by omega)] at this
        have hn5l : n5 < 4294967296 := by
          have := valN_lt ((R.l.drop 8).take 4)
          rwa [← hn5, List.length_take, List.length_drop, Nat.min_eq_left (by omega)] at this
        rw [← hn4, ← hn5] at HD
        have hV1 := fun W hs' => Value_calls (some ⟨b, off5 + 4, none⟩) ((R.l.drop 4).take 4) 4 (c5 - 4) b W hs' (by rw [List.length_take, List.length_drop]; omega) (by omega)
        have hV2 := fun W hs' => Value_calls (some ⟨b, off5 + 8, none⟩) ((R.l.drop 8).take 4) 4 (c5 - 8) b W hs' (by rw [List.length_take, List.length_drop]; omega) (by omega)
        rw [← hn4] at hV1
        rw [← hn5] at hV2
        have hcx4 : IntKind.u32.wrap (n4 : Int) = (n4 : Int) := IntWalk.u32_in _ (by omega)
        have hcx5 : IntKind.u32.wrap (n5 : Int) = (n5 : Int) := IntWalk.u32_in _ (by omega)
        have ej : decide ((m : Int) > 0) = true := by simp; omega
        have i0 : (0 : Int) < (m : Int) := by omega
        have i1 : (1 : Int) < (m : Int) := by omega
        have i2 : (2 : Int) < (m : Int) := by omega
        have i3 : (3 : Int) < (m : Int) := by omega
        have d8 : (8 : Int) ≤ (c5 : Int) := by omega
        have d12 : (12 : Int) ≤ (c5 : Int) := by omega
        have d12m : (12 : Int) ≤ (m : Int) := by omega
        have dn4 : ¬ c5 = 4 := by omega
        have dn8 : ¬ c5 = 8 := by omega
        clear hn4 hn5
        go_upto_region 7 with fail
        clear ej
        go_wp2_with fail
        refine wp_region_E (fun j => false) (fun w9 => Bs w9 b (some ⟨b, off5, none⟩) R.l) (by kernel_rfl) ?_ (fun hHeld => ?_)
        · exact (by first | exact hs5 | exact Sl.ext hs5 (below_drew (Below.refl _ _)))
        obtain ⟨wd1', hwd⟩ : ∃ wd1', wd1' = World.drew wr := ⟨_, rfl⟩
        have h9 : Below wr.heap.size wr wd1' := by rw [hwd]; exact below_drew (Below.refl _ _)
        rw [← hwd] at hHeld ⊢
        clear hwd
        replace hs5 := Sl.ext hs5 h9
        replace hr := RowK.ext hr h9
        replace hb := hb.trans (h9.mono hb.size)
        clear h9
        refine wpAnyE_take (i := 0) (by simp only [List.getElem?_toArray]; rfl) (by kernel_rfl) (by kernel_rfl) (by kernel_rfl) (by kernel_rfl) (by kernel_rfl) (by exact fun _ _ _ h => h) (by exact yk (vo) (by kernel_rfl) (fun _ => by kernel_rfl)) hHeld ?_
        refine wpAnyE_take (i := 1) (by simp only [List.getElem?_toArray]; rfl) (by kernel_rfl) (by kernel_rfl) (by kernel_rfl) (by kernel_rfl) (by kernel_rfl) (by exact fun _ _ _ h => h) (by exact yk (.slice (some ⟨b, off5, none⟩) m c5) (by kernel_rfl) (fun _ => by kernel_rfl)) hHeld ?_
        refine wpAnyE_take (i := 2) (v := .pointer (some ⟨b, off5, none⟩)) (by simp only [List.getElem?_toArray]; rfl) (by kernel_rfl) (by kernel_rfl) (by kernel_rfl) (by kernel_rfl) (by kernel_rfl) (by exact fun _ _ _ h => h) (.inl ⟨by kernel_rfl, fun ww hSw => by clear hSw; go_simp⟩) hHeld ?_
        refine wpAnyE_take (i := 3) (by simp only [List.getElem?_toArray]; rfl) (by kernel_rfl) (by kernel_rfl) (by kernel_rfl) (by kernel_rfl) (by kernel_rfl) (by exact fun _ _ _ h => h) (by exact yk_ldU (by kernel_rfl) (.tmp 35) rfl ⟨b, off5, none⟩ (n0 : Int) (by kernel_rfl) (fun w hh => (bs_atK hh (k := 0) (by omega)).trans (by rw [HN0.out]))) hHeld ?_
        refine wpAnyE_take (i := 4) (by simp only [List.getElem?_toArray]; rfl) (by kernel_rfl) (by kernel_rfl) (by kernel_rfl) (by kernel_rfl) (by kernel_rfl) (by exact fun _ _ _ h => h) (by exact yk (.slice (some ⟨b, off5, none⟩) m c5) (by kernel_rfl) (fun _ => by kernel_rfl)) hHeld ?_
        refine wpAnyE_take (i := 5) (v := .pointer (some ⟨b, off5 + 1, none⟩)) (by simp only [List.getElem?_toArray]; rfl) (by kernel_rfl) (by kernel_rfl) (by kernel_rfl) (by kernel_rfl) (by kernel_rfl) (by exact fun _ _ _ h => h) (.inl ⟨by kernel_rfl, fun ww hSw => by clear hSw; go_simp⟩) hHeld ?_
        refine wpAnyE_take (i := 6) (by simp only [List.getElem?_toArray]; rfl) (by kernel_rfl) (by kernel_rfl) (by kernel_rfl) (by kernel_rfl) (by kernel_rfl) (by exact fun _ _ _ h => h) (by exact yk_ldU (by kernel_rfl) (.tmp 38) rfl ⟨b, off5 + 1, none⟩ (n1 : Int) (by kernel_rfl) (fun w hh => (bs_atK hh (k := 1) (by omega)).trans (by rw [HN1.out]))) hHeld ?_
        refine wpAnyE_take (i := 7) (by simp only [List.getElem?_toArray]; rfl) (by kernel_rfl) (by kernel_rfl) (by kernel_rfl) (by kernel_rfl) (by kernel_rfl) (by exact fun _ _ _ h => h) (by exact yk (.slice (some ⟨b, off5, none⟩) m c5) (by kernel_rfl) (fun _ => by kernel_rfl)) hHeld ?_
        refine wpAnyE_take (i := 8) (v := .pointer (some ⟨b, off5 + 2, none⟩)) (by simp only [List.getElem?_toArray]; rfl) (by kernel_rfl) (by kernel_rfl) (by kernel_rfl) (by kernel_rfl) (by kernel_rfl) (by exact fun _ _ _ h => h) (.inl ⟨by kernel_rfl, fun ww hSw => by clear hSw; go_simp⟩) hHeld ?_
        refine wpAnyE_take (i := 9) (by simp only [List.getElem?_toArray]; rfl) (by kernel_rfl) (by kernel_rfl) (by kernel_rfl) (by kernel_rfl) (by kernel_rfl) (by exact fun _ _ _ h => h) (by exact yk_ldU (by kernel_rfl) (.tmp 41) rfl ⟨b, off5 + 2, none⟩ (n2 : Int) (by kernel_rfl) (fun w hh => (bs_atK hh (k := 2) (by omega)).trans (by rw [HN2.out]))) hHeld ?_
        refine wpAnyE_take (i := 10) (by simp only [List.getElem?_toArray]; rfl) (by kernel_rfl) (by kernel_rfl) (by kernel_rfl) (by kernel_rfl) (by kernel_rfl) (by exact fun _ _ _ h => h) (by exact yk (.slice (some ⟨b, off5, none⟩) m c5) (by kernel_rfl) (fun _ => by kernel_rfl)) hHeld ?_
        refine wpAnyE_take (i := 11) (v := .pointer (some ⟨b, off5 + 3, none⟩)) (by simp only [List.getElem?_toArray]; rfl) (by kernel_rfl) (by kernel_rfl) (by kernel_rfl) (by kernel_rfl) (by kernel_rfl) (by exact fun _ _ _ h => h) (.inl ⟨by kernel_rfl, fun ww hSw => by clear hSw; go_simp⟩) hHeld ?_
        refine wpAnyE_take (i := 12) (by simp only [List.getElem?_toArray]; rfl) (by kernel_rfl) (by kernel_rfl) (by kernel_rfl) (by kernel_rfl) (by kernel_rfl) (by exact fun _ _ _ h => h) (by exact yk_ldU (by kernel_rfl) (.tmp 44) rfl ⟨b, off5 + 3, none⟩ (n3 : Int) (by kernel_rfl) (fun w hh => (bs_atK hh (k := 3) (by omega)).trans (by rw [HN3.out]))) hHeld ?_
        refine wpAnyE_take (i := 13) (by simp only [List.getElem?_toArray]; rfl) (by kernel_rfl) (by kernel_rfl) (by kernel_rfl) (by kernel_rfl) (by kernel_rfl) (by exact fun _ _ _ h => h) (by exact yk (.slice (some ⟨b, off5, none⟩) m c5) (by kernel_rfl) (fun _ => by kernel_rfl)) hHeld ?_
        refine wpAnyE_take (i := 14) (v := .slice (some ⟨b, off5 + 4, none⟩) 4 (c5 - 4)) (by simp only [List.getElem?_toArray]; rfl) (by kernel_rfl) (by kernel_rfl) (by kernel_rfl) (by kernel_rfl) (by kernel_rfl) (by exact fun _ _ _ h => h) (.inl ⟨by kernel_rfl, fun ww hSw => by clear hSw; go_simp⟩) hHeld ?_
        refine wpAnyE_take (i := 18) (by simp only [List.getElem?_toArray]; rfl) (by kernel_rfl) (by kernel_rfl) (by kernel_rfl) (by kernel_rfl) (by kernel_rfl) (by exact fun _ _ _ h => h) (by exact yk (.slice (some ⟨b, off5, none⟩) m c5) (by kernel_rfl) (fun _ => by kernel_rfl)) hHeld ?_
        refine wpAnyE_take (i := 19) (v := .slice (some ⟨b, off5 + 8, none⟩) 4 (c5 - 8)) (by simp only [List.getElem?_toArray]; rfl) (by kernel_rfl) (by kernel_rfl) (by kernel_rfl) (by kernel_rfl) (by kernel_rfl) (by exact fun _ _ _ h => h) (.inl ⟨by kernel_rfl, fun ww hSw => by clear hSw; go_simp⟩) hHeld ?_
        refine wpAnyE_ready (rs := [15]) (by kernel_rfl) (by simp) ?_
        refine EachE.cons (by rfl) (by simp only [List.getElem?_toArray]; rfl) (fun KK hKK => ?_) EachE.nil
        rw [if_pos (by kernel_rfl)]
        refine wp_callF 44 #[.slice (some ⟨b, off5 + 4, none⟩) 4 (c5 - 4)] (by kernel_rfl) ?_
        refine (hV1 _ (bs_sub hs5 4 4)).mono ?_
        rintro e wv ⟨rfl, rfl⟩
        refine ⟨_, rfl, ?_⟩
        refine hKK.out _ _ ?_ (fun hHeld => ?_)
        · exact (by first | exact hs5 | exact Sl.ext hs5 (below_drew (Below.refl _ _)))
        clear hKK KK
        refine wpAnyE_take (i := 16) (by simp only [List.getElem?_toArray]; rfl) (by kernel_rfl) (by kernel_rfl) (by kernel_rfl) (by kernel_rfl) (by kernel_rfl) (by exact fun _ _ _ h => h) (by exact yk_cvW (by kernel_rfl) (.tmp 48) rfl (n4 : Int) (by kernel_rfl) hcx4) hHeld ?_
        refine wpAnyE_take (i := 17) (by simp only [List.getElem?_toArray]; rfl) (by kernel_rfl) (by kernel_rfl) (by kernel_rfl) (by kernel_rfl) (by kernel_rfl) (by exact fun _ _ _ h => h) (by exact yk (.int .i32 (IntKind.i32.wrap (n4 : Int))) (by kernel_rfl) (fun _ => by kernel_rfl)) hHeld ?_
        refine wpAnyE_ready (rs := [20]) (by kernel_rfl) (by simp) ?_
        refine EachE.cons (by rfl) (by simp only [List.getElem?_toArray]; rfl) (fun KK hKK => ?_) EachE.nil
        rw [if_pos (by kernel_rfl)]
        refine wp_callF 44 #[.slice (some ⟨b, off5 + 8, none⟩) 4 (c5 - 8)] (by kernel_rfl) ?_
        refine (hV2 _ (bs_sub hs5 8 4)).mono ?_
        rintro e wv ⟨rfl, rfl⟩
        refine ⟨_, rfl, ?_⟩
        refine hKK.out _ _ ?_ (fun hHeld => ?_)
        · exact (by first | exact hs5 | exact Sl.ext hs5 (below_drew (Below.refl _ _)))
        clear hKK KK
        refine wpAnyE_take (i := 21) (by simp only [List.getElem?_toArray]; rfl) (by kernel_rfl) (by kernel_rfl) (by kernel_rfl) (by kernel_rfl) (by kernel_rfl) (by exact fun _ _ _ h => h) (by exact yk_cvW (by kernel_rfl) (.tmp 53) rfl (n5 : Int) (by kernel_rfl) hcx5) hHeld ?_
        refine wpAnyE_take (i := 22) (by simp only [List.getElem?_toArray]; rfl) (by kernel_rfl) (by kernel_rfl) (by kernel_rfl) (by kernel_rfl) (by kernel_rfl) (by exact fun _ _ _ h => h) (by exact yk (.agg (cdA ⟨n0, n1, n2, n3, IntKind.i32.wrap (n4 : Int), n5⟩)) (by kernel_rfl) (fun _ => by kernel_rfl)) hHeld ?_
        refine wpAnyE_ready (rs := [23]) (by kernel_rfl) (by simp) ?_
        refine EachE.cons (by rfl) (by simp only [List.getElem?_toArray]; rfl) (fun KK hKK => ?_) EachE.nil
        rw [if_pos (by kernel_rfl)]
        refine wp_bsK (.tmp 55) rfl ⟨n0, n1, n2, n3, IntKind.i32.wrap (n4 : Int), n5⟩ (by kernel_rfl) ?_
        have k1 := sl_new wd1' (kv [⟨n0, n1, n2, n3, IntKind.i32.wrap (n4 : Int), n5⟩]) 55
        rw [show (kv [⟨n0, n1, n2, n3, IntKind.i32.wrap (n4 : Int), n5⟩]).toArray = cdA ⟨n0, n1, n2, n3, IntKind.i32.wrap (n4 : Int), n5⟩ from rfl] at k1
        have h9 := below_alloc1 wd1' (.cells (cdA ⟨n0, n1, n2, n3, IntKind.i32.wrap (n4 : Int), n5⟩) 55)
        obtain ⟨w2', e⟩ : ∃ w2', w2' = World.alloc wd1' (.cells (cdA ⟨n0, n1, n2, n3, IntKind.i32.wrap (n4 : Int), n5⟩) 55) := ⟨_, rfl⟩
        rw [← e] at k1 h9 ⊢
        obtain ⟨b1, hb1⟩ : ∃ b1, b1 = wd1'.heap.size := ⟨_, rfl⟩
        rw [← hb1] at k1 ⊢
        replace hs5 := Sl.ext hs5 h9
        replace hr := RowK.ext hr h9
        replace hb := hb.trans (h9.mono hb.size)
        clear h9
        clear e hb1
        refine hKK.out _ _ ?_ (fun hHeld => ?_)
        · exact (by first | exact hs5 | exact Sl.ext hs5 (below_drew (Below.refl _ _)))
        clear hKK KK
        refine wpAnyE_ready (rs := [24]) (by kernel_rfl) (by simp) ?_
        refine EachE.cons (by rfl) (by simp only [List.getElem?_toArray]; rfl) (fun KK hKK => ?_) EachE.nil
        rw [if_pos (by kernel_rfl)]
        refine wp_appKr (.tmp 33) (.tmp 56) rfl w.heap.size vo _ (by kernel_rfl) hr b1 (some ⟨b1, 0, none⟩) 1 1 [⟨n0, n1, n2, n3, IntKind.i32.wrap (n4 : Int), n5⟩] (by kernel_rfl) k1 rfl (by have := HL.out; omega) hb.size ?_
        intro v8 w3' hr2 hm2
        have hlo := fun i h => (World.ownsRow.lt hr i h).1
        replace hs5 := Sl.mod hs5 hm2 (fun h => by have := hlo _ h; omega)
        replace hb := hb.trans (hm2.below hb.size (fun i hi h => by have := hlo _ h; omega))
        clear hr hm2 hlo k1
        refine hKK.out _ _ ?_ (fun hHeld => ?_)
        · exact (by first | exact hs5 | exact Sl.ext hs5 (below_drew (Below.refl _ _)))
        clear hKK KK
        refine wpAnyE_take (i := 25) (by simp only [List.getElem?_toArray]; rfl) (by kernel_rfl) (by kernel_rfl) (by kernel_rfl) (by kernel_rfl) (by kernel_rfl) (by exact fun _ _ _ h => h) (by exact yk (v8) (by kernel_rfl) (fun _ => by kernel_rfl)) hHeld ?_
        refine wpAnyE_done (by kernel_rfl) ?_ _
        have hs9 : Bs w3' b (if c5 = 12 then some ⟨b, off5, none⟩ else some ⟨b, off5 + 12, none⟩) (R.l.drop 12) := by
          by_cases h1 : c5 = 12
          · have hdr := Sl.drop hs5 (k := 12) (cap := c5) (by simp; omega)
            rw [bv_drop, if_pos h1] at hdr
            rw [if_pos h1]
            exact hdr
          · rw [if_neg h1]
            exact bs_drop hs5 12
        have HF := Lib.hid (And.intro hs9 hr2)
        clear hs5 hs9 hr2
        go_wp2_with fail
        go_roundw
        case rel => exact ⟨k + 1, _, _, _, _, rfl, by omega, rfl, by omega, by omega, by rw [HS.out, HD.out]; exact HF.out.1, by rw [HS.out, HD.out]; exact HF.out.2, hb⟩
        case measure => simp; omega
      · obtain rfl : k = N := by omega
        obtain rfl : m = 0 := by omega
        clear hm1 hm2 hk hmc hlt
        go_wp2_with fail
        go_ret2
        exact ⟨_, rfl, by rw [HC.out]; exact hr, hb⟩
/-- What instructions' bytes read as: none of those that aren't right. -/
def rK (p : List UInt8) : List Cd := if (gotK p).ok then (gotK p).g.cs else []
def rKE (p : List UInt8) : Nat := if (gotK p).ok then 0 else 2
theorem gotK_n (p : List UInt8) : (gotK p).g.cs.length ≤ 96 := by
  unfold gotK
  simp only [rowsK_len]
  unfold rdM
  cases rd 0 p with
  | none => exact Nat.zero_le _
  | some y =>
    obtain ⟨v, k⟩ := y
    simp only
    split
    · assumption
    · exact Nat.zero_le _
theorem rK_len (p : List UInt8) : (rK p).length ≤ 96 := by
  unfold rK
  split
  · exact gotK_n p
  · exact Nat.zero_le _
theorem KParse_r (A : Option Addr) (p : List UInt8) (n c b : Nat) (w : World) (hs : Bs w b A p) (hn : p.length = n) (hm : n ≤ 100000) :
    Calls Tryd.prog 19 #[.slice A n c] w fun e w' => ∃ v, e = .returned (.tuple #[v, .int .i64 (rKE p : Int)]) ∧ RowK 33 w' w.heap.size v (rK p) ∧ Below w.heap.size w w' :=
  KParse_any A p n c b w hs hn hm _ _ (by unfold rK rKE; split <;> rfl)
theorem RKParse_r (A : Option Addr) (p : List UInt8) (n c b : Nat) (w : World) (hs : Bs w b A p) (hn : p.length = n) (hnc : n ≤ c) :
    Calls Tryd.prog 24 #[.slice A n c] w fun e w' => ∃ v, e = .returned (.tuple #[v, .bool (gotK p).ok]) ∧ RowK 55 w' w.heap.size v (rK p) ∧ Below w.heap.size w w' := by
  have hbad : (gotK p).ok = false → rK p = [] := fun h => by unfold rK; rw [h]; rfl
  by_cases h0 : n = 0
  · have hb : (gotK p).ok = false := gotK_none (.inl (List.eq_nil_of_length_eq_zero (by omega)))
    subst h0
    rw [hb, hbad hb]
    exact (RKParse_nil A c w).mono fun e w' ⟨h1, h2⟩ => ⟨_, h1, RowK.nil_ _ _ _, h2⟩
  · obtain ⟨off, rfl, -⟩ := Bs.at_ hs (k := 0) (by omega)
    by_cases h96 : (p[0]'(by omega)).toNat ≤ 96
    · by_cases hoff : n = 1 + 12 * (p[0]'(by omega)).toNat
      · have hg : (gotK p).ok = true := gotK_on (by omega) h96 (by omega)
        have hc : rK p = (gotK p).g.cs := by unfold rK; rw [hg]; rfl
        rw [hg]
        exact RKParse_on b off p n c _ w hs hn hnc (by omega) rfl h96 hoff _ hc
      · have hb : (gotK p).ok = false := gotK_off (by omega) h96 (by omega)
        rw [hb, hbad hb]
        exact (RKParse_off b off p n c w hs hn (by omega) h96 hoff).mono fun e w' ⟨h1, h2⟩ => ⟨_, h1, RowK.nil_ _ _ _, h2⟩
    · have hb : (gotK p).ok = false := gotK_none (.inr (by
        obtain ⟨x, t, rfl⟩ := List.exists_cons_of_length_pos (l := p) (by omega)
        exact ⟨x, t, rfl, by simpa using h96⟩))
      rw [hb, hbad hb]
      exact (RKParse_big b off p n c w hs hn (by omega) (by omega)).mono fun e w' ⟨h1, h2⟩ => ⟨_, h1, RowK.nil_ _ _ _, h2⟩
end Go.Proofs.YtfckgfoimpileaaDoor
/- The document's Bytes of instructions; its Same of lists that are alike. Conditions: those said. -/
namespace Go.Proofs.YtfckgfoimpileaaDoor
open Go.RowKit
set_option linter.unusedVariables false

/-- An instruction in a variable. -/
def BoxKr (w : World) (g : Nat) (c : Cd) : Prop := w.heap[g]? = some (.cells (cdA c) 55 (0, 0))
theorem BoxKr.ext {w w' : World} {g : Nat} {c : Cd} (h : BoxKr w g c) (x : Below w.heap.size w w') : BoxKr w' g c := (x.block g (Array.getElem?_eq_some_iff.1 h).1).trans h
theorem BoxKr.at_ {w : World} {g : Nat} {c : Cd} (h : BoxKr w g c) {j : Nat} {v : Value} (hv : (cdA c)[j]? = some v) : w.cell? ⟨g, j, none⟩ = some v := by rw [cell_of_row w g j _ _ _ h]; exact hv
theorem four_new (W : World) {i j k l : Nat} (hi : i < 256) (hj : j < 256) (hk : k < 256) (hl : l < 256) : Bs (World.alloc W (.cells #[.int .u8 (i : Int), .int .u8 (j : Int), .int .u8 (k : Int), .int .u8 (l : Int)] 5)) W.heap.size (some ⟨W.heap.size, 0, none⟩) (low i 1 ++ (low j 1 ++ (low k 1 ++ low l 1))) := by
  have h := sl_new W (bv (low i 1 ++ (low j 1 ++ (low k 1 ++ low l 1)))) 5
  have e : (bv (low i 1 ++ (low j 1 ++ (low k 1 ++ low l 1)))).toArray = #[.int .u8 (i : Int), .int .u8 (j : Int), .int .u8 (k : Int), .int .u8 (l : Int)] := by
    rw [bv_append, bv_append, bv_append, bv_low_one i hi, bv_low_one j hj, bv_low_one k hk, bv_low_one l hl]
    rfl
  rw [e] at h
  exact h
theorem owns_lowJ {w : World} {B B' : Nat} {v : Value} {l : List UInt8} (h : Row w B v l) (hB : B' ≤ B) : Row w B' v l := own_lowK h hB
set_option maxHeartbeats 16000000 in
set_option maxRecDepth 40000 in
theorem RKBytes_calls (A : Option Addr) (l : List Cd) (n c b : Nat) (w : World) (hs : Sl w b A (kv l)) (hn : l.length = n) (hL : n ≤ 96) (hok : okK l) :
    Calls Tryd.prog 21 #[.slice A n c] w fun e w' => ∃ v, e = .returned v ∧ Row w' w.heap.size v (codesB l) ∧ Below w.heap.size w w' := by
  have HN := Lib.hid hn
  have hN := fun W => Num_calls n W (by omega)
  have e1 : IntKind.u64.wrap (n : Int) = (n : Int) := IntWalk.u64_in _ (by omega)
  clear hn
  go_enter Tryd.func21, Tryd.ntmps21
  go_wp2_with fail
  refine (hN _).mono ?_
  rintro e w1 ⟨v, rfl, hr, hb⟩
  replace hs := Sl.ext hs hb
  have hnl := num_le n
  clear hN e1
  go_wp2_with fail
  go_loopw [3, 5, 12] (fun o _ i wr => ∃ (k : Nat) (vo : Value), vo = o ∧ k ≤ n ∧ i = .int .i64 (k : Int) ∧ Row wr w.heap.size vo (num n ++ rowsB l k) ∧ Sl wr b A (kv l) ∧ Below w.heap.size w wr) (fun _ _ i _ => n - (intOf i).toNat)
  case atStart => exact ⟨0, _, rfl, Nat.zero_le _, rfl, hr.cast (by simp [rowsB]), hs, hb⟩
  case round =>
    clear hr hs hb
    obtain ⟨k, vo, rfl, hk, rfl, hr, hs, hb⟩ := hrel
    by_cases hlt : k < n
    · have hkl : k < l.length := by rw [HN.out]; exact hlt
      obtain ⟨off, rfl, k0, k1, k2, k3, k4, k5⟩ := sl_code hs hkl
      have HX := Lib.hid (rowsB_next hkl)
      have hco := hok _ (List.getElem_mem hkl)
      have HRL := Lib.hid (rowsB_len l k (by omega))
      obtain ⟨⟨op, ca, cb, cc, cn, cm⟩, hc⟩ : ∃ x, x = l[k] := ⟨_, rfl⟩
      rw [← hc] at k0 k1 k2 k3 k4 k5 HX hco
      obtain ⟨o0, o1, o2, o3, o4, o5, o6⟩ := hco
      simp only at k0 k1 k2 k3 k4 k5 o0 o1 o2 o3 o4 o5 o6
      have ej : (k : Int) < (n : Int) := by omega
      obtain ⟨Ao, co, bo, hve, -, -, -, -, hso, -⟩ := Row.sl hr
      obtain ⟨O, hO⟩ : ∃ O, O = num n ++ rowsB l k := ⟨_, rfl⟩
      have hOl : O.length ≤ 2000 := by rw [hO, List.length_append, HRL.out]; omega
      rw [← hO] at hve hso
      obtain ⟨no, hno⟩ : ∃ no, no = O.length := ⟨_, rfl⟩
      rw [← hno] at hve
      subst hve
      have HNO := Lib.hid hno.symm
      have HO := Lib.hid hO
      have hu := uN_wrap cn
      have hul := uN_lt cn
      obtain ⟨u, hu0⟩ : ∃ u, u = uN cn := ⟨_, rfl⟩
      rw [← hu0] at hu hul
      have HU := Lib.hid hu0
      have hc1 : IntKind.u64.wrap (u : Int) = (u : Int) := IntWalk.u64_in _ (by omega)
      have hc2 : IntKind.u64.wrap (cm : Int) = (cm : Int) := IntWalk.u64_in _ (by omega)
      have hL1 := fun W => Low_calls u 4 W (by omega) (by omega) (by omega)
      have hL2 := fun W => Low_calls cm 4 W (by omega) (by omega) (by omega)
      rw [show (4 : Int).toNat = 4 from rfl] at hL1 hL2
      have q := heap_alloc_new wr (.cells #[.int .u8 (op : Int), .int .u8 (ca : Int), .int .u8 (cb : Int), .int .u8 (cc : Int), .int .i32 cn, .int .u32 (cm : Int)] 55)
      have h9 := below_alloc1 wr (.cells #[.int .u8 (op : Int), .int .u8 (ca : Int), .int .u8 (cb : Int), .int .u8 (cc : Int), .int .i32 cn, .int .u32 (cm : Int)] 55)
      clear hc hno hO hu0 hr
      go_upto_region 5 with fail
      replace hs := Sl.ext hs h9
      replace hso := Sl.ext hso h9
      replace hb := hb.trans (h9.mono hb.size)
      obtain ⟨g, hg⟩ : ∃ g, g = wr.heap.size := ⟨_, rfl⟩
      obtain ⟨wz, hwz⟩ : ∃ wz, wz = wr.alloc (.cells #[.int .u8 (op : Int), .int .u8 (ca : Int), .int .u8 (cb : Int), .int .u8 (cc : Int), .int .i32 cn, .int .u32 (cm : Int)] 55) := ⟨_, rfl⟩
      rw [← hwz] at q hs hso hb ⊢
      rw [← hg] at q ⊢
      replace q : BoxKr wz g ⟨op, ca, cb, cc, cn, cm⟩ := q
      clear h9 hg hwz k0 k1 k2 k3 k4 k5
      go_wp2_with fail
      refine wp_region_E (fun j => false) (fun w9 => BoxKr w9 g ⟨op, ca, cb, cc, cn, cm⟩) (by kernel_rfl) ?_ (fun hHeld => ?_)
      · exact (by first | exact q | exact q.ext (below_drew (Below.refl _ _)))
      obtain ⟨wd1', hwd⟩ : ∃ wd1', wd1' = World.drew wz := ⟨_, rfl⟩
      have h9 : Below wz.heap.size wz wd1' := by rw [hwd]; exact below_drew (Below.refl _ _)
      rw [← hwd] at hHeld ⊢
      clear hwd
      replace q := q.ext h9
      replace hs := Sl.ext hs h9
      replace hso := Sl.ext hso h9
      replace hb := hb.trans (h9.mono hb.size)
      clear h9
      refine wpAnyE_take (i := 0) (by simp only [List.getElem?_toArray]; rfl) (by kernel_rfl) (by kernel_rfl) (by kernel_rfl) (by kernel_rfl) (by kernel_rfl) (by exact fun _ _ _ h => h) (by exact yk (.slice Ao no co) (by kernel_rfl) (fun _ => by kernel_rfl)) hHeld ?_
      refine wpAnyE_take (i := 1) (by simp only [List.getElem?_toArray]; rfl) (by kernel_rfl) (by kernel_rfl) (by kernel_rfl) (by kernel_rfl) (by kernel_rfl) (by exact fun _ _ _ h => h) (by exact yk (.pointer (some ⟨g, 0, none⟩)) (by kernel_rfl) (fun _ => by kernel_rfl)) hHeld ?_
      refine wpAnyE_take (i := 2) (by simp only [List.getElem?_toArray]; rfl) (by kernel_rfl) (by kernel_rfl) (by kernel_rfl) (by kernel_rfl) (by kernel_rfl) (by exact fun _ _ _ h => h) (by exact yk_ldU (by kernel_rfl) (.tmp 17) rfl ⟨g, 0, none⟩ ((op : Int)) (by kernel_rfl) (fun w hh => hh.at_ rfl)) hHeld ?_
      refine wpAnyE_take (i := 3) (by simp only [List.getElem?_toArray]; rfl) (by kernel_rfl) (by kernel_rfl) (by kernel_rfl) (by kernel_rfl) (by kernel_rfl) (by exact fun _ _ _ h => h) (by exact yk (.pointer (some ⟨g, 1, none⟩)) (by kernel_rfl) (fun _ => by kernel_rfl)) hHeld ?_
      refine wpAnyE_take (i := 4) (by simp only [List.getElem?_toArray]; rfl) (by kernel_rfl) (by kernel_rfl) (by kernel_rfl) (by kernel_rfl) (by kernel_rfl) (by exact fun _ _ _ h => h) (by exact yk_ldU (by kernel_rfl) (.tmp 19) rfl ⟨g, 1, none⟩ ((ca : Int)) (by kernel_rfl) (fun w hh => hh.at_ rfl)) hHeld ?_
      refine wpAnyE_take (i := 5) (by simp only [List.getElem?_toArray]; rfl) (by kernel_rfl) (by kernel_rfl) (by kernel_rfl) (by kernel_rfl) (by kernel_rfl) (by exact fun _ _ _ h => h) (by exact yk (.pointer (some ⟨g, 2, none⟩)) (by kernel_rfl) (fun _ => by kernel_rfl)) hHeld ?_
      refine wpAnyE_take (i := 6) (by simp only [List.getElem?_toArray]; rfl) (by kernel_rfl) (by kernel_rfl) (by kernel_rfl) (by kernel_rfl) (by kernel_rfl) (by exact fun _ _ _ h => h) (by exact yk_ldU (by kernel_rfl) (.tmp 21) rfl ⟨g, 2, none⟩ ((cb : Int)) (by kernel_rfl) (fun w hh => hh.at_ rfl)) hHeld ?_
      refine wpAnyE_take (i := 7) (by simp only [List.getElem?_toArray]; rfl) (by kernel_rfl) (by kernel_rfl) (by kernel_rfl) (by kernel_rfl) (by kernel_rfl) (by exact fun _ _ _ h => h) (by exact yk (.pointer (some ⟨g, 3, none⟩)) (by kernel_rfl) (fun _ => by kernel_rfl)) hHeld ?_
      refine wpAnyE_take (i := 8) (by simp only [List.getElem?_toArray]; rfl) (by kernel_rfl) (by kernel_rfl) (by kernel_rfl) (by kernel_rfl) (by kernel_rfl) (by exact fun _ _ _ h => h) (by exact yk_ldU (by kernel_rfl) (.tmp 23) rfl ⟨g, 3, none⟩ ((cc : Int)) (by kernel_rfl) (fun w hh => hh.at_ rfl)) hHeld ?_
      refine wpAnyE_take (i := 10) (by simp only [List.getElem?_toArray]; rfl) (by kernel_rfl) (by kernel_rfl) (by kernel_rfl) (by kernel_rfl) (by kernel_rfl) (by exact fun _ _ _ h => h) (by exact yk (.pointer (some ⟨g, 4, none⟩)) (by kernel_rfl) (fun _ => by kernel_rfl)) hHeld ?_
      refine wpAnyE_take (i := 11) (by simp only [List.getElem?_toArray]; rfl) (by kernel_rfl) (by kernel_rfl) (by kernel_rfl) (by kernel_rfl) (by kernel_rfl) (by exact fun _ _ _ h => h) (by exact yk_ldI (by kernel_rfl) (.tmp 26) rfl ⟨g, 4, none⟩ (cn) (by kernel_rfl) (fun w hh => hh.at_ rfl)) hHeld ?_
      refine wpAnyE_take (i := 12) (by simp only [List.getElem?_toArray]; rfl) (by kernel_rfl) (by kernel_rfl) (by kernel_rfl) (by kernel_rfl) (by kernel_rfl) (by exact fun _ _ _ h => h) (by exact yk_cvU (by kernel_rfl) (.tmp 27) rfl cn (u : Int) (by kernel_rfl) hu) hHeld ?_
      refine wpAnyE_take (i := 13) (by simp only [List.getElem?_toArray]; rfl) (by kernel_rfl) (by kernel_rfl) (by kernel_rfl) (by kernel_rfl) (by kernel_rfl) (by exact fun _ _ _ h => h) (by exact yk_cvL (by kernel_rfl) (.tmp 28) rfl (u : Int) (by kernel_rfl) hc1) hHeld ?_
      refine wpAnyE_take (i := 15) (by simp only [List.getElem?_toArray]; rfl) (by kernel_rfl) (by kernel_rfl) (by kernel_rfl) (by kernel_rfl) (by kernel_rfl) (by exact fun _ _ _ h => h) (by exact yk (.pointer (some ⟨g, 5, none⟩)) (by kernel_rfl) (fun _ => by kernel_rfl)) hHeld ?_
      refine wpAnyE_take (i := 16) (by simp only [List.getElem?_toArray]; rfl) (by kernel_rfl) (by kernel_rfl) (by kernel_rfl) (by kernel_rfl) (by kernel_rfl) (by exact fun _ _ _ h => h) (by exact yk_ldW (by kernel_rfl) (.tmp 31) rfl ⟨g, 5, none⟩ ((cm : Int)) (by kernel_rfl) (fun w hh => hh.at_ rfl)) hHeld ?_
      refine wpAnyE_take (i := 17) (by simp only [List.getElem?_toArray]; rfl) (by kernel_rfl) (by kernel_rfl) (by kernel_rfl) (by kernel_rfl) (by kernel_rfl) (by exact fun _ _ _ h => h) (by exact yk_cvL (by kernel_rfl) (.tmp 32) rfl (cm : Int) (by kernel_rfl) hc2) hHeld ?_
      refine wpAnyE_ready (rs := [9, 14]) (by kernel_rfl) (by simp) ?_
      refine EachE.cons (by rfl) (by simp only [List.getElem?_toArray]; rfl) (fun KK hKK => ?_) (EachE.cons (by rfl) (by simp only [List.getElem?_toArray]; rfl) (fun KK hKK => ?_) EachE.nil)
      ·
       rw [if_pos (by kernel_rfl)]
       refine wp_bsB4 (.tmp 18) (.tmp 20) (.tmp 22) (.tmp 24) rfl (op : Int) (ca : Int) (cb : Int) (cc : Int) (by kernel_rfl) (by kernel_rfl) (by kernel_rfl) (by kernel_rfl) ?_
       have s4 := four_new wd1' (i := op) (j := ca) (k := cb) (l := cc) (by omega) (by omega) (by omega) (by omega)
       have h9 := below_alloc1 wd1' (.cells #[.int .u8 (op : Int), .int .u8 (ca : Int), .int .u8 (cb : Int), .int .u8 (cc : Int)] 5)
       obtain ⟨w2', e⟩ : ∃ w2', w2' = World.alloc wd1' (.cells #[.int .u8 (op : Int), .int .u8 (ca : Int), .int .u8 (cb : Int), .int .u8 (cc : Int)] 5) := ⟨_, rfl⟩
       rw [← e] at s4 h9 ⊢
       obtain ⟨b4, hb4⟩ : ∃ b4, b4 = wd1'.heap.size := ⟨_, rfl⟩
       rw [← hb4] at s4 ⊢
       clear e hb4
       replace q := q.ext h9
       replace hs := Sl.ext hs h9
       replace hso := Sl.ext hso h9
       replace hb := hb.trans (h9.mono hb.size)
       clear h9
       refine hKK.out _ _ ?_ (fun hHeld => ?_)
       · exact (by first | exact q | exact q.ext (below_drew (Below.refl _ _)))
       clear hKK KK
       refine wpAnyE_ready (rs := [14]) (by kernel_rfl) (by simp) ?_
       refine EachE.cons (by rfl) (by simp only [List.getElem?_toArray]; rfl) (fun KK hKK => ?_) EachE.nil
       rw [if_pos (by kernel_rfl)]
       refine wp_callF 43 #[.int .u64 (u : Int), .int .i64 4] (by kernel_rfl) ?_
       refine (hL1 _).mono ?_
       rintro e w3' ⟨v, rfl, hrow, h9⟩
       obtain ⟨A1, c1, b1, hve, -, -, -, -, l1, -⟩ := Row.sl hrow
       rw [low_length] at hve
       subst hve
       clear hrow
       refine ⟨_, rfl, ?_⟩
       replace q := q.ext h9
       replace hs := Sl.ext hs h9
       replace hso := Sl.ext hso h9
       replace s4 := Sl.ext s4 h9
       replace hb := hb.trans (h9.mono hb.size)
       clear h9
       refine hKK.out _ _ ?_ (fun hHeld => ?_)
       · exact (by first | exact q | exact q.ext (below_drew (Below.refl _ _)))
       clear hKK KK
       refine wpAnyE_ready (rs := [18]) (by kernel_rfl) (by simp) ?_
       refine EachE.cons (by rfl) (by simp only [List.getElem?_toArray]; rfl) (fun KK hKK => ?_) EachE.nil
       rw [if_pos (by kernel_rfl)]
       refine wp_callF 43 #[.int .u64 (cm : Int), .int .i64 4] (by kernel_rfl) ?_
       refine (hL2 _).mono ?_
       rintro e w4' ⟨v, rfl, hrow, h9⟩
       obtain ⟨A2, c2, b2, hve, -, -, -, -, l2, -⟩ := Row.sl hrow
       rw [low_length] at hve
       subst hve
       clear hrow
       refine ⟨_, rfl, ?_⟩
       replace q := q.ext h9
       replace hs := Sl.ext hs h9
       replace hso := Sl.ext hso h9
       replace s4 := Sl.ext s4 h9
       replace l1 := Sl.ext l1 h9
       replace hb := hb.trans (h9.mono hb.size)
       clear h9
       refine hKK.out _ _ ?_ (fun hHeld => ?_)
       · exact (by first | exact q | exact q.ext (below_drew (Below.refl _ _)))
       clear hKK KK
       refine wpAnyE_ready (rs := [19]) (by kernel_rfl) (by simp) ?_
       refine EachE.cons (by rfl) (by simp only [List.getElem?_toArray]; rfl) (fun KK hKK => ?_) EachE.nil
       rw [if_pos (by kernel_rfl)]
       refine wp_bs4 (.tmp 16) (.tmp 25) (.tmp 30) (.tmp 34) rfl Ao no co (some ⟨b4, 0, none⟩) 4 4 A1 4 c1 A2 4 c2 (by kernel_rfl) (by kernel_rfl) (by kernel_rfl) (by kernel_rfl) ?_
       have hv := Sl.cells_new w4' #[.slice Ao no co, .slice (some ⟨b4, 0, none⟩) 4 4, .slice A1 4 c1, .slice A2 4 c2] 36
       have h9 := below_alloc1 w4' (.cells #[.slice Ao no co, .slice (some ⟨b4, 0, none⟩) 4 4, .slice A1 4 c1, .slice A2 4 c2] 36)
       obtain ⟨w5', e⟩ : ∃ w5', w5' = World.alloc w4' (.cells #[.slice Ao no co, .slice (some ⟨b4, 0, none⟩) 4 4, .slice A1 4 c1, .slice A2 4 c2] 36) := ⟨_, rfl⟩
       rw [← e] at hv h9 ⊢
       obtain ⟨b5, hb5⟩ : ∃ b5, b5 = w4'.heap.size := ⟨_, rfl⟩
       rw [← hb5] at hv ⊢
       clear e hb5
       replace q := q.ext h9
       replace hs := Sl.ext hs h9
       replace hso := Sl.ext hso h9
       replace s4 := Sl.ext s4 h9
       replace l1 := Sl.ext l1 h9
       replace l2 := Sl.ext l2 h9
       replace hb := hb.trans (h9.mono hb.size)
       clear h9
       refine hKK.out _ _ ?_ (fun hHeld => ?_)
       · exact (by first | exact q | exact q.ext (below_drew (Below.refl _ _)))
       clear hKK KK
       refine wpAnyE_ready (rs := [20]) (by kernel_rfl) (by simp) ?_
       refine EachE.cons (by rfl) (by simp only [List.getElem?_toArray]; rfl) (fun KK hKK => ?_) EachE.nil
       rw [if_pos (by kernel_rfl)]
       refine wp_callF 23 #[.slice (some ⟨b5, 0, none⟩) 4 4] (by kernel_rfl) ?_
       refine (Join_calls _ [.slice Ao no co, .slice (some ⟨b4, 0, none⟩) 4 4, .slice A1 4 c1, .slice A2 4 c2] [O, low op 1 ++ (low ca 1 ++ (low cb 1 ++ low cc 1)), low u 4, low cm 4] 4 4 b5 _ hv (Bss.cons hso HNO.out (Bss.cons s4 (by simp) (Bss.cons l1 (by simp) (Bss.cons l2 (by simp) (Bss.nil_ _))))) rfl (by simp [maxLen]) (by simp; omega)).mono ?_
       rintro e w6' ⟨vJ, rfl, hrow, h9⟩
       replace hrow := owns_lowJ hrow hb.size
       refine ⟨_, rfl, ?_⟩
       replace q := q.ext h9
       replace hs := Sl.ext hs h9
       replace hso := Sl.ext hso h9
       replace s4 := Sl.ext s4 h9
       replace l1 := Sl.ext l1 h9
       replace l2 := Sl.ext l2 h9
       replace hb := hb.trans (h9.mono hb.size)
       clear h9
       refine hKK.out _ _ ?_ (fun hHeld => ?_)
       · exact (by first | exact q | exact q.ext (below_drew (Below.refl _ _)))
       clear hKK KK
       refine wpAnyE_take (i := 21) (by simp only [List.getElem?_toArray]; rfl) (by kernel_rfl) (by kernel_rfl) (by kernel_rfl) (by kernel_rfl) (by kernel_rfl) (by exact fun _ _ _ h => h) (by exact yk (vJ) (by kernel_rfl) (fun _ => by kernel_rfl)) hHeld ?_
       refine wpAnyE_done (by kernel_rfl) ?_ _
       have hfin : Hid ([O, low op 1 ++ (low ca 1 ++ (low cb 1 ++ low cc 1)), low u 4, low cm 4].flatten = num n ++ rowsB l (k + 1)) := Lib.hid (by rw [HX.out, HO.out, HU.out]; simp [codeB])
       go_wp2_with fail
       go_roundw
       case rel => exact ⟨k + 1, vJ, rfl, by omega, by go_num, hrow.cast hfin.out, hs, hb⟩
       case measure => simp [intOf]; omega
      ·
       rw [if_pos (by kernel_rfl)]
       refine wp_callF 43 #[.int .u64 (u : Int), .int .i64 4] (by kernel_rfl) ?_
       refine (hL1 _).mono ?_
       rintro e w7' ⟨v, rfl, hrow, h9⟩
       obtain ⟨A1, c1, b1, hve, -, -, -, -, l1, -⟩ := Row.sl hrow
       rw [low_length] at hve
       subst hve
       clear hrow
       refine ⟨_, rfl, ?_⟩
       replace q := q.ext h9
       replace hs := Sl.ext hs h9
       replace hso := Sl.ext hso h9
       replace hb := hb.trans (h9.mono hb.size)
       clear h9
       refine hKK.out _ _ ?_ (fun hHeld => ?_)
       · exact (by first | exact q | exact q.ext (below_drew (Below.refl _ _)))
       clear hKK KK
       refine wpAnyE_ready (rs := [9, 18]) (by kernel_rfl) (by simp) ?_
       refine EachE.cons (by rfl) (by simp only [List.getElem?_toArray]; rfl) (fun KK hKK => ?_) (EachE.cons (by rfl) (by simp only [List.getElem?_toArray]; rfl) (fun KK hKK => ?_) EachE.nil)
       ·
        rw [if_pos (by kernel_rfl)]
        refine wp_bsB4 (.tmp 18) (.tmp 20) (.tmp 22) (.tmp 24) rfl (op : Int) (ca : Int) (cb : Int) (cc : Int) (by kernel_rfl) (by kernel_rfl) (by kernel_rfl) (by kernel_rfl) ?_
        have s4 := four_new w7' (i := op) (j := ca) (k := cb) (l := cc) (by omega) (by omega) (by omega) (by omega)
        have h9 := below_alloc1 w7' (.cells #[.int .u8 (op : Int), .int .u8 (ca : Int), .int .u8 (cb : Int), .int .u8 (cc : Int)] 5)
        obtain ⟨w8', e⟩ : ∃ w8', w8' = World.alloc w7' (.cells #[.int .u8 (op : Int), .int .u8 (ca : Int), .int .u8 (cb : Int), .int .u8 (cc : Int)] 5) := ⟨_, rfl⟩
        rw [← e] at s4 h9 ⊢
        obtain ⟨b4, hb4⟩ : ∃ b4, b4 = w7'.heap.size := ⟨_, rfl⟩
        rw [← hb4] at s4 ⊢
        clear e hb4
        replace q := q.ext h9
        replace hs := Sl.ext hs h9
        replace hso := Sl.ext hso h9
        replace l1 := Sl.ext l1 h9
        replace hb := hb.trans (h9.mono hb.size)
        clear h9
        refine hKK.out _ _ ?_ (fun hHeld => ?_)
        · exact (by first | exact q | exact q.ext (below_drew (Below.refl _ _)))
        clear hKK KK
        refine wpAnyE_ready (rs := [18]) (by kernel_rfl) (by simp) ?_
        refine EachE.cons (by rfl) (by simp only [List.getElem?_toArray]; rfl) (fun KK hKK => ?_) EachE.nil
        rw [if_pos (by kernel_rfl)]
        refine wp_callF 43 #[.int .u64 (cm : Int), .int .i64 4] (by kernel_rfl) ?_
        refine (hL2 _).mono ?_
        rintro e w9' ⟨v, rfl, hrow, h9⟩
        obtain ⟨A2, c2, b2, hve, -, -, -, -, l2, -⟩ := Row.sl hrow
        rw [low_length] at hve
        subst hve
        clear hrow
        refine ⟨_, rfl, ?_⟩
        replace q := q.ext h9
        replace hs := Sl.ext hs h9
        replace hso := Sl.ext hso h9
        replace l1 := Sl.ext l1 h9
        replace s4 := Sl.ext s4 h9
        replace hb := hb.trans (h9.mono hb.size)
        clear h9
        refine hKK.out _ _ ?_ (fun hHeld => ?_)
        · exact (by first | exact q | exact q.ext (below_drew (Below.refl _ _)))
        clear hKK KK
        refine wpAnyE_ready (rs := [19]) (by kernel_rfl) (by simp) ?_
        refine EachE.cons (by rfl) (by simp only [List.getElem?_toArray]; rfl) (fun KK hKK => ?_) EachE.nil
        rw [if_pos (by kernel_rfl)]
        refine wp_bs4 (.tmp 16) (.tmp 25) (.tmp 30) (.tmp 34) rfl Ao no co (some ⟨b4, 0, none⟩) 4 4 A1 4 c1 A2 4 c2 (by kernel_rfl) (by kernel_rfl) (by kernel_rfl) (by kernel_rfl) ?_
        have hv := Sl.cells_new w9' #[.slice Ao no co, .slice (some ⟨b4, 0, none⟩) 4 4, .slice A1 4 c1, .slice A2 4 c2] 36
        have h9 := below_alloc1 w9' (.cells #[.slice Ao no co, .slice (some ⟨b4, 0, none⟩) 4 4, .slice A1 4 c1, .slice A2 4 c2] 36)
        obtain ⟨w10', e⟩ : ∃ w10', w10' = World.alloc w9' (.cells #[.slice Ao no co, .slice (some ⟨b4, 0, none⟩) 4 4, .slice A1 4 c1, .slice A2 4 c2] 36) := ⟨_, rfl⟩
        rw [← e] at hv h9 ⊢
        obtain ⟨b5, hb5⟩ : ∃ b5, b5 = w9'.heap.size := ⟨_, rfl⟩
        rw [← hb5] at hv ⊢
        clear e hb5
        replace q := q.ext h9
        replace hs := Sl.ext hs h9
        replace hso := Sl.ext hso h9
        replace l1 := Sl.ext l1 h9
        replace s4 := Sl.ext s4 h9
        replace l2 := Sl.ext l2 h9
        replace hb := hb.trans (h9.mono hb.size)
        clear h9
        refine hKK.out _ _ ?_ (fun hHeld => ?_)
        · exact (by first | exact q | exact q.ext (below_drew (Below.refl _ _)))
        clear hKK KK
        refine wpAnyE_ready (rs := [20]) (by kernel_rfl) (by simp) ?_
        refine EachE.cons (by rfl) (by simp only [List.getElem?_toArray]; rfl) (fun KK hKK => ?_) EachE.nil
        rw [if_pos (by kernel_rfl)]
        refine wp_callF 23 #[.slice (some ⟨b5, 0, none⟩) 4 4] (by kernel_rfl) ?_
        refine (Join_calls _ [.slice Ao no co, .slice (some ⟨b4, 0, none⟩) 4 4, .slice A1 4 c1, .slice A2 4 c2] [O, low op 1 ++ (low ca 1 ++ (low cb 1 ++ low cc 1)), low u 4, low cm 4] 4 4 b5 _ hv (Bss.cons hso HNO.out (Bss.cons s4 (by simp) (Bss.cons l1 (by simp) (Bss.cons l2 (by simp) (Bss.nil_ _))))) rfl (by simp [maxLen]) (by simp; omega)).mono ?_
        rintro e w11' ⟨vJ, rfl, hrow, h9⟩
        replace hrow := owns_lowJ hrow hb.size
        refine ⟨_, rfl, ?_⟩
        replace q := q.ext h9
        replace hs := Sl.ext hs h9
        replace hso := Sl.ext hso h9
        replace l1 := Sl.ext l1 h9
        replace s4 := Sl.ext s4 h9
        replace l2 := Sl.ext l2 h9
        replace hb := hb.trans (h9.mono hb.size)
        clear h9
        refine hKK.out _ _ ?_ (fun hHeld => ?_)
        · exact (by first | exact q | exact q.ext (below_drew (Below.refl _ _)))
        clear hKK KK
        refine wpAnyE_take (i := 21) (by simp only [List.getElem?_toArray]; rfl) (by kernel_rfl) (by kernel_rfl) (by kernel_rfl) (by kernel_rfl) (by kernel_rfl) (by exact fun _ _ _ h => h) (by exact yk (vJ) (by kernel_rfl) (fun _ => by kernel_rfl)) hHeld ?_
        refine wpAnyE_done (by kernel_rfl) ?_ _
        have hfin : Hid ([O, low op 1 ++ (low ca 1 ++ (low cb 1 ++ low cc 1)), low u 4, low cm 4].flatten = num n ++ rowsB l (k + 1)) := Lib.hid (by rw [HX.out, HO.out, HU.out]; simp [codeB])
        go_wp2_with fail
        go_roundw
        case rel => exact ⟨k + 1, vJ, rfl, by omega, by go_num, hrow.cast hfin.out, hs, hb⟩
        case measure => simp [intOf]; omega
       ·
        rw [if_pos (by kernel_rfl)]
        refine wp_callF 43 #[.int .u64 (cm : Int), .int .i64 4] (by kernel_rfl) ?_
        refine (hL2 _).mono ?_
        rintro e w12' ⟨v, rfl, hrow, h9⟩
        obtain ⟨A2, c2, b2, hve, -, -, -, -, l2, -⟩ := Row.sl hrow
        rw [low_length] at hve
        subst hve
        clear hrow
        refine ⟨_, rfl, ?_⟩
        replace q := q.ext h9
        replace hs := Sl.ext hs h9
        replace hso := Sl.ext hso h9
        replace l1 := Sl.ext l1 h9
        replace hb := hb.trans (h9.mono hb.size)
        clear h9
        refine hKK.out _ _ ?_ (fun hHeld => ?_)
        · exact (by first | exact q | exact q.ext (below_drew (Below.refl _ _)))
        clear hKK KK
        refine wpAnyE_ready (rs := [9]) (by kernel_rfl) (by simp) ?_
        refine EachE.cons (by rfl) (by simp only [List.getElem?_toArray]; rfl) (fun KK hKK => ?_) EachE.nil
        rw [if_pos (by kernel_rfl)]
        refine wp_bsB4 (.tmp 18) (.tmp 20) (.tmp 22) (.tmp 24) rfl (op : Int) (ca : Int) (cb : Int) (cc : Int) (by kernel_rfl) (by kernel_rfl) (by kernel_rfl) (by kernel_rfl) ?_
        have s4 := four_new w12' (i := op) (j := ca) (k := cb) (l := cc) (by omega) (by omega) (by omega) (by omega)
        have h9 := below_alloc1 w12' (.cells #[.int .u8 (op : Int), .int .u8 (ca : Int), .int .u8 (cb : Int), .int .u8 (cc : Int)] 5)
        obtain ⟨w13', e⟩ : ∃ w13', w13' = World.alloc w12' (.cells #[.int .u8 (op : Int), .int .u8 (ca : Int), .int .u8 (cb : Int), .int .u8 (cc : Int)] 5) := ⟨_, rfl⟩
        rw [← e] at s4 h9 ⊢
        obtain ⟨b4, hb4⟩ : ∃ b4, b4 = w12'.heap.size := ⟨_, rfl⟩
        rw [← hb4] at s4 ⊢
        clear e hb4
        replace q := q.ext h9
        replace hs := Sl.ext hs h9
        replace hso := Sl.ext hso h9
        replace l1 := Sl.ext l1 h9
        replace l2 := Sl.ext l2 h9
        replace hb := hb.trans (h9.mono hb.size)
        clear h9
        refine hKK.out _ _ ?_ (fun hHeld => ?_)
        · exact (by first | exact q | exact q.ext (below_drew (Below.refl _ _)))
        clear hKK KK
        refine wpAnyE_ready (rs := [19]) (by kernel_rfl) (by simp) ?_
        refine EachE.cons (by rfl) (by simp only [List.getElem?_toArray]; rfl) (fun KK hKK => ?_) EachE.nil
        rw [if_pos (by kernel_rfl)]
        refine wp_bs4 (.tmp 16) (.tmp 25) (.tmp 30) (.tmp 34) rfl Ao no co (some ⟨b4, 0, none⟩) 4 4 A1 4 c1 A2 4 c2 (by kernel_rfl) (by kernel_rfl) (by kernel_rfl) (by kernel_rfl) ?_
        have hv := Sl.cells_new w13' #[.slice Ao no co, .slice (some ⟨b4, 0, none⟩) 4 4, .slice A1 4 c1, .slice A2 4 c2] 36
        have h9 := below_alloc1 w13' (.cells #[.slice Ao no co, .slice (some ⟨b4, 0, none⟩) 4 4, .slice A1 4 c1, .slice A2 4 c2] 36)
        obtain ⟨w14', e⟩ : ∃ w14', w14' = World.alloc w13' (.cells #[.slice Ao no co, .slice (some ⟨b4, 0, none⟩) 4 4, .slice A1 4 c1, .slice A2 4 c2] 36) := ⟨_, rfl⟩
        rw [← e] at hv h9 ⊢
        obtain ⟨b5, hb5⟩ : ∃ b5, b5 = w13'.heap.size := ⟨_, rfl⟩
        rw [← hb5] at hv ⊢
        clear e hb5
        replace q := q.ext h9
        replace hs := Sl.ext hs h9
        replace hso := Sl.ext hso h9
        replace l1 := Sl.ext l1 h9
        replace l2 := Sl.ext l2 h9
        replace s4 := Sl.ext s4 h9
        replace hb := hb.trans (h9.mono hb.size)
        clear h9
        refine hKK.out _ _ ?_ (fun hHeld => ?_)
        · exact (by first | exact q | exact q.ext (below_drew (Below.refl _ _)))
        clear hKK KK
        refine wpAnyE_ready (rs := [20]) (by kernel_rfl) (by simp) ?_
        refine EachE.cons (by rfl) (by simp only [List.getElem?_toArray]; rfl) (fun KK hKK => ?_) EachE.nil
        rw [if_pos (by kernel_rfl)]
        refine wp_callF 23 #[.slice (some ⟨b5, 0, none⟩) 4 4] (by kernel_rfl) ?_
        refine (Join_calls _ [.slice Ao no co, .slice (some ⟨b4, 0, none⟩) 4 4, .slice A1 4 c1, .slice A2 4 c2] [O, low op 1 ++ (low ca 1 ++ (low cb 1 ++ low cc 1)), low u 4, low cm 4] 4 4 b5 _ hv (Bss.cons hso HNO.out (Bss.cons s4 (by simp) (Bss.cons l1 (by simp) (Bss.cons l2 (by simp) (Bss.nil_ _))))) rfl (by simp [maxLen]) (by simp; omega)).mono ?_
        rintro e w15' ⟨vJ, rfl, hrow, h9⟩
        replace hrow := owns_lowJ hrow hb.size
        refine ⟨_, rfl, ?_⟩
        replace q := q.ext h9
        replace hs := Sl.ext hs h9
        replace hso := Sl.ext hso h9
        replace l1 := Sl.ext l1 h9
        replace l2 := Sl.ext l2 h9
        replace s4 := Sl.ext s4 h9
        replace hb := hb.trans (h9.mono hb.size)
        clear h9
        refine hKK.out _ _ ?_ (fun hHeld => ?_)
        · exact (by first | exact q | exact q.ext (below_drew (Below.refl _ _)))
        clear hKK KK
        refine wpAnyE_take (i := 21) (by simp only [List.getElem?_toArray]; rfl) (by kernel_rfl) (by kernel_rfl) (by kernel_rfl) (by kernel_rfl) (by kernel_rfl) (by exact fun _ _ _ h => h) (by exact yk (vJ) (by kernel_rfl) (fun _ => by kernel_rfl)) hHeld ?_
        refine wpAnyE_done (by kernel_rfl) ?_ _
        have hfin : Hid ([O, low op 1 ++ (low ca 1 ++ (low cb 1 ++ low cc 1)), low u 4, low cm 4].flatten = num n ++ rowsB l (k + 1)) := Lib.hid (by rw [HX.out, HO.out, HU.out]; simp [codeB])
        go_wp2_with fail
        go_roundw
        case rel => exact ⟨k + 1, vJ, rfl, by omega, by go_num, hrow.cast hfin.out, hs, hb⟩
        case measure => simp [intOf]; omega
    · obtain rfl : k = n := by omega
      go_wp2_with fail
      go_ret
      refine ⟨_, rfl, hr.cast ?_, hb⟩
      unfold codesB
      rw [HN.out]
set_option maxHeartbeats 4000000 in
set_option maxRecDepth 20000 in
theorem RKSame_yes (A A' : Option Addr) (L : List Cd) (n c b c' b' : Nat) (w : World) (hs : Sl w b A (kv L)) (hs' : Sl w b' A' (kv L)) (hn : L.length = n) (hm : n ≤ 1000000) :
    Calls Tryd.prog 22 #[.slice A n c, .slice A' n c'] w fun e w' => e = .returned (.bool true) ∧ Below w.heap.size w w' := by
  have HN := Lib.hid hn
  have hne : ((n : Int) != (n : Int)) = false := by simp
  clear hn
  go_enter Tryd.func22, Tryd.ntmps22
  go_wp2_with fail
  clear hne
  go_loopw [5, 13] (fun v i wr => ∃ k : Nat, k ≤ n ∧ i = .int .i64 k ∧ Below w.heap.size w wr) (fun _ i _ => n - (intOf i).toNat)
  case atStart => exact ⟨0, Nat.zero_le _, rfl, Below.refl _ _⟩
  case round =>
    obtain ⟨k, hk, rfl, hb⟩ := hrel
    by_cases hlt : k < n
    · have hkl : k < L.length := by rw [HN.out]; exact hlt
      obtain ⟨off, rfl, x0, x1, x2, x3, x4, x5⟩ := sl_code (Sl.ext hs hb) hkl
      obtain ⟨off', rfl, y0, y1, y2, y3, y4, y5⟩ := sl_code (Sl.ext hs' hb) hkl
      obtain ⟨⟨op, ca, cb, cc, cn, cm⟩, hc⟩ : ∃ x, x = L[k] := ⟨_, rfl⟩
      rw [← hc] at x0 x1 x2 x3 x4 x5 y0 y1 y2 y3 y4 y5
      simp only at x0 x1 x2 x3 x4 x5 y0 y1 y2 y3 y4 y5
      clear hc
      have ej : (k : Int) < (n : Int) := by omega
      go_wp2_with fail
      go_quiet (fail)
      go_wp2_with fail
      go_roundw
      case rel => exact ⟨k + 1, by omega, by go_num, below_drewN hb _⟩
      case measure => simp [intOf]; omega
    · obtain rfl : k = n := by omega
      go_wp2_with fail
      go_ret
      exact ⟨rfl, hb⟩
end Go.Proofs.YtfckgfoimpileaaDoor
/- The reference's Cut: the first bytes of a list, in new memory; nothing that was there turns. Condition: the result's length fits. -/
namespace Go.Proofs.YtfckgfoimpileaaDoor
open Go.RowKit

set_option maxHeartbeats 400000 in
theorem Cut_calls (A : Option Addr) (l : List UInt8) (n c b : Nat) (m : Int) (w : World) (hs : Bs w b A l) (hn : l.length = n) (h1 : n ≤ maxLen) (h2 : (l.take m.toNat).length ≤ 140737488355328) :
    Calls Tryd.prog 17 #[.slice A n c, .int .i64 m] w fun e w' => ∃ v, e = .returned v ∧ Row w' w.heap.size v (l.take m.toNat) ∧ Below w.heap.size w w' := by
  unfold maxLen at h1
  have HN := Lib.hid hn
  have HL := Lib.hid h2
  clear hn h2
  go_enter Tryd.func17, Tryd.ntmps17
  go_wp2
  go_loopw [5, 10] (fun v i wr => ∃ k : Nat, k ≤ n ∧ i = .int .i64 k ∧ Row wr w.heap.size v (l.take (min k m.toNat)) ∧ Below w.heap.size w wr) (fun _ i _ => n - (intOf i).toNat)
  case atStart => exact ⟨0, Nat.zero_le _, rfl, by simpa using Row.nil_ _ _, Below.refl _ _⟩
  case round =>
    obtain ⟨k, hk, rfl, hown, hb⟩ := hrel
    by_cases hlt : k < n
    · have hkl : k < l.length := by rw [HN.out]; exact hlt
      obtain ⟨oa, rfl, hca⟩ := Bs.at_ (Sl.ext hs hb) hkl
      have ca := hca k hkl
      obtain ⟨q, hq⟩ : ∃ q, q = l[k] := ⟨_, rfl⟩
      rw [← hq] at ca
      have HQ := Lib.hid hq
      have hbs : w.heap.size ≤ wr.heap.size := hb.size
      clear hca hq
      by_cases hm : (k : Int) < m
      · have e1 : l.take (min k m.toNat) ++ [q] = l.take (min (k + 1) m.toNat) := by
          rw [HQ.out, show min k m.toNat = k by omega, show min (k + 1) m.toNat = k + 1 by omega, List.take_succ_eq_append_getElem hkl]
        have hle : (l.take (min k m.toNat)).length + 1 ≤ 140737488355328 := by
          have := HL.out
          simp only [List.length_take] at this ⊢
          omega
        have E1 := Lib.hid e1
        clear e1
        go_wp2_with (at_builtin; go_loud (refine wpList_app1 wr rfl (.tmp 18) (.tmp 20) rfl w.heap.size _ _ rfl hown q rfl rfl hle hbs ?_); intro v' w1 hown' hmod _)
        go_roundw
        case rel => exact ⟨k + 1, by omega, by go_num, hown'.cast E1.out, hb.trans (hmod.below hbs (fun i hi hv => by have := (hown.lt i hv).1; omega))⟩
        case measure => simp [intOf]; omega
      · have e1 : l.take (min k m.toNat) = l.take (min (k + 1) m.toNat) := by
          rw [show min k m.toNat = min (k + 1) m.toNat by omega]
        have E1 := Lib.hid e1
        clear e1
        go_wp2
        go_roundw
        case rel => exact ⟨k + 1, by omega, by go_num, hown.cast E1.out, hb⟩
        case measure => simp [intOf]; omega
    · go_wp2
      go_ret
      refine ⟨_, rfl, hown.cast ?_, hb⟩
      have := HN.out
      rw [show min k m.toNat = min l.length m.toNat by omega, List.take_eq_take_iff]
      omega
end Go.Proofs.YtfckgfoimpileaaDoor
/- The reference's Same: it returns whether two lists of bytes are alike, and writes nothing. Condition: the lengths fit. -/
namespace Go.Proofs.YtfckgfoimpileaaDoor
open Go.RowKit

theorem take_succ_eq (a b : List UInt8) (k : Nat) (ha : k < a.length) (hb : k < b.length) : (a.take (k + 1) = b.take (k + 1)) ↔ (a.take k = b.take k ∧ a[k] = b[k]) := by
  rw [List.take_succ_eq_append_getElem ha, List.take_succ_eq_append_getElem hb]
  constructor
  · intro h
    have := List.append_inj h (by simp; omega)
    exact ⟨this.1, by simpa using this.2⟩
  · rintro ⟨h1, h2⟩
    rw [h1, h2]

set_option maxHeartbeats 400000 in
theorem Same_calls (A B : Option Addr) (a b : List UInt8) (n m ca cb ba bb : Nat) (w : World) (ha : Bs w ba A a) (hb : Bs w bb B b) (hn : a.length = n) (hm : b.length = m) (h1 : n ≤ maxLen) (_h2 : m ≤ maxLen) :
    Calls Tryd.prog 20 #[.slice A n ca, .slice B m cb] w fun e w' => e = .returned (.bool (decide (a = b))) ∧ ∃ k, w' = w.drewN k := by
  unfold maxLen at h1
  by_cases hlen : n = m
  · subst hlen
    have hne : ((n : Int) != (n : Int)) = false := by simp
    have HN := Lib.hid hn
    have HM := Lib.hid hm
    clear hn hm
    go_enter Tryd.func20, Tryd.ntmps20
    go_wp2
    go_loopw [13] (fun i wr => ∃ k : Nat, k ≤ n ∧ i = .int .i64 k ∧ Hid (a.take k = b.take k) ∧ ∃ d, wr = w.drewN d) (fun i _ => n - (intOf i).toNat)
    case atStart => exact ⟨0, Nat.zero_le _, rfl, rfl, 0, rfl⟩
    case round =>
      obtain ⟨k, hk, rfl, hpre, d, rfl⟩ := hrel
      by_cases hlt : k < n
      · obtain ⟨oa, rfl, hca⟩ := ha.at_ (k := k) (by rw [HN.out]; exact hlt)
        obtain ⟨ob, rfl, hcb⟩ := hb.at_ (k := k) (by rw [HM.out]; exact hlt)
        have ca := hca k (by rw [HN.out]; exact hlt)
        have cb := hcb k (by rw [HM.out]; exact hlt)
        have ka : k < a.length := by rw [HN.out]; exact hlt
        have kb : k < b.length := by rw [HM.out]; exact hlt
        have ts := Lib.hid (take_succ_eq a b k ka kb)
        clear hca hcb
        have e18 : ((n : Int) ≤ 9223372036854775807) := by omega
        by_cases hx : a[k] = b[k]
        · have hq : ((a[k].toNat : Int) != (b[k].toNat : Int)) = false := by simp [hx]
          go_wp2
          go_quiet (fail)
          go_wp2
          go_roundw
          case rel => exact ⟨k + 1, by omega, by go_num, Lib.hid (ts.out.2 ⟨hpre.out, hx⟩), _, rfl⟩
          case measure => simp [intOf]; omega
        · have hq : ((a[k].toNat : Int) != (b[k].toNat : Int)) = true := by
            simp only [bne_iff_ne, ne_eq]
            intro he
            exact hx (UInt8.toNat_inj.1 (by omega))
          go_wp2
          go_quiet (fail)
          go_wp2
          go_ret
          have hab : decide (a = b) = false := by
            simp only [decide_eq_false_iff_not]
            rintro rfl
            exact hx rfl
          exact ⟨by rw [hab]; rfl, _, by first | rfl | exact World.drewN_drewN _ _ _⟩
      · go_wp2
        go_ret
        have hkn : k = n := by omega
        have hab : decide (a = b) = true := by
          simp only [decide_eq_true_eq]
          have := hpre.out
          rw [hkn, List.take_of_length_le (by rw [HN.out]; exact Nat.le_refl _), List.take_of_length_le (by rw [HM.out]; exact Nat.le_refl _)] at this
          exact this
        exact ⟨by rw [hab]; rfl, _, by first | rfl | exact World.drewN_drewN _ _ _⟩
  · have hne : ((n : Int) != (m : Int)) = true := by simp only [bne_iff_ne, ne_eq]; omega
    have hd : decide (a = b) = false := by simp only [decide_eq_false_iff_not]; rintro rfl; omega
    go_enter Tryd.func20, Tryd.ntmps20
    go_wp2
    go_ret
    exact ⟨by rw [hd]; rfl, 0, rfl⟩
end Go.Proofs.YtfckgfoimpileaaDoor
/- A byte of a row of the call's own, written. No condition. -/
namespace Go.Proofs.YtfckgfoimpileaaDoor
open Go.RowKit

theorem Row.set_ {w : World} {B k : Nat} {v : Value} {l : List UInt8} (h : Row w B v l) (hk : k < l.length) :
    ∃ g cap, v = .slice (some ⟨g, 0, none⟩) l.length cap ∧ B ≤ g ∧ g < w.heap.size ∧ w.cell? ⟨g, k, none⟩ = some (.int .u8 (l[k].toNat : Int)) ∧ w.frozen? ⟨g, k, none⟩ = false ∧
      ∀ (q : UInt8) (m : Nat) w', m = q.toNat → w'.heap[g]? = (w.setCell ⟨g, k, none⟩ (.int .u8 (m : Int))).heap[g]? → Row w' B v (l.set k q) := by
  rcases h.2 with ⟨_, hn⟩ | ⟨g, cap, cur, hv, hg, hh, hnc, hcm, hcs, hct⟩
  · omega
  · have hlt : k < cur.size := by omega
    have hct' : cur.toList.take l.length = bv l := by simpa using hct
    refine ⟨g, cap, hv, hg, (Array.getElem?_eq_some_iff.1 hh).1, ?_, frozen_of_row w g k _ _ hh, fun q m w' hm hw => ?_⟩
    · rw [cell_of_row w g k _ _ _ hh]
      have h1 : (cur.toList.take l.length)[k]? = some (.int .u8 (l[k].toNat : Int)) := by
        rw [hct', List.getElem?_eq_getElem (by simpa using hk), bv_get]
      rw [List.getElem?_take, if_pos hk] at h1
      simpa using h1
    · subst hm
      rw [heap_setCell_same w g k cur _ _ hh] at hw
      refine ⟨by simp, .inr ⟨g, cap, _, by rw [hv]; simp, hg, hw, by simpa using hnc, hcm, by simpa using hcs, ?_⟩⟩
      have h2 : (cur.setIfInBounds k (.int .u8 (q.toNat : Int))).toList = cur.toList.set k (.int .u8 (q.toNat : Int)) := by simp
      rw [h2]
      simp only [Nat.mul_one, List.length_set]
      rw [List.take_set, hct']
      simp [bv, List.map_set]
theorem Row.bs_ {w : World} {B g n cap : Nat} {l : List UInt8} (h : Row w B (.slice (some ⟨g, 0, none⟩) n cap) l) : l.length = n ∧ n ≤ cap ∧ Bs w g (some ⟨g, 0, none⟩) l := by
  rcases h.2 with ⟨hv, _⟩ | ⟨g', cap', cur, hv, hb, _, hnc, hcm, _⟩
  · cases hv
  · injection hv with h1 h2 h3
    injection h1 with h1
    injection h1 with h1 _ _
    subst h1 h2 h3
    refine ⟨rfl, hnc, fun _ => ⟨0, rfl, fun j u hu => ?_⟩⟩
    have := h.cells (g := g) rfl j u hu
    simpa [Addr.add_lit] using this
end Go.Proofs.YtfckgfoimpileaaDoor
/- CodeForms: the walk. Conditions: the numbers fit; the tables lie. -/
namespace Go.Proofs.YtfckgfoimpileaaDoor
open Go.RowKit
set_option linter.unusedVariables false

theorem okK_take {l : List Cd} (h : okK l) (k : Nat) : okK (l.take k) := fun c hc => h c (List.mem_of_mem_take hc)
theorem BSame_yes (A B : Option Addr) (a : List UInt8) (n ca cb ba bb : Nat) (w : World) (ha : Bs w ba A a) (hb : Bs w bb B a) (hn : a.length = n) (h1 : n ≤ 2000) :
    Calls Tryd.prog 20 #[.slice A n ca, .slice B n cb] w fun e w' => e = .returned (.bool true) ∧ Below w.heap.size w w' :=
  (Same_calls A B a a n n ca cb ba bb w ha hb hn hn (by simp only [maxLen]; omega) (by simp only [maxLen]; omega)).mono fun e w' h => by
    obtain ⟨rfl, k, rfl⟩ := h
    exact ⟨by simp, below_drewN (Below.refl _ _) k⟩
/-- The three texts, as they lie. -/
def TextsAt (w : World) (vb : Nat) : Prop := vb < w.heap.size ∧ ∀ k, k < 3 → ∃ A l n c b, w.cell? ⟨vb, k, none⟩ = some (.slice A n c) ∧ Bs w b A l ∧ l.length = n ∧ n ≤ c ∧ n ≤ 2000
theorem TextsAt.ext {w w' : World} {vb : Nat} (h : TextsAt w vb) (hb : Below w.heap.size w w') : TextsAt w' vb :=
  ⟨Nat.lt_of_lt_of_le h.1 hb.size, fun k hk => by
    obtain ⟨A, l, n, c, b, h1, h2, h3⟩ := h.2 k hk
    exact ⟨A, l, n, c, b, (World.cell?_of_block (hb.block vb h.1)).trans h1, Sl.ext h2 hb, h3⟩⟩
theorem TextsAt.mk3 {w : World} {vb : Nat} {t : TypeId} {A1 A2 A3 : Option Addr} {l1 l2 l3 : List UInt8} {n1 n2 n3 c1 c2 c3 b1 b2 b3 : Nat} (h : w.heap[vb]? = some (.cells #[.slice A1 n1 c1, .slice A2 n2 c2, .slice A3 n3 c3] t (0, 0)))
    (s1 : Bs w b1 A1 l1) (s2 : Bs w b2 A2 l2) (s3 : Bs w b3 A3 l3) (e1 : l1.length = n1 ∧ n1 ≤ c1 ∧ n1 ≤ 2000) (e2 : l2.length = n2 ∧ n2 ≤ c2 ∧ n2 ≤ 2000) (e3 : l3.length = n3 ∧ n3 ≤ c3 ∧ n3 ≤ 2000) : TextsAt w vb := by
  refine ⟨(Array.getElem?_eq_some_iff.1 h).1, fun k hk => ?_⟩
  have h3 : k = 0 ∨ k = 1 ∨ k = 2 := by omega
  rcases h3 with rfl | rfl | rfl
  · exact ⟨A1, l1, n1, c1, b1, by rw [cell_of_row w vb _ _ _ _ h]; rfl, s1, e1⟩
  · exact ⟨A2, l2, n2, c2, b2, by rw [cell_of_row w vb _ _ _ _ h]; rfl, s2, e2⟩
  · exact ⟨A3, l3, n3, c3, b3, by rw [cell_of_row w vb _ _ _ _ h]; rfl, s3, e3⟩
/-- The instructions, and what came in, as they lie. -/
structure FC (w : World) (A2 : Option Addr) (M : List Cd) (b2 : Nat) (A4 : Option Addr) (ra : List UInt8) (b4 : Nat) (W : World) : Prop where
  sc : Sl W b2 A2 (kv M)
  sr : Bs W b4 A4 ra
  bl : Below w.heap.size w W
namespace FC
variable {w W W0 W' : World} {b2 b4 gg : Nat} {A2 A4 : Option Addr} {M : List Cd} {ra : List UInt8}
theorem ext (f : FC w A2 M b2 A4 ra b4 W) (x : Below W.heap.size W W') : FC w A2 M b2 A4 ra b4 W' := ⟨Sl.ext f.sc x, Sl.ext f.sr x, f.bl.trans (x.mono f.bl.size)⟩
theorem past (f0 : FC w A2 M b2 A4 ra b4 W0) (f : FC w A2 M b2 A4 ra b4 W) (hm : Mod (fun i => i = gg) W W') (hg : W0.heap.size ≤ gg) : FC w A2 M b2 A4 ra b4 W' :=
  have h0 := f0.bl.size
  ⟨sl_modK f.sc hm (fun hp e => by have := Sl.lt f0.sc (by intro h5; have h6 := congrArg List.length h5; rw [kv_length, List.length_nil] at h6; omega); omega), Bs.modne f.sr hm (fun hne e => by have := Bs.lt f0.sr hne; omega), f.bl.trans (hm.below (B := w.heap.size) f.bl.size (fun i hi e => by omega))⟩
end FC
set_option maxHeartbeats 32000000 in
set_option maxRecDepth 40000 in
theorem CodeForms_walk (A : Option Addr) (L : List Cd) (n c b : Nat) (Ar : Option Addr) (rw_ : List UInt8) (nr cr br : Nat) (at_ tn : Nat) (w : World) (hT : AllT w) (hs : Sl w b A (kv L)) (hn : L.length = n) (_hm : n ≤ maxLen) (hnc : n ≤ c) (hok : okK L) (hsR : Bs w br Ar rw_) (hRn : rw_.length = nr) (hRm : nr ≤ maxLen) (hat : at_ ≤ 65535) (htn : tn ≤ 255) :
    Calls Tryd.prog 4 #[.slice A n c, .slice Ar nr cr, .int .u16 (at_ : Int), .int .u8 (tn : Int)] w fun e w' => e = .returned (.bool true) ∧ Below w.heap.size w w' := by
  have hF := fun W h => Few_calls A L n c b W h hn hnc
  have hCu := fun W a => Cut_calls Ar rw_ nr cr br 60 W a hRn hRm (by rw [List.length_take]; exact Nat.le_trans (Nat.min_le_left _ _) (by decide))
  rw [show (60 : Int).toNat = 60 from rfl] at hCu
  obtain ⟨M, hM⟩ : ∃ M, M = L.take 110 := ⟨_, rfl⟩
  obtain ⟨ra, hra⟩ : ∃ d, d = rw_.take 60 := ⟨_, rfl⟩
  have hML : M.length ≤ 110 := by rw [hM, List.length_take]; omega
  have hMo : okK M := by rw [hM]; exact okK_take hok 110
  have hral : ra.length ≤ 60 := by rw [hra, List.length_take]; omega
  rw [← hM] at hF
  rw [← hra] at hCu
  have hAw := Awake_calls w hT
  clear hM hra hok hn hRn hRm hT
  go_enter Tryd.func4, Tryd.ntmps4
  go_wp2_with fail
  refine hAw.mono ?_
  rintro e w1 ⟨rfl, hb⟩
  replace hs := Sl.ext hs hb
  replace hsR := Sl.ext hsR hb
  clear hAw
  go_wp2_with fail
  refine (hF _ hs).mono ?_
  rintro e w2 ⟨v, rfl, hrow, h1⟩
  obtain ⟨A2, c2, b2, hve, -, -, -, -, hs2, -⟩ := RowK.sl hrow
  obtain ⟨n2, hn2⟩ : ∃ n2, n2 = M.length := ⟨_, rfl⟩
  rw [← hn2] at hve hML
  subst hve
  have HN2 := Lib.hid hn2.symm
  replace hsR := Sl.ext hsR h1
  replace hb := hb.trans (h1.mono hb.size)
  clear h1 hrow hs hF hn2
  go_wp2_with fail
  refine (hCu _ hsR).mono ?_
  rintro e w3 ⟨v, rfl, hrow, h1⟩
  obtain ⟨A4, c4, b4, hve, hrc4, -, -, -, hs4, -⟩ := Row.sl hrow
  obtain ⟨n4, hn4⟩ : ∃ n4, n4 = ra.length := ⟨_, rfl⟩
  rw [← hn4] at hve hral hrc4
  subst hve
  have HN4 := Lib.hid hn4.symm
  have f : FC w A2 M b2 A4 ra b4 w3 := ⟨Sl.ext hs2 h1, hs4, hb.trans (h1.mono hb.size)⟩
  clear h1 hrow hs2 hs4 hsR hb hCu hn4
  obtain ⟨z, hz⟩ : ∃ z, z = decide (96 < n2) := ⟨_, rfl⟩
  obtain ⟨P, hP⟩ : ∃ P, P = if z then [] else codesB M := ⟨_, rfl⟩
  have hzn : z = false → n2 ≤ 96 := fun h => by rw [h] at hz; have := of_decide_eq_false hz.symm; omega
  have hzy : z = true → 96 < n2 := fun h => by rw [h] at hz; exact of_decide_eq_true hz.symm
  have hPl : P.length = if z then 0 else 1 + 12 * n2 := by
    rw [hP]
    cases hz2 : z
    · have h1 := hzn hz2
      simp only [Bool.false_eq_true, if_false]
      unfold codesB
      rw [HN2.out, num_one h1, List.length_append, rowsB_len M n2 (by rw [HN2.out]; exact Nat.le_refl _)]
      rfl
    · rfl
  have hBy : ∀ W, FC w A2 M b2 A4 ra b4 W → Calls Tryd.prog 18 #[.slice A2 n2 c2] W fun e w' => ∃ v, e = .returned v ∧ Row w' W.heap.size v P ∧ Below W.heap.size W w' := fun W f => by
    rw [hP]
    cases hz2 : z
    · exact CBytes_in A2 M n2 c2 b2 W f.sc HN2.out (hzn hz2) hMo
    · exact (CBytes_out A2 n2 c2 W (hzy hz2)).mono fun e w' h => ⟨_, h.1, Row.nil_ _ _, by rw [h.2]; exact Below.refl _ _⟩
  have hOw := fun W A c b h => Own_calls A M n2 c b W h HN2.out (by omega)
  obtain ⟨m, hm⟩ : ∃ m, m = P.length := ⟨_, rfl⟩
  rw [← hm] at hPl
  have hm2 : m ≤ 1400 := by
    rw [hPl]
    cases hz2 : z
    · have := hzn hz2
      simp only [Bool.false_eq_true, if_false]
      omega
    · simp
  have e1 : decide ((n2 : Int) > 96) = z := by rw [hz, Bool.eq_iff_iff]; simp; omega
  have HP := Lib.hid (And.intro hP (And.intro hm.symm hPl))
  have HZN := Lib.hid hzn
  clear hz hP hPl hzn hzy hm
  go_wp2_with fail
  refine (hBy _ f).mono ?_
  rintro e w5 ⟨v, rfl, hrow, h1⟩
  obtain ⟨A5, c5, b5, hve, hc5, -, -, -, hsP, -⟩ := Row.sl hrow
  rw [HP.out.2.1] at hve hc5
  subst hve
  replace f := f.ext h1
  clear h1 hrow hBy
  go_upto_if 30 with fail
  clear e1
  go_cut [10] (fun s10 wx => ∃ (wz : World) (T : List UInt8) (A9 : Option Addr) (n9 c9 b9 : Nat), wz = wx ∧ s10 = .slice A9 n9 c9 ∧ T.length = n9 ∧ FC w A2 M b2 A4 ra b4 wz ∧ Bs wz b5 A5 P ∧ Bs wz b9 A9 T ∧ n9 ≤ c9 ∧ n9 ≤ 1400)
  case first =>
    cases z with
    | true =>
      have hm0 : m = 0 := HP.out.2.2
      have e2 : ((m : Int) != 0) = false := by simp; omega
      clear hm0
      go_wp2_with fail
      go_meet
      exact ⟨_, ra, A4, _, c4, b4, rfl, rfl, HN4.out, f, hsP, f.sr, hrc4, by omega⟩
    | false =>
      have hn96 := HZN.out rfl
      have hPd : P = codesB M := HP.out.1
      have hPm := HP.out.2.1
      have hm1 : 1 ≤ m := by have := HP.out.2.2; simp only [Bool.false_eq_true, if_false] at this; omega
      have hgo := gotK_own (cs := M) (by rw [HN2.out]; exact hn96) hMo
      have hPa := fun W A c b a => KParse_any A P m c b W a hPm (by omega) M 0 (by rw [hPd, hgo]; simp [PK.ok])
      have hRB := fun W A c b a => RKBytes_calls A M n2 c b W a HN2.out hn96 hMo
      rw [← hPd] at hRB
      have HPM := Lib.hid hPm
      clear hPd hgo hPm
      go_wp2_with fail
      refine (hPa _ A5 c5 b5 hsP).mono ?_
      rintro e w9 ⟨v, rfl, hrow, h1⟩
      obtain ⟨A10, c10, b10, hve, -, -, -, -, hs10, -⟩ := RowK.sl hrow
      rw [HN2.out] at hve
      subst hve
      replace f := f.ext h1
      replace hsP := Sl.ext hsP h1
      clear h1 hrow hPa
      go_wp2_with fail
      refine (hOw _ A2 c2 b2 f.sc).mono ?_
      rintro e w10 ⟨v, rfl, hrow, h1⟩
      obtain ⟨A12, c12, b12, hve, -, -, -, -, hs12, -⟩ := RowK.sl hrow
      rw [HN2.out] at hve
      subst hve
      replace f := f.ext h1
      replace hsP := Sl.ext hsP h1
      replace hs10 := Sl.ext hs10 h1
      clear h1 hrow
      go_wp2_with fail
      refine (hRB _ A12 c12 b12 hs12).mono ?_
      rintro e w11 ⟨v, rfl, hrow, h1⟩
      obtain ⟨A13, c13, b13, hve, -, -, -, -, hs13, -⟩ := Row.sl hrow
      rw [HPM.out] at hve
      subst hve
      replace f := f.ext h1
      replace hsP := Sl.ext hsP h1
      replace hs10 := Sl.ext hs10 h1
      clear h1 hrow hs12 hRB
      have hSm := fun W a b => BSame_yes A5 A13 P m c5 c13 b5 b13 W a b HPM.out (by omega)
      go_wp2_with fail
      refine (hSm _ hsP hs13).mono ?_
      rintro e w12 ⟨rfl, h1⟩
      replace f := f.ext h1
      replace hsP := Sl.ext hsP h1
      replace hs10 := Sl.ext hs10 h1
      clear h1 hs13 hSm
      go_wp2_with fail
      refine (hOw _ A10 c10 b10 hs10).mono ?_
      rintro e w13 ⟨v, rfl, hrow, h1⟩
      obtain ⟨A14, c14, b14, hve, -, -, -, -, hs14, -⟩ := RowK.sl hrow
      rw [HN2.out] at hve
      subst hve
      replace f := f.ext h1
      replace hsP := Sl.ext hsP h1
      clear h1 hrow hs10
      go_wp2_with fail
      refine (hOw _ A2 c2 b2 f.sc).mono ?_
      rintro e w14 ⟨v, rfl, hrow, h1⟩
      obtain ⟨A15, c15, b15, hve, -, -, -, -, hs15, -⟩ := RowK.sl hrow
      rw [HN2.out] at hve
      subst hve
      replace f := f.ext h1
      replace hsP := Sl.ext hsP h1
      replace hs14 := Sl.ext hs14 h1
      clear h1 hrow hOw
      have hSk := fun W a b => RKSame_yes A14 A15 M n2 c14 b14 c15 b15 W a b HN2.out (by omega)
      go_wp2_with fail
      refine (hSk _ hs14 hs15).mono ?_
      rintro e w15 ⟨rfl, h1⟩
      replace f := f.ext h1
      replace hsP := Sl.ext hsP h1
      clear h1 hs14 hs15 hSk
      have ha := below_alloc1 w15 (.cells #[.slice A5 m c5] 36)
      go_wp2_with fail
      refine (Join_calls _ [.slice A5 m c5] [P] 1 1 w15.heap.size _ (Sl.cells_new w15 _ _) ((Bss.cons hsP HPM.out (Bss.nil_ _)).ext ha) rfl (by simp [maxLen]) (by have := HPM.out; simp; omega)).mono ?_
      rintro e w16 ⟨v, rfl, hrow, h1⟩
      have hwl : w15.heap.size ≤ (w15.alloc (.cells #[.slice A5 m c5] 36)).heap.size := by simp
      replace hrow := own_lowK hrow hwl
      replace hrow := Row.cast hrow (show [P].flatten = P by simp)
      replace h1 := ha.trans (h1.mono ha.size)
      have F0 := f
      have hsP0 := hsP
      replace f := f.ext h1
      replace hsP := Sl.ext hsP h1
      obtain ⟨I, hI⟩ : ∃ I, I = at_ % m := ⟨_, rfl⟩
      have hPm := HPM.out
      have hIl : I < P.length := by rw [hI, hPm]; exact Nat.mod_lt _ (by omega)
      have hIt : (at_ : Int).tmod (m : Int) = (I : Int) := by rw [hI, Int.tmod_eq_emod_of_nonneg (Int.natCast_nonneg _)]; simp
      have hIt2 : (at_ : Int) % (m : Int) = (I : Int) := by rw [hI]; simp
      have hIm : I < m := by rw [← hPm]; exact hIl
      obtain ⟨gg, cap, hv, hBg, hgl, hc, hf, hset⟩ := Row.set_ hrow (k := I) hIl
      rw [hPm] at hv
      subst hv
      have hnc0 : m ≤ cap := (Row.bs_ hrow).2.1
      obtain ⟨x, hx⟩ : ∃ x, x = P[I] := ⟨_, rfl⟩
      rw [← hx] at hc
      have x8 := x.toNat_lt
      have hxo : bits .xor .u8 (x.toNat : Int) (tn : Int) = ((x.toNat ^^^ tn : Nat) : Int) := u8_xor_nat x.toNat tn (by omega) (by omega)
      have HSet := Lib.hid hset
      have HG := Lib.hid hBg
      clear hset hrow hx hI h1 ha hBg hgl hwl hPm
      go_wp2_with fail
      obtain ⟨W, hW⟩ : ∃ W, W = w16.setCell ⟨gg, I, none⟩ (.int .u8 ((x.toNat ^^^ tn : Nat) : Int)) := ⟨_, rfl⟩
      rw [← hW]
      obtain ⟨u, hu8⟩ : ∃ u : UInt8, u.toNat = tn := ⟨UInt8.ofNat tn, by simp; omega⟩
      have hrow9 : Row W w15.heap.size (.slice (some ⟨gg, 0, none⟩) m cap) (P.set I (x ^^^ u)) := HSet.out (x ^^^ u) (x.toNat ^^^ tn) W (by rw [UInt8.toNat_xor, hu8]) (by rw [hW])
      obtain ⟨hl9, hnc9, hs9⟩ := Row.bs_ hrow9
      have hsm := Mod.setCell w16 ⟨gg, I, none⟩ (.int .u8 ((x.toNat ^^^ tn : Nat) : Int))
      rw [← hW] at hsm
      have hBg := HG.out
      replace f := FC.past F0 f hsm hBg
      replace hsP := Bs.modne hsP hsm (fun hne e => by have e : b5 = gg := e; have := Bs.lt hsP0 hne; omega)
      clear hW hrow9 hsm hc hf hxo hu8
      go_meet
      exact ⟨W, _, _, m, cap, gg, rfl, rfl, hl9, f, hsP, hs9, hnc9, by omega⟩
  case rest =>
    clear f hsP hOw HZN
    obtain ⟨w9, T, A9, n9, c9, b9, rfl, rfl, hT9, f, hsP, hsT, hTc, hTl⟩ := hcut
    have HT9 := Lib.hid hT9
    clear hT9
    have ha := below_alloc1 w9 (.cells #[.slice A5 m c5, .slice A4 n4 c4] 36)
    go_wp2_with fail
    refine (Join_calls _ [.slice A5 m c5, .slice A4 n4 c4] [P, ra] 2 2 w9.heap.size _ (Sl.cells_new w9 _ _) ((Bss.cons hsP HP.out.2.1 (Bss.cons f.sr HN4.out (Bss.nil_ _))).ext ha) rfl (by simp [maxLen]) (by simp; have := HP.out.2.1; have := HN4.out; omega)).mono ?_
    rintro e w10 ⟨v, rfl, hrow, h1⟩
    obtain ⟨J, hJ⟩ : ∃ J, J = P ++ ra := ⟨_, rfl⟩
    replace hrow := Row.cast hrow (show [P, ra].flatten = J by simp [hJ])
    have hJl : J.length ≤ 1500 := by rw [hJ, List.length_append]; have := HP.out.2.1; have := HN4.out; omega
    obtain ⟨A10, c10, b10, rfl, hJc, -, -, -, hsJ, -⟩ := Row.sl hrow
    replace h1 := ha.trans (h1.mono ha.size)
    have hb := f.bl
    replace hb := hb.trans (h1.mono hb.size)
    have hsR := Sl.ext f.sr h1
    replace hsT := Sl.ext hsT h1
    clear h1 ha hrow hJ hsP f
    have hq3 := heap_alloc_new w10 (.cells #[.slice A9 n9 c9, .slice A4 n4 c4, .slice A10 J.length c10] 36)
    have h1 := below_alloc1 w10 (.cells #[.slice A9 n9 c9, .slice A4 n4 c4, .slice A10 J.length c10] 36)
    have hx := TextsAt.mk3 hq3 (Sl.ext hsT h1) (Sl.ext hsR h1) (Sl.ext hsJ h1) ⟨HT9.out, hTc, by omega⟩ ⟨HN4.out, hrc4, by omega⟩ ⟨rfl, hJc, by omega⟩
    replace hb := hb.trans (h1.mono hb.size)
    clear h1 hq3 hsT hsR hsJ
    go_wp2_with fail
    go_loopw [79] (fun i wr => ∃ k : Nat, k ≤ 3 ∧ i = .int .i64 (k : Int) ∧ TextsAt wr w10.heap.size ∧ Below w.heap.size w wr) (fun i _ => 3 - (intOf i).toNat)
    case atStart => exact ⟨0, by omega, rfl, hx, hb⟩
    case round =>
      clear hx hb
      obtain ⟨k, hk, rfl, hx, hb⟩ := hrel
      by_cases hlt : k < 3
      · obtain ⟨A, l, n, c, b, hcell, hs, hln, hnc, hn2000⟩ := hx.2 k hlt
        have ej : (k : Int) < 3 := by omega
        have hPc := fun W a => KParse_r A l n c b W a hln (by omega)
        have hRc := fun W a => RKParse_r A l n c b W a hln hnc
        have hl1 := rK_len l
        obtain ⟨G, hG⟩ : ∃ G, G = (gotK l).ok := ⟨_, rfl⟩
        have hE : rKE l = if G then 0 else 2 := by rw [hG]; rfl
        rw [← hG] at hRc
        obtain ⟨D, hD⟩ : ∃ x, x = rK l := ⟨_, rfl⟩
        obtain ⟨EE, hEE⟩ : ∃ x, x = rKE l := ⟨_, rfl⟩
        rw [← hD, ← hEE] at hPc
        rw [← hD] at hRc hl1
        rw [← hEE] at hE
        obtain ⟨N, hN⟩ : ∃ N, N = D.length := ⟨_, rfl⟩
        rw [← hN] at hl1
        have HDN := Lib.hid hN.symm
        have HE := Lib.hid hE
        clear hG hD hEE hN hln hE
        go_wp2_with fail
        refine (hPc _ hs).mono ?_
        rintro e w11 ⟨v, rfl, hrow, h1⟩
        obtain ⟨Ax, cx, bx, hve, -, -, -, -, hsx, -⟩ := RowK.sl hrow
        rw [HDN.out] at hve
        subst hve
        replace hx := hx.ext h1
        replace hs := Sl.ext hs h1
        replace hb := hb.trans (h1.mono hb.size)
        clear h1 hrow hPc hcell
        go_wp2_with fail
        refine (hRc _ hs).mono ?_
        rintro e w12 ⟨v, rfl, hrow, h1⟩
        obtain ⟨Au, cu, bu, hve, -, -, -, -, hsu, -⟩ := RowK.sl hrow
        rw [HDN.out] at hve
        subst hve
        replace hx := hx.ext h1
        replace hb := hb.trans (h1.mono hb.size)
        replace hsx := Sl.ext hsx h1
        clear h1 hrow hRc hs
        have hDO := fun W a => Own_calls Ax D N cx bx W a HDN.out (by omega)
        have hDS := fun A6 c6 b6 W a1 a2 => RKSame_yes A6 Au D N c6 b6 cu bu W a1 a2 HDN.out (by omega)
        cases G with
        | true =>
          obtain rfl : EE = 0 := HE.out
          go_wp2_with fail
          refine (hDO _ hsx).mono ?_
          rintro e w13 ⟨v, rfl, hrow, h1⟩
          obtain ⟨A6, c6, b6, hve, -, -, -, -, hs6, -⟩ := RowK.sl hrow
          rw [HDN.out] at hve
          subst hve
          replace hx := hx.ext h1
          replace hb := hb.trans (h1.mono hb.size)
          replace hsu := Sl.ext hsu h1
          clear h1 hrow hsx
          go_wp2_with fail
          refine (hDS A6 c6 b6 _ hs6 hsu).mono ?_
          rintro e w14 ⟨rfl, h1⟩
          replace hx := hx.ext h1
          replace hb := hb.trans (h1.mono hb.size)
          clear h1 hs6 hsu
          go_wp2_with fail
          go_roundw
          case rel => exact ⟨k + 1, by omega, by go_num, hx, hb⟩
          case measure => simp [intOf]; omega
        | false =>
          obtain rfl : EE = 2 := HE.out
          go_wp2_with fail
          refine (hDO _ hsx).mono ?_
          rintro e w13 ⟨v, rfl, hrow, h1⟩
          obtain ⟨A6, c6, b6, hve, -, -, -, -, hs6, -⟩ := RowK.sl hrow
          rw [HDN.out] at hve
          subst hve
          replace hx := hx.ext h1
          replace hb := hb.trans (h1.mono hb.size)
          replace hsu := Sl.ext hsu h1
          clear h1 hrow hsx
          go_wp2_with fail
          refine (hDS A6 c6 b6 _ hs6 hsu).mono ?_
          rintro e w14 ⟨rfl, h1⟩
          replace hx := hx.ext h1
          replace hb := hb.trans (h1.mono hb.size)
          clear h1 hs6 hsu
          go_wp2_with fail
          go_roundw
          case rel => exact ⟨k + 1, by omega, by go_num, hx, hb⟩
          case measure => simp [intOf]; omega
      · obtain rfl : k = 3 := by omega
        go_wp2_with fail
        go_ret
        exact ⟨rfl, hb⟩
end Go.Proofs.YtfckgfoimpileaaDoor
/- How an argument that came in reads, in the words of this seat's walks. No condition. -/
namespace Go.Proofs.YtfckgfoimpileaaDoor
open Go.ChangeShapes Go.WideShapes Go.ChangeAt Go.RowKit

theorem own : ownKnob Tryd.prog.godebug = none := by kernel_rfl
theorem laidOut : laidOutB Tryd.prog = true := by kernel_rfl
end Go.Proofs.YtfckgfoimpileaaDoor
/- How a list of instructions, and an instruction, that came in read, in the words of this seat's walks; a world in which the tables lie. No condition. -/
namespace Go.Proofs.YtfckgfoimpileaaDoor
open Go.ChangeShapes Go.WideShapes Go.ChangeAt Go.RowKit Go.Deep

theorem kcode_cells : Tryd.prog.cellsOf 33 = 6 := by kernel_rfl
theorem kcode_under : ∃ f0  f1  f2  f3  f4  f5 : Field, Tryd.prog.underlying 33 = some (.struct #[f0, f1, f2, f3, f4, f5]) ∧ oneCellFields Tryd.prog #[f0, f1, f2, f3, f4, f5] = true ∧ f0.type = 5 ∧ f1.type = 5 ∧ f2.type = 5 ∧ f3.type = 5 ∧ f4.type = 21 ∧ f5.type = 31 :=
  ⟨_, _, _, _, _, _, Tryd.underlying33, by kernel_rfl, rfl, rfl, rfl, rfl, rfl, rfl⟩
set_option maxRecDepth 100000 in
theorem trod_code {H : Type} {enc : TypeId × Value → H} {W : World} {b0 fuel : Nat} {spare : Nat → Bool} {held : Bool} {cs : List Value} {x : DataW H × List MemPlace} (hlen : cs.length = 6) (ht : DataW.trod enc Tryd.prog W b0 spare held fuel 33 cs = some x) :
    ∃ y : Cd, cs = (cdA y).toList ∧ y.Ok := by
  obtain ⟨f0, f1, f2, f3, f4, f5, hu, hone, h0, h1, h2, h3, h4, h5⟩ := kcode_under
  obtain ⟨ys, n', _, _, _, hyl, hf⟩ := DataW.trod_struct hu ht
  match cs, hlen with
  | [v0, v1, v2, v3, v4, v5], _ =>
    match ys, hyl with
    | [y0, y1, y2, y3, y4, y5], _ =>
      obtain ⟨o0, k0⟩ := hone_of hone 0 f0 rfl
      obtain ⟨o1, k1⟩ := hone_of hone 1 f1 rfl
      obtain ⟨o2, k2⟩ := hone_of hone 2 f2 rfl
      obtain ⟨o3, k3⟩ := hone_of hone 3 f3 rfl
      obtain ⟨o4, k4⟩ := hone_of hone 4 f4 rfl
      obtain ⟨o5, k5⟩ := hone_of hone 5 f5 rfl
      have g0 := hf 0 f0 rfl
      have g1 := hf 1 f1 rfl
      have g2 := hf 2 f2 rfl
      have g3 := hf 3 f3 rfl
      have g4 := hf 4 f4 rfl
      have g5 := hf 5 f5 rfl
      rw [o0, k0, h0] at g0
      rw [o1, k1, h1] at g1
      rw [o2, k2, h2] at g2
      rw [o3, k3, h3] at g3
      rw [o4, k4, h4] at g4
      rw [o5, k5, h5] at g5
      simp only [List.drop_zero, List.drop_succ_cons, List.take_succ_cons, List.take_zero, List.getElem?_cons_zero, List.getElem?_cons_succ] at g0 g1 g2 g3 g4 g5
      obtain ⟨a0, e0, -, w0⟩ := DataW.trod_int Tryd.underlying5 g0
      injection e0 with e0
      have c0 := bounds_u8 w0
      obtain ⟨a1, e1, -, w1⟩ := DataW.trod_int Tryd.underlying5 g1
      injection e1 with e1
      have c1 := bounds_u8 w1
      obtain ⟨a2, e2, -, w2⟩ := DataW.trod_int Tryd.underlying5 g2
      injection e2 with e2
      have c2 := bounds_u8 w2
      obtain ⟨a3, e3, -, w3⟩ := DataW.trod_int Tryd.underlying5 g3
      injection e3 with e3
      have c3 := bounds_u8 w3
      obtain ⟨a4, e4, -, w4⟩ := DataW.trod_int Tryd.underlying21 g4
      injection e4 with e4
      have c4 := bounds_i32 w4
      obtain ⟨a5, e5, -, w5⟩ := DataW.trod_int Tryd.underlying31 g5
      injection e5 with e5
      have c5 := bounds_u32 w5
      refine ⟨⟨a0.toNat, a1.toNat, a2.toNat, a3.toNat, a4, a5.toNat⟩, ?_, by simp only; omega, by simp only; omega, by simp only; omega, by simp only; omega, by simp only; omega, by simp only; omega, by simp only; omega⟩
      simp only [cdA]
      rw [e0, e1, e2, e3, e4, e5, Int.toNat_of_nonneg c0.1, Int.toNat_of_nonneg c1.1, Int.toNat_of_nonneg c2.1, Int.toNat_of_nonneg c3.1, Int.toNat_of_nonneg c5.1]
theorem klist_of {α : Type} {n : Nat} {P : Nat → α → Prop} (h : ∀ i, i < n → ∃ x, P i x) : ∃ l : List α, l.length = n ∧ ∀ i (hi : i < l.length), P i l[i] := by
  induction n with
  | zero => exact ⟨[], rfl, fun i hi => by simp at hi⟩
  | succ n ih =>
    obtain ⟨l, hl, hp⟩ := ih (fun i hi => h i (by omega))
    obtain ⟨x, hx⟩ := h n (by omega)
    refine ⟨l ++ [x], by simp [hl], fun i hi => ?_⟩
    by_cases hin : i < l.length
    · rw [List.getElem_append_left hin]; exact hp i hin
    · have : i = n := by simp at hi; omega
      subst this
      rw [List.getElem_append_right (by omega)]
      simpa using hx
set_option maxRecDepth 100000 in
theorem open_codes {H : Type} {enc : TypeId × Value → H} {W : World} {base b0 : Nat} {spare : Nat → Bool} {held : Bool} {r : Reach} {v : Value} {d : DataW H} {p : List MemPlace} (hv : Value.okWide Tryd.prog W r base 22 v) (h : DataW.Trod enc Tryd.prog W b0 spare held 22 v d p) :
    ∃ A n c b L, v = .slice A n c ∧ L.length = n ∧ n ≤ maxLen ∧ n ≤ c ∧ okK L ∧ Sl W b A (kv L) := by
  obtain ⟨a, len, cap, rfl⟩ := okWide_slice Tryd.underlying22 hv
  obtain ⟨fuel, hf⟩ := h
  rcases open_slice Tryd.underlying22 hf with ⟨hcs, _⟩ | ⟨x, l, c, m, n, D, Pl, hcs, _, hl, hm, hmm, _, hel⟩
  · simp [Value.cells] at hcs
    obtain ⟨rfl, rfl, rfl⟩ := hcs
    exact ⟨none, 0, 0, 0, [], rfl, rfl, by simp [maxLen], Nat.le_refl _, fun c hc => (by cases hc), Sl.nil_ _ _ _⟩
  · simp [Value.cells] at hcs
    obtain ⟨rfl, rfl, rfl⟩ := hcs
    have hlm : len ≤ m := by rw [hmm]; split <;> omega
    rw [kcode_cells] at hel
    obtain ⟨xs, hxl, hxs⟩ := klist_of (n := len) (P := fun i (y : Cd) => y.Ok ∧ ∀ r, r < 6 → W.cell? (x.add (i * 6 + r)) = (cdA y).toList[r]?) (fun i hi => by
      obtain ⟨cs', hc, ht⟩ := hel i (by omega)
      obtain ⟨_, hcl, hat⟩ := World.cells?_some hc
      obtain ⟨y, hy, hyin⟩ := trod_code hcl ht
      refine ⟨y, hyin, fun r hr => ?_⟩
      have a0 := hat r (by omega)
      rw [Go.Deep.add_add, hy] at a0
      exact a0)
    have hok : okK xs := fun y hy => by
      obtain ⟨i, hi, rfl⟩ := List.getElem_of_mem hy
      exact (hxs i hi).1
    by_cases h0 : len = 0
    · have hx0 : xs = [] := List.eq_nil_of_length_eq_zero (by omega)
      subst hx0
      exact ⟨_, _, _, 0, [], rfl, hxl, by omega, hl, hok, Sl.nil_ _ _ _⟩
    · obtain ⟨bb, off, spot⟩ := x
      have hc0 := (hxs 0 (by omega)).2 0 (by omega)
      have hspot : spot = none := by
        rw [show (cdA (xs[0]'(by omega))).toList[0]? = some (.int .u8 ((xs[0]'(by omega)).op : Int)) from rfl] at hc0
        simpa [Addr.add] using World.cell?_spot hc0
      subst hspot
      refine ⟨_, _, _, bb, xs, rfl, hxl, by omega, hl, hok, fun _ => ⟨off, rfl, fun j u hu => ?_⟩⟩
      have hj := (List.getElem?_eq_some_iff.1 hu).1
      rw [kv_length] at hj
      have h1 := (hxs (j / 6) (by omega)).2 (j % 6) (by omega)
      rw [Addr.add_lit] at h1
      have h2 := kv_get (l := xs) (i := j / 6) (by omega) (r := j % 6) (by omega)
      rw [show j / 6 * 6 + j % 6 = j by omega] at h1 h2
      rw [h1, ← h2]
      exact hu
set_option maxRecDepth 100000 in
/-- An instruction by value. -/
theorem open_code {H : Type} {enc : TypeId × Value → H} {W : World} {base b0 : Nat} {spare : Nat → Bool} {held : Bool} {r : Reach} {v : Value} {d : DataW H} {p : List MemPlace} (hv : Value.okWide Tryd.prog W r base 33 v) (h : DataW.Trod enc Tryd.prog W b0 spare held 33 v d p) :
    ∃ (op a b cc : Nat) (n : Int) (m : Nat), v = .agg #[.int .u8 (op : Int), .int .u8 (a : Int), .int .u8 (b : Int), .int .u8 (cc : Int), .int .i32 n, .int .u32 (m : Int)] ∧ (Cd.mk op a b cc n m).Ok := by
  obtain ⟨f0, f1, f2, f3, f4, f5, hu, -⟩ := kcode_under
  obtain ⟨cs, rfl, hsz⟩ := okWide_struct hu hv
  obtain ⟨fuel, hf⟩ := h
  obtain ⟨y, hy, hyin⟩ := trod_code (by simpa [Value.cells] using hsz.trans kcode_cells) hf
  have h2 : cs = cdA y := by simpa [Value.cells] using hy
  exact ⟨y.op, y.a, y.b, y.c, y.n, y.m, by rw [h2]; rfl, hyin⟩
/-- The tables that the walks of plain numbers want. -/
theorem allT_of_laid {W : World} (h : laidMet Tryd.prog [("math/bits.deBruijn32tab", Rows.laid_math_bits_deBruijn32tab), ("math/bits.deBruijn64tab", Rows.laid_math_bits_deBruijn64tab), ("internal/strconv.uint64pow10", Rows.laid_internal_strconv_uint64pow10), ("hoodwink/code.shapes", Rows.laid_hoodwink_code_shapes)] W) : AllT W := by
  refine ⟨ctab_of_reads (Lib.laidMet.reads h (by simp)), ?_, ?_⟩
  · have hT : Lib.TabIs Tryd.prog W "math/bits.deBruijn32tab" .u8 (Lib.deBruijn32tab.map Int.ofNat) :=
      Lib.tabIs_of_head (g := 1) (t := 151) (e := 5) (n := 32) (by kernel_rfl) (by kernel_rfl) Tryd.underlying151 Tryd.underlying5 (by kernel_rfl) (by kernel_rfl) h
    intro j hj
    have h1 := hT.cell (g := 1) (by kernel_rfl) j (by simpa using hj)
    rw [h1]
    simp [List.getD, hj]
  · have h2 := laidMet.filter (fun x => x.1 == "internal/strconv.uint64pow10") h
    exact Lib.tabIs_of_head (g := 3) (t := 164) (e := 76) (n := 20) (by kernel_rfl) (by kernel_rfl) Tryd.underlying164 Tryd.underlying76 (by kernel_rfl) (by kernel_rfl) (rest := []) (show laidMet Tryd.prog [("internal/strconv.uint64pow10", Rows.laid_internal_strconv_uint64pow10)] W by simpa using h2)
/-- A row of numbers, laid. -/
noncomputable def layVals (zs : List Value) : Obj → Obj
  | .cells _ t frozen => .cells zs.toArray t frozen
  | o => o
/-- A world in which the tables lie as they are laid. -/
noncomputable def laidWorld (os : Os) : World :=
  { World.holding Tryd.prog os ⟨#[], #[], []⟩ with heap := ((((World.holding Tryd.prog os ⟨#[], #[], []⟩).heap.modify 1 (layVals (Lib.deBruijn32tab.map fun z => .int .u8 (Int.ofNat z)))).modify 8 (layVals (Lib.deBruijn64tab.map fun z => .int .u8 (Int.ofNat z)))).modify 3 (layVals (Lib.pow10Tab.map fun z => .int .u64 z))).modify 0 (layVals (shapeT.flatMap fun r => [.string ⟨r.1.toArray⟩, .int .u8 (r.2.1 : Int), .int .u8 (r.2.2 : Int)])) }
end Go.Proofs.YtfckgfoimpileaaDoor
/- How bytes that came in read, in the words of this seat's walks. No condition. -/
namespace Go.Proofs.YtfckgfoimpileaaDoor
open Go.ChangeShapes Go.WideShapes Go.ChangeAt Go.RowKit

theorem ints_bs {w : World} {x : Addr} {len : Nat} {zs : List Int} (hz : len ≤ zs.length) (hc : ∀ i, i < zs.length → w.cell? (x.add i) = some (.int .u8 (zs.getD i 0))) (hw : ∀ n ∈ zs, (Lit.int .u8 n).wf = true) :
    ∃ b l, l.length = len ∧ Bs w b (some x) l := by
  refine ⟨x.block, (zs.take len).map fun z => UInt8.ofNat z.toNat, by simp; omega, fun hne => ?_⟩
  have h0 : 0 < zs.length := by
    rcases Nat.eq_zero_or_pos len with h | h
    · subst h; simp at hne
    · omega
  obtain ⟨bb, off, spot⟩ := x
  have hspot : spot = none := by simpa [Addr.add] using World.cell?_spot (hc 0 h0)
  subst hspot
  refine ⟨off, rfl, fun j u hu => ?_⟩
  have hj : j < len := by
    have := (List.getElem?_eq_some_iff.1 hu).1
    simp [bv] at this
    omega
  have hjz : j < zs.length := by omega
  have h1 := hc j hjz
  rw [Addr.add_lit] at h1
  rw [h1]
  have hm : zs.getD j 0 = zs[j] := by simp [List.getD, hjz]
  have hb := bounds_u8 (hw zs[j] (List.getElem_mem hjz))
  have h2 : (bv ((zs.take len).map fun z => UInt8.ofNat z.toNat))[j]? = some (.int .u8 ((UInt8.ofNat zs[j].toNat).toNat : Int)) := by
    simp [bv, hj, hjz]
  rw [h2] at hu
  injection hu with hu
  rw [← hu, hm, u8_ofNat]
  congr 2
  omega

set_option maxRecDepth 100000 in
theorem open_bytes {H : Type} {enc : TypeId × Value → H} {W : World} {base b0 : Nat} {spare : Nat → Bool} {held : Bool} {r : Reach} {v : Value} {d : DataW H} {p : List MemPlace} (hv : Value.okWide Tryd.prog W r base 36 v) (h : DataW.Trod enc Tryd.prog W b0 spare held 36 v d p) :
    ∃ A n c b l, v = .slice A n c ∧ l.length = n ∧ n ≤ maxLen ∧ Bs W b A l := by
  obtain ⟨a, len, cap, rfl⟩ := okWide_slice Tryd.underlying36 hv
  obtain ⟨fuel, hf⟩ := h
  rcases open_ints Tryd.underlying36 Tryd.underlying5 (by kernel_rfl) hf with ⟨hcs, _⟩ | ⟨x, l, c, zs, hcs, _, hl, hm, hz, _, hcell, hwz⟩
  · simp [Value.cells] at hcs
    obtain ⟨rfl, rfl, rfl⟩ := hcs
    exact ⟨none, 0, 0, 0, [], rfl, rfl, by simp [maxLen], Sl.nil_ _ _ _⟩
  · simp [Value.cells] at hcs
    obtain ⟨rfl, rfl, rfl⟩ := hcs
    obtain ⟨b, l', hl', hs⟩ := ints_bs (by rw [hz]; split <;> omega) hcell hwz
    exact ⟨_, _, _, b, l', rfl, hl', by omega, hs⟩
end Go.Proofs.YtfckgfoimpileaaDoor
