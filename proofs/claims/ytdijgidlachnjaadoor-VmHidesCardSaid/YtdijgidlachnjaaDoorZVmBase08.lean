/- Parts of one proof, in their order. -/
import Derived.Test.YtdijgidlachnjaaDoorZVmBase07
import Derived.Test.YtdijgidlachnjaaDoorRows
import Derived.ProofKit
import Derived.OpenShut
import Derived.ShutString
import Derived.ChangeOld
import Derived.Deep.Slices
import Derived.Deep.Fields
import Derived.Lib.SmallJoins
import Derived.LaidSub
/- Hash and Labels of a board: the sums of what is written of each cell. Conditions: a board has 48 cells at most; the cells fit. -/
namespace Go.Proofs.YtdijgidlachnjaaDoor
open Go.RowKit

def uN (x : Int) : Nat := (x % 4294967296).toNat
theorem uN_lt (x : Int) : uN x < 4294967296 := by unfold uN; omega
theorem uN_wrap (x : Int) : IntKind.u32.wrap x = ((uN x : Nat) : Int) := by rw [IntKind.wrap_u32]; unfold uN; omega
theorem uN_mod (x : Int) : x % 4294967296 = ((uN x : Nat) : Int) := by unfold uN; omega
/-- What is written of a cell. -/
def cellB (c : Int × Nat) : List UInt8 := low (uN c.1) 4 ++ low c.2 4
def labB (c : Int × Nat) : List UInt8 := low c.2 4
def cellsB (L : List (Int × Nat)) : List UInt8 := L.flatMap cellB
def labsB (L : List (Int × Nat)) : List UInt8 := L.flatMap labB
theorem cellsB_len (L : List (Int × Nat)) : (cellsB L).length = 8 * L.length := by
  induction L with
  | nil => rfl
  | cons c L ih => simp only [cellsB, List.flatMap_cons, List.length_append, List.length_cons] at ih ⊢; rw [ih]; simp [cellB]; omega
theorem labsB_len (L : List (Int × Nat)) : (labsB L).length = 4 * L.length := by
  induction L with
  | nil => rfl
  | cons c L ih => simp only [labsB, List.flatMap_cons, List.length_append, List.length_cons] at ih ⊢; rw [ih]; simp [labB]; omega
theorem cellsB_snoc (L : List (Int × Nat)) (c : Int × Nat) : cellsB (L ++ [c]) = cellsB L ++ cellB c := by simp [cellsB]
theorem labsB_snoc (L : List (Int × Nat)) (c : Int × Nat) : labsB (L ++ [c]) = labsB L ++ labB c := by simp [labsB]
/-- The sums. -/
def hashL (L : List (Int × Nat)) : Nat := sumN (cellsB L)
def labsL (L : List (Int × Nat)) : Nat := sumN (labsB L)
theorem take_snoc1 {α : Type} {L : List α} {k : Nat} (hk : k < L.length) : L.take (k + 1) = L.take k ++ [L[k]] := by rw [List.take_succ_eq_append_getElem hk]
theorem pen_far {w w' : World} {g B : Nat} {r : Option Nat} {cs : Array Value} {t : TypeId} {fr : Nat × Nat} (h : Mod (fun i => i = g ∨ r = some i) w w') (hB : B < w.heap.size) (hg : B ≠ g) (hr : ∀ k, r = some k → B ≠ k) (q : w.heap[B]? = some (.cells cs t fr)) : w'.heap[B]? = some (.cells cs t fr) :=
  (h.block B hB (fun hh => hh.elim hg (fun e => hr B e rfl))).trans q
theorem pen_ne {w : World} {g k : Nat} {r : Option Nat} {l : List UInt8} (hp : PenAt w g r l) (hk : w.heap.size ≤ k) : k ≠ g ∧ ∀ j, r = some j → k ≠ j :=
  ⟨by have := hp.lt; omega, fun j hj => by have := hp.row_lt j hj; omega⟩
set_option maxHeartbeats 4000000 in
set_option maxRecDepth 20000 in
theorem label_calls (x : Int) (y g : Nat) (r : Option Nat) (l : List UInt8) (w : World) (hp : PenAt w g r l) (hy : y < 4294967296) (hlen : l.length ≤ 1000000) :
    Calls Tryd.prog 38 #[.agg #[.int .i32 x, .int .u32 (y : Int)], .pointer (some ⟨g, 0, none⟩)] w fun e w' => e = .returned (.tuple #[]) ∧ ∃ r', PenAt w' g r' (l ++ labB (x, y)) ∧ PenStep g r r' w w' := by
  have hb := below_alloc1 w (.cells #[.int .i32 x, .int .u32 (y : Int)] 38)
  have hp0 := PenAt.ext hp hb
  go_enter Tryd.func38, Tryd.ntmps38
  go_wp2_with fail
  refine (PenWord_calls g r l y _ hp0 hy (by omega)).mono ?_
  rintro e w1 ⟨rfl, r1, hp1, hst⟩
  go_wp2_with fail
  go_end0
  exact ⟨rfl, r1, hp1, PenStep.below hb hst⟩
set_option maxHeartbeats 8000000 in
set_option maxRecDepth 20000 in
theorem Labels_sum (L : List (Int × Nat)) (w : World) (hL : L.length ≤ 48) (hok : okC L) :
    Calls Tryd.prog 37 #[.agg (bdL L), .func (.func 38) #[] #[]] w fun e w' => e = .returned (.int .u32 (labsL L : Nat)) ∧ Below w.heap.size w w' := by
  have q0 := BoxL.new_ w L
  have HOK := Lib.hid hok
  have hpn : PenAt ((w.alloc (.cells (bdL L) 44)).alloc (.cells #[.slice none 0 0] 101)) (w.heap.size + 1) none [] := by
    refine ⟨.slice none 0 0, ?_, Row.nil_ _ _, rfl⟩
    have := heap_alloc_new (w.alloc (.cells (bdL L) 44)) (.cells #[.slice none 0 0] 101)
    rwa [show (w.alloc (.cells (bdL L) 44)).heap.size = w.heap.size + 1 by simp] at this
  have q0 := q0.alloc (.cells #[.slice none 0 0] 101)
  have hb := below_alloc2 w (.cells (bdL L) 44) (.cells #[.slice none 0 0] 101)
  have hc0 := BoxB.cn q0
  have ei : (L.length : Int) ≤ 48 := by omega
  have hlen := labsB_len L
  clear hok
  obtain ⟨n, hn⟩ : ∃ n, n = L.length := ⟨_, rfl⟩
  rw [← hn] at hc0 ei hL hlen
  have hlen2 : (labsB L).length ≤ 1000 := by omega
  have HN := Lib.hid hn
  clear hn hlen
  go_enter Tryd.func37, Tryd.ntmps37
  go_wp2_with fail
  go_loopw [7, 13] (fun p i wr => ∃ (k : Nat) (r : Option Nat), k ≤ n ∧ i = .int .i64 k ∧ BoxL wr w.heap.size L ∧ PenAt wr (w.heap.size + 1) r (labsB (L.take k)) ∧ (∀ j, r = some j → w.heap.size + 1 < j) ∧ Below w.heap.size w wr) (fun _ i _ => n - (intOf i).toNat)
  case atStart => exact ⟨0, none, Nat.zero_le _, rfl, q0, hpn, fun j hj => (by cases hj), hb⟩
  case round =>
    obtain ⟨k, r, hk, rfl, r0, hp, hrn, hb1⟩ := hrel
    rename_i v0 _
    clear q0 hb hc0 hpn
    by_cases hlt : k < n
    · have hkL : k < L.length := by rw [← HN.out]; exact hlt
      have a0 := BoxB.cv r0 (i := k) (by omega)
      have a1 := BoxB.cl r0 (i := k) (by omega)
      rw [bdF_in hkL] at a0
      rw [bdG_in hkL] at a1
      have hy := (okC_get HOK.out hkL).2
      have hsn : labsB (L.take (k + 1)) = labsB (L.take k) ++ labB L[k] := by rw [take_snoc1 hkL, labsB_snoc]
      have hpl := labsB_len (L.take k)
      obtain ⟨p, hp'⟩ : ∃ p, p = L[k] := ⟨_, rfl⟩
      rw [← hp'] at a0 a1 hy hsn
      obtain ⟨x, y⟩ := p
      have HS := Lib.hid hsn
      have ek : (k : Int) < 48 := by omega
      have ej : (k : Int) < (n : Int) := by omega
      simp only at a0 a1 hy
      have hz := r0.lt
      have hpl2 : (labsB (L.take k)).length ≤ 1000 := by rw [hpl, List.length_take]; omega
      have h9 := below_alloc1 wr (.cells #[.int .i32 x, .int .u32 (y : Int)] 38)
      have hp2 := PenAt.ext hp h9
      have r1 := r0.ext h9
      have hb2 := hb1.trans (h9.mono hb1.size)
      clear hp' hsn hpl
      go_wp2_with fail
      refine (label_calls x y (w.heap.size + 1) r _ _ hp2 hy (by omega)).mono ?_
      rintro e w2 ⟨rfl, r', hp3, hst⟩
      have r2 : BoxL w2 w.heap.size L := r1.mod hst.2 (fun h => by rcases h with h | h; omega; (have := hrn _ h; omega))
      have hz2 := hb2.size
      have hb3 : Below w.heap.size w w2 := hb2.trans (hst.2.below hb2.size (fun i hi h => by rcases h with h | h; omega; (have := hrn _ h; omega)))
      have hrn2 : ∀ j, r' = some j → w.heap.size + 1 < j := fun j hj => by
        rcases hst.1 with h | ⟨q, h, hq⟩
        · exact hrn j (h ▸ hj)
        · have e := h.symm.trans hj
          injection e with e
          have := hp2.lt
          omega
      go_wp2_with fail
      go_roundw
      case rel => exact ⟨k + 1, r', by omega, by go_num, r2, hp3.cast (by rw [HS.out]), hrn2, hb3⟩
      case measure => simp [intOf]; omega
    · obtain rfl : n = k := by omega
      rw [HN.out, List.take_length] at hp
      go_wp2_with fail
      refine (Make_calls _).mono ?_
      rintro e w3 ⟨rfl, h3⟩
      have hp := PenAt.ext hp h3
      have hb3 := hb1.trans (h3.mono hb1.size)
      clear h3
      go_wp2_with fail
      refine (PenBytes_calls (w.heap.size + 1) r _ _ hp (by omega)).mono ?_
      rintro e w4 ⟨v4, rfl, hrow, h4⟩
      obtain ⟨A4, c4, b4, rfl, _, _, _, _, hs4, _⟩ := hrow.sl
      have hb4 := hb3.trans (h4.mono hb3.size)
      clear h4 hrow
      have h5 := below_alloc1 w4 (.cells #[.slice A4 (labsB L).length c4] 99)
      have hs5 := Sl.ext hs4 h5
      have hb5 := hb4.trans (h5.mono hb4.size)
      have hsl := Sl.one_new w4 (.slice A4 (labsB L).length c4) 99
      go_wp2_with fail
      refine (TableSum_calls _ [.slice A4 (labsB L).length c4] [labsB L] 1 1 w4.heap.size _ hsl (Bss.cons hs5 rfl (Bss.nil_ _)) rfl (by simp [maxLen]) (by simp; omega)).mono ?_
      rintro e w6 ⟨rfl, h6⟩
      have hb6 := hb5.trans (h6.mono hb5.size)
      go_wp2_with fail
      go_ret
      exact ⟨rfl, hb6⟩
set_option maxHeartbeats 1000000 in
set_option maxRecDepth 20000 in
theorem Labels_calls (L : List (Int × Nat)) (w : World) (hL : L.length ≤ 48) (hok : okC L) :
    Calls Tryd.prog 23 #[.agg (bdL L)] w fun e w' => e = .returned (.int .u32 (labsL L : Nat)) ∧ Below w.heap.size w w' := by
  have q := BoxL.new_ w L
  have hb := below_alloc1 w (.cells (bdL L) 44)
  have hS := fun W => Labels_sum L W hL hok
  obtain ⟨z, hz⟩ : ∃ z, z = labsL L := ⟨_, rfl⟩
  rw [← hz] at hS ⊢
  clear hz
  go_enter Tryd.func23, Tryd.ntmps23
  go_wp2_with ((with_reducible refine at_ld 44 1 ?_); refine wpList_ld rfl (.tmp 1) rfl w.heap.size rfl L q ?_)
  refine (hS _).mono ?_
  rintro e w1 ⟨rfl, h1⟩
  go_wp2_with fail
  go_ret
  exact ⟨rfl, hb.trans (h1.mono hb.size)⟩
end Go.Proofs.YtdijgidlachnjaaDoor
/- Loads and tests of whole boards, as steps of a region that draws its order. Conditions: those said. -/
namespace Go.Proofs.YtdijgidlachnjaaDoor
open Go.RowKit

theorem yieldsIf_ld {ops : Array Oper} {S : World → Prop} {op : Oper} {a : Act} (hw : Region.wanted op (yielded ops a.tmps) = true) (x : Operand) (ho : op.op = .load 44 x)
    (b : Nat) (hx : a.eval x = .pointer (some ⟨b, 0, none⟩)) (L : List (Int × Nat)) (hS : ∀ w, S w → BoxL w b L) : YieldsIf Tryd.prog ops S op (.agg (bdL L)) a :=
  yieldsIf_load_bd hw x ho b hx _ _ _ hS
theorem yieldsIf_eql {ops : Array Oper} {S : World → Prop} {op : Oper} {a : Act} (hw : Region.wanted op (yielded ops a.tmps) = true) (x y : Operand) (ho : op.op = .binOp .eql 44 x y 44)
    (L M : List (Int × Nat)) (hx : a.eval x = .agg (bdL L)) (hy : a.eval y = .agg (bdL M)) (hL : L.length ≤ 48) (d : Bool) (hd : d = decide (L = M)) : YieldsIf Tryd.prog ops S op (.bool d) a :=
  .inl ⟨hw, fun w _ => by
    have e : d = true ↔ bdA (bdF L) (bdG L) L.length = bdA (bdF M) (bdG M) M.length := by
      rw [hd, decide_eq_true_iff]
      exact (bdL_inj hL).symm
    unfold execOp
    simp only [ho, hx, hy, bdL, Sem.run_bind, eq_guard, Result.andThen_ok, run_eql_bd w _ _ _ _ _ _ d e, Sem.run_pure]⟩
end Go.Proofs.YtdijgidlachnjaaDoor
/- The reference's Bytes, Hash, Labels of cells; Alike. Conditions: those said. -/
namespace Go.Proofs.YtdijgidlachnjaaDoor
open Go.RowKit

set_option maxHeartbeats 4000000 in
set_option maxRecDepth 20000 in
theorem Alike_calls (L M : List (Int × Nat)) (o : Int) (w : World) (hL : L.length ≤ 48) (hM : M.length ≤ 48) (hok : okC L) (hok2 : okC M) :
    Calls Tryd.prog 22 #[.agg (bdL L), .agg (bdL M), .int .i64 o] w fun e w' => e = .returned (.bool (decide (viewL o L = viewL o M))) ∧ Below w.heap.size w w' := by
  have hb := below_alloc2 w (.cells (bdL L) 44) (.cells (bdL M) 44)
  have q0 := (BoxL.new_ w L).alloc (.cells (bdL M) 44)
  have q1 := BoxL.new_ (w.alloc (.cells (bdL L) 44)) M
  rw [show (w.alloc (.cells (bdL L) 44)).heap.size = w.heap.size + 1 by simp] at q1
  have hV := fun W => View_calls L o W hL hok
  have hU := fun W => View_calls M o W hM hok2
  obtain ⟨d, hd⟩ : ∃ d, d = decide (viewL o L = viewL o M) := ⟨_, rfl⟩
  rw [← hd]
  have HD := Lib.hid hd
  have hvl : (viewL o L).length ≤ 48 := by simp; omega
  obtain ⟨X, hX⟩ : ∃ X, X = viewL o L := ⟨_, rfl⟩
  obtain ⟨Y, hY⟩ : ∃ Y, Y = viewL o M := ⟨_, rfl⟩
  rw [← hX] at hV hvl
  rw [← hY] at hU
  have HXY := Lib.hid (show d = decide (X = Y) by rw [hX, hY]; exact HD.out)
  clear hd hX hY
  go_enter Tryd.func22, Tryd.ntmps22
  go_wp2_with fail
  refine wp_region_held_drew (S := fun w' => BoxL w' w.heap.size L ∧ BoxL w' (w.heap.size + 1) M) (by kernel_rfl) ?_ (fun hHeld => ?_)
  · exact ⟨q0, q1⟩
  refine wpAnyH_take (i := 0) (v := ?kv0) (by simp only [List.getElem?_toArray, List.getElem?_cons_zero]; rfl) (by kernel_rfl) (by kernel_rfl) (by kernel_rfl) (by exact fun _ _ _ h => h) (Or.inl ⟨by rfl, ?ky0⟩) hHeld ?_
  case ky0 => (intro w hSw; (try dsimp only at hSw); skip; go_simp; try (with_reducible rfl))
  try simp only [Act.put, List.setIfInBounds_toArray, List.set_cons_zero, List.set_cons_succ]
  refine wpAnyH_take (i := 1) (by simp only [List.getElem?_toArray, List.getElem?_cons_succ, List.getElem?_cons_zero]; rfl) (by kernel_rfl) (by kernel_rfl) (by kernel_rfl) (by exact fun _ _ _ h => h) (by exact yieldsIf_ld (by rfl) (.tmp 3) rfl w.heap.size rfl L (fun w h => h.1)) hHeld ?_
  try simp only [Act.put, List.setIfInBounds_toArray, List.set_cons_zero, List.set_cons_succ]
  refine wpAnyH_take (i := 2) (v := ?kv2) (by simp only [List.getElem?_toArray, List.getElem?_cons_succ, List.getElem?_cons_zero]; rfl) (by kernel_rfl) (by kernel_rfl) (by kernel_rfl) (by exact fun _ _ _ h => h) (Or.inl ⟨by rfl, ?ky2⟩) hHeld ?_
  case ky2 => (intro w hSw; (try dsimp only at hSw); skip; go_simp; try (with_reducible rfl))
  try simp only [Act.put, List.setIfInBounds_toArray, List.set_cons_zero, List.set_cons_succ]
  refine wpAnyH_take (i := 4) (v := ?kv4) (by simp only [List.getElem?_toArray, List.getElem?_cons_succ, List.getElem?_cons_zero]; rfl) (by kernel_rfl) (by kernel_rfl) (by kernel_rfl) (by exact fun _ _ _ h => h) (Or.inl ⟨by rfl, ?ky4⟩) hHeld ?_
  case ky4 => (intro w hSw; (try dsimp only at hSw); skip; go_simp; try (with_reducible rfl))
  try simp only [Act.put, List.setIfInBounds_toArray, List.set_cons_zero, List.set_cons_succ]
  refine wpAnyH_take (i := 5) (by simp only [List.getElem?_toArray, List.getElem?_cons_succ, List.getElem?_cons_zero]; rfl) (by kernel_rfl) (by kernel_rfl) (by kernel_rfl) (by exact fun _ _ _ h => h) (by exact yieldsIf_ld (by rfl) (.tmp 4) rfl (w.heap.size + 1) rfl M (fun w h => h.2)) hHeld ?_
  try simp only [Act.put, List.setIfInBounds_toArray, List.set_cons_zero, List.set_cons_succ]
  refine wpAnyH_take (i := 6) (v := ?kv6) (by simp only [List.getElem?_toArray, List.getElem?_cons_succ, List.getElem?_cons_zero]; rfl) (by kernel_rfl) (by kernel_rfl) (by kernel_rfl) (by exact fun _ _ _ h => h) (Or.inl ⟨by rfl, ?ky6⟩) hHeld ?_
  case ky6 => (intro w hSw; (try dsimp only at hSw); skip; go_simp; try (with_reducible rfl))
  try simp only [Act.put, List.setIfInBounds_toArray, List.set_cons_zero, List.set_cons_succ]
  refine wpAnyH_ready (rs := [3]) (by kernel_rfl) (by simp) ?_
  refine AllReadyH.cons (by simp only [List.getElem?_toArray, List.getElem?_cons_succ, List.getElem?_cons_zero]; rfl) (fun KK hKK => ?_) AllReadyH.nil
  go_simp
  refine (hV _).mono ?_
  rintro e w1 ⟨rfl, h1⟩
  have h1 := below_undrew2 h1
  have q0 := q0.ext h1
  have q1 := q1.ext h1
  have hb := hb.trans (h1.mono hb.size)
  go_wp2_with fail
  refine hKK.out _ _ ?_ (fun hHeld => ?_)
  · exact ⟨q0, q1⟩
  clear hKK KK
  try simp only [Act.put, List.setIfInBounds_toArray, List.set_cons_zero, List.set_cons_succ]
  refine wpAnyH_ready (rs := [7]) (by kernel_rfl) (by simp) ?_
  refine AllReadyH.cons (by simp only [List.getElem?_toArray, List.getElem?_cons_succ, List.getElem?_cons_zero]; rfl) (fun KK hKK => ?_) AllReadyH.nil
  go_simp
  refine (hU _).mono ?_
  rintro e w2 ⟨rfl, h2⟩
  have q0 := q0.ext h2
  have q1 := q1.ext h2
  have hb := hb.trans (h2.mono hb.size)
  go_wp2_with fail
  refine hKK.out _ _ ?_ (fun hHeld => ?_)
  · exact ⟨q0, q1⟩
  clear hKK KK
  try simp only [Act.put, List.setIfInBounds_toArray, List.set_cons_zero, List.set_cons_succ]
  refine wpAnyH_take (i := 8) (by simp only [List.getElem?_toArray, List.getElem?_cons_succ, List.getElem?_cons_zero]; rfl) (by kernel_rfl) (by kernel_rfl) (by kernel_rfl) (by exact fun _ _ _ h => h) (by exact yieldsIf_eql (by rfl) (.tmp 11) (.tmp 15) rfl X Y rfl rfl hvl d HXY.out) hHeld ?_
  try simp only [Act.put, List.setIfInBounds_toArray, List.set_cons_zero, List.set_cons_succ]
  refine wpAnyH_take (i := 9) (v := ?kv9) (by simp only [List.getElem?_toArray, List.getElem?_cons_succ, List.getElem?_cons_zero]; rfl) (by kernel_rfl) (by kernel_rfl) (by kernel_rfl) (by exact fun _ _ _ h => h) (Or.inl ⟨by rfl, ?ky9⟩) hHeld ?_
  case ky9 => (intro w hSw; (try dsimp only at hSw); skip; go_simp; try (with_reducible rfl))
  try simp only [Act.put, List.setIfInBounds_toArray, List.set_cons_zero, List.set_cons_succ]
  refine wpAnyH_done (by kernel_rfl) ?_ _
  go_wp2_with fail
  go_ret
  exact ⟨rfl, hb⟩
end Go.Proofs.YtdijgidlachnjaaDoor
/- How an argument that came in reads, in the words of this seat's walks. No condition. -/
namespace Go.Proofs.YtdijgidlachnjaaDoor
open Go.ChangeShapes Go.WideShapes Go.ChangeAt Go.RowKit

theorem own : ownKnob Tryd.prog.godebug = none := by kernel_rfl
theorem laidOut : laidOutB Tryd.prog = true := by kernel_rfl
end Go.Proofs.YtdijgidlachnjaaDoor
/- How a list of instructions, and an instruction, that came in read, in the words of this seat's walks; a world in which the tables lie. No condition. -/
namespace Go.Proofs.YtdijgidlachnjaaDoor
open Go.ChangeShapes Go.WideShapes Go.ChangeAt Go.RowKit Go.Deep

theorem kcode_cells : Tryd.prog.cellsOf 60 = 6 := by kernel_rfl
theorem kcode_under : ∃ f0  f1  f2  f3  f4  f5 : Field, Tryd.prog.underlying 60 = some (.struct #[f0, f1, f2, f3, f4, f5]) ∧ oneCellFields Tryd.prog #[f0, f1, f2, f3, f4, f5] = true ∧ f0.type = 5 ∧ f1.type = 5 ∧ f2.type = 5 ∧ f3.type = 5 ∧ f4.type = 21 ∧ f5.type = 35 :=
  ⟨_, _, _, _, _, _, Tryd.underlying60, by kernel_rfl, rfl, rfl, rfl, rfl, rfl, rfl⟩
set_option maxRecDepth 100000 in
theorem trod_code {H : Type} {enc : TypeId × Value → H} {W : World} {b0 fuel : Nat} {spare : Nat → Bool} {held : Bool} {cs : List Value} {x : DataW H × List MemPlace} (hlen : cs.length = 6) (ht : DataW.trod enc Tryd.prog W b0 spare held fuel 60 cs = some x) :
    ∃ y : Cd, cs = (cdA y).toList ∧ y.Ok := by
  obtain ⟨f0, f1, f2, f3, f4, f5, hu, hone, h0, h1, h2, h3, h4, h5⟩ := kcode_under
  obtain ⟨ys, n', _, _, _, hyl, hf⟩ := DataW.trod_struct hu ht
  match cs, hlen with
  | [v0, v1, v2, v3, v4, v5], _ =>
    match ys, hyl with
    | [y0, y1, y2, y3, y4, y5], _ =>
      obtain ⟨o0, k0⟩ := hone_of hone 0 f0 rfl
      obtain ⟨o1, k1⟩ := hone_of hone 1 f1 rfl
      obtain ⟨o2, k2⟩ := hone_of hone 2 f2 rfl
      obtain ⟨o3, k3⟩ := hone_of hone 3 f3 rfl
      obtain ⟨o4, k4⟩ := hone_of hone 4 f4 rfl
      obtain ⟨o5, k5⟩ := hone_of hone 5 f5 rfl
      have g0 := hf 0 f0 rfl
      have g1 := hf 1 f1 rfl
      have g2 := hf 2 f2 rfl
      have g3 := hf 3 f3 rfl
      have g4 := hf 4 f4 rfl
      have g5 := hf 5 f5 rfl
      rw [o0, k0, h0] at g0
      rw [o1, k1, h1] at g1
      rw [o2, k2, h2] at g2
      rw [o3, k3, h3] at g3
      rw [o4, k4, h4] at g4
      rw [o5, k5, h5] at g5
      simp only [List.drop_zero, List.drop_succ_cons, List.take_succ_cons, List.take_zero, List.getElem?_cons_zero, List.getElem?_cons_succ] at g0 g1 g2 g3 g4 g5
      obtain ⟨a0, e0, -, w0⟩ := DataW.trod_int Tryd.underlying5 g0
      injection e0 with e0
      have c0 := bounds_u8 w0
      obtain ⟨a1, e1, -, w1⟩ := DataW.trod_int Tryd.underlying5 g1
      injection e1 with e1
      have c1 := bounds_u8 w1
      obtain ⟨a2, e2, -, w2⟩ := DataW.trod_int Tryd.underlying5 g2
      injection e2 with e2
      have c2 := bounds_u8 w2
      obtain ⟨a3, e3, -, w3⟩ := DataW.trod_int Tryd.underlying5 g3
      injection e3 with e3
      have c3 := bounds_u8 w3
      obtain ⟨a4, e4, -, w4⟩ := DataW.trod_int Tryd.underlying21 g4
      injection e4 with e4
      have c4 := bounds_i32 w4
      obtain ⟨a5, e5, -, w5⟩ := DataW.trod_int Tryd.underlying35 g5
      injection e5 with e5
      have c5 := bounds_u32 w5
      refine ⟨⟨a0.toNat, a1.toNat, a2.toNat, a3.toNat, a4, a5.toNat⟩, ?_, by simp only; omega, by simp only; omega, by simp only; omega, by simp only; omega, by simp only; omega, by simp only; omega, by simp only; omega⟩
      simp only [cdA]
      rw [e0, e1, e2, e3, e4, e5, Int.toNat_of_nonneg c0.1, Int.toNat_of_nonneg c1.1, Int.toNat_of_nonneg c2.1, Int.toNat_of_nonneg c3.1, Int.toNat_of_nonneg c5.1]
theorem klist_of {α : Type} {n : Nat} {P : Nat → α → Prop} (h : ∀ i, i < n → ∃ x, P i x) : ∃ l : List α, l.length = n ∧ ∀ i (hi : i < l.length), P i l[i] := by
  induction n with
  | zero => exact ⟨[], rfl, fun i hi => by simp at hi⟩
  | succ n ih =>
    obtain ⟨l, hl, hp⟩ := ih (fun i hi => h i (by omega))
    obtain ⟨x, hx⟩ := h n (by omega)
    refine ⟨l ++ [x], by simp [hl], fun i hi => ?_⟩
    by_cases hin : i < l.length
    · rw [List.getElem_append_left hin]; exact hp i hin
    · have : i = n := by simp at hi; omega
      subst this
      rw [List.getElem_append_right (by omega)]
      simpa using hx
set_option maxRecDepth 100000 in
theorem open_codes {H : Type} {enc : TypeId × Value → H} {W : World} {base b0 : Nat} {spare : Nat → Bool} {held : Bool} {r : Reach} {v : Value} {d : DataW H} {p : List MemPlace} (hv : Value.okWide Tryd.prog W r base 22 v) (h : DataW.Trod enc Tryd.prog W b0 spare held 22 v d p) :
    ∃ A n c b L, v = .slice A n c ∧ L.length = n ∧ n ≤ maxLen ∧ n ≤ c ∧ okK L ∧ Sl W b A (kv L) := by
  obtain ⟨a, len, cap, rfl⟩ := okWide_slice Tryd.underlying22 hv
  obtain ⟨fuel, hf⟩ := h
  rcases open_slice Tryd.underlying22 hf with ⟨hcs, _⟩ | ⟨x, l, c, m, n, D, Pl, hcs, _, hl, hm, hmm, _, hel⟩
  · simp [Value.cells] at hcs
    obtain ⟨rfl, rfl, rfl⟩ := hcs
    exact ⟨none, 0, 0, 0, [], rfl, rfl, by simp [maxLen], Nat.le_refl _, fun c hc => (by cases hc), Sl.nil_ _ _ _⟩
  · simp [Value.cells] at hcs
    obtain ⟨rfl, rfl, rfl⟩ := hcs
    have hlm : len ≤ m := by rw [hmm]; split <;> omega
    rw [kcode_cells] at hel
    obtain ⟨xs, hxl, hxs⟩ := klist_of (n := len) (P := fun i (y : Cd) => y.Ok ∧ ∀ r, r < 6 → W.cell? (x.add (i * 6 + r)) = (cdA y).toList[r]?) (fun i hi => by
      obtain ⟨cs', hc, ht⟩ := hel i (by omega)
      obtain ⟨_, hcl, hat⟩ := World.cells?_some hc
      obtain ⟨y, hy, hyin⟩ := trod_code hcl ht
      refine ⟨y, hyin, fun r hr => ?_⟩
      have a0 := hat r (by omega)
      rw [Go.Deep.add_add, hy] at a0
      exact a0)
    have hok : okK xs := fun y hy => by
      obtain ⟨i, hi, rfl⟩ := List.getElem_of_mem hy
      exact (hxs i hi).1
    by_cases h0 : len = 0
    · have hx0 : xs = [] := List.eq_nil_of_length_eq_zero (by omega)
      subst hx0
      exact ⟨_, _, _, 0, [], rfl, hxl, by omega, hl, hok, Sl.nil_ _ _ _⟩
    · obtain ⟨bb, off, spot⟩ := x
      have hc0 := (hxs 0 (by omega)).2 0 (by omega)
      have hspot : spot = none := by
        rw [show (cdA (xs[0]'(by omega))).toList[0]? = some (.int .u8 ((xs[0]'(by omega)).op : Int)) from rfl] at hc0
        simpa [Addr.add] using World.cell?_spot hc0
      subst hspot
      refine ⟨_, _, _, bb, xs, rfl, hxl, by omega, hl, hok, fun _ => ⟨off, rfl, fun j u hu => ?_⟩⟩
      have hj := (List.getElem?_eq_some_iff.1 hu).1
      rw [kv_length] at hj
      have h1 := (hxs (j / 6) (by omega)).2 (j % 6) (by omega)
      rw [Addr.add_lit] at h1
      have h2 := kv_get (l := xs) (i := j / 6) (by omega) (r := j % 6) (by omega)
      rw [show j / 6 * 6 + j % 6 = j by omega] at h1 h2
      rw [h1, ← h2]
      exact hu
set_option maxRecDepth 100000 in
/-- An instruction by value. -/
theorem open_code {H : Type} {enc : TypeId × Value → H} {W : World} {base b0 : Nat} {spare : Nat → Bool} {held : Bool} {r : Reach} {v : Value} {d : DataW H} {p : List MemPlace} (hv : Value.okWide Tryd.prog W r base 60 v) (h : DataW.Trod enc Tryd.prog W b0 spare held 60 v d p) :
    ∃ (op a b cc : Nat) (n : Int) (m : Nat), v = .agg #[.int .u8 (op : Int), .int .u8 (a : Int), .int .u8 (b : Int), .int .u8 (cc : Int), .int .i32 n, .int .u32 (m : Int)] ∧ (Cd.mk op a b cc n m).Ok := by
  obtain ⟨f0, f1, f2, f3, f4, f5, hu, -⟩ := kcode_under
  obtain ⟨cs, rfl, hsz⟩ := okWide_struct hu hv
  obtain ⟨fuel, hf⟩ := h
  obtain ⟨y, hy, hyin⟩ := trod_code (by simpa [Value.cells] using hsz.trans kcode_cells) hf
  have h2 : cs = cdA y := by simpa [Value.cells] using hy
  exact ⟨y.op, y.a, y.b, y.c, y.n, y.m, by rw [h2]; rfl, hyin⟩
/-- The table that the walks want. -/
theorem tab_of_laid {W : World} (h : laidMet Tryd.prog [("hoodwink/code.shapes", Rows.laid_hoodwink_code_shapes)] W) : CTab W := ctab_of_reads (Lib.laidMet.reads h (by simp))
/-- A row of numbers, laid. -/
noncomputable def layVals (zs : List Value) : Obj → Obj
  | .cells _ t frozen => .cells zs.toArray t frozen
  | o => o
/-- A world in which the tables lie as they are laid. -/
noncomputable def laidWorld (os : Os) : World :=
  { World.holding Tryd.prog os ⟨#[], #[], []⟩ with heap := (World.holding Tryd.prog os ⟨#[], #[], []⟩).heap.modify 0 (layVals (shapeT.flatMap fun r => [.string ⟨r.1.toArray⟩, .int .u8 (r.2.1 : Int), .int .u8 (r.2.2 : Int)])) }
end Go.Proofs.YtdijgidlachnjaaDoor
/- How a list of cells, and a cell, that came in read, in the words of this seat's walks. No condition. -/
namespace Go.Proofs.YtdijgidlachnjaaDoor
open Go.ChangeShapes Go.WideShapes Go.ChangeAt Go.RowKit Go.Deep

theorem bcell_cells : Tryd.prog.cellsOf 38 = 2 := by kernel_rfl
theorem bcell_under : ∃ f0 f1 : Field, Tryd.prog.underlying 38 = some (.struct #[f0, f1]) ∧ oneCellFields Tryd.prog #[f0, f1] = true ∧ f0.type = 21 ∧ f1.type = 35 :=
  ⟨_, _, Tryd.underlying38, by kernel_rfl, rfl, rfl⟩
set_option maxRecDepth 100000 in
theorem trod_cell {H : Type} {enc : TypeId × Value → H} {W : World} {b0 fuel : Nat} {spare : Nat → Bool} {held : Bool} {cs : List Value} {x : DataW H × List MemPlace} (hlen : cs.length = 2) (ht : DataW.trod enc Tryd.prog W b0 spare held fuel 38 cs = some x) :
    ∃ y : Int × Nat, cs = [.int .i32 y.1, .int .u32 ((y.2 : Nat) : Int)] ∧ ((-2147483648 ≤ y.1 ∧ y.1 ≤ 2147483647) ∧ y.2 < 4294967296) := by
  obtain ⟨f0, f1, hu, hone, h0, h1⟩ := bcell_under
  obtain ⟨ys, n', _, _, _, hyl, hf⟩ := DataW.trod_struct hu ht
  match cs, hlen with
  | [v0, v1], _ =>
    match ys, hyl with
    | [y0, y1], _ =>
      obtain ⟨o0, k0⟩ := hone_of hone 0 f0 rfl
      obtain ⟨o1, k1⟩ := hone_of hone 1 f1 rfl
      have g0 := hf 0 f0 rfl
      have g1 := hf 1 f1 rfl
      rw [o0, k0, h0] at g0
      rw [o1, k1, h1] at g1
      simp only [List.drop_zero, List.drop_succ_cons, List.take_succ_cons, List.take_zero, List.getElem?_cons_zero, List.getElem?_cons_succ] at g0 g1
      obtain ⟨a0, e0, _, w0⟩ := DataW.trod_int Tryd.underlying21 g0
      obtain ⟨a1, e1, _, w1⟩ := DataW.trod_int Tryd.underlying35 g1
      injection e0 with e0
      injection e1 with e1
      have c0 := bounds_i32 w0
      have c1 := bounds_u32 w1
      refine ⟨⟨a0, a1.toNat⟩, ?_, by simp only; omega, by simp only; omega⟩
      rw [e0, e1, Int.toNat_of_nonneg c1.1]
theorem clist_of {α : Type} {n : Nat} {P : Nat → α → Prop} (h : ∀ i, i < n → ∃ x, P i x) : ∃ l : List α, l.length = n ∧ ∀ i (hi : i < l.length), P i l[i] := by
  induction n with
  | zero => exact ⟨[], rfl, fun i hi => by simp at hi⟩
  | succ n ih =>
    obtain ⟨l, hl, hp⟩ := ih (fun i hi => h i (by omega))
    obtain ⟨x, hx⟩ := h n (by omega)
    refine ⟨l ++ [x], by simp [hl], fun i hi => ?_⟩
    by_cases hin : i < l.length
    · rw [List.getElem_append_left hin]; exact hp i hin
    · have : i = n := by simp at hi; omega
      subst this
      rw [List.getElem_append_right (by omega)]
      simpa using hx
set_option maxRecDepth 100000 in
theorem open_cells {H : Type} {enc : TypeId × Value → H} {W : World} {base b0 : Nat} {spare : Nat → Bool} {held : Bool} {r : Reach} {v : Value} {d : DataW H} {p : List MemPlace} (hv : Value.okWide Tryd.prog W r base 23 v) (h : DataW.Trod enc Tryd.prog W b0 spare held 23 v d p) :
    ∃ A n c b L, v = .slice A n c ∧ L.length = n ∧ n ≤ maxLen ∧ n ≤ c ∧ okC L ∧ Sl W b A (cv L) := by
  obtain ⟨a, len, cap, rfl⟩ := okWide_slice Tryd.underlying23 hv
  obtain ⟨fuel, hf⟩ := h
  rcases open_slice Tryd.underlying23 hf with ⟨hcs, _⟩ | ⟨x, l, c, m, n, D, Pl, hcs, _, hl, hm, hmm, _, hel⟩
  · simp [Value.cells] at hcs
    obtain ⟨rfl, rfl, rfl⟩ := hcs
    exact ⟨none, 0, 0, 0, [], rfl, rfl, by simp [maxLen], Nat.le_refl _, fun c hc => (by cases hc), Sl.nil_ _ _ _⟩
  · simp [Value.cells] at hcs
    obtain ⟨rfl, rfl, rfl⟩ := hcs
    have hlm : len ≤ m := by rw [hmm]; split <;> omega
    rw [bcell_cells] at hel
    obtain ⟨xs, hxl, hxs⟩ := clist_of (n := len) (P := fun i (y : Int × Nat) => ((-2147483648 ≤ y.1 ∧ y.1 ≤ 2147483647) ∧ y.2 < 4294967296) ∧ W.cell? (x.add (i * 2)) = some (.int .i32 y.1) ∧ W.cell? (x.add (i * 2 + 1)) = some (.int .u32 ((y.2 : Nat) : Int))) (fun i hi => by
      obtain ⟨cs', hc, ht⟩ := hel i (by omega)
      obtain ⟨_, hcl, hat⟩ := World.cells?_some hc
      obtain ⟨y, hy, hyin⟩ := trod_cell hcl ht
      have a0 := hat 0 (by omega)
      have a1 := hat 1 (by omega)
      rw [Go.Deep.add_add, hy] at a0 a1
      exact ⟨y, hyin, a0, a1⟩)
    have hok : okC xs := fun y hy => by
      obtain ⟨i, hi, rfl⟩ := List.getElem_of_mem hy
      exact (hxs i hi).1
    by_cases h0 : len = 0
    · have hx0 : xs = [] := List.eq_nil_of_length_eq_zero (by omega)
      subst hx0
      exact ⟨_, _, _, 0, [], rfl, hxl, by omega, hl, hok, Sl.nil_ _ _ _⟩
    · obtain ⟨bb, off, spot⟩ := x
      have hc0 := (hxs 0 (by omega)).2.1
      have hspot : spot = none := by
        simpa [Addr.add] using World.cell?_spot hc0
      subst hspot
      refine ⟨_, _, _, bb, xs, rfl, hxl, by omega, hl, hok, fun _ => ⟨off, rfl, fun j u hu => ?_⟩⟩
      have hj := (List.getElem?_eq_some_iff.1 hu).1
      rw [cv_length] at hj
      have h1 := (hxs (j / 2) (by omega)).2
      rw [Addr.add_lit, Addr.add_lit] at h1
      rcases Nat.mod_two_eq_zero_or_one j with he | he
      · have e : j / 2 * 2 = j := by omega
        have h2 := cv_val (L := xs) (i := j / 2) (by omega)
        rw [e] at h1 h2
        rw [h1.1, ← h2]
        exact hu
      · have e : j / 2 * 2 + 1 = j := by omega
        have h2 := cv_lab (L := xs) (i := j / 2) (by omega)
        rw [e] at h1 h2
        rw [h1.2, ← h2]
        exact hu
set_option maxRecDepth 100000 in
/-- A cell by value. -/
theorem open_cell {H : Type} {enc : TypeId × Value → H} {W : World} {base b0 : Nat} {spare : Nat → Bool} {held : Bool} {r : Reach} {v : Value} {d : DataW H} {p : List MemPlace} (hv : Value.okWide Tryd.prog W r base 38 v) (h : DataW.Trod enc Tryd.prog W b0 spare held 38 v d p) :
    ∃ (x : Int) (y : Nat), v = .agg #[.int .i32 x, .int .u32 (y : Int)] ∧ ((-2147483648 ≤ x ∧ x ≤ 2147483647) ∧ y < 4294967296) := by
  obtain ⟨f0, f1, hu, _, _, _⟩ := bcell_under
  obtain ⟨cs, rfl, hsz⟩ := okWide_struct hu hv
  obtain ⟨fuel, hf⟩ := h
  obtain ⟨y, hy, hyin⟩ := trod_cell (by simpa [Value.cells] using hsz.trans bcell_cells) hf
  refine ⟨y.1, y.2, ?_, hyin⟩
  congr 1
  apply Array.ext'
  simpa [Value.cells] using hy
theorem dice_cells : Tryd.prog.cellsOf 27 = 1 := by kernel_rfl
theorem dice_under : ∃ f0 : Field, Tryd.prog.underlying 27 = some (.struct #[f0]) ∧ oneCellFields Tryd.prog #[f0] = true ∧ f0.type = 25 :=
  ⟨_, Tryd.underlying27, by kernel_rfl, rfl⟩
set_option maxRecDepth 100000 in
theorem trod_dice {H : Type} {enc : TypeId × Value → H} {W : World} {b0 fuel : Nat} {spare : Nat → Bool} {held : Bool} {cs : List Value} {x : DataW H × List MemPlace} (hlen : cs.length = 1) (ht : DataW.trod enc Tryd.prog W b0 spare held fuel 27 cs = some x) :
    ∃ s : Nat, cs = [.int .u64 (s : Int)] ∧ s < 18446744073709551616 := by
  obtain ⟨f0, hu, hone, h0⟩ := dice_under
  obtain ⟨ys, n', _, _, _, hyl, hf⟩ := DataW.trod_struct hu ht
  match cs, hlen with
  | [v0], _ =>
    match ys, hyl with
    | [y0], _ =>
      obtain ⟨o0, k0⟩ := hone_of hone 0 f0 rfl
      have g0 := hf 0 f0 rfl
      rw [o0, k0, h0] at g0
      simp only [List.drop_zero, List.take_succ_cons, List.take_zero, List.getElem?_cons_zero] at g0
      obtain ⟨a0, e0, _, w0⟩ := DataW.trod_int Tryd.underlying25 g0
      injection e0 with e0
      have c0 := bounds_u64 w0
      refine ⟨a0.toNat, ?_, by omega⟩
      rw [e0, Int.toNat_of_nonneg c0.1]
set_option maxRecDepth 100000 in
/-- Dice by value. -/
theorem open_dice {H : Type} {enc : TypeId × Value → H} {W : World} {base b0 : Nat} {spare : Nat → Bool} {held : Bool} {r : Reach} {v : Value} {d : DataW H} {p : List MemPlace} (hv : Value.okWide Tryd.prog W r base 27 v) (h : DataW.Trod enc Tryd.prog W b0 spare held 27 v d p) :
    ∃ s : Nat, v = .agg #[.int .u64 (s : Int)] ∧ s < 18446744073709551616 := by
  obtain ⟨f0, hu, _, _⟩ := dice_under
  obtain ⟨cs, rfl, hsz⟩ := okWide_struct hu hv
  obtain ⟨fuel, hf⟩ := h
  obtain ⟨s, hy, hyin⟩ := trod_dice (by simpa [Value.cells] using hsz.trans dice_cells) hf
  refine ⟨s, ?_, hyin⟩
  congr 1
  apply Array.ext'
  simpa [Value.cells] using hy
end Go.Proofs.YtdijgidlachnjaaDoor
/- How a list of int32 that came in reads, in the words of this seat's walks. No condition. -/
namespace Go.Proofs.YtdijgidlachnjaaDoor
open Go.ChangeShapes Go.WideShapes Go.ChangeAt Go.RowKit Go.Deep

theorem ints_is {w : World} {x : Addr} {len : Nat} {zs : List Int} (hz : len ≤ zs.length) (hc : ∀ i, i < zs.length → w.cell? (x.add i) = some (.int .i32 (zs.getD i 0))) :
    Is w x.block (some x) (zs.take len) := by
  refine fun hne => ?_
  have h0 : 0 < zs.length := by
    rcases Nat.eq_zero_or_pos len with h | h
    · subst h; simp at hne
    · omega
  obtain ⟨bb, off, spot⟩ := x
  have hspot : spot = none := by simpa [Addr.add] using World.cell?_spot (hc 0 h0)
  subst hspot
  refine ⟨off, rfl, fun j u hu => ?_⟩
  have hj : j < len := by
    have := (List.getElem?_eq_some_iff.1 hu).1
    simp [iv] at this
    omega
  have hjz : j < zs.length := by omega
  have h1 := hc j hjz
  rw [Addr.add_lit] at h1
  rw [h1]
  have hm : zs.getD j 0 = zs[j] := by simp [List.getD, hjz]
  have h2 : (iv (zs.take len))[j]? = some (.int .i32 zs[j]) := by
    simp [iv, hj, hjz]
  rw [h2] at hu
  injection hu with hu
  rw [← hu, hm]
set_option maxRecDepth 100000 in
theorem open_i32s {H : Type} {enc : TypeId × Value → H} {W : World} {base b0 : Nat} {spare : Nat → Bool} {held : Bool} {r : Reach} {v : Value} {d : DataW H} {p : List MemPlace} (hv : Value.okWide Tryd.prog W r base 24 v) (h : DataW.Trod enc Tryd.prog W b0 spare held 24 v d p) :
    ∃ A n c b l, v = .slice A n c ∧ l.length = n ∧ n ≤ maxLen ∧ n ≤ c ∧ (∀ x ∈ l, -2147483648 ≤ x ∧ x ≤ 2147483647) ∧ Is W b A l := by
  obtain ⟨a, len, cap, rfl⟩ := okWide_slice Tryd.underlying24 hv
  obtain ⟨fuel, hf⟩ := h
  rcases open_ints Tryd.underlying24 Tryd.underlying21 (by kernel_rfl) hf with ⟨hcs, _⟩ | ⟨x, l, c, zs, hcs, _, hl, hm, hz, _, hcell, hwf⟩
  · simp [Value.cells] at hcs
    obtain ⟨rfl, rfl, rfl⟩ := hcs
    exact ⟨none, 0, 0, 0, [], rfl, rfl, by simp [maxLen], Nat.le_refl _, (fun _ h => by cases h), Sl.nil_ _ _ _⟩
  · simp [Value.cells] at hcs
    obtain ⟨rfl, rfl, rfl⟩ := hcs
    have hlz : len ≤ zs.length := by rw [hz]; split <;> omega
    exact ⟨_, _, _, x.block, zs.take len, rfl, by rw [List.length_take]; omega, by omega, hl, fun y hy => bounds_i32 (hwf y (List.mem_of_mem_take hy)), ints_is hlz hcell⟩
end Go.Proofs.YtdijgidlachnjaaDoor
